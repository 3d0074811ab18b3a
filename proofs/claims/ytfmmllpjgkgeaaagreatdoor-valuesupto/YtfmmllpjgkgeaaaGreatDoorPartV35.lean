import Derived.Test.YtfmmllpjgkgeaaaGreatDoorRows
import Derived.Deep.Slices
import Derived.ChangeSame
import Derived.Test.YtfmmllpjgkgeaaaGreatDoorPartV34
set_option linter.unusedVariables false
set_option linter.unusedSimpArgs false
set_option maxHeartbeats 16000000
set_option maxRecDepth 100000
namespace Go.Proofs.YtfmmllpjgkgeaaaGreatDoor

theorem bulk_pos {H:Type} (d:DataW H):0<Rows.uptoBulk d:=by
 unfold Rows.uptoBulk
 split <;> omega
theorem bulk_all {H:Type} (l:List (DataW H)):l.length<=Rows.uptoBulkAll l/\∀ d∈l,Rows.uptoBulk d<=Rows.uptoBulkAll l:=by
 induction l with
 | nil=>exact ⟨Nat.zero_le _,fun d h=>absurd h List.not_mem_nil⟩
 | cons a r ih =>
  have hp:=bulk_pos a
  have e:Rows.uptoBulkAll (a :: r)=Rows.uptoBulk a+Rows.uptoBulkAll r:=by rw[Rows.uptoBulkAll]
  rw[e,List.length_cons]
  refine ⟨by have:=ih.1;omega,fun d h=>?_⟩
  rcases List.mem_cons.1 h with rfl | h
  ·omega
  ·have:=ih.2 d h;omega
end Go.Proofs.YtfmmllpjgkgeaaaGreatDoor
namespace Go.Proofs.YtfmmllpjgkgeaaaGreatDoor
open Go.ChangeShapes Go.WideShapes Go.Deep

theorem cellsStep:Tryz.prog.cellsOf 65=5:=by kernel_rfl
theorem cellsInt:Tryz.prog.cellsOf 3=1:=by kernel_rfl
theorem cellsStr:Tryz.prog.cellsOf 9=1:=by kernel_rfl

def stepDat {H:Type} (o:StepD):DataW H:=.agg [.lit (.int .i64 o.kind),.lit (.int .i64 o.a),.lit (.int .i64 o.n),.lit (.int .i64 o.m),.lit (.string o.s.data.toList)]
theorem wf_i64 {n:Int} (h:(Lit.int .i64 n).wf=true):-9223372036854775808<=n/\n<=9223372036854775807:=by
 unfold Lit.wf at h
 simp only[Bool.and_eq_true,decide_eq_true_eq] at h
 exact h
section
variable {H:Type} {enc:TypeId × Value->H} {w:World} {base:Nat} {spare:Nat->Bool} {held:Bool}

theorem open_step {fuel:Nat} {cs:List Value} {x:DataW H × List MemPlace} (h:DataW.trod enc Tryz.prog w base spare held fuel 65 cs=some x) :
  ∃ o:StepD,cs=[.int .i64 o.kind,.int .i64 o.a,.int .i64 o.n,.int .i64 o.m,.string o.s]/\x=(stepDat o,[]) /\
   (Lit.int .i64 o.kind).wf=true/\(Lit.int .i64 o.a).wf=true/\(Lit.int .i64 o.n).wf=true/\(Lit.int .i64 o.m).wf=true/\o.s.size<=maxLen:=by
 obtain ⟨xs,k,hk,hxy,hlen,hxl,hf⟩:=DataW.trod_struct Tryz.underlying65 h
 rw[cellsStep] at hlen
 match xs,hxl,cs,hlen with
 | [y0,y1,y2,y3,y4],_,[v0,v1,v2,v3,v4],_ =>
  have g0:=hf 0 _ rfl
  have g1:=hf 1 _ rfl
  have g2:=hf 2 _ rfl
  have g3:=hf 3 _ rfl
  have g4:=hf 4 _ rfl
  simp[cellsInt,cellsStr] at g0 g1 g2 g3 g4
  obtain ⟨n0,e0,rfl,q0⟩:=DataW.trod_int Tryz.underlying3 g0
  obtain ⟨n1,e1,rfl,q1⟩:=DataW.trod_int Tryz.underlying3 g1
  obtain ⟨n2,e2,rfl,q2⟩:=DataW.trod_int Tryz.underlying3 g2
  obtain ⟨n3,e3,rfl,q3⟩:=DataW.trod_int Tryz.underlying3 g3
  obtain ⟨s,e4,rfl,q4⟩:=DataW.trod_string Tryz.underlying9 g4
  cases e0;cases e1;cases e2;cases e3;cases e4
  exact ⟨⟨n0,n1,n2,n3,s⟩,rfl,by rw[hxy];rfl,q0,q1,q2,q3,q4⟩

theorem open_script {fuel:Nat} {v:Value} {x:DataW H × List MemPlace} (h:DataW.trod enc Tryz.prog w base spare held fuel 22 [v]=some x) :
  ∃ l:List StepD,ScriptV w v l/\∀ o∈l,(Rows.uptoBulk x.1<=1048576->o.ok/\l.length<=1048576):=by
 rcases open_slice Tryz.underlying22 h with ⟨h0,rfl⟩ | ⟨a,len,cap,m,n,D,Pl,hcs,hb,hl,hm,hmm,rfl,hx⟩
 ·cases h0
  exact ⟨[],Or.inl ⟨_,_,rfl,rfl⟩,fun o ho=>absurd ho (by simp)⟩
 ·cases hcs
  have hlm:len<=m:=by rw[hmm];split <;> omega
  have each:∀ i,i<m->∃ o:StepD,(∃ cs',w.cells? base (a.add (i*5)) 5=some cs'/\cs'=[.int .i64 o.kind,.int .i64 o.a,.int .i64 o.n,.int .i64 o.m,.string o.s])/\D i=stepDat o /\
    (Lit.int .i64 o.kind).wf=true/\(Lit.int .i64 o.a).wf=true/\(Lit.int .i64 o.n).wf=true/\(Lit.int .i64 o.m).wf=true:=by
   intro i hi
   obtain ⟨cs',h1,h2⟩:=hx i hi
   rw[cellsStep] at h1
   obtain ⟨o,e1,e2,q0,q1,q2,q3,_⟩:=open_step h2
   exact ⟨o,⟨cs',h1,e1⟩,congrArg (·.1) e2,q0,q1,q2,q3⟩
  haveI:Inhabited StepD:=⟨⟨0,0,0,0,⟨#[]⟩⟩⟩
  obtain ⟨q,hq⟩:=choose_lt each
  have hcell:∀ i,i<len->∀ j (hj:j<5),w.cell? (a.add (i*5+j))=some ([Value.int .i64 (q i).kind,.int .i64 (q i).a,.int .i64 (q i).n,.int .i64 (q i).m,.string (q i).s][j]'hj):=by
   intro i hi j hj
   obtain ⟨⟨cs',h1,e1⟩,_⟩:=hq i (by omega)
   subst e1
   obtain ⟨_,_,hcell⟩:=World.cells?_some h1
   have:=hcell j (by simpa using hj)
   rw[add_add] at this
   rw[this]
   exact List.getElem?_eq_getElem _
  obtain ⟨ab,ao,ap⟩:=a
  by_cases h0:len=0
  ·subst h0
   exact ⟨[],Or.inl ⟨_,_,rfl,rfl⟩,fun o ho=>absurd ho (by simp)⟩
  ·have hs0:=World.cell?_spot (hcell 0 (by omega) 0 (by omega))
   have hspot:ap=none:=by simpa[Addr.add] using hs0
   subst hspot
   have hll:((List.range len).map q).length=len:=by simp
   have hgl:∀ j (h:j<((List.range len).map q).length),((List.range len).map q)[j]=q j:=fun j h=>by simp
   refine ⟨(List.range len).map q,Or.inr ⟨ab,ao,cap,by rw[hll],by rw[hll];exact hl, ?_⟩,fun o ho hbk=>?_⟩
   ·have hc:∀ i,i<len->∀ j (hj:j<5),w.cell? ⟨ab,ao+i*5+j,none⟩=some ([Value.int .i64 (q i).kind,.int .i64 (q i).a,.int .i64 (q i).n,.int .i64 (q i).m,.string (q i).s][j]'hj):=fun i hi j hj=>by
     have:=hcell i hi j hj
     have e:(⟨ab,ao,none⟩:Addr).add (i*5+j)=⟨ab,ao+(i*5+j),none⟩:=by simp[Addr.add]
     rw[show (ao+i*5+j)=ao+(i*5+j) by omega,<- e]
     exact this
    refine ⟨?_,fun j hj=>?_,fun j hj=>?_,fun j hj=>?_,fun j hj=>?_,fun j hj=>?_⟩
    ·exact World.block_lt_of_cell? w ⟨ab,_,none⟩ (hc 0 (by omega) 0 (by omega))
    ·rw[hgl j hj];exact hc j (by rw[hll] at hj;exact hj) 0 (by omega)
    ·rw[hgl j hj];exact hc j (by rw[hll] at hj;exact hj) 1 (by omega)
    ·rw[hgl j hj];exact hc j (by rw[hll] at hj;exact hj) 2 (by omega)
    ·rw[hgl j hj];exact hc j (by rw[hll] at hj;exact hj) 3 (by omega)
    ·rw[hgl j hj];exact hc j (by rw[hll] at hj;exact hj) 4 (by omega)
   ·obtain ⟨i,hi,rfl⟩:=List.mem_map.1 ho
    have hi':=List.mem_range.1 hi
    obtain ⟨_,hD,q0,q1,q2,q3⟩:=hq i (by omega)
    have hbk2:Rows.uptoBulk (DataW.slice ((List.range len).map D) ((List.range (m-len)).map fun j=>D (len+j)))<=1048576:=hbk
    rw[Rows.uptoBulk] at hbk2
    have hA:=bulk_all ((List.range len).map D)
    have h1:=hA.2 (D i) (List.mem_map.2 ⟨i,hi,rfl⟩)
    rw[hD] at h1
    have h2:=(bulk_all [(.lit (.int .i64 (q i).kind):DataW H),.lit (.int .i64 (q i).a),.lit (.int .i64 (q i).n),.lit (.int .i64 (q i).m),.lit (.string (q i).s.data.toList)]).2 (.lit (.string (q i).s.data.toList)) (by simp)
    have h3:Rows.uptoBulk (stepDat (H:=H) (q i))=Rows.uptoBulkAll [(.lit (.int .i64 (q i).kind):DataW H),.lit (.int .i64 (q i).a),.lit (.int .i64 (q i).n),.lit (.int .i64 (q i).m),.lit (.string (q i).s.data.toList)]+1:=by unfold stepDat;rw[Rows.uptoBulk]
    have h4:Rows.uptoBulk (.lit (.string (q i).s.data.toList):DataW H)=(q i).s.data.toList.length+1:=by rw[Rows.uptoBulk]
    have h5:(q i).s.data.toList.length=(q i).s.size:=by rw[Array.length_toList];(first | done | rfl)
    have h6:=hA.1
    rw[List.length_map,List.length_range] at h6
    exact ⟨⟨wf_i64 q0,wf_i64 q1,wf_i64 q2,wf_i64 q3,by omega⟩,by rw[hll];omega⟩
end
end Go.Proofs.YtfmmllpjgkgeaaaGreatDoor

