import Derived.Test.YtfmmllpjgkgeaaaGreatDoorRows
import Derived.Deep.Slices
import Derived.ChangeSame
import Derived.LaidSub
import Derived.Shelf.Vars
import Derived.MakeChecks
import Derived.FnData
import Derived.Test.YtfmmllpjgkgeaaaGreatDoorPart43
set_option linter.unusedVariables false
set_option linter.unusedSimpArgs false
set_option maxHeartbeats 16000000
set_option maxRecDepth 100000
namespace Go.Proofs.YtfmmllpjgkgeaaaGreatDoor
open Go.ChangeShapes Go.WideShapes Go.Deep

theorem kcellsAct:Tryz.prog.cellsOf 35=5:=by kernel_rfl
theorem kcellsInt:Tryz.prog.cellsOf 3=1:=by kernel_rfl
theorem kwf_i64 {n:Int} (h:(Lit.int .i64 n).wf=true):i64B n:=by
 unfold Lit.wf at h
 simp only[Bool.and_eq_true,decide_eq_true_eq] at h
 exact h

section
variable {H:Type} {enc:TypeId × Value->H} {w:World} {base:Nat} {spare:Nat->Bool} {held:Bool}

theorem open_act {fuel:Nat} {cs:List Value} {x:DataW H × List MemPlace} (h:DataW.trod enc Tryz.prog w base spare held fuel 35 cs=some x) :
  ∃ o:ActD,cs=[.int .i64 o.kd,.int .i64 o.i,.int .i64 o.j,.int .i64 o.k,.int .i64 o.v]/\o.ok:=by
 obtain ⟨xs,k,hk,hxy,hlen,hxl,hf⟩:=DataW.trod_struct Tryz.underlying35 h
 rw[kcellsAct] at hlen
 match xs,hxl,cs,hlen with
 | [y0,y1,y2,y3,y4],_,[v0,v1,v2,v3,v4],_ =>
  have g0:=hf 0 _ rfl
  have g1:=hf 1 _ rfl
  have g2:=hf 2 _ rfl
  have g3:=hf 3 _ rfl
  have g4:=hf 4 _ rfl
  simp[kcellsInt] at g0 g1 g2 g3 g4
  obtain ⟨n0,e0,rfl,q0⟩:=DataW.trod_int Tryz.underlying3 g0
  obtain ⟨n1,e1,rfl,q1⟩:=DataW.trod_int Tryz.underlying3 g1
  obtain ⟨n2,e2,rfl,q2⟩:=DataW.trod_int Tryz.underlying3 g2
  obtain ⟨n3,e3,rfl,q3⟩:=DataW.trod_int Tryz.underlying3 g3
  obtain ⟨n4,e4,rfl,q4⟩:=DataW.trod_int Tryz.underlying3 g4
  cases e0;cases e1;cases e2;cases e3;cases e4
  exact ⟨⟨n0,n1,n2,n3,n4⟩,rfl,kwf_i64 q0,kwf_i64 q1,kwf_i64 q2,kwf_i64 q3,kwf_i64 q4⟩

theorem open_acts {fuel:Nat} {v:Value} {x:DataW H × List MemPlace} (h:DataW.trod enc Tryz.prog w base spare held fuel 25 [v]=some x):∃ l:List ActD,ActsV w v l:=by
 rcases open_slice Tryz.underlying25 h with ⟨h0,rfl⟩ | ⟨a,len,cap,m,n,D,Pl,hcs,hb,hl,hm,hmm,rfl,hx⟩
 ·cases h0
  exact ⟨[],⟨_,_,rfl,fun h=>by simp at h⟩,fun o ho=>absurd ho (by simp)⟩
 ·cases hcs
  have hlm:len<=m:=by rw[hmm];split <;> omega
  have each:∀ i,i<m->∃ o:ActD,(∃ cs',w.cells? base (a.add (i*5)) 5=some cs'/\cs'=[.int .i64 o.kd,.int .i64 o.i,.int .i64 o.j,.int .i64 o.k,.int .i64 o.v])/\o.ok:=by
   intro i hi
   obtain ⟨cs',h1,h2⟩:=hx i hi
   rw[kcellsAct] at h1
   obtain ⟨o,e1,q⟩:=open_act h2
   exact ⟨o,⟨cs',h1,e1⟩,q⟩
  haveI:Inhabited ActD:=⟨⟨0,0,0,0,0⟩⟩
  obtain ⟨q,hq⟩:=choose_lt each
  have hcell:∀ i,i<len->∀ j (hj:j<5),w.cell? (a.add (i*5+j))=some ([Value.int .i64 (q i).kd,.int .i64 (q i).i,.int .i64 (q i).j,.int .i64 (q i).k,.int .i64 (q i).v][j]'hj):=by
   intro i hi j hj
   obtain ⟨⟨cs',h1,e1⟩,_⟩:=hq i (by omega)
   subst e1
   obtain ⟨_,_,hcell⟩:=World.cells?_some h1
   have:=hcell j (by simpa using hj)
   rw[add_add] at this
   rw[this]
   exact List.getElem?_eq_getElem _
  obtain ⟨ab,ao,ap⟩:=a
  by_cases h0:len=0
  ·subst h0
   exact ⟨[],⟨_,_,rfl,fun h=>by simp at h⟩,fun o ho=>absurd ho (by simp)⟩
  ·have hs0:=World.cell?_spot (hcell 0 (by omega) 0 (by omega))
   have hspot:ap=none:=by simpa[Addr.add] using hs0
   subst hspot
   have hll:((List.range len).map q).length=len:=by simp
   have hgl:∀ j (h:j<((List.range len).map q).length),((List.range len).map q)[j]=q j:=fun j h=>by simp
   refine ⟨(List.range len).map q,⟨some ⟨ab,ao,none⟩,cap,by rw[hll],fun _=>⟨ab,ao,rfl,by rw[hll];exact hl, ?_⟩⟩,fun o ho=>?_⟩
   ·have hc:∀ i,i<len->∀ j (hj:j<5),w.cell? ⟨ab,ao+i*5+j,none⟩=some ([Value.int .i64 (q i).kd,.int .i64 (q i).i,.int .i64 (q i).j,.int .i64 (q i).k,.int .i64 (q i).v][j]'hj):=fun i hi j hj=>by
     have:=hcell i hi j hj
     have e:(⟨ab,ao,none⟩:Addr).add (i*5+j)=⟨ab,ao+(i*5+j),none⟩:=by simp[Addr.add]
     rw[show (ao+i*5+j)=ao+(i*5+j) by omega,<- e]
     exact this
    refine ⟨?_,fun j hj=>?_,fun j hj=>?_,fun j hj=>?_,fun j hj=>?_,fun j hj=>?_⟩
    ·exact World.block_lt_of_cell? w ⟨ab,_,none⟩ (hc 0 (by omega) 0 (by omega))
    ·rw[hgl j hj];exact hc j (by rw[hll] at hj;exact hj) 0 (by omega)
    ·rw[hgl j hj];exact hc j (by rw[hll] at hj;exact hj) 1 (by omega)
    ·rw[hgl j hj];exact hc j (by rw[hll] at hj;exact hj) 2 (by omega)
    ·rw[hgl j hj];exact hc j (by rw[hll] at hj;exact hj) 3 (by omega)
    ·rw[hgl j hj];exact hc j (by rw[hll] at hj;exact hj) 4 (by omega)
   ·obtain ⟨i,hi,rfl⟩:=List.mem_map.1 ho
    have hi':=List.mem_range.1 hi
    exact (hq i (by omega)).2

end

theorem kg1:Tryz.prog.globalNamed "strconv.ErrSyntax" = some 1:=by kernel_rfl
theorem kg2:Tryz.prog.globalNamed "strconv.ErrRange" = some 2:=by kernel_rfl
theorem kg3:Tryz.prog.globalNamed "internal/strconv.uint64pow10" = some 3:=by kernel_rfl
theorem kglob_len {W:World} (hS:W.ShapedOpen Tryz.prog):∃ m,W.cell? ⟨0,0,none⟩=some (.int .i64 m) :=
 cell_of_shapedOpen_int (zero:=#[.int .i64 0]) (t:=3) hS (of_decide_eq_true (by kernel_rfl)) (by kernel_rfl) rfl (by kernel_rfl) (by kernel_rfl) Tryz.underlying3
theorem klaid_pow {W:World} (hL:laidMetH Tryz.prog Rows.convergedRow.laid W):laidMetH Tryz.prog [("internal/strconv.uint64pow10",Lib.tabData .u64 Lib.pow10Tab)] W:=by
 have hp:=laidMetH.filter (fun x=>x.1 == "internal/strconv.uint64pow10") hL
 have e1:(Rows.convergedRow.laid.filter fun x=>x.1 == "internal/strconv.uint64pow10")=[("internal/strconv.uint64pow10",Lib.tabData .u64 Lib.pow10Tab)]:=by rfl
 rw[e1] at hp
 exact hp
theorem kopen_itf {H:Type} {enc:TypeId × Value->H} {P:Program} {w:World} {base:Nat} {sp:Nat->Bool} {held:Bool} {fuel:Nat} {t:TypeId} {ms:Array (String × TypeId)} {cs:List Value} {x:DataW H × List MemPlace}
  (ht:P.underlying t=some (.interface ms)) (h:DataW.trod enc P w base sp held fuel t cs=some x):∃ v,cs=[v]/\(v=.nilIface\/∃ u y,v=.iface u y):=by
 cases fuel with
 | zero=>simp[DataW.trod] at h
 | succ n =>
  cases cs with
  | nil=>simp[DataW.trod,ht] at h
  | cons c r =>
   cases r with
   | nil=>cases c <;> simp[DataW.trod,ht] at h ⊢
   | cons _ _=>simp[DataW.trod,ht] at h

theorem klaid_itf {W:World} {name:String} {d:DataW Unit} {g:Nat} {t:TypeId} {ms:Array (String × TypeId)} (hg:Tryz.prog.globalNamed name=some g) (hty:(Tryz.prog.globals[g]?).map (·.type)=some t) (ht:Tryz.prog.underlying t=some (.interface ms))
  (h:laidMet Tryz.prog [(name,d)] W):∃ ev,W.cell? ⟨g,0,none⟩=some ev/\(ev=.nilIface\/∃ te pe,ev=.iface te pe):=by
 obtain ⟨ps,⟨g',t',cs,fuel,p,q,hg',ht',hvar,hd,_,_⟩,_⟩:=h
 obtain rfl:=Option.some.inj (hg.symm.trans hg')
 obtain rfl:=Option.some.inj (hty.symm.trans ht')
 obtain ⟨v,e,hv⟩:=kopen_itf ht hd
 refine ⟨v, ?_,hv⟩
 rw[World.var?_cell hg hvar 0,<- Array.getElem?_toList,e]
 rfl

theorem kty1:(Tryz.prog.globals[1]?).map (·.type)=some 260:=by kernel_rfl
theorem kty2:(Tryz.prog.globals[2]?).map (·.type)=some 260:=by kernel_rfl
theorem kty3:(Tryz.prog.globals[3]?).map (·.type)=some 348:=by kernel_rfl
theorem kcellsTab:Tryz.prog.cellsOf 348=20:=by kernel_rfl
theorem kcellsU64:Tryz.prog.cellsOf 321=1:=by kernel_rfl

theorem klaid_syn {W:World} (hL:laidMetH Tryz.prog Rows.convergedRow.laid W):∃ ev,W.cell? ⟨1,0,none⟩=some ev/\(ev=.nilIface\/∃ te pe,ev=.iface te pe):=by
 have hp:=laidMetH.filter (fun x=>x.1 == "strconv.ErrSyntax") hL
 obtain ⟨d,e1,e2⟩:∃ d,(Rows.convergedRow.laid.filter fun x=>x.1 == "strconv.ErrSyntax")=[("strconv.ErrSyntax",d)]/\d.handleName?.isNone=true:=⟨_,rfl,rfl⟩
 rw[e1,MakeChecks.laidMetH_plain _ _ _ (by simp[e2])] at hp
 exact klaid_itf kg1 kty1 Tryz.underlying260 hp
theorem klaid_rng {W:World} (hL:laidMetH Tryz.prog Rows.convergedRow.laid W):∃ ev,W.cell? ⟨2,0,none⟩=some ev/\(ev=.nilIface\/∃ te pe,ev=.iface te pe):=by
 have hp:=laidMetH.filter (fun x=>x.1 == "strconv.ErrRange") hL
 obtain ⟨d,e1,e2⟩:∃ d,(Rows.convergedRow.laid.filter fun x=>x.1 == "strconv.ErrRange")=[("strconv.ErrRange",d)]/\d.handleName?.isNone=true:=⟨_,rfl,rfl⟩
 rw[e1,MakeChecks.laidMetH_plain _ _ _ (by simp[e2])] at hp
 exact klaid_itf kg2 kty2 Tryz.underlying260 hp
theorem kglob_tab {W:World} (hL:laidMetH Tryz.prog Rows.convergedRow.laid W):Lib.TabIs Tryz.prog W "internal/strconv.uint64pow10" .u64 Lib.pow10Tab:=by
 have hp:=klaid_pow hL
 rw[MakeChecks.laidMetH_plain _ _ _ (by kernel_rfl)] at hp
 exact Lib.tabIs_of_head kg3 kty3 Tryz.underlying348 Tryz.underlying321 kcellsU64 kcellsTab hp

theorem kglob_of {W:World} (hS:W.ShapedOpen Tryz.prog) (hL:laidMetH Tryz.prog Rows.convergedRow.laid W):Glob W :=
 ⟨kglob_len hS,klaid_syn hL,klaid_rng hL,kglob_tab hL,World.block_lt_of_cell? W ⟨3,0,none⟩ ((kglob_tab hL).cell kg3 0 (by decide))⟩
end Go.Proofs.YtfmmllpjgkgeaaaGreatDoor

