import Derived.Deep.RegionLawGrows
import Derived.Laws.AppendOwnNone
import Derived.Laws.CopyOwn
import Derived.Lib.ParseIntB
import Derived.Deep.OwnRows
import Derived.Test.YtfmmllpjgkgeaaaGreatDoorPartV02
set_option linter.unusedVariables false
set_option linter.unusedSimpArgs false
set_option maxHeartbeats 16000000
set_option maxRecDepth 100000
namespace Go.Proofs.YtfmmllpjgkgeaaaGreatDoor
open Go.RowKit

abbrev zeroEv:Value:=.agg #[.string ⟨#[]⟩,.int .u8 0,.string ⟨#[]⟩,.int .i64 0,.slice none 0 0]
def ReadEnd (r:Nat ⊕ Thk.Ch) (e:Ending):Prop :=
 match r with
 | .inl k=>e=.returned (.tuple #[zeroEv,.int .i64 (k:Int)])
 | .inr c=>∃ p v,e=.returned (.tuple #[.agg #[.string p,.int .u8 (c.act.toNat:Int),.string v,.int .i64 c.n,.slice none 0 0],.int .i64 0])/\toL p=c.path/\toL v=c.val

structure Blk5 (b:Nat) (v0 v1 v2 v3 v4:Value) (w:World):Prop where
 c0:w.cell? ⟨b,0,none⟩=some v0
 c1:w.cell? ⟨b,1,none⟩=some v1
 c2:w.cell? ⟨b,2,none⟩=some v2
 c3:w.cell? ⟨b,3,none⟩=some v3
 c4:w.cell? ⟨b,4,none⟩=some v4
 f:∀ j,w.frozen? ⟨b,j,none⟩=false

theorem Blk5.below {b B:Nat} {v0 v1 v2 v3 v4:Value} {w w':World} (h:Blk5 b v0 v1 v2 v3 v4 w) (hb:Below B w w') (hB:b<B):Blk5 b v0 v1 v2 v3 v4 w' :=
 ⟨(hb.cell (p:=⟨b,0,none⟩) hB).trans h.c0,(hb.cell (p:=⟨b,1,none⟩) hB).trans h.c1,(hb.cell (p:=⟨b,2,none⟩) hB).trans h.c2,(hb.cell (p:=⟨b,3,none⟩) hB).trans h.c3,(hb.cell (p:=⟨b,4,none⟩) hB).trans h.c4,fun j=>(hb.frozen (p:=⟨b,j,none⟩) hB).trans (h.f j)⟩

theorem blk5 {w w1:World} {B:Nat} {v0 v1 v2 v3 v4:Value} {t:TypeId} (hb:Below B (w.alloc (.cells #[v0,v1,v2,v3,v4] t)) w1) (hB:w.heap.size<B):Blk5 w.heap.size v0 v1 v2 v3 v4 w1:=by
 have hc:∀ j,w1.cell? ⟨w.heap.size,j,none⟩=_:=fun j=>hb.cell (p:=⟨w.heap.size,j,none⟩) hB
 have hf:∀ j,w1.frozen? ⟨w.heap.size,j,none⟩=_:=fun j=>hb.frozen (p:=⟨w.heap.size,j,none⟩) hB
 refine ⟨?_, ?_, ?_, ?_, ?_,fun j=>?_⟩
 all_goals first | (rw[hc];simp;done) | (rw[hf];simp;done)

theorem below_set5 {B b:Nat} {w w1:World} (h:Below B w w1) (hb:B<=b) (v0 v1 v2 v3 v4:Value) :
  Below B w (((((w1.setCell ⟨b,0,none⟩ v0).setCell ⟨b,1,none⟩ v1).setCell ⟨b,2,none⟩ v2).setCell ⟨b,3,none⟩ v3).setCell ⟨b,4,none⟩ v4) :=
 ((((h.setCell hb _).setCell hb _).setCell hb _).setCell hb _).setCell hb _

theorem Read_any (s:ByteArray) (w:World) (hs:s.size<=1048576) :
  Calls Tryz.prog 178 #[.string s] w fun e w'=>ReadEnd (Thk.read (toL s)) e/\Below w.heap.size w w':=by
 go_enter Tryz.func178,Tryz.ntmps178
 go_wp2
 go_loop [4,5] (fun i _=>∃ k:Nat,k<=s.size/\i=.int .i64 k/\Hid (∀ j (h:j<(toL s).length),j<k->Thk.isAct (toL s)[j]=false)) (fun i _=>s.size-(intOf i).toNat)
 case atStart=>exact ⟨0,by omega,rfl,fun j _ b=>by omega⟩
 case round =>
  obtain ⟨k,hk,rfl,Hall⟩:=hrel
  by_cases hlt:k<s.size
  ·have hl:=toL_length s
   have hget:(toL s)[k]'(by omega)=s[k]:=toL_get s k hlt
   cases hact:Thk.isAct s[k]
   ·have Hn:Hid (∀ j (h:j<(toL s).length),j<k+1->Thk.isAct (toL s)[j]=false):=by
     intro j h b
     by_cases e:j=k
     ·subst e;rw[hget];exact hact
     ·exact Hall.out j h (by omega)
    have Ha:Hid (Thk.isAct s[k]=false):=hact
    clear hact Hall hget hl
    go_wp2_with (go_at_call 238;refine (action_any _ _).mono ?_;rintro e w' ⟨rfl,rfl⟩;rw[Ha.out])
    go_round
    case rel=>exact ⟨k+1,by omega,by go_num,Hn⟩
    case measure=>simp[intOf];omega
   ·have Hread:Hid (Thk.read (toL s)=Thk.readAt (toL s) k):=Thk.read_some _ k (by omega) Hall.out (by rw[hget];exact hact)
    have Ha:Hid (Thk.isAct s[k]=true):=hact
    have Hget:Hid ((toL s).getD k 0=s[k]):=by unfold Hid;rw[List.getD_eq_getElem?_getD,List.getElem?_eq_getElem (by omega),hget];(first | done | rfl)
    clear hact Hall hget hl
    go_wp2_with (go_at_call 238;refine (action_any _ _).mono ?_;rintro e w' ⟨rfl,rfl⟩;rw[Ha.out])
    refine (Path_any (s.extract 0 k) _ (by simp[ByteArray.size_extract];omega)).mono ?_
    rintro e w1 ⟨rfl,hb1⟩
    have Hex:Hid (toL (s.extract 0 k)=(toL s).take k):=by unfold Hid;rw[toL_extract];simp
    cases hp:Thk.path (toL (s.extract 0 k))
    ·have hfin:Hid (Thk.read (toL s)=.inl 4):=by
      rw[Hex.out] at hp;unfold Hid;rw[Hread.out];unfold Thk.readAt;rw[if_pos hp]
     have hB2:Below w.heap.size w w1:=((Below.refl _ _).alloc (Nat.le_refl _) _).trans (hb1.mono (by simp))
     obtain ⟨b0,b1,b2,b3,b4,hf⟩:=blk5 hb1 (by simp)
     clear hb1
     go_wp2
     refine bodyPost_ret (v:=(.tuple #[zeroEv,.int .i64 4])) (by simp[results,Tryz.results178,go_sem,b0,b1,b2,b3,b4]) rfl ⟨?_,below_set5 hB2 (Nat.le_refl _) _ _ _ _ _⟩
     rw[hfin.out];(first | done | rfl)
    ·have hB1:Below w.heap.size w w1:=((Below.refl _ _).alloc (Nat.le_refl _) _).trans (hb1.mono (by simp))
     have HE:Hid (Blk5 w.heap.size (.string ⟨#[]⟩) (.int .u8 0) (.string ⟨#[]⟩) (.int .i64 0) (.slice none 0 0) w1):=blk5 hb1 (by simp)
     have hsz:w.heap.size<w1.heap.size:=by have:=hb1.size;simp at this;omega
     clear hb1
     go_wp2
     go_region
     go_wp2_with fail
     have Hkind:Hid (∀ wx:World,Calls Tryz.prog 233 #[.string (s.extract 0 k)] wx fun e w'=>e=.returned (.int .u8 ((Thk.kindOf (toL (s.extract 0 k))).toNat:Int))/\Below wx.heap.size wx w'):=fun wx=>kind_any _ wx (by simp[ByteArray.size_extract];omega) hp
     have Hp:Hid (_):=hp
     have Hdr:Hid ((toL s).drop (k+1)=toL (s.extract (k+1) s.size)):=by unfold Hid;rw[toL_extract,<- toL_length s,List.take_length]
     clear hp
     go_cut [6] from 42 to 47 (fun ok wx=>ok=.bool (fitsB (Thk.kindOf (toL (s.extract 0 k))) s[k])/\Below w1.heap.size w1 wx/\Blk5 w1.heap.size (.string (s.extract 0 k)) (.int .u8 (s[k].toNat:Int)) (.string (s.extract (k+1) s.size)) (.int .i64 0) (.slice none 0 0) wx)
     case first =>
      go_region_with (first | (go_at_call 233;refine (Hkind.out _).mono ?_;rintro e w2 ⟨rfl,hb2⟩;have hb3:Below (w1.heap.size+1) (w1.alloc (.cells #[.string (s.extract 0 k),.int .u8 (s[k].toNat:Int),.string (s.extract (k+1) s.size),.int .i64 0,.slice none 0 0] 239)) w2:=Below.trans (by go_grown) (hb2.mono (by simp));obtain ⟨d0,d1,d2,d3,d4,df⟩:=blk5 hb3 (by omega)) | (go_at_call 239;refine (fits_any _ _ _).mono ?_;rintro e w3 ⟨rfl,rfl⟩))
      all_goals
       go_wp2_with fail
       go_meet
       exact ⟨rfl,((Below.refl _ _).alloc (Nat.le_refl _) _).trans (hb3.mono (by omega)),blk5 hb3 (by omega)⟩
     case rest =>
     obtain ⟨rfl,hb4,hev⟩:=hcut
     obtain ⟨b0,b1,b2,b3,b4,bf⟩:=HE.out.below hb4 hsz
     obtain ⟨d0,d1,d2,d3,d4,df⟩:=hev
     have hB2:Below w.heap.size w wc:=hB1.trans (hb4.mono (by omega))
     clear hb4 HE Hkind hB1
     cases hft:fitsB (Thk.kindOf (toL (s.extract 0 k))) s[k]
     ·have hfin:Hid (Thk.read (toL s)=.inl 6):=by
       unfold Hid;rw[Hread.out];unfold Thk.readAt;rw[if_neg (by rw[<- Hex.out,Hp.out];simp),if_pos (by rw[Hget.out,<- Hex.out];exact hft)]
      clear hft
      go_wp2
      refine bodyPost_ret (v:=(.tuple #[zeroEv,.int .i64 6])) (by simp[results,Tryz.results178,go_sem,b0,b1,b2,b3,b4]) rfl ⟨?_,below_set5 hB2 (Nat.le_refl _) _ _ _ _ _⟩
      rw[hfin.out];(first | done | rfl)
     ·have Hop:Hid (Thk.read (toL s)=Thk.operand (toL (s.extract 0 k)) s[k] (toL (s.extract (k+1) s.size))):=by
       unfold Hid;rw[Hread.out];unfold Thk.readAt;rw[if_neg (by rw[<- Hex.out,Hp.out];simp),if_neg (by rw[Hget.out,<- Hex.out];unfold fitsB at hft;unfold Thk.fits;rw[hft];simp),Hget.out,Hex.out,Hdr.out]
      clear hft Hread Hget Hex Hdr
      have hne:w.heap.size≠w1.heap.size:=by omega
      cases h43:((s[k].toNat:Int) == 43)
      ·cases h45:((s[k].toNat:Int) == 45)
       ·cases h61:((s[k].toNat:Int) == 61)
        ·cases h62:((s[k].toNat:Int) == 62)
         ·have hc3:¬(s[k].toNat=43\/s[k].toNat=45\/s[k].toNat=61)/\¬s[k].toNat=62:=by simp only[beq_eq_false_iff_ne] at *;omega
          cases hv:(s.extract (k+1) s.size).toList.isEmpty
          ·have hfin:Hid (Thk.read (toL s)=.inl 5):=by
            unfold Hid;rw[Hop.out];unfold Thk.operand;rw[if_neg hc3.1,if_neg hc3.2,if_neg (by rw[toList_eq] at hv;simp only[toL];intro h;rw[h] at hv;cases hv)]
           clear hc3 Hop
           go_wp2
           refine bodyPost_ret (v:=(.tuple #[zeroEv,.int .i64 5])) (by simp[results,Tryz.results178,go_sem,b0,b1,b2,b3,b4]) rfl ⟨?_,below_set5 hB2 (Nat.le_refl _) _ _ _ _ _⟩
           rw[hfin.out];(first | done | rfl)
          ·have hfin:Hid (Thk.read (toL s)=.inr ⟨toL (s.extract 0 k),s[k],toL (s.extract (k+1) s.size),0⟩):=by
            unfold Hid;rw[Hop.out];unfold Thk.operand;rw[if_neg hc3.1,if_neg hc3.2,if_pos (by rw[toList_eq] at hv;exact List.isEmpty_iff.1 hv)]
           clear hc3 Hop
           go_wp2
           refine bodyPost_ret (v:=(.tuple #[.agg #[.string (s.extract 0 k),.int .u8 (s[k].toNat:Int),.string (s.extract (k+1) s.size),.int .i64 0,.slice none 0 0],.int .i64 0])) (by simp[results,Tryz.results178,go_sem,b0,b1,b2,b3,b4]) rfl ⟨?_,below_set5 hB2 (Nat.le_refl _) _ _ _ _ _⟩
           rw[hfin.out];exact ⟨_,_,rfl,rfl,rfl⟩
         ·have hc3:s[k].toNat=62:=by simp only[beq_iff_eq] at h62;omega
          have Hop2:Hid (Thk.read (toL s)=match Thk.num (toL (s.extract (k+1) s.size)) with | some n=>.inr ⟨toL (s.extract 0 k),s[k],toL (s.extract (k+1) s.size),n⟩ | none=>.inl 5):=by
           unfold Hid;rw[Hop.out];unfold Thk.operand;rw[if_neg (by omega),if_pos hc3];(first | done | rfl)
          clear hc3 Hop
          go_wp2_with fail
          refine (number_any _ _ (by simp[ByteArray.size_extract];omega)).mono ?_
          rintro e w' ⟨⟨m,rfl,hm⟩,rfl⟩
          cases hn:Thk.num (toL (s.extract (k+1) s.size)) with
          | none =>
           have hfin:Hid (Thk.read (toL s)=.inl 5):=by unfold Hid;rw[Hop2.out,hn]
           clear hm hn Hop2
           go_wp2
           refine bodyPost_ret (v:=.tuple #[zeroEv,.int .i64 5]) (by simp[results,Tryz.results178,go_sem,b0,b1,b2,b3,b4,hne,hne.symm]) rfl ⟨?_,below_set5 (hB2.setCell (by show w.heap.size<=w1.heap.size;omega) _) (Nat.le_refl _) _ _ _ _ _⟩
           rw[hfin.out];(first | done | rfl)
          | some n =>
           have hfin:Hid (Thk.read (toL s)=.inr ⟨toL (s.extract 0 k),s[k],toL (s.extract (k+1) s.size),m⟩):=by unfold Hid;rw[Hop2.out,hn,hm n hn]
           clear hm hn Hop2
           go_wp2
           refine bodyPost_ret (v:=(.tuple #[.agg #[.string (s.extract 0 k),.int .u8 (s[k].toNat:Int),.string (s.extract (k+1) s.size),.int .i64 m,.slice none 0 0],.int .i64 0])) (by simp[results,Tryz.results178,go_sem,b0,b1,b2,b3,b4,hne,hne.symm]) rfl ⟨?_,below_set5 (hB2.setCell (by show w.heap.size<=w1.heap.size;omega) _) (Nat.le_refl _) _ _ _ _ _⟩
           rw[hfin.out];exact ⟨_,_,rfl,rfl,rfl⟩
        ·have hc3:s[k].toNat=43\/s[k].toNat=45\/s[k].toNat=61:=by simp only[beq_iff_eq,beq_eq_false_iff_ne] at *;omega
         cases hv:Thk.val (s.extract (k+1) s.size).data.toList
         ·have hfin:Hid (Thk.read (toL s)=.inl 5):=by
           unfold Hid;rw[Hop.out];unfold Thk.operand;rw[if_pos hc3,(show Thk.val (toL (s.extract (k+1) s.size))=_ from hv)];(first | done | rfl)
          have Hv:Hid (_):=hv
          clear hv hc3
          go_wp2_with (go_at_call 240;refine (value_any _ _ (by simp[ByteArray.size_extract];omega)).mono ?_;rintro e w' ⟨rfl,rfl⟩;rw[Hv.out])
          refine bodyPost_ret (v:=(.tuple #[zeroEv,.int .i64 5])) (by simp[results,Tryz.results178,go_sem,b0,b1,b2,b3,b4]) rfl ⟨?_,below_set5 hB2 (Nat.le_refl _) _ _ _ _ _⟩
          rw[hfin.out];(first | done | rfl)
         ·have hfin:Hid (Thk.read (toL s)=.inr ⟨toL (s.extract 0 k),s[k],toL (s.extract (k+1) s.size),0⟩):=by
           unfold Hid;rw[Hop.out];unfold Thk.operand;rw[if_pos hc3,(show Thk.val (toL (s.extract (k+1) s.size))=_ from hv)];(first | done | rfl)
          have Hv:Hid (_):=hv
          clear hv hc3
          go_wp2_with (go_at_call 240;refine (value_any _ _ (by simp[ByteArray.size_extract];omega)).mono ?_;rintro e w' ⟨rfl,rfl⟩;rw[Hv.out])
          refine bodyPost_ret (v:=(.tuple #[.agg #[.string (s.extract 0 k),.int .u8 (s[k].toNat:Int),.string (s.extract (k+1) s.size),.int .i64 0,.slice none 0 0],.int .i64 0])) (by simp[results,Tryz.results178,go_sem,b0,b1,b2,b3,b4]) rfl ⟨?_,below_set5 hB2 (Nat.le_refl _) _ _ _ _ _⟩
          rw[hfin.out];exact ⟨_,_,rfl,rfl,rfl⟩
       ·have hc3:s[k].toNat=43\/s[k].toNat=45\/s[k].toNat=61:=by simp only[beq_iff_eq,beq_eq_false_iff_ne] at *;omega
        cases hv:Thk.val (s.extract (k+1) s.size).data.toList
        ·have hfin:Hid (Thk.read (toL s)=.inl 5):=by
          unfold Hid;rw[Hop.out];unfold Thk.operand;rw[if_pos hc3,(show Thk.val (toL (s.extract (k+1) s.size))=_ from hv)];(first | done | rfl)
         have Hv:Hid (_):=hv
         clear hv hc3
         go_wp2_with (go_at_call 240;refine (value_any _ _ (by simp[ByteArray.size_extract];omega)).mono ?_;rintro e w' ⟨rfl,rfl⟩;rw[Hv.out])
         refine bodyPost_ret (v:=(.tuple #[zeroEv,.int .i64 5])) (by simp[results,Tryz.results178,go_sem,b0,b1,b2,b3,b4]) rfl ⟨?_,below_set5 hB2 (Nat.le_refl _) _ _ _ _ _⟩
         rw[hfin.out];(first | done | rfl)
        ·have hfin:Hid (Thk.read (toL s)=.inr ⟨toL (s.extract 0 k),s[k],toL (s.extract (k+1) s.size),0⟩):=by
          unfold Hid;rw[Hop.out];unfold Thk.operand;rw[if_pos hc3,(show Thk.val (toL (s.extract (k+1) s.size))=_ from hv)];(first | done | rfl)
         have Hv:Hid (_):=hv
         clear hv hc3
         go_wp2_with (go_at_call 240;refine (value_any _ _ (by simp[ByteArray.size_extract];omega)).mono ?_;rintro e w' ⟨rfl,rfl⟩;rw[Hv.out])
         refine bodyPost_ret (v:=(.tuple #[.agg #[.string (s.extract 0 k),.int .u8 (s[k].toNat:Int),.string (s.extract (k+1) s.size),.int .i64 0,.slice none 0 0],.int .i64 0])) (by simp[results,Tryz.results178,go_sem,b0,b1,b2,b3,b4]) rfl ⟨?_,below_set5 hB2 (Nat.le_refl _) _ _ _ _ _⟩
         rw[hfin.out];exact ⟨_,_,rfl,rfl,rfl⟩
      ·have hc3:s[k].toNat=43\/s[k].toNat=45\/s[k].toNat=61:=by simp only[beq_iff_eq,beq_eq_false_iff_ne] at *;omega
       cases hv:Thk.val (s.extract (k+1) s.size).data.toList
       ·have hfin:Hid (Thk.read (toL s)=.inl 5):=by
         unfold Hid;rw[Hop.out];unfold Thk.operand;rw[if_pos hc3,(show Thk.val (toL (s.extract (k+1) s.size))=_ from hv)];(first | done | rfl)
        have Hv:Hid (_):=hv
        clear hv hc3
        go_wp2_with (go_at_call 240;refine (value_any _ _ (by simp[ByteArray.size_extract];omega)).mono ?_;rintro e w' ⟨rfl,rfl⟩;rw[Hv.out])
        refine bodyPost_ret (v:=(.tuple #[zeroEv,.int .i64 5])) (by simp[results,Tryz.results178,go_sem,b0,b1,b2,b3,b4]) rfl ⟨?_,below_set5 hB2 (Nat.le_refl _) _ _ _ _ _⟩
        rw[hfin.out];(first | done | rfl)
       ·have hfin:Hid (Thk.read (toL s)=.inr ⟨toL (s.extract 0 k),s[k],toL (s.extract (k+1) s.size),0⟩):=by
         unfold Hid;rw[Hop.out];unfold Thk.operand;rw[if_pos hc3,(show Thk.val (toL (s.extract (k+1) s.size))=_ from hv)];(first | done | rfl)
        have Hv:Hid (_):=hv
        clear hv hc3
        go_wp2_with (go_at_call 240;refine (value_any _ _ (by simp[ByteArray.size_extract];omega)).mono ?_;rintro e w' ⟨rfl,rfl⟩;rw[Hv.out])
        refine bodyPost_ret (v:=(.tuple #[.agg #[.string (s.extract 0 k),.int .u8 (s[k].toNat:Int),.string (s.extract (k+1) s.size),.int .i64 0,.slice none 0 0],.int .i64 0])) (by simp[results,Tryz.results178,go_sem,b0,b1,b2,b3,b4]) rfl ⟨?_,below_set5 hB2 (Nat.le_refl _) _ _ _ _ _⟩
        rw[hfin.out];exact ⟨_,_,rfl,rfl,rfl⟩
  ·have hfin:Hid (Thk.read (toL s)=.inl 4):=Thk.read_none _ (fun j hj=>Hall.out j hj (by rw[toL_length] at hj;omega))
   clear Hall
   go_wp2
   go_returns
   refine ⟨by rw[hfin.out];rfl,by go_grown⟩


theorem evCells_cons (e:Ev) (es:List Ev) (v:Value) (vs:List Value):evCells (e :: es) (v :: vs)=[.string e.p,.int .u8 (e.a.toNat:Int),.string e.v,.int .i64 e.n,v] ++ evCells es vs:=rfl
theorem evCells_get:∀ (es:List Ev) (svs:List Value),svs.length=es.length->∀ j (h:j<es.length) (h':j<svs.length),
  (evCells es svs)[j*5]? = some (.string es[j].p)/\(evCells es svs)[j*5+1]? = some (.int .u8 (es[j].a.toNat:Int))/\(evCells es svs)[j*5+2]? = some (.string es[j].v)/\(evCells es svs)[j*5+3]? = some (.int .i64 es[j].n)/\(evCells es svs)[j*5+4]? = some svs[j]:=by
 intro es
 induction es with
 | nil=>intro svs _ j h;simp at h
 | cons e es ih =>
  intro svs hl j h h'
  cases svs with
  | nil=>simp at hl
  | cons v vs =>
   rw[evCells_cons]
   cases j with
   | zero=>simp
   | succ j =>
    have hl':vs.length=es.length:=by simpa using hl
    obtain ⟨a,b,c,d,f⟩:=ih vs hl' j (by simpa using h) (by simpa using h')
    have s:∀ i,([.string e.p,.int .u8 (e.a.toNat:Int),.string e.v,.int .i64 e.n,v] ++ evCells es vs)[(j+1)*5+i]? = (evCells es vs)[j*5+i]?:=by
     intro i
     rw[List.getElem?_append_right (by simp;omega)]
     congr 1
     simp;omega
    have s0:=s 0
    simp only[Nat.add_zero] at s0
    exact ⟨s0.trans a,(s 1).trans b,(s 2).trans c,(s 3).trans d,(s 4).trans f⟩
theorem evCells_snoc:∀ (es:List Ev) (svs:List Value),svs.length=es.length->∀ e v,evCells (es ++ [e]) (svs ++ [v])=evCells es svs ++ [.string e.p,.int .u8 (e.a.toNat:Int),.string e.v,.int .i64 e.n,v]:=by
 intro es svs hl e v
 unfold evCells
 rw[List.zip_append hl.symm,List.flatMap_append];(first | done | rfl)

theorem RefAt.evsIn {w:World} {c rb:Nat} {evv fv:Value} {av:Nat->Value} {room:Nat} {es:List Ev} {acc most:Nat} {knowns:List (List Bool)} (h:RefAt w c rb evv fv av room es acc most knowns):EvsIn w.heap.size w evv es:=by
 obtain ⟨svs,hl,hown,hsv⟩:=h.evs
 have h0:=hown
 obtain ⟨hx,h1 | ⟨g,cap,cur,rfl,hg,hh,hc,hm,hs,hcur⟩⟩:=hown
 ·left;exact ⟨h1.1,List.eq_nil_of_length_eq_zero h1.2⟩
 ·right
  refine ⟨g,0,cap,rfl,hc,(h0.lt g rfl).2,fun j hj=>?_⟩
  obtain ⟨a,b,c,d,f⟩:=evCells_get es svs hl j hj (by omega)
  have hcell:∀ i,i<5->w.cell? ⟨g,0+j*5+i,none⟩=(evCells es svs)[j*5+i]?:=fun i hi=>by
   rw[Nat.zero_add];exact h0.cellAt (j*5+i) (by omega)
  have hc0:=hcell 0 (by omega)
  simp only[Nat.add_zero] at hc0
  exact ⟨svs[j]'(by omega),hc0.trans a,(hcell 1 (by omega)).trans b,(hcell 2 (by omega)).trans c,(hcell 3 (by omega)).trans d,(hcell 4 (by omega)).trans f,(hsv j (by omega) hj).toIn⟩

theorem Alive_any (evv:Value) (es:List Ev) (kv:Value) (known:List Bool) (w:World) (hn:es.length<=1000) (hkn:known.length<=1000)
  (hev:EvsIn w.heap.size w evv es) (hkv:SliceIn w.heap.size w kv (bools known)) (hz:∀ e∈es,EvOk e) :
  Calls Tryz.prog 173 #[evv,kv] w fun e w'=>∃ v,e=.returned v/\w'.ownsRow w.heap.size 3 1 v (aliveTo es known es.length).length (nats (aliveTo es known es.length))/\Below w.heap.size w w':=by
 have hev0:=hev
 rcases hev with ⟨rfl,rfl⟩ | ⟨b,off,cap,rfl,hcap,hb,hc⟩
 ·clear hz hkv hev0
  go_enter Tryz.func173,Tryz.ntmps173
  go_wp2
  go_rounds 1
  go_ret
  exact ⟨_,rfl,World.ownsRow_nil _ _ _ _,Below.refl _ _⟩
 ·exact Alive_some w.heap.size b off cap es kv known w (Nat.le_refl _) hcap hn hkn hev0 hkv (fun e he=>⟨by have:=(hz e he).p;omega,(hz e he).s⟩)

theorem EvsIn.mono {B B':Nat} {w:World} {v:Value} {es:List Ev} (h:EvsIn B w v es) (hB:B<=B'):EvsIn B' w v es:=by
 rcases h with h | ⟨b,off,cap,h1,h2,h3,h4⟩
 ·exact Or.inl h
 ·refine Or.inr ⟨b,off,cap,h1,h2,by omega,fun j hj=>?_⟩
  obtain ⟨sv,c0,c1,c2,c3,c4,c5⟩:=h4 j hj
  exact ⟨sv,c0,c1,c2,c3,c4,c5.mono hB⟩
theorem aliveTo_lt (es:List Ev) (known:List Bool) (n:Nat):∀ j∈aliveTo es known n,j<n:=by
 intro j hj;unfold aliveTo at hj;have:=(List.mem_filter.1 hj).1;simpa using this

theorem RefAsk_any (w:World) (c rb:Nat) (evv fv:Value) (av:Nat->Value) (room:Nat) (es:List Ev) (acc most:Nat) (knowns:List (List Bool)) (h:RefAt w c rb evv fv av room es acc most knowns) (i:Int) (path:ByteArray) (hps:path.size<=1048576) :
  Calls Tryz.prog 110 #[.pointer (some ⟨c,0,none⟩),.int .i64 i,.string path] w fun e w' =>
   ∃ t,e=.returned (.tuple #[.string t,.int .i64 (askR es knowns i (toL path)).2])/\toL t=(askR es knowns i (toL path)).1/\Below w.heap.size w w':=by
 have H:Hid (RefAt w c rb evv fv av room es acc most knowns):=h
 by_cases hi:0<=i/\i<knowns.length
 ·obtain ⟨k,rfl⟩:=Int.eq_ofNat_of_zero_le hi.1
  have hk:k<knowns.length:=by omega
  have Hask:Hid (askR es knowns (k:Int) (toL path)=if Thk.path (toL path) then (tellR es (aliveTo es knowns[k] es.length) (toL path),0) else ([],4)):=by
   unfold Hid askR;rw[if_pos hi];simp[List.getElem?_eq_getElem hk]
  obtain ⟨cap,f1,hcap⟩:=h.f1
  have f2:=h.f2
  obtain ⟨kv,c0,hkv⟩:=(h.reps k hk).c0
  have h6:=h.n6
  have Hkv:Hid (SliceT 4 w kv (bools knowns[k])):=hkv
  have hck:=h.tc.lt
  have hrb:=h.trb.lt
  have Hevs:Hid (EvsIn w.heap.size w evv es):=h.evsIn
  have Hok:Hid (∀ e∈es,EvOk e):=h.ok
  have hn5:=h.n500
  have hkl:=h.kn _ (List.getElem_mem hk)
  clear hkv h
  generalize knowns[k]=kn at *
  go_enter Tryz.func110,Tryz.ntmps110
  go_wp2_with fail
  refine (Up_any w c rb evv fv av room es acc most knowns H.out (k:Int)).mono ?_
  rintro e w1 ⟨rfl,hw1⟩
  subst hw1
  rw[if_pos hi]
  go_wp2_with fail
  refine (Path_any path _ hps).mono ?_
  rintro e w2 ⟨rfl,hb2⟩
  cases hp:Thk.path (toL path)
  ·have Ha:Hid (askR es knowns (k:Int) (toL path)=([],4)):=by unfold Hid;rw[Hask.out,hp];(first | done | rfl)
   clear hp
   go_wp2
   go_ret2
   exact ⟨ByteArray.empty,by rw[Ha.out];rfl,by rw[Ha.out];rfl,hb2⟩
  ·have Ha:Hid (askR es knowns (k:Int) (toL path)=(tellR es (aliveTo es kn es.length) (toL path),0)):=by unfold Hid;rw[Hask.out,hp];(first | done | rfl)
   have Hp:Hid (Thk.path (toL path)=true):=hp
   have g1:=(hb2.cell (p:=⟨c,1,none⟩) hck).trans f1
   have g2:=(hb2.cell (p:=⟨c,2,none⟩) hck).trans f2
   have g0:=(hb2.cell (p:=⟨rb,k*13,none⟩) hrb).trans c0
   clear hp f1 f2 c0
   go_wp2_with fail
   have Hal:Hid (∀ wx:World,Below w2.heap.size w2 wx->Calls Tryz.prog 173 #[evv,kv] wx fun e w'=>∃ v,e=.returned v/\w'.ownsRow wx.heap.size 3 1 v (aliveTo es kn es.length).length (nats (aliveTo es kn es.length))/\Below wx.heap.size wx w'):=by
    intro wx hwx
    have hb3:Below w1.heap.size w1 wx:=hb2.trans (hwx.mono hb2.size)
    exact Alive_any evv es kv kn wx (by omega) (by omega) ((Hevs.out.below hb3).mono hb3.size) ((Hkv.out.toIn.below hb3).mono hb3.size) Hok.out
   go_cut [10] from 21 to 33 (fun al wx=>SliceT 3 wx al (nats (aliveTo es kn es.length))/\Below w2.heap.size w2 wx)
   case first =>
    go_region_with (go_at_call 173;refine (Hal.out _ ?_).mono ?_;(go_grown);rintro e w3 ⟨v3,rfl,hown3,hb3⟩)
    all_goals
     go_wp2_with fail
     go_meet
     exact ⟨own_sliceT hown3,Below.trans (by go_grown) (hb3.mono (by simp))⟩
   case rest =>
   obtain ⟨hal,hb4⟩:=hcut
   have hb5:Below w1.heap.size w1 wc:=hb2.trans (hb4.mono hb2.size)
   have k2:=(hb4.cell (p:=⟨c,2,none⟩) (Nat.lt_of_lt_of_le hck hb2.size)).trans g2
   have HT:Hid (_):=Tell_any wc.heap.size evv es _ (aliveTo es kn es.length) path wc (Nat.le_refl _) (by omega) ((Hevs.out.below hb5).mono hb5.size) hal.toIn (aliveTo_lt _ _ _) (by have:=aliveTo_le es kn es.length;omega) Hok.out hps Hp.out
   clear g0 g1 g2 hal Hal
   go_wp2_with fail
   refine Calls.mono HT.out ?_
   rintro e w6 ⟨t,rfl,ht,hb6⟩
   go_wp2
   go_ret2
   exact ⟨t,by rw[Ha.out];rfl,by rw[Ha.out];exact ht,hb5.trans (hb6.mono hb5.size)⟩
 ·have Hask:Hid (askR es knowns i (toL path)=([],2)):=by unfold Hid askR;rw[if_neg hi]
  clear h
  go_enter Tryz.func110,Tryz.ntmps110
  go_wp2_with fail
  refine (Up_any w c rb evv fv av room es acc most knowns H.out i).mono ?_
  rintro e w1 ⟨rfl,hw1⟩
  subst hw1
  rw[if_neg hi]
  go_wp2
  go_ret2
  exact ⟨ByteArray.empty,by rw[Hask.out];rfl,by rw[Hask.out];rfl,Below.refl _ _⟩


theorem step_append_own {P:Program} {ops:Array Oper} {o:Oper} {a:Act} {w:World} {K:Act->World->Prop} {Q:Exit->Act->World->Prop} {E:Prop}
  (hg:o.guard=none) (s x:Operand) (t:TypeId) (hop:o.op=Op.call { callee:=Callee.builtin Builtin.append,args:=#[s,x],argTypes:=#[t,t] })
  (base:Nat) (e:TypeId) (i:TypeInfo) (z:Value) (size bytes:Nat) (h1:P.underlying t=some (.slice e)) (h2:P.info? e=some i) (h3:i.zero=some z) (h4:i.size=size) (h5:i.bytes=bytes) (h6:z.cells.size=size) (h7:0<size)
  (v:Value) (n:Nat) (xs:List Value) (hs:a.eval s=v) (hown:w.ownsRow base e size v n xs)
  (ad:Addr) (m c:Nat) (news:List Value) (hx:a.eval x=.slice (some ad) m c) (hn:news.length=m*size) (hc:∀ j u,news[j]? = some u->w.cell? (ad.add j)=some u) (h1c:∀ u∈news,u.oneCell'=true)
  (b1:n+m<=maxLen) (b2:(n+m)*bytes<=140737488355328) (hbase:base<=w.heap.size)
  (hK:∀ v' w',w'.ownsRow base e size v' (n+m) (xs ++ news)->w.grownBy w' v.ownBlock->K (a.put o.dst v') w') :
  if Region.wanted o (yielded ops a.tmps)=true then Oper.wp P o a w K Q else E:=by
 have hw:Region.wanted o (yielded ops a.tmps)=true:=by simp[Region.wanted,hg]
 rw[if_pos hw]
 obtain ⟨v',w',hrun,r1,r2,_⟩:=run_append_own (P:=P) w base t o.type e i z size bytes h1 h2 h3 h4 h5 h6 h7 v n xs hown ad m c news hn hc h1c b1 b2 hbase
 unfold Oper.wp
 simp[execOp,hop,resolve,invoke,builtin,hs,hx,hrun,Result.andThen]
 exact hK v' w' r1 r2

theorem step_append_own_none {P:Program} {ops:Array Oper} {o:Oper} {a:Act} {w:World} {K:Act->World->Prop} {Q:Exit->Act->World->Prop} {E:Prop}
  (hg:o.guard=none) (s x:Operand) (t:TypeId) (hop:o.op=Op.call { callee:=Callee.builtin Builtin.append,args:=#[s,x],argTypes:=#[t,t] })
  (base:Nat) (e:TypeId) (i:TypeInfo) (size:Nat) (h1:P.underlying t=some (.slice e)) (h2:P.info? e=some i)
  (v:Value) (n:Nat) (xs:List Value) (hs:a.eval s=v) (hown:w.ownsRow base e size v n xs) (hx:a.eval x=.slice none 0 0)
  (hK:K (a.put o.dst v) w):if Region.wanted o (yielded ops a.tmps)=true then Oper.wp P o a w K Q else E:=by
 have hw:Region.wanted o (yielded ops a.tmps)=true:=by simp[Region.wanted,hg]
 rw[if_pos hw]
 have hrun:=run_append_owned_none (P:=P) (w:=w) base t o.type e i size h1 h2 v n xs hown
 unfold Oper.wp
 simp[execOp,hop,resolve,invoke,builtin,hs,hx,hrun,Result.andThen]
 exact hK

theorem step_append_new {P:Program} {ops:Array Oper} {o:Oper} {a:Act} {w:World} {K:Act->World->Prop} {Q:Exit->Act->World->Prop} {E:Prop}
  (hg:o.guard=none) (s x:Operand) (t:TypeId) (hop:o.op=Op.call { callee:=Callee.builtin Builtin.append,args:=#[s,x],argTypes:=#[t,t] })
  (base:Nat) (e:TypeId) (i:TypeInfo) (z:Value) (size bytes:Nat) (h1:P.underlying t=some (.slice e)) (h2:P.info? e=some i) (h3:i.zero=some z) (h4:i.size=size) (h5:i.bytes=bytes) (h6:z.cells.size=size) (h7:0<size)
  (v:Value) (n:Nat) (xs:List Value) (hs:a.eval s=v) (hown:w.ownsRow base e size v n xs)
  (ad:Addr) (m c:Nat) (news:List Value) (hx:a.eval x=.slice (some ad) m c) (hn:news.length=m*size) (hc:∀ j u,news[j]? = some u->w.cell? (ad.add j)=some u) (h1c:∀ u∈news,u.oneCell'=true)
  (b1:n+m<=maxLen) (b2:(n+m)*bytes<=140737488355328) (hpos:0<n+m) (W0:World) (hW:Below base W0 w) (hbase:base<=W0.heap.size)
  (hK:∀ g cap w',w'.ownsRow base e size (.slice (some ⟨g,0,none⟩) (n+m) cap) (n+m) (xs ++ news)->Below base W0 w'->K (a.put o.dst (.slice (some ⟨g,0,none⟩) (n+m) cap)) w') :
  if Region.wanted o (yielded ops a.tmps)=true then Oper.wp P o a w K Q else E:=by
 have hb2:base<=w.heap.size:=Nat.le_trans hbase hW.size
 refine step_append_own hg s x t hop base e i z size bytes h1 h2 h3 h4 h5 h6 h7 v n xs hs hown ad m c news hx hn hc h1c b1 b2 hb2 ?_
 intro v' w' ho hgr
 have ho2:=ho
 obtain ⟨_,h | ⟨g,cap,cur,rfl,_⟩⟩:=ho2
 ·omega
 ·exact hK g cap w' ho (hW.grown hgr hb2 (fun k hk=>(hown.lt k hk).1))

theorem step_append_below {P:Program} {ops:Array Oper} {o:Oper} {a:Act} {w:World} {K:Act->World->Prop} {Q:Exit->Act->World->Prop} {E:Prop}
  (hg:o.guard=none) (s x:Operand) (t:TypeId) (hop:o.op=Op.call { callee:=Callee.builtin Builtin.append,args:=#[s,x],argTypes:=#[t,t] })
  (base:Nat) (e:TypeId) (i:TypeInfo) (z:Value) (size bytes:Nat) (h1:P.underlying t=some (.slice e)) (h2:P.info? e=some i) (h3:i.zero=some z) (h4:i.size=size) (h5:i.bytes=bytes) (h6:z.cells.size=size) (h7:0<size)
  (v:Value) (n:Nat) (xs:List Value) (hs:a.eval s=v) (hown:w.ownsRow base e size v n xs)
  (ad:Addr) (m c:Nat) (news:List Value) (hx:a.eval x=.slice (some ad) m c) (hn:news.length=m*size) (h1c:∀ u∈news,u.oneCell'=true)
  (b1:n+m<=maxLen) (b2:(n+m)*bytes<=140737488355328) (W0:World) (hW:Below base W0 w) (hbase:base<=W0.heap.size) (hc:∀ wx,Below base W0 wx->∀ j u,news[j]? = some u->wx.cell? (ad.add j)=some u)
  (hK:∀ v' w',w'.ownsRow base e size v' (n+m) (xs ++ news)->Below base W0 w'->w.heap.size<=w'.heap.size->(∀ b o,b<w.heap.size->v.ownBlock≠some b->w'.cell? ⟨b,o,none⟩=w.cell? ⟨b,o,none⟩)->K (a.put o.dst v') w') :
  if Region.wanted o (yielded ops a.tmps)=true then Oper.wp P o a w K Q else E:=by
 have hb2:base<=w.heap.size:=Nat.le_trans hbase hW.size
 refine step_append_own hg s x t hop base e i z size bytes h1 h2 h3 h4 h5 h6 h7 v n xs hs hown ad m c news hx hn (hc w hW) h1c b1 b2 hb2 ?_
 intro v' w' ho hgr
 exact hK v' w' ho (hW.grown hgr hb2 (fun k hk=>(hown.lt k hk).1)) hgr.size (fun b o hb hne=>World.cell?_of_block (w:=w) (hgr.block b hb (fun e=>hne e.symm)))

theorem ownsRow_base {w:World} {base base':Nat} {e:TypeId} {size:Nat} {v:Value} {n:Nat} {xs:List Value} (h:w.ownsRow base e size v n xs) (hb:base'<=base):w.ownsRow base' e size v n xs:=by
 obtain ⟨h1,h2 | ⟨g,cap,cur,hv,hg,r⟩⟩:=h
 ·exact ⟨h1,Or.inl h2⟩
 ·exact ⟨h1,Or.inr ⟨g,cap,cur,hv,Nat.le_trans hb hg,r⟩⟩

theorem step_append_row {P:Program} {ops:Array Oper} {o:Oper} {a:Act} {w:World} {K:Act->World->Prop} {Q:Exit->Act->World->Prop} {E:Prop}
  (hg:o.guard=none) (s x:Operand) (t:TypeId) (hop:o.op=Op.call { callee:=Callee.builtin Builtin.append,args:=#[s,x],argTypes:=#[t,t] })
  (e:TypeId) (i:TypeInfo) (z:Value) (size bytes:Nat) (h1:P.underlying t=some (.slice e)) (h2:P.info? e=some i) (h3:i.zero=some z) (h4:i.size=size) (h5:i.bytes=bytes) (h6:z.cells.size=size) (h7:0<size)
  (v:Value) (n:Nat) (xs:List Value) (hs:a.eval s=v) (hown:w.ownsRow 0 e size v n xs)
  (ad:Addr) (m c:Nat) (news:List Value) (hx:a.eval x=.slice (some ad) m c) (hn:news.length=m*size) (hc:∀ j u,news[j]? = some u->w.cell? (ad.add j)=some u) (h1c:∀ u∈news,u.oneCell'=true)
  (b1:n+m<=maxLen) (b2:(n+m)*bytes<=140737488355328) (hpos:0<n+m)
  (hK:∀ g cap w',w'.ownsRow 0 e size (.slice (some ⟨g,0,none⟩) (n+m) cap) (n+m) (xs ++ news)->w.grownBy w' v.ownBlock->(v.ownBlock=some g\/w.heap.size<=g)->K (a.put o.dst (.slice (some ⟨g,0,none⟩) (n+m) cap)) w') :
  if Region.wanted o (yielded ops a.tmps)=true then Oper.wp P o a w K Q else E:=by
 have wide:∀ w',w.grownBy w' none->w.grownBy w' v.ownBlock:=fun w' h=>⟨h.os,h.tape,h.output,h.size,fun k hk _=>h.block k hk (by simp)⟩
 have fin:∀ v' w',w'.ownsRow w.heap.size e size v' (n+m) (xs ++ news)->w.grownBy w' none->K (a.put o.dst v') w':=by
  intro v' w' ho hgr
  have ho2:=ho
  obtain ⟨_,h | ⟨g,cap,cur,rfl,hgb,_⟩⟩:=ho2
  ·omega
  ·exact hK g cap w' (ownsRow_base ho (Nat.zero_le _)) (wide w' hgr) (Or.inr hgb)
 have ho:=hown
 obtain ⟨hx1,⟨hv,hn0⟩ | ⟨g,cap,cur,hv,hgb,hh,hnc,hcm,hcs,htk⟩⟩:=ho
 ·subst hv
  subst hn0
  have hxs:xs=[]:=List.eq_nil_of_length_eq_zero (by rw[hx1];simp)
  subst hxs
  exact step_append_grows hg s x t hop e i z size bytes h1 h2 h3 h4 h5 h6 h7 none 0 0 [] hs (fun _=>⟨rfl,rfl⟩) (by simp) (fun b hb=>by cases hb) ad m c news hx hn hc h1c (by omega) b1 b2 fin
 ·subst hv
  by_cases hroom:n+m<=cap
  ·have hw:Region.wanted o (yielded ops a.tmps)=true:=by simp[Region.wanted,hg]
   rw[if_pos hw]
   obtain ⟨w',hrun,r1,r2⟩:=run_append_fits (P:=P) w 0 t o.type e i size h1 h2 h4 g n cap xs hown ad m c news hn hc h1c hroom
   unfold Oper.wp
   simp[execOp,hop,resolve,invoke,builtin,hs,hx,hrun,Result.andThen]
   exact hK g cap w' r1 r2 (Or.inl rfl)
  ·refine step_append_grows hg s x t hop e i z size bytes h1 h2 h3 h4 h5 h6 h7 (some ⟨g,0,none⟩) n cap xs hs (fun h=>by cases h) hx1 ?_ ad m c news hx hn hc h1c (by omega) b1 b2 fin
   intro b hb j u hj
   cases hb
   exact hown.cells rfl j u hj


theorem SliceT.chgT {t s:TypeId} {b:Nat} {w w':World} {v:Value} {xs:List Value} (h:SliceT t w v xs) (hc:Chg (· = b) w w') (hb:Tagged w b s) (hne:t≠s):SliceT t w' v xs :=
 h.chg hc fun c hcT e=>(hcT.ne hb hne) e

theorem RepAt.keep {w w':World} {rb off:Nat} {known:List Bool} {most most':Nat} (h:RepAt w rb off known most) (hm:most<=most') (hS:∀ t v xs,(t=4\/t=3)->SliceT t w v xs->SliceT t w' v xs)
  (hcell:∀ i,i<13->w'.cell? ⟨rb,off+i,none⟩=w.cell? ⟨rb,off+i,none⟩):RepAt w' rb off known most':=by
 obtain ⟨⟨kv,a0,b0⟩,a1,a7,⟨m9,a9,b9⟩,⟨kp,kl,a10,b10,d10⟩,⟨m12,a12,b12⟩,hz⟩:=h
 exact ⟨⟨kv,(hcell 0 (by omega)).trans a0,hS _ _ _ (Or.inl rfl) b0⟩,(hcell 1 (by omega)).trans a1,(hcell 7 (by omega)).trans a7,⟨m9,(hcell 9 (by omega)).trans a9,by omega⟩,⟨kp,kl,(hcell 10 (by omega)).trans a10,hS _ _ _ (Or.inr rfl) b10,d10⟩,⟨m12,(hcell 12 (by omega)).trans a12,by omega⟩,hz.of (fun i hi=>hcell i (by omega))⟩

theorem RefAt.upd {w w':World} {c rb:Nat} {evv fv:Value} {av:Nat->Value} {room:Nat} {es:List Ev} {acc most:Nat} {knowns:List (List Bool)} (h:RefAt w c rb evv fv av room es acc most knowns) (hc:Chg (· = rb) w w') (ht:Tagged w' rb 165)
  (hmost:most+1<=1000) (k:Nat) (hk:k<knowns.length) (more:List Bool) (hml:more.length<=es.length) (hrep:RepAt w' rb (k*13) more (most+1))
  (hoth:∀ j,j≠k->∀ i,i<13->w'.cell? ⟨rb,j*13+i,none⟩=w.cell? ⟨rb,j*13+i,none⟩) (h11:w'.cell? ⟨rb,k*13+11,none⟩=w.cell? ⟨rb,k*13+11,none⟩):RefAt w' c rb evv fv av room es acc (most+1) (knowns.set k more):=by
 have hne:c≠rb:=h.tc.ne h.trb (by decide)
 have hcc:∀ i,w'.cell? ⟨c,i,none⟩=w.cell? ⟨c,i,none⟩:=fun i=>World.cell?_of_block (w:=w) (hc.block c h.tc.lt hne)
 have hS:∀ t v xs,(t=4\/t=3)->SliceT t w v xs->SliceT t w' v xs:=fun t v xs ht hs=>hs.chgT hc h.trb (by rcases ht with rfl | rfl <;> decide)
 obtain ⟨cap,f1,hcap⟩:=h.f1
 obtain ⟨svs,e1,e2,e3⟩:=h.evs
 refine ⟨h.tc.chg hc hne,ht,h.room50,by simpa using h.n6,h.n500,(hcc 0).trans h.f0,⟨cap,by rw[hcc 1,f1];simp,by simpa using hcap⟩,(hcc 2).trans h.f2,(hcc 3).trans h.f3,h.a500,hmost,⟨svs,e1, ?_,fun j h1 h2=>hS _ _ _ (Or.inl rfl) (e3 j h1 h2)⟩,h.ok, ?_, ?_,(hcc 4).trans h.f4,fun i hi=>?_⟩
 ·refine ownsRow_chg e2 hc ?_
  intro g hg e
  obtain ⟨hx,h1 | ⟨g',cap',cur,rfl,_,hh,_⟩⟩:=e2
  ·rw[h1.1] at hg;cases hg
  ·cases hg;exact (Tagged.ne ⟨cur,hh⟩ h.trb (by decide)) e
 ·intro i hi
  simp only[List.length_set] at hi
  by_cases e:i=k
  ·subst e;rw[List.getElem_set_self];exact hrep
  ·rw[List.getElem_set_ne (fun h=>e h.symm)]
   exact (h.reps i hi).keep (by omega) hS (fun j hj=>hoth i e j hj)
 ·intro x hx
  rcases List.mem_or_eq_of_mem_set hx with h1 | h1
  ·exact h.kn x h1
  ·rw[h1];exact hml
 ·have hi':i<knowns.length:=by simpa using hi
  by_cases e:i=k
  ·subst e;exact h11.trans (h.a11 i hi')
  ·exact (hoth i e 11 (by omega)).trans (h.a11 i hi')

theorem own_lit0 {e:TypeId} {base:Nat} (w:World) (g:Nat) (hg:g=w.heap.size) (hb:base<=w.heap.size):(w.alloc (.cells #[] e)).ownsRow base e 1 (.slice (some ⟨g,0,none⟩) 0 0) 0 []:=by
 subst hg;exact World.ownsRow_lit w #[] 0 hb (by decide) rfl

theorem write_fin {w w':World} {c rb:Nat} {evv fv:Value} {av:Nat->Value} {room:Nat} {es:List Ev} {acc most:Nat} {knowns:List (List Bool)} (h:RefAt w c rb evv fv av room es acc most knowns) (k:Nat) (hk:k<knowns.length)
  (mv:Value) (more:List Bool) (hmv:SliceT 4 w mv (bools more)) (hml:more.length<=es.length) (hmost:most+1<=1000) (hc:Chg (· = rb) w w') (ht:Tagged w' rb 165)
  (e0:w'.cell? ⟨rb,k*13,none⟩=some mv) (m9:Nat) (h9:m9<=most) (e9:w'.cell? ⟨rb,k*13+9,none⟩=some (.int .i64 ((m9:Int)+1))) (kp:Value) (kl:List Int) (e10:w'.cell? ⟨rb,k*13+10,none⟩=some kp) (s10:SliceT 3 w' kp (ints kl)) (l10:kl.length<=50)
  (m12:Nat) (h12:m12<=most+1) (e12:w'.cell? ⟨rb,k*13+12,none⟩=some (.int .i64 (m12:Int)))
  (hoth:∀ o,o≠k*13->o≠k*13+9->o≠k*13+10->o≠k*13+12->w'.cell? ⟨rb,o,none⟩=w.cell? ⟨rb,o,none⟩):RefAt w' c rb evv fv av room es acc (most+1) (knowns.set k more):=by
 have hr:=h.reps k hk
 refine h.upd hc ht hmost k hk more hml ⟨⟨mv,e0,hmv.chgT hc h.trb (by decide)⟩,(hoth _ (by omega) (by omega) (by omega) (by omega)).trans hr.c1,(hoth _ (by omega) (by omega) (by omega) (by omega)).trans hr.c7,⟨m9+1,by rw[e9];simp,by omega⟩,⟨kp,kl,e10,s10,l10⟩,⟨m12,e12,h12⟩,hr.z.of (fun i hi=>hoth _ (by omega) (by omega) (by omega) (by omega))⟩ ?_ (hoth _ (by omega) (by omega) (by omega) (by omega))
 intro j hj i hi
 exact hoth _ (by omega) (by omega) (by omega) (by omega)

theorem SliceT.tail1 {t:TypeId} {w:World} {g c n':Nat} {a:Option Addr} {xs:List Value} (h:SliceT t w (.slice (some ⟨g,0,none⟩) n' c) xs) (n c':Nat) (hx:xs.length=n+1) (ha:(a=some ⟨g,0,none⟩/\n=0)\/a=some ⟨g,1,none⟩) (hc':n<=c'):SliceT t w (.slice a n c') xs.tail:=by
 rcases h with ⟨h,_⟩ | ⟨b,off,cap,h1,h2,h3,h4⟩
 ·cases h
 ·simp only[Value.slice.injEq,Option.some.injEq,Addr.mk.injEq] at h1
  obtain ⟨⟨rfl,rfl,_⟩,rfl,rfl⟩:=h1
  right
  rcases ha with ⟨rfl,rfl⟩ | rfl
  ·exact ⟨g,0,c',by simp[hx],by simp[hx],h3,fun j hj=>by simp[hx] at hj⟩
  ·refine ⟨g,1,c',by simp[hx],by simp[hx];omega,h3,fun j hj=>?_⟩
   simp only[List.length_tail] at hj
   rw[List.getElem_tail,show 1+j=0+(j+1) by omega];exact h4 (j+1) (by omega)

theorem Tagged.drewN {w:World} {b:Nat} {t:TypeId} (h:Tagged w b t) (n:Nat):Tagged (w.drewN n) b t:=h
theorem Chg.drewN {M:Nat->Prop} {a w:World} (h:Chg M a w) (n:Nat):Chg M a (w.drewN n):=h.below (below_drewN (Below.refl _ _) n)

theorem own_some {w:World} {B:Nat} {e:TypeId} {v:Value} {n size:Nat} {xs:List Value} (h:w.ownsRow B e size v n xs) (hn:0<n):∃ g cap,v=.slice (some ⟨g,0,none⟩) n cap:=by
 obtain ⟨_,h1 | ⟨g,cap,cur,h2,_⟩⟩:=h
 ·omega
 ·exact ⟨g,cap,h2⟩

theorem Tryz.info4:(Tryz.prog.info? 4).map (fun i=>(i.zero,i.size,i.bytes))=some (some (.bool false),1,1):=by kernel_rfl
theorem Tryz.infoEv:(Tryz.prog.info? 239).map (fun i=>(i.zero,i.size,i.bytes))=some (some zeroEv,5,72):=by kernel_rfl

theorem RepAt.keepI {w w':World} {rb off:Nat} {known:List Bool} {most most':Nat} (h:RepAt w rb off known most) (hm:most<=most') (hS:∀ v xs,SliceT 4 w v xs->SliceT 4 w' v xs) (hI:IntsKept w w')
  (hcell:∀ i,i<13->w'.cell? ⟨rb,off+i,none⟩=w.cell? ⟨rb,off+i,none⟩):RepAt w' rb off known most':=by
 obtain ⟨⟨kv,a0,b0⟩,a1,a7,⟨m9,a9,b9⟩,⟨kp,kl,a10,b10,d10⟩,⟨m12,a12,b12⟩,hz⟩:=h
 obtain ⟨kl',hl',b10'⟩:=b10.numbers hI
 exact ⟨⟨kv,(hcell 0 (by omega)).trans a0,hS _ _ b0⟩,(hcell 1 (by omega)).trans a1,(hcell 7 (by omega)).trans a7,⟨m9,(hcell 9 (by omega)).trans a9,by omega⟩,⟨kp,kl',(hcell 10 (by omega)).trans a10,b10',by omega⟩,⟨m12,(hcell 12 (by omega)).trans a12,by omega⟩,hz.of (fun i hi=>hcell i (by omega))⟩
theorem RefAt.chg {M:Nat->Prop} {w w':World} {c rb:Nat} {evv fv:Value} {av:Nat->Value} {room:Nat} {es:List Ev} {acc most:Nat} {knowns:List (List Bool)} (h:RefAt w c rb evv fv av room es acc most knowns) (hc:Chg M w w')
  (h1:¬M c) (h2:¬M rb) (h3:∀ g,evv.ownBlock=some g->¬M g) (h4:∀ b,Tagged w b 4->¬M b) (h5:IntsKept w w'):RefAt w' c rb evv fv av room es acc most knowns:=by
 have hcc:∀ o,w'.cell? ⟨c,o,none⟩=w.cell? ⟨c,o,none⟩:=fun o=>World.cell?_of_block (w:=w) (hc.block c h.tc.lt h1)
 have hrr:∀ o,w'.cell? ⟨rb,o,none⟩=w.cell? ⟨rb,o,none⟩:=fun o=>World.cell?_of_block (w:=w) (hc.block rb h.trb.lt h2)
 obtain ⟨cap,f1,hcap⟩:=h.f1
 obtain ⟨svs,e1,e2,e3⟩:=h.evs
 exact ⟨h.tc.chg hc h1,h.trb.chg hc h2,h.room50,h.n6,h.n500,(hcc 0).trans h.f0,⟨cap,(hcc 1).trans f1,hcap⟩,(hcc 2).trans h.f2,(hcc 3).trans h.f3,h.a500,h.m500,⟨svs,e1,ownsRow_chg e2 hc h3,fun j a b=>(e3 j a b).chg hc h4⟩,h.ok,fun i hi=>(h.reps i hi).keepI (Nat.le_refl _) (fun v xs hs=>hs.chg hc h4) h5 (fun j _=>hrr _),h.kn,(hcc 4).trans h.f4,fun i hi=>(hrr _).trans (h.a11 i hi)⟩

theorem RefAt.evLt {w:World} {c rb:Nat} {evv fv:Value} {av:Nat->Value} {room:Nat} {es:List Ev} {acc most:Nat} {knowns:List (List Bool)} (h:RefAt w c rb evv fv av room es acc most knowns):∀ g,evv.ownBlock=some g->g<w.heap.size/\Tagged w g 239:=by
 intro g hg
 obtain ⟨svs,e1,e2,e3⟩:=h.evs
 refine ⟨(e2.lt g hg).2, ?_⟩
 obtain ⟨_,h1 | ⟨g',cap,cur,rfl,_,hh,_⟩⟩:=e2
 ·rw[h1.1] at hg;cases hg
 ·cases hg;exact ⟨cur,hh⟩

theorem RefAt.more {w w6:World} {c rb:Nat} {evv evv' fv:Value} {av:Nat->Value} {room:Nat} {es:List Ev} {acc most:Nat} {knowns:List (List Bool)} (h:RefAt w c rb evv fv av room es acc most knowns) (hc:Chg (fun x=>evv.ownBlock=some x) w w6)
  (e:Ev) (hok:EvOk e) (sv:Value) (hsv:SliceT 4 w sv (bools e.saw)) (svs:List Value) (hsl:svs.length=es.length) (hsvs:∀ j (h:j<svs.length) (h':j<es.length),SliceT 4 w svs[j] (bools es[j].saw)) (hn:es.length+1<=500)
  (hown:w6.ownsRow 0 239 5 evv' (es.length+1) (evCells es svs ++ [.string e.p,.int .u8 (e.a.toNat:Int),.string e.v,.int .i64 e.n,sv])):RefAt (w6.setCell ⟨c,2,none⟩ evv') c rb evv' fv av room (es ++ [e]) acc most knowns:=by
 have hm:∀ t b,t≠239->Tagged w b t->¬evv.ownBlock=some b:=fun t b ht hb he=>hb.ne (h.evLt b he).2 ht rfl
 have hc1:=hm _ c (by decide) h.tc
 have hc2:=hm _ rb (by decide) h.trb
 have hS:∀ t v xs,(t=4\/t=3)->SliceT t w v xs->SliceT t w6 v xs:=fun t v xs ht hs=>hs.chg hc (fun b hb=>hm t b (by rcases ht with rfl | rfl <;> decide) hb)
 have t6:Tagged w6 c 170:=h.tc.chg hc hc1
 have tr6:Tagged w6 rb 165:=h.trb.chg hc hc2
 have hS7:∀ t v xs,(t=4\/t=3)->SliceT t w v xs->SliceT t (w6.setCell ⟨c,2,none⟩ evv') v xs:=fun t v xs ht hs=>(hS t v xs ht hs).chgT (b:=c) ((Chg.refl (fun x=>x=c) w6).setCell (p:=⟨c,2,none⟩) rfl _) t6 (by rcases ht with rfl | rfl <;> decide)
 have hcc:∀ o,w6.cell? ⟨c,o,none⟩=w.cell? ⟨c,o,none⟩:=fun o=>World.cell?_of_block (w:=w) (hc.block c h.tc.lt hc1)
 have hrr:∀ o,w6.cell? ⟨rb,o,none⟩=w.cell? ⟨rb,o,none⟩:=fun o=>World.cell?_of_block (w:=w) (hc.block rb h.trb.lt hc2)
 have hne:c≠rb:=h.tc.ne h.trb (by decide)
 obtain ⟨cap,f1,hcap⟩:=h.f1
 refine ⟨t6.setCell _ _,tr6.setCell _ _,h.room50,h.n6,by simpa using hn,(cs_oth (Or.inr (by omega))).trans ((hcc 0).trans h.f0),⟨cap,(cs_oth (Or.inr (by omega))).trans ((hcc 1).trans f1),hcap⟩,cs_same ((hcc 2).trans h.f2),(cs_oth (Or.inr (by omega))).trans ((hcc 3).trans h.f3),h.a500,h.m500,
  ⟨svs ++ [sv],by simp[hsl], ?_, ?_⟩, ?_,fun i hi=>(h.reps i hi).keep (Nat.le_refl _) hS7 (fun j _=>(cs_oth (Or.inl hne)).trans (hrr _)),fun k hk=>by have:=h.kn k hk;simp;omega,(cs_oth (Or.inr (by omega))).trans ((hcc 4).trans h.f4),fun i hi=>(cs_oth (Or.inl hne)).trans ((hrr _).trans (h.a11 i hi))⟩
 ·rw[evCells_snoc es svs hsl,List.length_append]
  refine ownsRow_chg (M:=fun x=>x=c) hown ((Chg.refl (fun x=>x=c) w6).setCell (p:=⟨c,2,none⟩) rfl _) ?_
  intro g hg e'
  obtain ⟨_,h1 | ⟨g',cap',cur,rfl,_,hh,_⟩⟩:=hown
  ·rw[h1.1] at hg;cases hg
  ·cases hg;exact (Tagged.ne ⟨cur,hh⟩ t6 (by decide)) e'
 ·intro j h1 h2
  by_cases hj:j<es.length
  ·have e1:(svs ++ [sv])[j]=svs[j]'(by omega):=List.getElem_append_left (by omega)
   have e2:(es ++ [e])[j]=es[j]:=List.getElem_append_left hj
   rw[e1,e2];exact hS7 _ _ _ (Or.inl rfl) (hsvs j (by omega) hj)
  ·have hje:j=es.length:=by simp at h2;omega
   have e1:(svs ++ [sv])[j]=sv:=by rw[List.getElem_append_right (by omega)];simp
   have e2:(es ++ [e])[j]=e:=by rw[List.getElem_append_right (by omega)];simp
   rw[e1,e2];exact hS7 _ _ _ (Or.inl rfl) hsv
 ·intro x hx
  rcases List.mem_append.1 hx with h1 | h1
  ·exact h.ok x h1
  ·simp at h1;rw[h1];exact hok

theorem RefAt.accept {w:World} {c rb:Nat} {evv fv:Value} {av:Nat->Value} {room:Nat} {es:List Ev} {acc most:Nat} {knowns:List (List Bool)} (h:RefAt w c rb evv fv av room es acc most knowns) (n:Nat) (hn:n<=500):RefAt (w.setCell ⟨c,3,none⟩ (.int .i64 (n:Int))) c rb evv fv av room es n most knowns:=by
 have hc:Chg (fun x=>x=c) w (w.setCell ⟨c,3,none⟩ (.int .i64 (n:Int))):=(Chg.refl (fun x=>x=c) w).setCell (p:=⟨c,3,none⟩) rfl _
 have hne:c≠rb:=h.tc.ne h.trb (by decide)
 have hS:∀ t v xs,(t=4\/t=3)->SliceT t w v xs->SliceT t (w.setCell ⟨c,3,none⟩ (.int .i64 (n:Int))) v xs:=fun t v xs ht hs=>hs.chgT hc h.tc (by rcases ht with rfl | rfl <;> decide)
 obtain ⟨cap,f1,hcap⟩:=h.f1
 obtain ⟨svs,e1,e2,e3⟩:=h.evs
 exact ⟨h.tc.setCell _ _,h.trb.setCell _ _,h.room50,h.n6,h.n500,(cs_oth (Or.inr (by omega))).trans h.f0,⟨cap,(cs_oth (Or.inr (by omega))).trans f1,hcap⟩,(cs_oth (Or.inr (by omega))).trans h.f2,cs_same h.f3,hn,h.m500,
  ⟨svs,e1,ownsRow_chg e2 hc (fun g hg e=>((h.evLt g hg).2.ne h.tc (by decide)) e),fun j a b=>hS _ _ _ (Or.inl rfl) (e3 j a b)⟩,h.ok,fun i hi=>(h.reps i hi).keep (Nat.le_refl _) hS (fun j _=>cs_oth (Or.inl hne)),h.kn,(cs_oth (Or.inr (by omega))).trans h.f4,fun i hi=>(cs_oth (Or.inl hne)).trans (h.a11 i hi)⟩

theorem Blk5.set4 {b:Nat} {v0 v1 v2 v3 v4:Value} {w:World} (h:Blk5 b v0 v1 v2 v3 v4 w) (u:Value) (ht:∀ j,(w.setCell ⟨b,4,none⟩ u).frozen? ⟨b,j,none⟩=false):Blk5 b v0 v1 v2 v3 u (w.setCell ⟨b,4,none⟩ u) :=
 ⟨(cs_oth (Or.inr (by omega))).trans h.c0,(cs_oth (Or.inr (by omega))).trans h.c1,(cs_oth (Or.inr (by omega))).trans h.c2,(cs_oth (Or.inr (by omega))).trans h.c3,cs_same h.c4,ht⟩

theorem Chg.trans' {M N:Nat->Prop} {a b c:World} (h:Chg M a b) (k:Chg N b c) (hN:∀ x,x<a.heap.size->N x->M x):Chg M a c :=
 ⟨k.os.trans h.os,k.tape.trans h.tape,k.output.trans h.output,Nat.le_trans h.size k.size,fun i hi hm=>(k.block i (Nat.lt_of_lt_of_le hi h.size) (fun hn=>hm (hN i hi hn))).trans (h.block i hi hm)⟩
theorem setA {W3 w5:World} {e0:Nat} {v0 v1 v2 v3 v4:Value} {t:TypeId} (hE:Blk5 e0 v0 v1 v2 v3 v4 W3) (hT:Tagged W3 e0 t) (hb:Below W3.heap.size W3 w5) (u:Value) :
  Blk5 e0 v0 v1 v2 v3 u (w5.setCell ⟨e0,4,none⟩ u)/\Chg (fun x=>x=e0) W3 (w5.setCell ⟨e0,4,none⟩ u) :=
 ⟨(hE.below hb hT.lt).set4 u (fun j=>((hT.below hb).setCell _ _).frozen j),(Chg.of_below (M:=fun x=>x=e0) hb).setCell (p:=⟨e0,4,none⟩) rfl _⟩

theorem own_full {w:World} {B g n:Nat} {e:TypeId} {xs:List Value} (h:w.ownsRow B e 1 (.slice (some ⟨g,0,none⟩) n n) n xs):w.heap[g]? = some (.cells xs.toArray e (0,0)):=by
 obtain ⟨hl,⟨h1,_⟩ | ⟨g',cap,cur,hv,_,hh,_,_,hs,ht⟩⟩:=h
 ·cases h1
 ·simp only[Value.slice.injEq,Option.some.injEq,Addr.mk.injEq,true_and,and_true] at hv
  obtain ⟨rfl,rfl⟩:=hv
  have:cur.toList=xs:=by rw[<- ht,List.take_of_length_le (by rw[Array.length_toList,hs];exact Nat.le_refl _)]
  rw[hh,<- this]

theorem cell_of_heap {w:World} {g:Nat} {xs:List Value} {e:TypeId} (h:w.heap[g]? = some (.cells xs.toArray e (0,0))) (j:Nat):w.cell? ⟨g,j,none⟩=xs[j]?:=by
 simp[World.cell?,h]

theorem more_slice {w9:World} {g n:Nat} {known:List Bool} (hk:known.length<=n) (hg:w9.heap[g]? = some (.cells (splice (List.replicate (n+1) (.bool false)) 0 (bools known)).toArray 4 (0,0))) :
  SliceT 4 (w9.setCell ⟨g,n,none⟩ (.bool true)) (.slice (some ⟨g,0,none⟩) (n+1) (n+1)) (bools (moreOf known n))/\w9.cell? ⟨g,n,none⟩=some (.bool false):=by
 have hsp:∀ j,(splice (List.replicate (n+1) (.bool false)) 0 (bools known))[j]? = if j<known.length then (bools known)[j]? else if j<n+1 then some (.bool false) else none:=by
  intro j
  unfold splice
  simp only[List.take_zero,List.nil_append,Nat.zero_add]
  have hl:(bools known).length=known.length:=by simp[bools]
  by_cases h:j<known.length
  ·rw[if_pos h,List.getElem?_append_left (by omega)]
  ·rw[if_neg h,List.getElem?_append_right (by omega),List.getElem?_drop,List.getElem?_replicate,hl]
   by_cases h2:j<n+1
   ·rw[if_pos h2,if_pos (by omega)]
   ·rw[if_neg h2,if_neg (by omega)]
 have hcn:w9.cell? ⟨g,n,none⟩=some (.bool false):=by rw[cell_of_heap hg,hsp,if_neg (by omega),if_pos (by omega)]
 refine ⟨Or.inr ⟨g,0,n+1, ?_, ?_,Tagged.setCell ⟨_,hg⟩ _ _, ?_⟩,hcn⟩
 ·simp[bools,moreOf_length _ _ hk]
 ·simp[bools,moreOf_length _ _ hk]
 ·intro j hj
  have hjl:j<n+1:=by simpa[bools,moreOf_length _ _ hk] using hj
  rw[Nat.zero_add]
  have he:(bools (moreOf known n))[j]=.bool ((moreOf known n)[j]'(by simpa[bools] using hj)):=by simp[bools]
  rw[he]
  by_cases h:j=n
  ·subst h
   rw[cs_same hcn]
   congr 2
   unfold moreOf
   rw[List.getElem_append_right (by simp;omega)];simp
  ·rw[cs_oth (Or.inr (by omega)),cell_of_heap hg,hsp]
   by_cases h2:j<known.length
   ·rw[if_pos h2,List.getElem?_eq_getElem (by simpa[bools] using h2)]
    congr 1
    simp only[bools,List.getElem_map]
    congr 1
    unfold moreOf
    rw[List.getElem_append_left (by simp;omega),List.getElem_append_left h2]
   ·rw[if_neg h2,if_pos hjl]
    congr 2
    unfold moreOf
    rw[List.getElem_append_left (by simp;omega),List.getElem_append_right (by omega)];simp

theorem made_bool (m:Nat):(madeCells (Value.bool false).cells m).toList=List.replicate m (.bool false):=by
 apply List.ext_getElem
 ·simp[madeCells]
 ·intro i h1 h2
  simp[madeCells,Value.cells,Nat.mod_one]

end Go.Proofs.YtfmmllpjgkgeaaaGreatDoor
namespace Go.Proofs.YtfmmllpjgkgeaaaGreatDoor
namespace Thk
open Go

theorem foldl_ge (r:Bs):∀ n,n<=r.foldl (fun n c=>10*n+dgt c) n:=by
 induction r with
 | nil=>intro n;exact Nat.le_refl _
 | cons x r ih=>intro n;simp only[List.foldl_cons];have:=ih (10*n+dgt x);omega

theorem parse_ok (M:Nat) (hM:1000000000<=M):∀ (r:Bs) (acc:Nat),r.all isDig=true->r.foldl (fun n c=>10*n+dgt c) acc<=1000000000 ->
  Lib.parseUintM M acc r=.ok (r.foldl (fun n c=>10*n+dgt c) acc):=by
 intro r
 induction r with
 | nil=>intro acc _ _;rfl
 | cons x r ih =>
  intro acc hd hf
  simp only[List.all_cons,Bool.and_eq_true] at hd
  simp only[List.foldl_cons] at hf ⊢
  have hg:=foldl_ge r (10*acc+dgt x)
  have hx:=hd.1
  unfold isDig at hx
  simp only[Bool.and_eq_true,decide_eq_true_eq] at hx
  have e:acc*10+(x.toNat-48)=10*acc+dgt x:=by unfold dgt;omega
  rw[Lib.parseUintM,if_pos hx,if_neg (by omega),e,if_neg (by omega)]
  exact ih _ hd.2 hf

theorem numv_pos (l:Bs) (h0:l≠[]) (hd:l.all isDig=true) (hh:l.head?≠some 48):1<=numv l:=by
 cases l with
 | nil=>exact absurd rfl h0
 | cons x r =>
  unfold numv
  simp only[List.foldl_cons]
  have hg:=foldl_ge r (10*0+dgt x)
  simp only[List.all_cons,Bool.and_eq_true] at hd
  have hx:=hd.1
  unfold isDig at hx
  simp only[Bool.and_eq_true,decide_eq_true_eq] at hx
  have h48:x.toNat≠48:=by
   intro h;apply hh;simp only[List.head?_cons,Option.some.injEq]
   exact UInt8.toNat_inj.1 h
  unfold dgt at hg ⊢
  omega

theorem ofNat_dgt (c:UInt8) (h:isDig c=true):UInt8.ofNat (48+dgt c)=c:=by
 unfold isDig at h
 simp only[Bool.and_eq_true,decide_eq_true_eq] at h
 apply UInt8.toNat_inj.1
 unfold dgt
 rw[show 48+(c.toNat-48)=c.toNat by omega]
 simp

theorem dgt_le (c:UInt8) (h:isDig c=true):dgt c<=9:=by
 unfold isDig at h
 simp only[Bool.and_eq_true,decide_eq_true_eq] at h
 unfold dgt;omega

theorem dec_numv:∀ (n:Nat) (l:Bs),l.length=n->l≠[]->l.all isDig=true->(l.head?≠some 48\/l.length=1)->Lib.decDigits (numv l)=l:=by
 intro n
 induction n with
 | zero=>intro l h0 h1;cases l with
  | nil=>exact absurd rfl h1
  | cons=>simp at h0
 | succ n ih =>
  intro l hl h1 hd hh
  obtain ⟨i,c,rfl⟩:∃ i c,l=i ++ [c]:=⟨l.dropLast,l.getLast h1,(List.dropLast_concat_getLast h1).symm⟩
  simp only[List.all_append,List.all_cons,List.all_nil,Bool.and_true,Bool.and_eq_true] at hd
  simp only[List.length_append,List.length_cons,List.length_nil] at hl hh
  have hc:=dgt_le c hd.2
  rw[numv_snoc]
  by_cases hi:i=[]
  ·subst hi
   have:numv []=0:=rfl
   rw[this,Lib.decDigits,dif_pos (by omega),show 48+(10*0+dgt c)=48+dgt c by omega,ofNat_dgt c hd.2];(first | done | rfl)
  ·have hil:0<i.length:=List.length_pos_iff.2 hi
   have hih:i.head?≠some 48:=by
    rcases hh with hh | hh
    ·cases i with
     | nil=>exact absurd rfl hi
     | cons=>simpa using hh
    ·omega
   have hp:=numv_pos i hi hd.1 hih
   rw[Lib.decDigits,dif_neg (by omega),show (10*numv i+dgt c) / 10=numv i by omega,show (10*numv i+dgt c) % 10=dgt c by omega,ofNat_dgt c hd.2,
    ih i (by omega) hi hd.1 (.inl hih)]

theorem dig_of (d:Nat) (h:d<10):isDig (UInt8.ofNat (48+d))=true/\dgt (UInt8.ofNat (48+d))=d:=by
 have:(UInt8.ofNat (48+d)).toNat=48+d:=by simp;omega
 unfold isDig dgt
 rw[this]
 simp;omega

theorem dec_facts (u:Nat):(Lib.decDigits u).all isDig=true/\numv (Lib.decDigits u)=u/\Lib.decDigits u≠[]/\(1<=u->(Lib.decDigits u).head?≠some 48):=by
 induction u using Nat.strongRecOn with
 | ind u ih =>
  rw[Lib.decDigits]
  by_cases h:u<10
  ·rw[dif_pos h]
   have hd:=dig_of u h
   refine ⟨by rw[List.all_cons,hd.1];rfl,by unfold numv;rw[List.foldl_cons,hd.2];simp,by simp, ?_⟩
   intro h1 h2
   simp only[List.head?_cons,Option.some.injEq] at h2
   have:=hd.2
   rw[h2] at this
   have h3:dgt 48=0:=rfl
   omega
  ·rw[dif_neg h]
   obtain ⟨h1,h2,h3,h4⟩:=ih (u / 10) (by omega)
   have hd:=dig_of (u % 10) (by omega)
   refine ⟨by rw[List.all_append,h1,List.all_cons,hd.1];rfl,by rw[numv_snoc,h2,hd.2];omega,by simp, ?_⟩
   intro _
   have h5:=h4 (by omega)
   cases hi:Lib.decDigits (u / 10) with
   | nil=>exact absurd hi h3
   | cons=>rw[hi] at h5;simpa using h5

theorem nD_le:∀ (k u:Nat),u<10 ^ (k+1)->Lib.nDigits u<=k+1:=by
 intro k
 induction k with
 | zero=>intro u h;rw[Lib.nDigits_small (by simpa using h)];omega
 | succ k ih =>
  intro u h
  by_cases h1:u<10
  ·rw[Lib.nDigits_small h1];omega
  ·rw[Lib.nDigits_big h1]
   have:=ih (u / 10) (by rw[Nat.pow_succ] at h;omega)
   omega

theorem dec_len (u:Nat) (h:u<=1000000000):(Lib.decDigits u).length<=10:=by
 rw[Lib.decDigits_length];exact nD_le 9 u (by omega)

theorem numAbs_dec (neg:Bool) (u:Nat) (h:u<=1000000000) (hn:neg=true->1<=u) :
  numAbs neg (Lib.decDigits u)=some (if neg then -(u:Int) else (u:Int)):=by
 obtain ⟨h1,h2,h3,h4⟩:=dec_facts u
 have hl:=dec_len u h
 have hl0:0<(Lib.decDigits u).length:=List.length_pos_iff.2 h3
 have hb:numBad neg (Lib.decDigits u)=false:=by
  unfold numBad
  by_cases hu:1<=u
  ·have:=h4 hu
   have e1:((Lib.decDigits u).head? == some 48)=false:=by simpa using this
   rw[e1,Bool.false_and,Bool.or_false];simp only[Bool.or_eq_false_iff,decide_eq_false_iff_not];omega
  ·have hneg:neg=false:=by cases neg <;> simp_all
   have hu0:u=0:=by omega
   subst hu0 hneg
   rw[Lib.decDigits,dif_pos (by omega)];simp
 unfold numAbs
 rw[hb,h1,h2]
 simp[h]

def progNum (l:Bs):Option Int:=match Lib.parseIntB 64 l with
 | .ok v=>if Lib.itoa v=l/\-1000000000<=v/\v<=1000000000 then some v else none
 | _=>none

theorem num_itoa (v:Int) (h1:-1000000000<=v) (h2:v<=1000000000):num (Lib.itoa v)=some v:=by
 unfold num Lib.itoa
 by_cases h:v<0
 ·rw[if_pos h]
  simp only[List.head?_cons,List.tail_cons,if_true]
  rw[numAbs_dec true v.natAbs (by omega) (by omega)]
  simp;omega
 ·rw[if_neg h]
  obtain ⟨e1,e2,e3,e4⟩:=dec_facts v.toNat
  have:(Lib.decDigits v.toNat).head?≠some 45:=by
   cases hd:Lib.decDigits v.toNat with
   | nil=>exact absurd hd e3
   | cons x r =>
    rw[hd] at e1
    simp only[List.all_cons,Bool.and_eq_true] at e1
    intro hx
    simp only[List.head?_cons,Option.some.injEq] at hx
    rw[hx] at e1
    exact absurd e1.1 (by decide)
  rw[if_neg this,numAbs_dec false v.toNat (by omega) (by simp)]
  simp;omega

theorem numAbs_inv (neg:Bool) (l:Bs) (v:Int) (h:numAbs neg l=some v) :
  l≠[]/\l.all isDig=true/\(l.head?≠some 48\/(l.length=1/\neg=false))/\numv l<=1000000000/\v=(if neg then -(numv l:Int) else (numv l:Int)):=by
 unfold numAbs at h
 split at h
 ·cases h
 ·rename_i hb
  split at h
  ·rename_i hd
   simp only[Bool.and_eq_true,decide_eq_true_eq] at hd
   simp only[Option.some.injEq] at h
   unfold numBad at hb
   simp only[Bool.or_eq_true,Bool.and_eq_true,decide_eq_true_eq,beq_iff_eq,not_or,not_and] at hb
   refine ⟨?_,hd.1, ?_,hd.2,h.symm⟩
   ·intro h0;rw[h0] at hb;simp at hb
   ·by_cases hh:l.head? = some 48
    ·right
     have:=hb.2 hh
     refine ⟨by omega,by simpa using this.2⟩
    ·exact .inl hh
  ·cases h

theorem prog_of_num (l:Bs) (v:Int) (h:num l=some v):Lib.parseIntB 64 l=.ok v/\Lib.itoa v=l/\-1000000000<=v/\v<=1000000000:=by
 unfold num at h
 split at h
 ·rename_i h45
  cases l with
  | nil=>simp at h45
  | cons x r =>
   simp only[List.head?_cons,Option.some.injEq] at h45
   subst h45
   simp only[List.tail_cons] at h
   obtain ⟨e1,e2,e3,e4,e5⟩:=numAbs_inv _ _ _ h
   have e3':r.head?≠some 48:=by rcases e3 with e3 | e3;exact e3;simp at e3
   have hp:=numv_pos r e1 e2 e3'
   have hpar:Lib.parseUintB 64 r=.ok (numv r):=by
    unfold Lib.parseUintB;rw[if_neg e1,parse_ok _ (by decide) r 0 e2 e4];(first | done | rfl)
   simp only[if_true] at e5
   refine ⟨?_, ?_,by omega,by omega⟩
   ·unfold Lib.parseIntB
    have c45:(45:UInt8).toNat=45:=rfl
    simp only[c45]
    rw[if_pos (Or.inr trivial),hpar]
    simp only[not_true,false_and,if_false,true_and]
    rw[if_neg (by omega),if_pos trivial,e5]
   ·unfold Lib.itoa
    rw[if_pos (by omega),e5,show (-(numv r:Int)).natAbs=numv r by omega,dec_numv _ r rfl e1 e2 (.inl e3')]
 ·rename_i h45
  obtain ⟨e1,e2,e3,e4,e5⟩:=numAbs_inv _ _ _ h
  have hpar:Lib.parseUintB 64 l=.ok (numv l):=by
   unfold Lib.parseUintB;rw[if_neg e1,parse_ok _ (by decide) l 0 e2 e4];(first | done | rfl)
  simp only[Bool.false_eq_true,if_false] at e5
  refine ⟨?_, ?_,by omega,by omega⟩
  ·cases l with
   | nil=>exact absurd rfl e1
   | cons x r =>
    simp only[List.all_cons,Bool.and_eq_true] at e2
    have hx:=e2.1
    unfold isDig at hx
    simp only[Bool.and_eq_true,decide_eq_true_eq] at hx
    have n45:¬(x.toNat=45):=by omega
    unfold Lib.parseIntB
    have n43:¬(x.toNat=43):=by omega
    simp only[n45,n43,or_self,if_false,hpar,not_false_eq_true,true_and,false_and]
    rw[if_neg (by omega),e5]
  ·unfold Lib.itoa
   rw[if_neg (by omega),e5,show (numv l:Int).toNat=numv l by omega,dec_numv _ l rfl e1 e2 ?_]
   rcases e3 with e3 | e3
   ·exact .inl e3
   ·exact .inr e3.1

theorem progNum_eq (l:Bs):progNum l=num l:=by
 cases hn:num l with
 | some v =>
  obtain ⟨h1,h2,h3,h4⟩:=prog_of_num l v hn
  unfold progNum;rw[h1];simp[h2,h3,h4]
 | none =>
  unfold progNum
  cases hp:Lib.parseIntB 64 l with
  | ok v =>
   simp only
   by_cases hc:Lib.itoa v=l/\-1000000000<=v/\v<=1000000000
   ·have:=num_itoa v hc.2.1 hc.2.2
    rw[hc.1,hn] at this
    cases this
   ·rw[if_neg hc]
  | range=>rfl
  | _=>rfl

end Thk
end Go.Proofs.YtfmmllpjgkgeaaaGreatDoor
namespace Go.Proofs.YtfmmllpjgkgeaaaGreatDoor
open Go.RowKit Go.Deep

def repCells (av:Value):List Value:=[.slice none 0 0,.bool false,.slice none 0 0,.slice none 0 0,.bool false,.int .i64 0,.int .i64 0,.bool false,.int .i64 0,.int .i64 0,.slice none 0 0,av,.int .i64 0]
def repFlat (avs:List Value):List Value:=avs.flatMap repCells
theorem repFlat_get:∀ (avs:List Value) (i:Nat) (h:i<avs.length) (j:Nat),j<13->(repFlat avs)[i*13+j]? = (repCells avs[i])[j]?:=by
 intro avs
 induction avs with
 | nil=>intro i h;simp at h
 | cons a r ih =>
  intro i h j hj
  have e:repFlat (a :: r)=repCells a ++ repFlat r:=rfl
  have hl:(repCells a).length=13:=rfl
  rw[e]
  cases i with
  | zero=>rw[List.getElem?_append_left (by rw[hl];omega)];simp
  | succ i =>
   rw[List.getElem?_append_right (by rw[hl];omega),hl,show (i+1)*13+j-13=i*13+j by omega]
   exact ih i (by simpa using h) j hj
theorem repFlat_snoc (avs:List Value) (av:Value):repFlat (avs ++ [av])=repFlat avs ++ repCells av:=by unfold repFlat;simp

def AvAt (w:World) (r B:Nat) (v:Value):Prop:=∃ b,∃ kl:List Int,v=.slice (some ⟨b,0,none⟩) r r/\B<=b/\kl.length=r/\SliceT 3 w v (ints kl)
def AvsAt (w:World) (r B:Nat) (avs:List Value):Prop:=∀ a∈avs,AvAt w r B a
theorem AvAt.chg {M:Nat->Prop} {w w':World} {r B:Nat} {v:Value} (h:AvAt w r B v) (hc:Chg M w w') (hM:∀ b,Tagged w b 3->¬M b):AvAt w' r B v:=by
 obtain ⟨b,kl,h1,h2,h3,h4⟩:=h
 exact ⟨b,kl,h1,h2,h3,h4.chg hc hM⟩
theorem AvAt.new (w:World) (r:Nat) (o:Obj):AvAt ((w.alloc (.cells (madeCells #[.int .i64 0] r) 3)).alloc o) r w.heap.size (.slice (some ⟨w.heap.size,0,none⟩) r r):=by
 have hm:(madeCells #[.int .i64 0] r).toList=List.replicate r (.int .i64 0):=by
  apply List.ext_getElem
  ·simp[madeCells]
  ·intro i h1 h2
   simp[madeCells,Nat.mod_one]
 have hb:((w.alloc (.cells (madeCells #[.int .i64 0] r) 3)).alloc o).heap[w.heap.size]? = some (.cells (madeCells #[.int .i64 0] r) 3 (0,0)):=(((Below.refl (w.alloc (.cells (madeCells #[.int .i64 0] r) 3)).heap.size _).alloc (Nat.le_refl _) o).block w.heap.size (by simp)).trans (heap_alloc_new w _)
 refine ⟨w.heap.size,List.replicate r 0,rfl,Nat.le_refl _,by simp,Or.inr ⟨w.heap.size,0,r,by simp[ints],by simp[ints],⟨_,hb⟩,fun j hj=>?_⟩⟩
 have hj':j<r:=by simpa[ints] using hj
 simp only[World.cell?,hb,Nat.zero_add]
 show (madeCells #[.int .i64 0] r)[j]? = _
 rw[<- Array.getElem?_toList,hm]
 simp[ints,hj']
theorem own_tag {w:World} {B n size:Nat} {e:TypeId} {v:Value} {xs:List Value} (h:w.ownsRow B e size v n xs):∀ g,v.ownBlock=some g->Tagged w g e:=by
 intro g hg
 obtain ⟨_,h1 | ⟨g',cap,cur,rfl,_,hh,_⟩⟩:=h
 ·rw[h1.1] at hg;cases hg
 ·cases hg;exact ⟨cur,hh⟩
theorem own_noint {w:World} {B n size:Nat} {e:TypeId} {v:Value} {xs:List Value} (h:w.ownsRow B e size v n xs) (he:e≠3):∀ b,Tagged w b 3->¬v.ownBlock=some b:=fun b hb hg=>Tagged.ne (own_tag h b hg) hb he rfl

theorem Tryz.infoRep:(Tryz.prog.info? 165).map (fun i=>(i.zero,i.size,i.bytes))=some (some (.agg (repCells (.slice none 0 0)).toArray),13,184):=by kernel_rfl

theorem Blk5.set1 {b:Nat} {v0 v1 v2 v3 v4:Value} {w:World} (h:Blk5 b v0 v1 v2 v3 v4 w) (u:Value) (ht:∀ j,(w.setCell ⟨b,1,none⟩ u).frozen? ⟨b,j,none⟩=false):Blk5 b v0 u v2 v3 v4 (w.setCell ⟨b,1,none⟩ u) :=
 ⟨(cs_oth (Or.inr (by omega))).trans h.c0,cs_same h.c1,(cs_oth (Or.inr (by omega))).trans h.c2,(cs_oth (Or.inr (by omega))).trans h.c3,(cs_oth (Or.inr (by omega))).trans h.c4,ht⟩

theorem fresh_ref {w:World} {c rb room r cap:Nat} {avs:List Value} (hb:Blk5 c (.int .i64 (room:Int)) (.slice (some ⟨rb,0,none⟩) r cap) (.slice none 0 0) (.int .i64 0) (.slice none 0 0) w) (ht:Tagged w c 170)
  (base:Nat) (hown:w.ownsRow base 165 13 (.slice (some ⟨rb,0,none⟩) r cap) r (repFlat avs)) (hl:avs.length=r) (hr6:r<=6) (h50:room<=50):RefAt w c rb (.slice none 0 0) (.slice none 0 0) (fun i=>avs.getD i .nilFunc) room [] 0 0 (List.replicate r []):=by
 have hcells:∀ i,i<r->∀ j,j<13->w.cell? ⟨rb,i*13+j,none⟩=(repCells (avs.getD i .nilFunc))[j]?:=by
  intro i hi j hj
  rw[hown.cellAt _ (by omega),repFlat_get avs i (by omega) j hj]
  congr 2
  rw[List.getD_eq_getElem?_getD,List.getElem?_eq_getElem (by omega)];(first | done | rfl)
 obtain ⟨hx,⟨h1,_⟩ | ⟨g,cp,cur,hv,_,hh,hcap,_⟩⟩:=hown
 ·cases h1
 ·simp only[Value.slice.injEq,Option.some.injEq,Addr.mk.injEq,true_and,and_true] at hv
  obtain ⟨rfl,rfl⟩:=hv
  refine ⟨ht,⟨cur,hh⟩,h50,by simpa using hr6,by simp,hb.c0,⟨cap,by simpa using hb.c1,by simpa using hcap⟩,hb.c2,by simpa using hb.c3,by omega,by omega,⟨[],rfl,World.ownsRow_nil _ _ _ _,fun j h=>by simp at h⟩,by simp, ?_, ?_, ?_, ?_⟩
  ·intro i hi
   have hi':i<r:=by simpa using hi
   rw[List.getElem_replicate]
   have e0:=hcells i hi' 0 (by omega)
   rw[Nat.add_zero] at e0
   exact ⟨⟨_,e0,Or.inl ⟨rfl,rfl⟩⟩,hcells i hi' 1 (by omega),hcells i hi' 7 (by omega),⟨0,hcells i hi' 9 (by omega),Nat.le_refl _⟩,⟨_,[],hcells i hi' 10 (by omega),Or.inl ⟨rfl,rfl⟩,by simp⟩,⟨0,hcells i hi' 12 (by omega),Nat.le_refl _⟩,⟨hcells i hi' 2 (by omega),hcells i hi' 3 (by omega),hcells i hi' 4 (by omega),hcells i hi' 5 (by omega),hcells i hi' 6 (by omega),hcells i hi' 8 (by omega)⟩⟩
  ·intro k hk;have:=List.eq_of_mem_replicate hk;rw[this];simp
  ·exact hb.c4
  ·intro i hi
   exact hcells i (by simpa using hi) 11 (by omega)

theorem Fresh_bad (r room:Int) (w:World) (h:r<1\/6<r\/room<0\/50<room) :
  Calls Tryz.prog 107 #[.int .i64 r,.int .i64 room] w fun e w'=>e=.returned (.pointer none)/\w'=w:=by
 have hd:(decide (r<1) || decide (6<r) || decide (room<0) || decide (50<room))=true:=by simp;omega
 go_enter Tryz.func107,Tryz.ntmps107
 go_wp2
 all_goals first | (go_ret;exact ⟨rfl,rfl⟩) | (exfalso;omega)

theorem Fresh_good (r room:Nat) (w:World) (h1:1<=r) (h6:r<=6) (h50:room<=50) :
  Calls Tryz.prog 107 #[.int .i64 (r:Int),.int .i64 (room:Int)] w fun e w'=>∃ rb avs,e=.returned (.pointer (some ⟨w.heap.size,0,none⟩))/\RefAt w' w.heap.size rb (.slice none 0 0) (.slice none 0 0) (fun i=>avs.getD i .nilFunc) room [] 0 0 (List.replicate r [])/\AvsAt w' r w.heap.size avs/\avs.length=r/\Below w.heap.size w w'/\w.heap.size<=rb:=by
 obtain ⟨iR,hiR,hzR0,hzR1,hzR2⟩:=info_parts Tryz.infoRep
 have hmk:∀ wx:World,(Instr.makeSlice 42 (.int .i64 (r:Int)) (.int .i64 (r:Int))).run Tryz.prog wx=.ok (.slice (some ⟨wx.heap.size,0,none⟩) r r) (wx.alloc (.cells (madeCells #[.int .i64 0] r) 3)):=fun wx=>run_make_row' 42 3 (.int .i64 0) 8 Tryz.underlying42 Tryz.info3 rfl .i64 .i64 r (by omega) (by omega) wx
 go_enter Tryz.func107,Tryz.ntmps107
 go_wp2
 go_loopw [6] (fun i wr=>∃ (k:Nat) (avs:List Value) (rv:Value),k<=r/\i=.int .i64 (k:Int)/\(avs.length=k/\AvsAt wr r w.heap.size avs)/\Blk5 w.heap.size (.int .i64 (room:Int)) rv (.slice none 0 0) (.int .i64 0) (.slice none 0 0) wr/\Tagged wr w.heap.size 170/\wr.ownsRow (w.heap.size+1) 165 13 rv k (repFlat avs)/\Below w.heap.size w wr/\w.heap.size+1<=wr.heap.size) (fun i _=>r-(intOf i).toNat)
 case atStart=>exact ⟨0,[],.slice none 0 0,by omega,rfl,⟨rfl,fun a h=>absurd h (by simp)⟩,blk5 (Below.refl (w.heap.size+1) _) (by omega),⟨_,heap_alloc_new w _⟩,World.ownsRow_nil _ _ _ _,(Below.refl _ _).alloc (Nat.le_refl _) _,by simp⟩
 case round =>
  obtain ⟨k,avs,rv,hk,rfl,⟨hal,hav⟩,hB5,hT,hown,hnx,hsz⟩:=hrel
  have Hav:Hid (AvsAt wr r w.heap.size avs):=hav
  clear hav
  by_cases hlt:k<r
  ·have Hown:Hid (wr.ownsRow (w.heap.size+1) 165 13 rv k (repFlat avs)):=hown
   have HB5:Hid (Blk5 w.heap.size (.int .i64 (room:Int)) rv (.slice none 0 0) (.int .i64 0) (.slice none 0 0) wr):=hB5
   have HT:Hid (Tagged wr w.heap.size 170):=hT
   have c1:=hB5.c1
   have hwl:w.heap.size<wr.heap.size:=by omega
   have c1A:∀ o,(wr.alloc o).cell? ⟨w.heap.size,1,none⟩=some rv:=fun o=>(((Below.refl _ wr).alloc (Nat.le_refl _) o).cell (p:=⟨w.heap.size,1,none⟩) hwl).trans c1
   have c1B:∀ o o',((wr.alloc o).alloc o').cell? ⟨w.heap.size,1,none⟩=some rv:=fun o o'=>((((Below.refl wr.heap.size wr).alloc (Nat.le_refl _) o).alloc (by simp) o').cell (p:=⟨w.heap.size,1,none⟩) hwl).trans c1
   have m1:Hid (k+1<=maxLen):=by unfold Hid maxLen;omega
   have m2:Hid ((k+1)*184<=140737488355328):=by unfold Hid;omega
   have hone:Hid (∀ av:Value,av.oneCell'=true->∀ u∈repCells av,u.oneCell'=true):=by
    intro av hav u hu;simp only[repCells,List.mem_cons,List.mem_nil_iff,or_false] at hu;rcases hu with rfl | rfl | rfl | rfl | rfl | rfl | rfl | rfl | rfl | rfl | rfl | rfl | rfl <;> first | rfl | exact hav
   clear hown hB5 hT
   have HAv:Hid (∀ o,AvAt ((wr.alloc (.cells (madeCells #[.int .i64 0] r) 3)).alloc o) r wr.heap.size (.slice (some ⟨wr.heap.size,0,none⟩) r r)):=fun o=>AvAt.new wr r o
   have HAvD:Hid (∀ o,AvAt ((wr.drew.alloc (.cells (madeCells #[.int .i64 0] r) 3)).alloc o) r wr.heap.size (.slice (some ⟨wr.heap.size,0,none⟩) r r)):=fun o=>AvAt.new wr.drew r o
   have hwz:Hid (w.heap.size<=wr.heap.size):=by unfold Hid;omega
   go_wp2_with fail
   go_region_law (refine step_append_own rfl (.tmp 33) (.tmp 37) 166 rfl (w.heap.size+1) 165 iR (.agg (repCells (.slice none 0 0)).toArray) 13 184 Tryz.underlying166 hiR hzR0 hzR1 hzR2 rfl (by decide) rv k (repFlat avs) rfl ?_ _ 1 1 (repCells (.slice (some ⟨wr.heap.size,0,none⟩) r r)) rfl rfl ?_ (hone.out _ rfl) m1.out m2.out ?_ ?_;(first | exact (Hown.out.alloc _).alloc _ | exact Hown.out.alloc _);(intro j u hj;match j,hj with | 0,hj=>(cases hj;simp[Addr.add]) | 1,hj=>(cases hj;simp[Addr.add]) | 2,hj=>(cases hj;simp[Addr.add]) | 3,hj=>(cases hj;simp[Addr.add]) | 4,hj=>(cases hj;simp[Addr.add]) | 5,hj=>(cases hj;simp[Addr.add]) | 6,hj=>(cases hj;simp[Addr.add]) | 7,hj=>(cases hj;simp[Addr.add]) | 8,hj=>(cases hj;simp[Addr.add]) | 9,hj=>(cases hj;simp[Addr.add]) | 10,hj=>(cases hj;simp[Addr.add]) | 11,hj=>(cases hj;simp[Addr.add]) | 12,hj=>(cases hj;simp[Addr.add]));(simp;omega);intro v6 w6 hown6 hg6;obtain ⟨g6,c6,rfl⟩:=own_some hown6 (Nat.succ_pos _);have hC6:Chg (fun x=>rv.ownBlock=some x) wr w6:=Chg.grown (Chg.of_below (by go_grown)) hg6 (fun k hk=>Or.inl hk);have hN6:AvAt w6 r wr.heap.size (.slice (some ⟨wr.heap.size,0,none⟩) r r):=AvAt.chg (by first | exact HAv.out _ | exact HAvD.out _) (Chg.grown (M:=fun x=>rv.ownBlock=some x) (Chg.refl _ _) hg6 (fun k hk=>Or.inl hk)) (own_noint (by first | exact (Hown.out.alloc _).alloc _ | exact Hown.out.alloc _) (by decide));have k1:=(World.cell?_of_block (w:=wr) (a:=⟨w.heap.size,1,none⟩) (hC6.block w.heap.size hwl (fun h=>Tagged.ne (own_tag Hown.out _ h) HT.out (by decide) rfl))).trans c1;have kf:∀ j,w6.frozen? ⟨w.heap.size,j,none⟩=false:=fun j=>(World.frozen?_of_block (w:=wr) (a:=⟨w.heap.size,j,none⟩) (hC6.block w.heap.size hwl (fun h=>Tagged.ne (own_tag Hown.out _ h) HT.out (by decide) rfl))).trans (HT.out.frozen j))
   all_goals
    go_wp2
    go_roundw
    case rel =>
     have hB6:Below (w.heap.size+1) wr w6:=⟨hC6.os,hC6.tape,hC6.output,hC6.size,fun i hi=>hC6.block i (by omega) (fun h=>by have:=(Hown.out.lt i h).1;omega)⟩
     have hT6:Tagged w6 w.heap.size 170:=by
      obtain ⟨cur,hh⟩:=HT.out
      exact ⟨cur,(hB6.block w.heap.size (by omega)).trans hh⟩
     have hB7:=(HB5.out.below hB6 (by omega)).set1 (.slice (some ⟨g6,0,none⟩) (k+1) c6) (fun j=>(hT6.setCell _ _).frozen j)
     have hn6:Below w.heap.size w (w6.setCell ⟨w.heap.size,1,none⟩ (.slice (some ⟨g6,0,none⟩) (k+1) c6)):=(hnx.trans (hB6.mono (by omega))).setCell (p:=⟨w.heap.size,1,none⟩) (Nat.le_refl _) _
     have hs7:Chg (fun x=>x=w.heap.size) w6 (w6.setCell ⟨w.heap.size,1,none⟩ (.slice (some ⟨g6,0,none⟩) (k+1) c6)):=(Chg.refl (fun x=>x=w.heap.size) w6).setCell (p:=⟨w.heap.size,1,none⟩) rfl _
     have hav7:AvsAt (w6.setCell ⟨w.heap.size,1,none⟩ (.slice (some ⟨g6,0,none⟩) (k+1) c6)) r w.heap.size (avs ++ [.slice (some ⟨wr.heap.size,0,none⟩) r r]):=by
      intro a ha
      rcases List.mem_append.1 ha with h1 | h1
      ·exact ((Hav.out a h1).chg hC6 (own_noint Hown.out (by decide))).chg hs7 (fun b hb e=>Tagged.ne hb hT6 (by decide) e)
      ·have e:a=_:=List.mem_singleton.1 h1
       rw[e]
       obtain ⟨b,kl,h2,h3,h4⟩:=hN6
       exact AvAt.chg (w:=w6) ⟨b,kl,h2,Nat.le_trans hwz.out h3,h4⟩ hs7 (fun b hb e=>Tagged.ne hb hT6 (by decide) e)
     exact ⟨k+1,avs ++ [.slice (some ⟨wr.heap.size,0,none⟩) r r],.slice (some ⟨g6,0,none⟩) (k+1) c6,by omega,by go_num,⟨by simp[hal],hav7⟩,hB7,hT6.setCell _ _,by rw[repFlat_snoc];exact ownsRow_setCell_below hown6 (by show w.heap.size<w.heap.size+1;omega) _,hn6,by have:=hB6.size;simp;omega⟩
    case measure=>simp[intOf];omega
  ·have hkr:k=r:=by omega
   subst hkr
   obtain ⟨rb,cap,rfl⟩:=own_some hown (by omega)
   have HF:Hid (_):=fresh_ref hB5 hT _ hown hal h6 h50
   have hrb:w.heap.size<=rb:=by have:=(hown.lt rb rfl).1;omega
   clear hown hB5 hT
   go_wp2
   go_ret
   exact ⟨rb,avs,rfl,HF.out,Hav.out,hal,hnx,hrb⟩

end Go.Proofs.YtfmmllpjgkgeaaaGreatDoor

