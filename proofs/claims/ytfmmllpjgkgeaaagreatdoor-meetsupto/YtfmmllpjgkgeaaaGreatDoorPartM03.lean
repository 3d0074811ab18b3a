import Derived.Deep.RegionLawGrows
import Derived.Laws.AppendOwnNone
import Derived.Laws.CopyOwn
import Derived.Lib.ParseIntB
import Derived.Deep.OwnRows
import Derived.Test.YtfmmllpjgkgeaaaGreatDoorPartM02
set_option linter.unusedVariables false
set_option linter.unusedSimpArgs false
set_option maxHeartbeats 16000000
set_option maxRecDepth 100000
namespace Go.Proofs.YtfmmllpjgkgeaaaGreatDoor
open Go.Proofs.Tryz Go.RowKit
variable{au:List (List Bool)}{known:List Bool}{es:List Ev}{xs:List Value}{B acc b c g most n rb room:Nat}{M:Nat->Prop}{av:Nat->Value}{E:Prop}{e t:TypeId}{bU fv v v0 v1 v2 v3 v4:Value}{w w':World}
abbrev kZ:Value:=.agg #[.string ⟨#[]⟩,.int .u8 0,.string ⟨#[]⟩,.int .i64 0,.slice none 0 0]
def TD(r:Nat ⊕ Thk.Ch)(e:Ending):Prop :=
 match r with
 | .inl k=>e=.returned (.tuple #[kZ,.int .i64 k])
 | .inr c=>∃p v,e=.returned (.tuple #[.agg #[.string p,.int .u8 (c.act.toNat:Int),.string v,.int .i64 c.n,.slice none 0 0],.int .i64 0])/\ah p=c.path/\ah v=c.val
structure mO(b:Nat)(v0 v1 v2 v3 v4:Value)(w:World):Prop where
 c0:w.cell? ⟨b,0,none⟩=some v0
 c1:w.cell? ⟨b,1,none⟩=some v1
 c2:w.cell? ⟨b,2,none⟩=some v2
 c3:w.cell? ⟨b,3,none⟩=some v3
 c4:w.cell? ⟨b,4,none⟩=some v4
 f:∀j,w.frozen? ⟨b,j,none⟩=false
theorem mO.below(h:mO b v0 v1 v2 v3 v4 w)(hb:Below B w w')(hB:b<B):mO b v0 v1 v2 v3 v4 w' :=
 ⟨(hb.cell (p:=⟨b,0,none⟩) hB).trans h.c0,(hb.cell (p:=⟨b,1,none⟩) hB).trans h.c1,(hb.cell (p:=⟨b,2,none⟩) hB).trans h.c2,(hb.cell (p:=⟨b,3,none⟩) hB).trans h.c3,(hb.cell (p:=⟨b,4,none⟩) hB).trans h.c4,λj=>(hb.frozen (p:=⟨b,j,none⟩) hB).trans (h.f j)⟩
theorem LX{w1:World}(hb:Below B (w.alloc (.cells #[v0,v1,v2,v3,v4] t)) w1)(hB:w.heap.size<B):mO w.heap.size v0 v1 v2 v3 v4 w1:=by have hc:∀j,w1.cell? ⟨w.heap.size,j,none⟩=_:=λj=>hb.cell (p:=⟨w.heap.size,j,none⟩) hB;have hf:∀j,w1.frozen? ⟨w.heap.size,j,none⟩=_:=λj=>hb.frozen (p:=⟨w.heap.size,j,none⟩) hB;refine⟨?_, ?_, ?_, ?_, ?_,λj=>?_⟩;all_goals first|(rw[hc];simp;done)|(rw[hf];simp;done)
theorem eu{w1:World}(h:Below B w w1)(hb:B<=b)(v0 v1 v2 v3 v4:Value):Below B w (((((w1.setCell ⟨b,0,none⟩ v0).setCell ⟨b,1,none⟩ v1).setCell ⟨b,2,none⟩ v2).setCell ⟨b,3,none⟩ v3).setCell ⟨b,4,none⟩ v4) :=
 ((((h.setCell hb _).setCell hb _).setCell hb _).setCell hb _).setCell hb _
theorem Pj(s:ByteArray)(w:World)(hs:s.size<=1048576):Calls prog 178 #[.string s] w λe w'=>TD (Thk.read (ah s)) e/\Below w.heap.size w w':=by
 go_enter func178,ntmps178;go_wp2
 go_loop [4,5] (λi _=>∃k:Nat,k<=s.size/\i=.int .i64 k/\Hid (∀j(h:j<(ah s).length),j<k->Thk.dG (ah s)[j]=false)) (λi _=>s.size-(intOf i).toNat)
 case atStart=>exact⟨0,by omega,rfl,λj _ b=>by omega⟩
 case round =>
  obtain⟨k,hk,rfl,dX⟩:=hrel;by_cases hlt:k<s.size
  ·have hl:=aB s;have hget:(ah s)[k]'(by omega)=s[k]:=jm s k hlt;cases hact:Thk.dG s[k]
   ·have Hn:Hid (∀j(h:j<(ah s).length),j<k+1->Thk.dG (ah s)[j]=false):=by
     intro j h b;by_cases e:j=k
     ·subst e;rw[hget];exact hact
     ·exact dX.out j h (by omega)
    have Ha:Hid (Thk.dG s[k]=false):=hact;clear hact dX hget hl;go_wp2_with (go_at_call 238;refine(xW _ _).mono ?_;rintro e w'⟨rfl,rfl⟩;rw[Ha.out])
    go_round
    case rel=>exact⟨k+1,by omega,by go_num,Hn⟩
    case measure=>simp[intOf];omega
   ·have KH:Hid (Thk.read (ah s)=Thk.iq (ah s) k):=Thk.LV _ k (by omega) dX.out (by rw[hget];exact hact);have Ha:Hid (Thk.dG s[k]=true):=hact;have TF:Hid ((ah s).getD k 0=s[k]):=by unfold Hid;rw[List.getD_eq_getElem?_getD,List.getElem?_eq_getElem (by omega),hget];(first|done|rfl)
    clear hact dX hget hl;go_wp2_with (go_at_call 238;refine(xW _ _).mono ?_;rintro e w'⟨rfl,rfl⟩;rw[Ha.out]);refine(EG (s.extract 0 k) _ (by simp[ByteArray.size_extract];omega)).mono ?_;rintro e w1⟨rfl,hb1⟩;have Hex:Hid (ah (s.extract 0 k)=(ah s).take k):=by unfold Hid;rw[eU];simp
    cases hp:Thk.path (ah (s.extract 0 k))
    ·have hfin:Hid (Thk.read (ah s)=.inl 4):=by rw[Hex.out]at hp;unfold Hid;rw[KH.out];unfold Thk.iq;rw[if_pos hp]
     have hB2:Below w.heap.size w w1:=((Below.refl _ _).alloc (Nat.le_refl _) _).trans (hb1.mono (by simp));obtain⟨b0,b1,b2,b3,b4,hf⟩:=LX hb1 (by simp);clear hb1;go_wp2;refine bodyPost_ret (v:=(.tuple #[kZ,.int .i64 4])) (by simp[results,Tryz.results178,go_sem,b0,b1,b2,b3,b4]) rfl ⟨?_,eu hB2 (Nat.le_refl _) _ _ _ _ _⟩;rw[hfin.out];(first|done|rfl)
    ·have hB1:Below w.heap.size w w1:=((Below.refl _ _).alloc (Nat.le_refl _) _).trans (hb1.mono (by simp));have HE:Hid (mO w.heap.size (.string ⟨#[]⟩) (.int .u8 0) (.string ⟨#[]⟩) (.int .i64 0) (.slice none 0 0) w1):=LX hb1 (by simp);have hsz:w.heap.size<w1.heap.size:=by have:=hb1.size;simp at this;omega
     clear hb1;go_wp2
     go_region
     go_wp2_with fail;have U3:Hid (∀wx:World,Calls prog 233 #[.string (s.extract 0 k)] wx λe w'=>e=.returned (.int .u8 ((Thk.kindOf (ah (s.extract 0 k))).toNat:Int))/\Below wx.heap.size wx w'):=λwx=>EF _ wx (by simp[ByteArray.size_extract];omega) hp;have Hp:Hid (_):=hp;have Hdr:Hid ((ah s).drop (k+1)=ah (s.extract (k+1) s.size)):=by unfold Hid;rw[eU,<- aB s,List.take_length]
     clear hp;go_cut [6]from 42 to 47 (λok wx=>ok=.bool (EP (Thk.kindOf (ah (s.extract 0 k))) s[k])/\Below w1.heap.size w1 wx/\mO w1.heap.size (.string (s.extract 0 k)) (.int .u8 (s[k].toNat:Int)) (.string (s.extract (k+1) s.size)) (.int .i64 0) (.slice none 0 0) wx)
     case first =>
      go_region_with (first|(go_at_call 233;refine(U3.out _).mono ?_;rintro e w2⟨rfl,hb2⟩;have hb3:Below (w1.heap.size+1) (w1.alloc (.cells #[.string (s.extract 0 k),.int .u8 (s[k].toNat:Int),.string (s.extract (k+1) s.size),.int .i64 0,.slice none 0 0] 239)) w2:=Below.trans (by go_grown) (hb2.mono (by simp));obtain⟨d0,d1,d2,d3,d4,df⟩:=LX hb3 (by omega))|(go_at_call 239;refine(fits_any _ _ _).mono ?_;rintro e w3⟨rfl,rfl⟩));all_goals
       go_wp2_with fail;go_meet;exact⟨rfl,((Below.refl _ _).alloc (Nat.le_refl _) _).trans (hb3.mono (by omega)),LX hb3 (by omega)⟩
     case rest =>
     obtain⟨rfl,hb4,hev⟩:=hcut;obtain⟨b0,b1,b2,b3,b4,bf⟩:=HE.out.below hb4 hsz;obtain⟨d0,d1,d2,d3,d4,df⟩:=hev;have hB2:Below w.heap.size w wc:=hB1.trans (hb4.mono (by omega));clear hb4 HE U3 hB1;cases hft:EP (Thk.kindOf (ah (s.extract 0 k))) s[k]
     ·have hfin:Hid (Thk.read (ah s)=.inl 6):=by unfold Hid;rw[KH.out];unfold Thk.iq;rw[if_neg (by rw[<- Hex.out,Hp.out];simp),if_pos (by rw[TF.out,<- Hex.out];exact hft)]
      clear hft;go_wp2;refine bodyPost_ret (v:=(.tuple #[kZ,.int .i64 6])) (by simp[results,Tryz.results178,go_sem,b0,b1,b2,b3,b4]) rfl ⟨?_,eu hB2 (Nat.le_refl _) _ _ _ _ _⟩;rw[hfin.out];(first|done|rfl)
     ·have Hop:Hid (Thk.read (ah s)=Thk.operand (ah (s.extract 0 k)) s[k] (ah (s.extract (k+1) s.size))):=by unfold Hid;rw[KH.out];unfold Thk.iq;rw[if_neg (by rw[<- Hex.out,Hp.out];simp),if_neg (by rw[TF.out,<- Hex.out];unfold EP at hft;unfold Thk.fits;rw[hft];simp),TF.out,Hex.out,Hdr.out]
      clear hft KH TF Hex Hdr;have hne:w.heap.size≠w1.heap.size:=by omega
      cases h43:((s[k].toNat:Int)==43)
      ·cases h45:((s[k].toNat:Int)==45)
       ·cases h61:((s[k].toNat:Int)==61)
        ·cases XT:((s[k].toNat:Int)==62)
         ·have hc3:¬(s[k].toNat=43\/s[k].toNat=45\/s[k].toNat=61)/\¬s[k].toNat=62:=by simp only[beq_eq_false_iff_ne]at *;omega
          cases hv:(s.extract (k+1) s.size).toList.isEmpty
          ·have hfin:Hid (Thk.read (ah s)=.inl 5):=by unfold Hid;rw[Hop.out];unfold Thk.operand;rw[if_neg hc3.1,if_neg hc3.2,if_neg (by rw[toList_eq]at hv;simp only[ah];intro h;rw[h]at hv;cases hv)]
           clear hc3 Hop;go_wp2;refine bodyPost_ret (v:=(.tuple #[kZ,.int .i64 5])) (by simp[results,Tryz.results178,go_sem,b0,b1,b2,b3,b4]) rfl ⟨?_,eu hB2 (Nat.le_refl _) _ _ _ _ _⟩;rw[hfin.out];(first|done|rfl)
          ·have hfin:Hid (Thk.read (ah s)=.inr ⟨ah (s.extract 0 k),s[k],ah (s.extract (k+1) s.size),0⟩):=by unfold Hid;rw[Hop.out];unfold Thk.operand;rw[if_neg hc3.1,if_neg hc3.2,if_pos (by rw[toList_eq]at hv;exact List.isEmpty_iff.1 hv)]
           clear hc3 Hop;go_wp2;refine bodyPost_ret (v:=(.tuple #[.agg #[.string (s.extract 0 k),.int .u8 (s[k].toNat:Int),.string (s.extract (k+1) s.size),.int .i64 0,.slice none 0 0],.int .i64 0])) (by simp[results,Tryz.results178,go_sem,b0,b1,b2,b3,b4]) rfl ⟨?_,eu hB2 (Nat.le_refl _) _ _ _ _ _⟩;rw[hfin.out];exact⟨_,_,rfl,rfl,rfl⟩
         ·have hc3:s[k].toNat=62:=by simp only[beq_iff_eq]at XT;omega
          have TG:Hid (Thk.read (ah s)=match Thk.num (ah (s.extract (k+1) s.size)) with|some n=>.inr ⟨ah (s.extract 0 k),s[k],ah (s.extract (k+1) s.size),n⟩|none=>.inl 5):=by unfold Hid;rw[Hop.out];unfold Thk.operand;rw[if_neg (by omega),if_pos hc3];(first|done|rfl)
          clear hc3 Hop;go_wp2_with fail;refine(IQ _ _ (by simp[ByteArray.size_extract];omega)).mono ?_;rintro e w'⟨⟨m,rfl,hm⟩,rfl⟩;cases hn:Thk.num (ah (s.extract (k+1) s.size)) with
          | none =>
           have hfin:Hid (Thk.read (ah s)=.inl 5):=by unfold Hid;rw[TG.out,hn]
           clear hm hn TG;go_wp2;refine bodyPost_ret (v:=.tuple #[kZ,.int .i64 5]) (by simp[results,Tryz.results178,go_sem,b0,b1,b2,b3,b4,hne,hne.symm]) rfl ⟨?_,eu (hB2.setCell (by show w.heap.size<=w1.heap.size;omega) _) (Nat.le_refl _) _ _ _ _ _⟩;rw[hfin.out];(first|done|rfl)
          | some n =>
           have hfin:Hid (Thk.read (ah s)=.inr ⟨ah (s.extract 0 k),s[k],ah (s.extract (k+1) s.size),m⟩):=by unfold Hid;rw[TG.out,hn,hm n hn]
           clear hm hn TG;go_wp2;refine bodyPost_ret (v:=(.tuple #[.agg #[.string (s.extract 0 k),.int .u8 (s[k].toNat:Int),.string (s.extract (k+1) s.size),.int .i64 m,.slice none 0 0],.int .i64 0])) (by simp[results,Tryz.results178,go_sem,b0,b1,b2,b3,b4,hne,hne.symm]) rfl ⟨?_,eu (hB2.setCell (by show w.heap.size<=w1.heap.size;omega) _) (Nat.le_refl _) _ _ _ _ _⟩;rw[hfin.out];exact⟨_,_,rfl,rfl,rfl⟩
        ·have hc3:s[k].toNat=43\/s[k].toNat=45\/s[k].toNat=61:=by simp only[beq_iff_eq,beq_eq_false_iff_ne]at *;omega
         cases hv:Thk.val (s.extract (k+1) s.size).data.toList
         ·have hfin:Hid (Thk.read (ah s)=.inl 5):=by unfold Hid;rw[Hop.out];unfold Thk.operand;rw[if_pos hc3,(show Thk.val (ah (s.extract (k+1) s.size))=_ from hv)];(first|done|rfl)
          have Hv:Hid (_):=hv;clear hv hc3;go_wp2_with (go_at_call 240;refine(kV _ _ (by simp[ByteArray.size_extract];omega)).mono ?_;rintro e w'⟨rfl,rfl⟩;rw[Hv.out]);refine bodyPost_ret (v:=(.tuple #[kZ,.int .i64 5])) (by simp[results,Tryz.results178,go_sem,b0,b1,b2,b3,b4]) rfl ⟨?_,eu hB2 (Nat.le_refl _) _ _ _ _ _⟩;rw[hfin.out];(first|done|rfl)
         ·have hfin:Hid (Thk.read (ah s)=.inr ⟨ah (s.extract 0 k),s[k],ah (s.extract (k+1) s.size),0⟩):=by unfold Hid;rw[Hop.out];unfold Thk.operand;rw[if_pos hc3,(show Thk.val (ah (s.extract (k+1) s.size))=_ from hv)];(first|done|rfl)
          have Hv:Hid (_):=hv;clear hv hc3;go_wp2_with (go_at_call 240;refine(kV _ _ (by simp[ByteArray.size_extract];omega)).mono ?_;rintro e w'⟨rfl,rfl⟩;rw[Hv.out]);refine bodyPost_ret (v:=(.tuple #[.agg #[.string (s.extract 0 k),.int .u8 (s[k].toNat:Int),.string (s.extract (k+1) s.size),.int .i64 0,.slice none 0 0],.int .i64 0])) (by simp[results,Tryz.results178,go_sem,b0,b1,b2,b3,b4]) rfl ⟨?_,eu hB2 (Nat.le_refl _) _ _ _ _ _⟩;rw[hfin.out];exact⟨_,_,rfl,rfl,rfl⟩
       ·have hc3:s[k].toNat=43\/s[k].toNat=45\/s[k].toNat=61:=by simp only[beq_iff_eq,beq_eq_false_iff_ne]at *;omega
        cases hv:Thk.val (s.extract (k+1) s.size).data.toList
        ·have hfin:Hid (Thk.read (ah s)=.inl 5):=by unfold Hid;rw[Hop.out];unfold Thk.operand;rw[if_pos hc3,(show Thk.val (ah (s.extract (k+1) s.size))=_ from hv)];(first|done|rfl)
         have Hv:Hid (_):=hv;clear hv hc3;go_wp2_with (go_at_call 240;refine(kV _ _ (by simp[ByteArray.size_extract];omega)).mono ?_;rintro e w'⟨rfl,rfl⟩;rw[Hv.out]);refine bodyPost_ret (v:=(.tuple #[kZ,.int .i64 5])) (by simp[results,Tryz.results178,go_sem,b0,b1,b2,b3,b4]) rfl ⟨?_,eu hB2 (Nat.le_refl _) _ _ _ _ _⟩;rw[hfin.out];(first|done|rfl)
        ·have hfin:Hid (Thk.read (ah s)=.inr ⟨ah (s.extract 0 k),s[k],ah (s.extract (k+1) s.size),0⟩):=by unfold Hid;rw[Hop.out];unfold Thk.operand;rw[if_pos hc3,(show Thk.val (ah (s.extract (k+1) s.size))=_ from hv)];(first|done|rfl)
         have Hv:Hid (_):=hv;clear hv hc3;go_wp2_with (go_at_call 240;refine(kV _ _ (by simp[ByteArray.size_extract];omega)).mono ?_;rintro e w'⟨rfl,rfl⟩;rw[Hv.out]);refine bodyPost_ret (v:=(.tuple #[.agg #[.string (s.extract 0 k),.int .u8 (s[k].toNat:Int),.string (s.extract (k+1) s.size),.int .i64 0,.slice none 0 0],.int .i64 0])) (by simp[results,Tryz.results178,go_sem,b0,b1,b2,b3,b4]) rfl ⟨?_,eu hB2 (Nat.le_refl _) _ _ _ _ _⟩;rw[hfin.out];exact⟨_,_,rfl,rfl,rfl⟩
      ·have hc3:s[k].toNat=43\/s[k].toNat=45\/s[k].toNat=61:=by simp only[beq_iff_eq,beq_eq_false_iff_ne]at *;omega
       cases hv:Thk.val (s.extract (k+1) s.size).data.toList
       ·have hfin:Hid (Thk.read (ah s)=.inl 5):=by unfold Hid;rw[Hop.out];unfold Thk.operand;rw[if_pos hc3,(show Thk.val (ah (s.extract (k+1) s.size))=_ from hv)];(first|done|rfl)
        have Hv:Hid (_):=hv;clear hv hc3;go_wp2_with (go_at_call 240;refine(kV _ _ (by simp[ByteArray.size_extract];omega)).mono ?_;rintro e w'⟨rfl,rfl⟩;rw[Hv.out]);refine bodyPost_ret (v:=(.tuple #[kZ,.int .i64 5])) (by simp[results,Tryz.results178,go_sem,b0,b1,b2,b3,b4]) rfl ⟨?_,eu hB2 (Nat.le_refl _) _ _ _ _ _⟩;rw[hfin.out];(first|done|rfl)
       ·have hfin:Hid (Thk.read (ah s)=.inr ⟨ah (s.extract 0 k),s[k],ah (s.extract (k+1) s.size),0⟩):=by unfold Hid;rw[Hop.out];unfold Thk.operand;rw[if_pos hc3,(show Thk.val (ah (s.extract (k+1) s.size))=_ from hv)];(first|done|rfl)
        have Hv:Hid (_):=hv;clear hv hc3;go_wp2_with (go_at_call 240;refine(kV _ _ (by simp[ByteArray.size_extract];omega)).mono ?_;rintro e w'⟨rfl,rfl⟩;rw[Hv.out]);refine bodyPost_ret (v:=(.tuple #[.agg #[.string (s.extract 0 k),.int .u8 (s[k].toNat:Int),.string (s.extract (k+1) s.size),.int .i64 0,.slice none 0 0],.int .i64 0])) (by simp[results,Tryz.results178,go_sem,b0,b1,b2,b3,b4]) rfl ⟨?_,eu hB2 (Nat.le_refl _) _ _ _ _ _⟩;rw[hfin.out];exact⟨_,_,rfl,rfl,rfl⟩
  ·have hfin:Hid (Thk.read (ah s)=.inl 4):=Thk.LU _ (λj hj=>dX.out j hj (by rw[aB]at hj;omega));clear dX;go_wp2
   go_returns
   refine⟨by rw[hfin.out];rfl,by go_grown⟩
theorem C9(e:Ev)(es:List Ev)(v:Value)(vs:List Value):fC (e::es) (v::vs)=[.string e.p,.int .u8 (e.a.toNat:Int),.string e.v,.int .i64 e.n,v]++fC es vs:=rfl
theorem ER:∀(es:List Ev)(jH:List Value),jH.length=es.length->∀j(h:j<es.length)(h':j<jH.length),(fC es jH)[j*5]?=some (.string es[j].p)/\(fC es jH)[j*5+1]?=some (.int .u8 (es[j].a.toNat:Int))/\(fC es jH)[j*5+2]?=some (.string es[j].v)/\(fC es jH)[j*5+3]?=some (.int .i64 es[j].n)/\(fC es jH)[j*5+4]?=some jH[j]:=by
 intro es;induction es with
 | nil=>intro jH _ j h;simp at h
 | cons e es ih =>
  intro jH hl j h h';cases jH with
  | nil=>simp at hl
  | cons v vs =>
   rw[C9];cases j with
   | zero=>simp
   | succ j =>
    have hl':vs.length=es.length:=by simpa using hl
    obtain⟨a,b,c,d,f⟩:=ih vs hl' j (by simpa using h) (by simpa using h');have s:∀i,([.string e.p,.int .u8 (e.a.toNat:Int),.string e.v,.int .i64 e.n,v]++fC es vs)[(j+1)*5+i]?=(fC es vs)[j*5+i]?:=by intro i;rw[List.getElem?_append_right (by simp;omega)];congr 1;simp;omega
    have s0:=s 0;simp only[Nat.add_zero]at s0;exact⟨s0.trans a,(s 1).trans b,(s 2).trans c,(s 3).trans d,(s 4).trans f⟩
theorem Dc:∀(es:List Ev)(jH:List Value),jH.length=es.length->∀e v,fC (es++[e]) (jH++[v])=fC es jH++[.string e.p,.int .u8 (e.a.toNat:Int),.string e.v,.int .i64 e.n,v]:=by intro es jH hl e v;unfold fC;rw[List.zip_append hl.symm,List.flatMap_append];(first|done|rfl)
theorem bC.U4(h:bC w c rb bU fv av room es acc most au):oU w.heap.size w bU es:=by
 obtain⟨jH,hl,hown,hsv⟩:=h.evs;have h0:=hown;obtain⟨hx,h1|⟨g,cap,cur,rfl,hg,hh,hc,hm,hs,hcur⟩⟩:=hown
 ·left;exact⟨h1.1,List.eq_nil_of_length_eq_zero h1.2⟩
 ·right;refine⟨g,0,cap,rfl,hc,(h0.lt g rfl).2,λj hj=>?_⟩;obtain⟨a,b,c,d,f⟩:=ER es jH hl j hj (by omega);have hcell:∀i,i<5->w.cell? ⟨g,0+j*5+i,none⟩=(fC es jH)[j*5+i]?:=λi hi=>by rw[Nat.zero_add];exact h0.cellAt (j*5+i) (by omega)
  have hc0:=hcell 0 (by omega);simp only[Nat.add_zero]at hc0;exact⟨jH[j]'(by omega),hc0.trans a,(hcell 1 (by omega)).trans b,(hcell 2 (by omega)).trans c,(hcell 3 (by omega)).trans d,(hcell 4 (by omega)).trans f,(hsv j (by omega) hj).CY⟩
theorem Bg(bU:Value)(es:List Ev)(kv:Value)(known:List Bool)(w:World)(hn:es.length<=1000)(hkn:known.length<=1000)(hev:oU w.heap.size w bU es)(hkv:dA w.heap.size w kv (bools known))(hz:∀e∈es,LM e):Calls prog 173 #[bU,kv] w λe w'=>∃v,e=.returned v/\w'.ownsRow w.heap.size 3 1 v (aX es known es.length).length (rY (aX es known es.length))/\Below w.heap.size w w':=by
 have hev0:=hev;rcases hev with⟨rfl,rfl⟩|⟨b,off,cap,rfl,hcap,hb,hc⟩
 ·clear hz hkv hev0;go_enter func173,ntmps173;go_wp2
  go_rounds 1
  go_ret;exact⟨_,rfl,World.ownsRow_nil _ _ _ _,Below.refl _ _⟩
 ·exact II w.heap.size b off cap es kv known w (Nat.le_refl _) hcap hn hkn hev0 hkv (λe he=>⟨by have:=(hz e he).p;omega,(hz e he).s⟩)
theorem oU.mono{B':Nat}(h:oU B w v es)(hB:B<=B'):oU B' w v es:=by
 rcases h with h|⟨b,off,cap,h1,h2,h3,h4⟩
 ·exact Or.inl h
 ·refine Or.inr ⟨b,off,cap,h1,h2,by omega,λj hj=>?_⟩;obtain⟨sv,c0,c1,c2,c3,c4,c5⟩:=h4 j hj;exact⟨sv,c0,c1,c2,c3,c4,c5.mono hB⟩
theorem IU(es:List Ev)(known:List Bool)(n:Nat):∀j∈aX es known n,j<n:=by intro j hj;unfold aX at hj;have:=(List.mem_filter.1 hj).1;simpa using this
theorem IV(w:World)(c rb:Nat)(bU fv:Value)(av:Nat->Value)(room:Nat)(es:List Ev)(acc most:Nat)(au:List (List Bool))(h:bC w c rb bU fv av room es acc most au)(i:Int)(path:ByteArray)(hps:path.size<=1048576):Calls prog 110 #[.pointer (some ⟨c,0,none⟩),.int .i64 i,.string path] w λe w' => ∃t,e=.returned (.tuple #[.string t,.int .i64 (jg es au i (ah path)).2])/\ah t=(jg es au i (ah path)).1/\Below w.heap.size w w':=by
 have H:Hid (bC w c rb bU fv av room es acc most au):=h;by_cases hi:0<=i/\i<au.length
 ·obtain⟨k,rfl⟩:=Int.eq_ofNat_of_zero_le hi.1;have hk:k<au.length:=by omega
  have Pm:Hid (jg es au (k:Int) (ah path)=if Thk.path (ah path) then(vX es (aX es au[k] es.length) (ah path),0) else([],4)):=by unfold Hid jg;rw[if_pos hi];simp[List.getElem?_eq_getElem hk]
  obtain⟨cap,f1,hcap⟩:=h.f1;have f2:=h.f2;obtain⟨kv,c0,hkv⟩:=(h.oW k hk).c0;have h6:=h.n6;have Hkv:Hid (aF 4 w kv (bools au[k])):=hkv;have hck:=h.tc.lt;have hrb:=h.ng.lt;have Yt:Hid (oU w.heap.size w bU es):=h.U4;have Ai:Hid (∀e∈es,LM e):=h.ok;have KI:=h.nD;have hkl:=h.kn _ (List.getElem_mem hk);clear hkv h;generalize au[k]=kn at *;go_enter func110,ntmps110;go_wp2_with fail;refine(nG w c rb bU fv av room es acc most au H.out (k:Int)).mono ?_;rintro e w1⟨rfl,hw1⟩;subst hw1;rw[if_pos hi];go_wp2_with fail;refine(EG path _ hps).mono ?_;rintro e w2⟨rfl,hb2⟩;cases hp:Thk.path (ah path)
  ·have Ha:Hid (jg es au (k:Int) (ah path)=([],4)):=by unfold Hid;rw[Pm.out,hp];(first|done|rfl)
   clear hp;go_wp2;go_ret2;exact⟨ByteArray.empty,by rw[Ha.out];rfl,by rw[Ha.out];rfl,hb2⟩
  ·have Ha:Hid (jg es au (k:Int) (ah path)=(vX es (aX es kn es.length) (ah path),0)):=by unfold Hid;rw[Pm.out,hp];(first|done|rfl)
   have Hp:Hid (Thk.path (ah path)=true):=hp;have g1:=(hb2.cell (p:=⟨c,1,none⟩) hck).trans f1;have g2:=(hb2.cell (p:=⟨c,2,none⟩) hck).trans f2;have g0:=(hb2.cell (p:=⟨rb,k*13,none⟩) hrb).trans c0;clear hp f1 f2 c0;go_wp2_with fail;have O4:Hid (∀wx:World,Below w2.heap.size w2 wx->Calls prog 173 #[bU,kv] wx λe w'=>∃v,e=.returned v/\w'.ownsRow wx.heap.size 3 1 v (aX es kn es.length).length (rY (aX es kn es.length))/\Below wx.heap.size wx w'):=by intro wx hwx;have hb3:Below w1.heap.size w1 wx:=hb2.trans (hwx.mono hb2.size);exact Bg bU es kv kn wx (by omega) (by omega) ((Yt.out.below hb3).mono hb3.size) ((Hkv.out.CY.below hb3).mono hb3.size) Ai.out
   go_cut [10]from 21 to 33 (λal wx=>aF 3 wx al (rY (aX es kn es.length))/\Below w2.heap.size w2 wx);case first =>
    go_region_with (go_at_call 173;refine(O4.out _ ?_).mono ?_;(go_grown);rintro e w3⟨v3,rfl,hown3,hb3⟩);all_goals
     go_wp2_with fail;go_meet;exact⟨jG hown3,Below.trans (by go_grown) (hb3.mono (by simp))⟩
   case rest =>
   obtain⟨hal,hb4⟩:=hcut;have hb5:Below w1.heap.size w1 wc:=hb2.trans (hb4.mono hb2.size);have k2:=(hb4.cell (p:=⟨c,2,none⟩) (Nat.lt_of_lt_of_le hck hb2.size)).trans g2;have HT:Hid (_):=O6 wc.heap.size bU es _ (aX es kn es.length) path wc (Nat.le_refl _) (by omega) ((Yt.out.below hb5).mono hb5.size) hal.CY (IU _ _ _) (by have:=su es kn es.length;omega) Ai.out hps Hp.out;clear g0 g1 g2 hal O4;go_wp2_with fail;refine Calls.mono HT.out ?_;rintro e w6⟨t,rfl,ht,hb6⟩;go_wp2;go_ret2;exact⟨t,by rw[Ha.out];rfl,by rw[Ha.out];exact ht,hb5.trans (hb6.mono hb5.size)⟩
 ·have Pm:Hid (jg es au i (ah path)=([],2)):=by unfold Hid jg;rw[if_neg hi]
  clear h;go_enter func110,ntmps110;go_wp2_with fail;refine(nG w c rb bU fv av room es acc most au H.out i).mono ?_;rintro e w1⟨rfl,hw1⟩;subst hw1;rw[if_neg hi];go_wp2;go_ret2;exact⟨ByteArray.empty,by rw[Pm.out];rfl,by rw[Pm.out];rfl,Below.refl _ _⟩
theorem iY{P:Program}{ops:Array Oper}{o:Oper}{a:Act}{K:Act->World->Prop}{Q:Exit->Act->World->Prop}(hg:o.guard=none)(s x:Operand)(t:TypeId)(hop:o.op=Op.call { callee:=Callee.builtin Builtin.append,args:=#[s,x],argTypes:=#[t,t] })(base:Nat)(e:TypeId)(i:TypeInfo)(z:Value)(size bytes:Nat)(h1:P.underlying t=some (.slice e))(h2:P.info? e=some i)(h3:i.zero=some z)(h4:i.size=size)(h5:i.bytes=bytes)(h6:z.cells.size=size)(h7:0<size)(v:Value)(n:Nat)(xs:List Value)(hs:a.eval s=v)(hown:w.ownsRow base e size v n xs)(ad:Addr)(m c:Nat)(news:List Value)(hx:a.eval x=.slice (some ad) m c)(hn:news.length=m*size)(hc:∀j u,news[j]?=some u->w.cell? (ad.add j)=some u)(h1c:∀u∈news,u.oneCell'=true)(b1:n+m<=maxLen)(b2:(n+m)*bytes<=140737488355328)(hbase:base<=w.heap.size)(hK:∀v' w',w'.ownsRow base e size v' (n+m) (xs++news)->w.grownBy w' v.ownBlock->K (a.put o.dst v') w'):if Region.wanted o (yielded ops a.tmps)=true then Oper.wp P o a w K Q else E:=by
 have hw:Region.wanted o (yielded ops a.tmps)=true:=by simp[Region.wanted,hg]
 rw[if_pos hw];obtain⟨v',w',hrun,r1,r2,_⟩:=run_append_own (P:=P) w base t o.type e i z size bytes h1 h2 h3 h4 h5 h6 h7 v n xs hown ad m c news hn hc h1c b1 b2 hbase;unfold Oper.wp;simp[execOp,hop,resolve,invoke,builtin,hs,hx,hrun,Result.andThen];exact hK v' w' r1 r2
theorem o9{P:Program}{ops:Array Oper}{o:Oper}{a:Act}{K:Act->World->Prop}{Q:Exit->Act->World->Prop}(hg:o.guard=none)(s x:Operand)(t:TypeId)(hop:o.op=Op.call { callee:=Callee.builtin Builtin.append,args:=#[s,x],argTypes:=#[t,t] })(base:Nat)(e:TypeId)(i:TypeInfo)(size:Nat)(h1:P.underlying t=some (.slice e))(h2:P.info? e=some i)(v:Value)(n:Nat)(xs:List Value)(hs:a.eval s=v)(hown:w.ownsRow base e size v n xs)(hx:a.eval x=.slice none 0 0)(hK:K (a.put o.dst v) w):if Region.wanted o (yielded ops a.tmps)=true then Oper.wp P o a w K Q else E:=by
 have hw:Region.wanted o (yielded ops a.tmps)=true:=by simp[Region.wanted,hg]
 rw[if_pos hw];have hrun:=run_append_owned_none (P:=P) (w:=w) base t o.type e i size h1 h2 v n xs hown;unfold Oper.wp;simp[execOp,hop,resolve,invoke,builtin,hs,hx,hrun,Result.andThen];exact hK
theorem oD{P:Program}{ops:Array Oper}{o:Oper}{a:Act}{K:Act->World->Prop}{Q:Exit->Act->World->Prop}(hg:o.guard=none)(s x:Operand)(t:TypeId)(hop:o.op=Op.call { callee:=Callee.builtin Builtin.append,args:=#[s,x],argTypes:=#[t,t] })(base:Nat)(e:TypeId)(i:TypeInfo)(z:Value)(size bytes:Nat)(h1:P.underlying t=some (.slice e))(h2:P.info? e=some i)(h3:i.zero=some z)(h4:i.size=size)(h5:i.bytes=bytes)(h6:z.cells.size=size)(h7:0<size)(v:Value)(n:Nat)(xs:List Value)(hs:a.eval s=v)(hown:w.ownsRow base e size v n xs)(ad:Addr)(m c:Nat)(news:List Value)(hx:a.eval x=.slice (some ad) m c)(hn:news.length=m*size)(hc:∀j u,news[j]?=some u->w.cell? (ad.add j)=some u)(h1c:∀u∈news,u.oneCell'=true)(b1:n+m<=maxLen)(b2:(n+m)*bytes<=140737488355328)(hpos:0<n+m)(W0:World)(hW:Below base W0 w)(hbase:base<=W0.heap.size)(hK:∀g cap w',w'.ownsRow base e size (.slice (some ⟨g,0,none⟩) (n+m) cap) (n+m) (xs++news)->Below base W0 w'->K (a.put o.dst (.slice (some ⟨g,0,none⟩) (n+m) cap)) w'):if Region.wanted o (yielded ops a.tmps)=true then Oper.wp P o a w K Q else E:=by
 have hb2:base<=w.heap.size:=Nat.le_trans hbase hW.size;refine iY hg s x t hop base e i z size bytes h1 h2 h3 h4 h5 h6 h7 v n xs hs hown ad m c news hx hn hc h1c b1 b2 hb2 ?_;intro v' w' ho hgr;have ho2:=ho;obtain⟨_,h|⟨g,cap,cur,rfl,_⟩⟩:=ho2
 ·omega
 ·exact hK g cap w' ho (hW.grown hgr hb2 (λk hk=>(hown.lt k hk).1))
theorem tK{P:Program}{ops:Array Oper}{o:Oper}{a:Act}{K:Act->World->Prop}{Q:Exit->Act->World->Prop}(hg:o.guard=none)(s x:Operand)(t:TypeId)(hop:o.op=Op.call { callee:=Callee.builtin Builtin.append,args:=#[s,x],argTypes:=#[t,t] })(base:Nat)(e:TypeId)(i:TypeInfo)(z:Value)(size bytes:Nat)(h1:P.underlying t=some (.slice e))(h2:P.info? e=some i)(h3:i.zero=some z)(h4:i.size=size)(h5:i.bytes=bytes)(h6:z.cells.size=size)(h7:0<size)(v:Value)(n:Nat)(xs:List Value)(hs:a.eval s=v)(hown:w.ownsRow base e size v n xs)(ad:Addr)(m c:Nat)(news:List Value)(hx:a.eval x=.slice (some ad) m c)(hn:news.length=m*size)(h1c:∀u∈news,u.oneCell'=true)(b1:n+m<=maxLen)(b2:(n+m)*bytes<=140737488355328)(W0:World)(hW:Below base W0 w)(hbase:base<=W0.heap.size)(hc:∀wx,Below base W0 wx->∀j u,news[j]?=some u->wx.cell? (ad.add j)=some u)(hK:∀v' w',w'.ownsRow base e size v' (n+m) (xs++news)->Below base W0 w'->w.heap.size<=w'.heap.size->(∀b o,b<w.heap.size->v.ownBlock≠some b->w'.cell? ⟨b,o,none⟩=w.cell? ⟨b,o,none⟩)->K (a.put o.dst v') w'):if Region.wanted o (yielded ops a.tmps)=true then Oper.wp P o a w K Q else E:=by have hb2:base<=w.heap.size:=Nat.le_trans hbase hW.size;refine iY hg s x t hop base e i z size bytes h1 h2 h3 h4 h5 h6 h7 v n xs hs hown ad m c news hx hn (hc w hW) h1c b1 b2 hb2 ?_;intro v' w' ho hgr;exact hK v' w' ho (hW.grown hgr hb2 (λk hk=>(hown.lt k hk).1)) hgr.size (λb o hb hne=>World.cell?_of_block (w:=w) (hgr.block b hb (λe=>hne e.symm)))
theorem ownsRow_base{base base':Nat}{size:Nat}(h:w.ownsRow base e size v n xs)(hb:base'<=base):w.ownsRow base' e size v n xs:=by
 obtain⟨h1,h2|⟨g,cap,cur,hv,hg,r⟩⟩:=h
 ·exact⟨h1,Or.inl h2⟩
 ·exact⟨h1,Or.inr ⟨g,cap,cur,hv,Nat.le_trans hb hg,r⟩⟩
theorem fG{P:Program}{ops:Array Oper}{o:Oper}{a:Act}{K:Act->World->Prop}{Q:Exit->Act->World->Prop}(hg:o.guard=none)(s x:Operand)(t:TypeId)(hop:o.op=Op.call { callee:=Callee.builtin Builtin.append,args:=#[s,x],argTypes:=#[t,t] })(e:TypeId)(i:TypeInfo)(z:Value)(size bytes:Nat)(h1:P.underlying t=some (.slice e))(h2:P.info? e=some i)(h3:i.zero=some z)(h4:i.size=size)(h5:i.bytes=bytes)(h6:z.cells.size=size)(h7:0<size)(v:Value)(n:Nat)(xs:List Value)(hs:a.eval s=v)(hown:w.ownsRow 0 e size v n xs)(ad:Addr)(m c:Nat)(news:List Value)(hx:a.eval x=.slice (some ad) m c)(hn:news.length=m*size)(hc:∀j u,news[j]?=some u->w.cell? (ad.add j)=some u)(h1c:∀u∈news,u.oneCell'=true)(b1:n+m<=maxLen)(b2:(n+m)*bytes<=140737488355328)(hpos:0<n+m)(hK:∀g cap w',w'.ownsRow 0 e size (.slice (some ⟨g,0,none⟩) (n+m) cap) (n+m) (xs++news)->w.grownBy w' v.ownBlock->(v.ownBlock=some g\/w.heap.size<=g)->K (a.put o.dst (.slice (some ⟨g,0,none⟩) (n+m) cap)) w'):if Region.wanted o (yielded ops a.tmps)=true then Oper.wp P o a w K Q else E:=by
 have wide:∀w',w.grownBy w' none->w.grownBy w' v.ownBlock:=λw' h=>⟨h.os,h.tape,h.output,h.size,λk hk _=>h.block k hk (by simp)⟩;have fin:∀v' w',w'.ownsRow w.heap.size e size v' (n+m) (xs++news)->w.grownBy w' none->K (a.put o.dst v') w':=by
  intro v' w' ho hgr;have ho2:=ho;obtain⟨_,h|⟨g,cap,cur,rfl,hgb,_⟩⟩:=ho2
  ·omega
  ·exact hK g cap w' (ownsRow_base ho (Nat.zero_le _)) (wide w' hgr) (Or.inr hgb)
 have ho:=hown;obtain⟨hx1,⟨hv,hn0⟩|⟨g,cap,cur,hv,hgb,hh,hnc,hcm,hcs,htk⟩⟩:=ho
 ·subst hv;subst hn0;have hxs:xs=[]:=List.eq_nil_of_length_eq_zero (by rw[hx1];simp);subst hxs;exact step_append_grows hg s x t hop e i z size bytes h1 h2 h3 h4 h5 h6 h7 none 0 0 [] hs (λ_=>⟨rfl,rfl⟩) (by simp) (λb hb=>by cases hb) ad m c news hx hn hc h1c (by omega) b1 b2 fin
 ·subst hv;by_cases hroom:n+m<=cap
  ·have hw:Region.wanted o (yielded ops a.tmps)=true:=by simp[Region.wanted,hg]
   rw[if_pos hw];obtain⟨w',hrun,r1,r2⟩:=run_append_fits (P:=P) w 0 t o.type e i size h1 h2 h4 g n cap xs hown ad m c news hn hc h1c hroom;unfold Oper.wp;simp[execOp,hop,resolve,invoke,builtin,hs,hx,hrun,Result.andThen];exact hK g cap w' r1 r2 (Or.inl rfl)
  ·refine step_append_grows hg s x t hop e i z size bytes h1 h2 h3 h4 h5 h6 h7 (some ⟨g,0,none⟩) n cap xs hs (λh=>by cases h) hx1 ?_ ad m c news hx hn hc h1c (by omega) b1 b2 fin;intro b hb j u hj;cases hb
   exact hown.cells rfl j u hj
theorem aF.Aj{s:TypeId}(h:aF t w v xs)(hc:ay (· = b) w w')(hb:Tagged w b s)(hne:t≠s):aF t w' v xs :=
 h.aJ hc λc hcT e=>(hcT.ne hb hne) e
theorem oV.keep{off:Nat}{tN:Nat}(h:oV w rb off known most)(hm:most<=tN)(hS:∀t v xs,(t=4\/t=3)->aF t w v xs->aF t w' v xs)(hcell:∀i,i<13->w'.cell? ⟨rb,off+i,none⟩=w.cell? ⟨rb,off+i,none⟩):oV w' rb off known tN:=by obtain⟨⟨kv,a0,b0⟩,a1,a7,⟨m9,a9,b9⟩,⟨kp,kl,a10,b10,d10⟩,⟨m12,a12,b12⟩,hz⟩:=h;exact⟨⟨kv,(hcell 0 (by omega)).trans a0,hS _ _ _ (Or.inl rfl) b0⟩,(hcell 1 (by omega)).trans a1,(hcell 7 (by omega)).trans a7,⟨m9,(hcell 9 (by omega)).trans a9,by omega⟩,⟨kp,kl,(hcell 10 (by omega)).trans a10,hS _ _ _ (Or.inr rfl) b10,d10⟩,⟨m12,(hcell 12 (by omega)).trans a12,by omega⟩,hz.of (λi hi=>hcell i (by omega))⟩
theorem bC.upd(h:bC w c rb bU fv av room es acc most au)(hc:ay (· = rb) w w')(ht:Tagged w' rb 165)(pq:most+1<=1000)(k:Nat)(hk:k<au.length)(more:List Bool)(hml:more.length<=es.length)(hrep:oV w' rb (k*13) more (most+1))(hoth:∀j,j≠k->∀i,i<13->w'.cell? ⟨rb,j*13+i,none⟩=w.cell? ⟨rb,j*13+i,none⟩)(h11:w'.cell? ⟨rb,k*13+11,none⟩=w.cell? ⟨rb,k*13+11,none⟩):bC w' c rb bU fv av room es acc (most+1) (au.set k more):=by
 have hne:c≠rb:=h.tc.ne h.ng (by decide);have hcc:∀i,w'.cell? ⟨c,i,none⟩=w.cell? ⟨c,i,none⟩:=λi=>World.cell?_of_block (w:=w) (hc.block c h.tc.lt hne);have hS:∀t v xs,(t=4\/t=3)->aF t w v xs->aF t w' v xs:=λt v xs ht hs=>hs.Aj hc h.ng (by rcases ht with rfl|rfl<;>decide);obtain⟨cap,f1,hcap⟩:=h.f1;obtain⟨jH,e1,e2,e3⟩:=h.evs;refine⟨h.tc.aJ hc hne,ht,h.nC,by simpa using h.n6,h.nD,(hcc 0).trans h.f0,⟨cap,by rw[hcc 1,f1];simp,by simpa using hcap⟩,(hcc 2).trans h.f2,(hcc 3).trans h.f3,h.LP,pq,⟨jH,e1, ?_,λj h1 h2=>hS _ _ _ (Or.inl rfl) (e3 j h1 h2)⟩,h.ok, ?_, ?_,(hcc 4).trans h.f4,λi hi=>?_⟩
 ·refine aZ e2 hc ?_;intro g hg e;obtain⟨hx,h1|⟨g',cap',cur,rfl,_,hh,_⟩⟩:=e2
  ·rw[h1.1]at hg;cases hg
  ·cases hg;exact(Tagged.ne ⟨cur,hh⟩ h.ng (by decide)) e
 ·intro i hi;simp only[List.length_set]at hi;by_cases e:i=k
  ·subst e;rw[List.getElem_set_self];exact hrep
  ·rw[List.getElem_set_ne (λh=>e h.symm)];exact(h.oW i hi).keep (by omega) hS (λj hj=>hoth i e j hj)
 ·intro x hx;rcases List.mem_or_eq_of_mem_set hx with h1|h1
  ·exact h.kn x h1
  ·rw[h1];exact hml
 ·have hi':i<au.length:=by simpa using hi
  by_cases e:i=k
  ·subst e;exact h11.trans (h.a11 i hi')
  ·exact(hoth i e 11 (by omega)).trans (h.a11 i hi')
theorem fA{base:Nat}(w:World)(g:Nat)(hg:g=w.heap.size)(hb:base<=w.heap.size):(w.alloc (.cells #[] e)).ownsRow base e 1 (.slice (some ⟨g,0,none⟩) 0 0) 0 []:=by subst hg;exact World.ownsRow_lit w #[] 0 hb (by decide) rfl
theorem Bh(h:bC w c rb bU fv av room es acc most au)(k:Nat)(hk:k<au.length)(mv:Value)(more:List Bool)(hmv:aF 4 w mv (bools more))(hml:more.length<=es.length)(pq:most+1<=1000)(hc:ay (· = rb) w w')(ht:Tagged w' rb 165)(e0:w'.cell? ⟨rb,k*13,none⟩=some mv)(m9:Nat)(h9:m9<=most)(e9:w'.cell? ⟨rb,k*13+9,none⟩=some (.int .i64 ((m9:Int)+1)))(kp:Value)(kl:List Int)(e10:w'.cell? ⟨rb,k*13+10,none⟩=some kp)(s10:aF 3 w' kp (ints kl))(l10:kl.length<=50)(m12:Nat)(h12:m12<=most+1)(e12:w'.cell? ⟨rb,k*13+12,none⟩=some (.int .i64 m12))(hoth:∀o,o≠k*13->o≠k*13+9->o≠k*13+10->o≠k*13+12->w'.cell? ⟨rb,o,none⟩=w.cell? ⟨rb,o,none⟩):bC w' c rb bU fv av room es acc (most+1) (au.set k more):=by have hr:=h.oW k hk;refine h.upd hc ht pq k hk more hml ⟨⟨mv,e0,hmv.Aj hc h.ng (by decide)⟩,(hoth _ (by omega) (by omega) (by omega) (by omega)).trans hr.c1,(hoth _ (by omega) (by omega) (by omega) (by omega)).trans hr.c7,⟨m9+1,by rw[e9];simp,by omega⟩,⟨kp,kl,e10,s10,l10⟩,⟨m12,e12,h12⟩,hr.z.of (λi hi=>hoth _ (by omega) (by omega) (by omega) (by omega))⟩ ?_ (hoth _ (by omega) (by omega) (by omega) (by omega));intro j hj i hi;exact hoth _ (by omega) (by omega) (by omega) (by omega)
theorem aF.Yu{n':Nat}{a:Option Addr}(h:aF t w (.slice (some ⟨g,0,none⟩) n' c) xs)(n c':Nat)(hx:xs.length=n+1)(ha:(a=some ⟨g,0,none⟩/\n=0)\/a=some ⟨g,1,none⟩)(hc':n<=c'):aF t w (.slice a n c') xs.tail:=by
 rcases h with⟨h,_⟩|⟨b,off,cap,h1,h2,h3,h4⟩
 ·cases h
 ·simp only[Value.slice.injEq,Option.some.injEq,Addr.mk.injEq]at h1;obtain⟨⟨rfl,rfl,_⟩,rfl,rfl⟩:=h1;right;rcases ha with⟨rfl,rfl⟩|rfl
  ·exact⟨g,0,c',by simp[hx],by simp[hx],h3,λj hj=>by simp[hx]at hj⟩
  ·refine⟨g,1,c',by simp[hx],by simp[hx];omega,h3,λj hj=>?_⟩;simp only[List.length_tail]at hj;rw[List.getElem_tail,show 1+j=0+(j+1)by omega];exact h4 (j+1) (by omega)
theorem Tagged.drewN(h:Tagged w b t)(n:Nat):Tagged (w.drewN n) b t:=h
theorem ay.drewN{a:World}(h:ay M a w)(n:Nat):ay M a (w.drewN n):=h.below (below_drewN (Below.refl _ _) n)
theorem dL{size:Nat}(h:w.ownsRow B e size v n xs)(hn:0<n):∃g cap,v=.slice (some ⟨g,0,none⟩) n cap:=by
 obtain⟨_,h1|⟨g,cap,cur,h2,_⟩⟩:=h
 ·omega
 ·exact⟨g,cap,h2⟩
theorem Tryz.info4:(prog.info? 4).map (λi=>(i.zero,i.size,i.bytes))=some (some (.bool false),1,1):=by kernel_rfl
theorem Tryz.infoEv:(prog.info? 239).map (λi=>(i.zero,i.size,i.bytes))=some (some kZ,5,72):=by kernel_rfl
theorem oV.Yv{off:Nat}{tN:Nat}(h:oV w rb off known most)(hm:most<=tN)(hS:∀v xs,aF 4 w v xs->aF 4 w' v xs)(hI:aH w w')(hcell:∀i,i<13->w'.cell? ⟨rb,off+i,none⟩=w.cell? ⟨rb,off+i,none⟩):oV w' rb off known tN:=by obtain⟨⟨kv,a0,b0⟩,a1,a7,⟨m9,a9,b9⟩,⟨kp,kl,a10,b10,d10⟩,⟨m12,a12,b12⟩,hz⟩:=h;obtain⟨kl',hl',ad1⟩:=b10.numbers hI;exact⟨⟨kv,(hcell 0 (by omega)).trans a0,hS _ _ b0⟩,(hcell 1 (by omega)).trans a1,(hcell 7 (by omega)).trans a7,⟨m9,(hcell 9 (by omega)).trans a9,by omega⟩,⟨kp,kl',(hcell 10 (by omega)).trans a10,ad1,by omega⟩,⟨m12,(hcell 12 (by omega)).trans a12,by omega⟩,hz.of (λi hi=>hcell i (by omega))⟩
theorem bC.aJ(h:bC w c rb bU fv av room es acc most au)(hc:ay M w w')(h1:¬M c)(h2:¬M rb)(h3:∀g,bU.ownBlock=some g->¬M g)(h4:∀b,Tagged w b 4->¬M b)(h5:aH w w'):bC w' c rb bU fv av room es acc most au:=by have hcc:∀o,w'.cell? ⟨c,o,none⟩=w.cell? ⟨c,o,none⟩:=λo=>World.cell?_of_block (w:=w) (hc.block c h.tc.lt h1);have hrr:∀o,w'.cell? ⟨rb,o,none⟩=w.cell? ⟨rb,o,none⟩:=λo=>World.cell?_of_block (w:=w) (hc.block rb h.ng.lt h2);obtain⟨cap,f1,hcap⟩:=h.f1;obtain⟨jH,e1,e2,e3⟩:=h.evs;exact⟨h.tc.aJ hc h1,h.ng.aJ hc h2,h.nC,h.n6,h.nD,(hcc 0).trans h.f0,⟨cap,(hcc 1).trans f1,hcap⟩,(hcc 2).trans h.f2,(hcc 3).trans h.f3,h.LP,h.LQ,⟨jH,e1,aZ e2 hc h3,λj a b=>(e3 j a b).aJ hc h4⟩,h.ok,λi hi=>(h.oW i hi).Yv (Nat.le_refl _) (λv xs hs=>hs.aJ hc h4) h5 (λj _=>hrr _),h.kn,(hcc 4).trans h.f4,λi hi=>(hrr _).trans (h.a11 i hi)⟩
theorem bC.Ak(h:bC w c rb bU fv av room es acc most au):∀g,bU.ownBlock=some g->g<w.heap.size/\Tagged w g 239:=by
 intro g hg;obtain⟨jH,e1,e2,e3⟩:=h.evs;refine⟨(e2.lt g hg).2, ?_⟩;obtain⟨_,h1|⟨g',cap,cur,rfl,_,hh,_⟩⟩:=e2
 ·rw[h1.1]at hg;cases hg
 ·cases hg;exact⟨cur,hh⟩
theorem bC.more{w6:World}{pz:Value}(h:bC w c rb bU fv av room es acc most au)(hc:ay (λx=>bU.ownBlock=some x) w w6)(e:Ev)(hok:LM e)(sv:Value)(hsv:aF 4 w sv (bools e.xC))(jH:List Value)(hsl:jH.length=es.length)(TI:∀j(h:j<jH.length)(h':j<es.length),aF 4 w jH[j] (bools es[j].xC))(hn:es.length+1<=500)(hown:w6.ownsRow 0 239 5 pz (es.length+1) (fC es jH++[.string e.p,.int .u8 (e.a.toNat:Int),.string e.v,.int .i64 e.n,sv])):bC (w6.setCell ⟨c,2,none⟩ pz) c rb pz fv av room (es++[e]) acc most au:=by
 have hm:∀t b,t≠239->Tagged w b t->¬bU.ownBlock=some b:=λt b ht hb he=>hb.ne (h.Ak b he).2 ht rfl;have hc1:=hm _ c (by decide) h.tc;have hc2:=hm _ rb (by decide) h.ng;have hS:∀t v xs,(t=4\/t=3)->aF t w v xs->aF t w6 v xs:=λt v xs ht hs=>hs.aJ hc (λb hb=>hm t b (by rcases ht with rfl|rfl<;>decide) hb);have t6:Tagged w6 c 170:=h.tc.aJ hc hc1;have tr6:Tagged w6 rb 165:=h.ng.aJ hc hc2;have hS7:∀t v xs,(t=4\/t=3)->aF t w v xs->aF t (w6.setCell ⟨c,2,none⟩ pz) v xs:=λt v xs ht hs=>(hS t v xs ht hs).Aj (b:=c) ((ay.refl (λx=>x=c) w6).setCell (p:=⟨c,2,none⟩) rfl _) t6 (by rcases ht with rfl|rfl<;>decide);have hcc:∀o,w6.cell? ⟨c,o,none⟩=w.cell? ⟨c,o,none⟩:=λo=>World.cell?_of_block (w:=w) (hc.block c h.tc.lt hc1);have hrr:∀o,w6.cell? ⟨rb,o,none⟩=w.cell? ⟨rb,o,none⟩:=λo=>World.cell?_of_block (w:=w) (hc.block rb h.ng.lt hc2);have hne:c≠rb:=h.tc.ne h.ng (by decide);obtain⟨cap,f1,hcap⟩:=h.f1;refine⟨t6.setCell _ _,tr6.setCell _ _,h.nC,h.n6,by simpa using hn,(aK (Or.inr (by omega))).trans ((hcc 0).trans h.f0),⟨cap,(aK (Or.inr (by omega))).trans ((hcc 1).trans f1),hcap⟩,bQ ((hcc 2).trans h.f2),(aK (Or.inr (by omega))).trans ((hcc 3).trans h.f3),h.LP,h.LQ,
  ⟨jH++[sv],by simp[hsl], ?_, ?_⟩, ?_,λi hi=>(h.oW i hi).keep (Nat.le_refl _) hS7 (λj _=>(aK (Or.inl hne)).trans (hrr _)),λk hk=>by have:=h.kn k hk;simp;omega,(aK (Or.inr (by omega))).trans ((hcc 4).trans h.f4),λi hi=>(aK (Or.inl hne)).trans ((hrr _).trans (h.a11 i hi))⟩
 ·rw[Dc es jH hsl,List.length_append];refine aZ (M:=λx=>x=c) hown ((ay.refl (λx=>x=c) w6).setCell (p:=⟨c,2,none⟩) rfl _) ?_;intro g hg e';obtain⟨_,h1|⟨g',cap',cur,rfl,_,hh,_⟩⟩:=hown
  ·rw[h1.1]at hg;cases hg
  ·cases hg;exact(Tagged.ne ⟨cur,hh⟩ t6 (by decide)) e'
 ·intro j h1 h2;by_cases hj:j<es.length
  ·have e1:(jH++[sv])[j]=jH[j]'(by omega):=List.getElem_append_left (by omega);have e2:(es++[e])[j]=es[j]:=List.getElem_append_left hj;rw[e1,e2];exact hS7 _ _ _ (Or.inl rfl) (TI j (by omega) hj)
  ·have hje:j=es.length:=by simp at h2;omega
   have e1:(jH++[sv])[j]=sv:=by rw[List.getElem_append_right (by omega)];simp
   have e2:(es++[e])[j]=e:=by rw[List.getElem_append_right (by omega)];simp
   rw[e1,e2];exact hS7 _ _ _ (Or.inl rfl) hsv
 ·intro x hx;rcases List.mem_append.1 hx with h1|h1
  ·exact h.ok x h1
  ·simp at h1;rw[h1];exact hok
theorem bC.accept(h:bC w c rb bU fv av room es acc most au)(n:Nat)(hn:n<=500):bC (w.setCell ⟨c,3,none⟩ (.int .i64 n)) c rb bU fv av room es n most au:=by
 have hc:ay (λx=>x=c) w (w.setCell ⟨c,3,none⟩ (.int .i64 n)):=(ay.refl (λx=>x=c) w).setCell (p:=⟨c,3,none⟩) rfl _;have hne:c≠rb:=h.tc.ne h.ng (by decide);have hS:∀t v xs,(t=4\/t=3)->aF t w v xs->aF t (w.setCell ⟨c,3,none⟩ (.int .i64 n)) v xs:=λt v xs ht hs=>hs.Aj hc h.tc (by rcases ht with rfl|rfl<;>decide);obtain⟨cap,f1,hcap⟩:=h.f1;obtain⟨jH,e1,e2,e3⟩:=h.evs;exact⟨h.tc.setCell _ _,h.ng.setCell _ _,h.nC,h.n6,h.nD,(aK (Or.inr (by omega))).trans h.f0,⟨cap,(aK (Or.inr (by omega))).trans f1,hcap⟩,(aK (Or.inr (by omega))).trans h.f2,bQ h.f3,hn,h.LQ,
  ⟨jH,e1,aZ e2 hc (λg hg e=>((h.Ak g hg).2.ne h.tc (by decide)) e),λj a b=>hS _ _ _ (Or.inl rfl) (e3 j a b)⟩,h.ok,λi hi=>(h.oW i hi).keep (Nat.le_refl _) hS (λj _=>aK (Or.inl hne)),h.kn,(aK (Or.inr (by omega))).trans h.f4,λi hi=>(aK (Or.inl hne)).trans (h.a11 i hi)⟩
theorem mO.ad2(h:mO b v0 v1 v2 v3 v4 w)(u:Value)(ht:∀j,(w.setCell ⟨b,4,none⟩ u).frozen? ⟨b,j,none⟩=false):mO b v0 v1 v2 v3 u (w.setCell ⟨b,4,none⟩ u) :=
 ⟨(aK (Or.inr (by omega))).trans h.c0,(aK (Or.inr (by omega))).trans h.c1,(aK (Or.inr (by omega))).trans h.c2,(aK (Or.inr (by omega))).trans h.c3,bQ h.c4,ht⟩
theorem ay.trans'{N:Nat->Prop}{a b c:World}(h:ay M a b)(k:ay N b c)(hN:∀x,x<a.heap.size->N x->M x):ay M a c :=
 ⟨k.os.trans h.os,k.tape.trans h.tape,k.output.trans h.output,Nat.le_trans h.size k.size,λi hi hm=>(k.block i (Nat.lt_of_lt_of_le hi h.size) (λhn=>hm (hN i hi hn))).trans (h.block i hi hm)⟩
theorem Yw{W3 w5:World}{e0:Nat}(hE:mO e0 v0 v1 v2 v3 v4 W3)(hT:Tagged W3 e0 t)(hb:Below W3.heap.size W3 w5)(u:Value):mO e0 v0 v1 v2 v3 u (w5.setCell ⟨e0,4,none⟩ u)/\ay (λx=>x=e0) W3 (w5.setCell ⟨e0,4,none⟩ u) :=
 ⟨(hE.below hb hT.lt).ad2 u (λj=>((hT.below hb).setCell _ _).frozen j),(ay.of_below (M:=λx=>x=e0) hb).setCell (p:=⟨e0,4,none⟩) rfl _⟩
theorem Pn(h:w.ownsRow B e 1 (.slice (some ⟨g,0,none⟩) n n) n xs):w.heap[g]?=some (.cells xs.toArray e (0,0)):=by
 obtain⟨hl,⟨h1,_⟩|⟨g',cap,cur,hv,_,hh,_,_,hs,ht⟩⟩:=h
 ·cases h1
 ·simp only[Value.slice.injEq,Option.some.injEq,Addr.mk.injEq,true_and,and_true]at hv;obtain⟨rfl,rfl⟩:=hv;have:cur.toList=xs:=by rw[<- ht,List.take_of_length_le (by rw[Array.length_toList,hs];exact Nat.le_refl _)]
  rw[hh,<- this]
theorem cell_of_heap(h:w.heap[g]?=some (.cells xs.toArray e (0,0)))(j:Nat):w.cell? ⟨g,j,none⟩=xs[j]?:=by simp[World.cell?,h]
theorem IW{w9:World}(hk:known.length<=n)(hg:w9.heap[g]?=some (.cells (splice (List.replicate (n+1) (.bool false)) 0 (bools known)).toArray 4 (0,0))):aF 4 (w9.setCell ⟨g,n,none⟩ (.bool true)) (.slice (some ⟨g,0,none⟩) (n+1) (n+1)) (bools (dN known n))/\w9.cell? ⟨g,n,none⟩=some (.bool false):=by
 have hsp:∀j,(splice (List.replicate (n+1) (.bool false)) 0 (bools known))[j]?=if j<known.length then(bools known)[j]? else if j<n+1 then some (.bool false)else none:=by
  intro j;unfold splice;simp only[List.take_zero,List.nil_append,Nat.zero_add];have hl:(bools known).length=known.length:=by simp[bools]
  by_cases h:j<known.length
  ·rw[if_pos h,List.getElem?_append_left (by omega)]
  ·rw[if_neg h,List.getElem?_append_right (by omega),List.getElem?_drop,List.getElem?_replicate,hl];by_cases h2:j<n+1
   ·rw[if_pos h2,if_pos (by omega)]
   ·rw[if_neg h2,if_neg (by omega)]
 have hcn:w9.cell? ⟨g,n,none⟩=some (.bool false):=by rw[cell_of_heap hg,hsp,if_neg (by omega),if_pos (by omega)]
 refine⟨Or.inr ⟨g,0,n+1, ?_, ?_,Tagged.setCell ⟨_,hg⟩ _ _, ?_⟩,hcn⟩
 ·simp[bools,iT _ _ hk]
 ·simp[bools,iT _ _ hk]
 ·intro j hj;have hjl:j<n+1:=by simpa[bools,iT _ _ hk]using hj
  rw[Nat.zero_add];have he:(bools (dN known n))[j]=.bool ((dN known n)[j]'(by simpa[bools]using hj)):=by simp[bools]
  rw[he];by_cases h:j=n
  ·subst h;rw[bQ hcn];congr 2;unfold dN;rw[List.getElem_append_right (by simp;omega)];simp
  ·rw[aK (Or.inr (by omega)),cell_of_heap hg,hsp];by_cases h2:j<known.length
   ·rw[if_pos h2,List.getElem?_eq_getElem (by simpa[bools]using h2)];congr 1;simp only[bools,List.getElem_map];congr 1;unfold dN;rw[List.getElem_append_left (by simp;omega),List.getElem_append_left h2]
   ·rw[if_neg h2,if_pos hjl];congr 2;unfold dN;rw[List.getElem_append_left (by simp;omega),List.getElem_append_right (by omega)];simp
theorem Bj(m:Nat):(madeCells (Value.bool false).cells m).toList=List.replicate m (.bool false):=by
 apply List.ext_getElem
 ·simp[madeCells]
 ·intro i h1 h2;simp[madeCells,Value.cells,Nat.mod_one]
end Go.Proofs.YtfmmllpjgkgeaaaGreatDoor
namespace Go.Proofs.YtfmmllpjgkgeaaaGreatDoor
open Go.Proofs.Tryz
namespace Thk
open Go
theorem ES(r:Bs):∀n,n<=r.foldl (λn c=>10*n+tu c) n:=by
 induction r with
 | nil=>intro n;exact Nat.le_refl _
 | cons x r ih=>intro n;simp only[List.foldl_cons];have:=ih (10*n+tu x);omega
theorem ET(M:Nat)(hM:1000000000<=M):∀(r:Bs)(acc:Nat),r.all cO=true->r.foldl (λn c=>10*n+tu c) acc<=1000000000 -> Lib.parseUintM M acc r=.ok (r.foldl (λn c=>10*n+tu c) acc):=by
 intro r;induction r with
 | nil=>intro acc _ _;rfl
 | cons x r ih =>
  intro acc hd hf;simp only[List.all_cons,Bool.and_eq_true]at hd;simp only[List.foldl_cons]at hf⊢;have hg:=ES r (10*acc+tu x);have hx:=hd.1;unfold cO at hx;simp only[Bool.and_eq_true,decide_eq_true_eq]at hx;have e:acc*10+(x.toNat-48)=10*acc+tu x:=by unfold tu;omega
  rw[Lib.parseUintM,if_pos hx,if_neg (by omega),e,if_neg (by omega)];exact ih _ hd.2 hf
theorem EU(l:Bs)(h0:l≠[])(hd:l.all cO=true)(hh:l.head?≠some 48):1<=dY l:=by
 cases l with
 | nil=>exact absurd rfl h0
 | cons x r =>
  unfold dY;simp only[List.foldl_cons];have hg:=ES r (10*0+tu x);simp only[List.all_cons,Bool.and_eq_true]at hd;have hx:=hd.1;unfold cO at hx;simp only[Bool.and_eq_true,decide_eq_true_eq]at hx;have h48:x.toNat≠48:=by intro h;apply hh;simp only[List.head?_cons,Option.some.injEq];exact UInt8.toNat_inj.1 h
  unfold tu at hg⊢;omega
theorem Bl(c:UInt8)(h:cO c=true):UInt8.ofNat (48+tu c)=c:=by unfold cO at h;simp only[Bool.and_eq_true,decide_eq_true_eq]at h;apply UInt8.toNat_inj.1;unfold tu;rw[show 48+(c.toNat-48)=c.toNat by omega];simp
theorem VP(c:UInt8)(h:cO c=true):tu c<=9:=by unfold cO at h;simp only[Bool.and_eq_true,decide_eq_true_eq]at h;unfold tu;omega
theorem EW:∀(n:Nat)(l:Bs),l.length=n->l≠[]->l.all cO=true->(l.head?≠some 48\/l.length=1)->Lib.decDigits (dY l)=l:=by
 intro n;induction n with
 | zero=>intro l h0 h1;cases l with
  | nil=>exact absurd rfl h1
  | cons=>simp at h0
 | succ n ih =>
  intro l hl h1 hd hh;obtain⟨i,c,rfl⟩:∃i c,l=i++[c]:=⟨l.dropLast,l.getLast h1,(List.dropLast_concat_getLast h1).symm⟩;simp only[List.all_append,List.all_cons,List.all_nil,Bool.and_true,Bool.and_eq_true]at hd;simp only[List.length_append,List.length_cons,List.length_nil]at hl hh;have hc:=VP c hd.2;rw[mJ];by_cases hi:i=[]
  ·subst hi;have:dY []=0:=rfl;rw[this,Lib.decDigits,dif_pos (by omega),show 48+(10*0+tu c)=48+tu c by omega,Bl c hd.2];(first|done|rfl)
  ·have hil:0<i.length:=List.length_pos_iff.2 hi;have hih:i.head?≠some 48:=by
    rcases hh with hh|hh
    ·cases i with
     | nil=>exact absurd rfl hi
     | cons=>simpa using hh
    ·omega
   have hp:=EU i hi hd.1 hih;rw[Lib.decDigits,dif_neg (by omega),show(10*dY i+tu c) / 10=dY i by omega,show(10*dY i+tu c) % 10=tu c by omega,Bl c hd.2,
    ih i (by omega) hi hd.1 (.inl hih)]
theorem Po(d:Nat)(h:d<10):cO (UInt8.ofNat (48+d))=true/\tu (UInt8.ofNat (48+d))=d:=by
 have:(UInt8.ofNat (48+d)).toNat=48+d:=by simp;omega
 unfold cO tu;rw[this];simp;omega
theorem Bo(u:Nat):(Lib.decDigits u).all cO=true/\dY (Lib.decDigits u)=u/\Lib.decDigits u≠[]/\(1<=u->(Lib.decDigits u).head?≠some 48):=by
 induction u using Nat.strongRecOn with
 | ind u ih =>
  rw[Lib.decDigits];by_cases h:u<10
  ·rw[dif_pos h];have hd:=Po u h;refine⟨by rw[List.all_cons,hd.1];rfl,by unfold dY;rw[List.foldl_cons,hd.2];simp,by simp, ?_⟩;intro h1 h2;simp only[List.head?_cons,Option.some.injEq]at h2;have:=hd.2;rw[h2]at this;have h3:tu 48=0:=rfl;omega
  ·rw[dif_neg h];obtain⟨h1,h2,h3,h4⟩:=ih (u / 10) (by omega);have hd:=Po (u % 10) (by omega);refine⟨by rw[List.all_append,h1,List.all_cons,hd.1];rfl,by rw[mJ,h2,hd.2];omega,by simp, ?_⟩;intro _;have h5:=h4 (by omega);cases hi:Lib.decDigits (u / 10) with
   | nil=>exact absurd hi h3
   | cons=>rw[hi]at h5;simpa using h5
theorem Yx:∀(k u:Nat),u<10 ^ (k+1)->Lib.nDigits u<=k+1:=by
 intro k;induction k with
 | zero=>intro u h;rw[Lib.nDigits_small (by simpa using h)];omega
 | succ k ih =>
  intro u h;by_cases h1:u<10
  ·rw[Lib.nDigits_small h1];omega
  ·rw[Lib.nDigits_big h1];have:=ih (u / 10) (by rw[Nat.pow_succ]at h;omega);omega
theorem TJ(u:Nat)(h:u<=1000000000):(Lib.decDigits u).length<=10:=by rw[Lib.decDigits_length];exact Yx 9 u (by omega)
theorem yt(neg:Bool)(u:Nat)(h:u<=1000000000)(hn:neg=true->1<=u):eY neg (Lib.decDigits u)=some (if neg then -(u:Int) else(u:Int)):=by
 obtain⟨h1,h2,h3,h4⟩:=Bo u;have hl:=TJ u h;have hl0:0<(Lib.decDigits u).length:=List.length_pos_iff.2 h3;have hb:jk neg (Lib.decDigits u)=false:=by
  unfold jk;by_cases hu:1<=u
  ·have:=h4 hu;have e1:((Lib.decDigits u).head?==some 48)=false:=by simpa using this
   rw[e1,Bool.false_and,Bool.or_false];simp only[Bool.or_eq_false_iff,decide_eq_false_iff_not];omega
  ·have hneg:neg=false:=by cases neg<;>simp_all
   have hu0:u=0:=by omega
   subst hu0 hneg;rw[Lib.decDigits,dif_pos (by omega)];simp
 unfold eY;rw[hb,h1,h2];simp[h]
def tV(l:Bs):Option Int:=match Lib.parseIntB 64 l with
 | .ok v=>if Lib.itoa v=l/\-1000000000<=v/\v<=1000000000 then some v else none
 | _=>none
theorem Pq(v:Int)(h1:-1000000000<=v)(h2:v<=1000000000):num (Lib.itoa v)=some v:=by
 unfold num Lib.itoa;by_cases h:v<0
 ·rw[if_pos h];simp only[List.head?_cons,List.tail_cons,if_true];rw[yt true v.natAbs (by omega) (by omega)];simp;omega
 ·rw[if_neg h];obtain⟨e1,e2,e3,e4⟩:=Bo v.toNat;have:(Lib.decDigits v.toNat).head?≠some 45:=by
   cases hd:Lib.decDigits v.toNat with
   | nil=>exact absurd hd e3
   | cons x r =>rw[hd]at e1;simp only[List.all_cons,Bool.and_eq_true]at e1;intro hx;simp only[List.head?_cons,Option.some.injEq]at hx;rw[hx]at e1;exact absurd e1.1 (by decide)
  rw[if_neg this,yt false v.toNat (by omega) (by simp)];simp;omega
theorem yu(neg:Bool)(l:Bs)(v:Int)(h:eY neg l=some v):l≠[]/\l.all cO=true/\(l.head?≠some 48\/(l.length=1/\neg=false))/\dY l<=1000000000/\v=(if neg then -(dY l:Int) else(dY l:Int)):=by
 unfold eY at h;split at h
 ·cases h
 ·rename_i hb;split at h
  ·rename_i hd;simp only[Bool.and_eq_true,decide_eq_true_eq]at hd;simp only[Option.some.injEq]at h;unfold jk at hb;simp only[Bool.or_eq_true,Bool.and_eq_true,decide_eq_true_eq,beq_iff_eq,not_or,not_and]at hb;refine⟨?_,hd.1, ?_,hd.2,h.symm⟩
   ·intro h0;rw[h0]at hb;simp at hb
   ·by_cases hh:l.head? = some 48
    ·right;have:=hb.2 hh;refine⟨by omega,by simpa using this.2⟩
    ·exact .inl hh
  ·cases h
theorem vZ(l:Bs)(v:Int)(h:num l=some v):Lib.parseIntB 64 l=.ok v/\Lib.itoa v=l/\-1000000000<=v/\v<=1000000000:=by
 unfold num at h;split at h
 ·rename_i h45;cases l with
  | nil=>simp at h45
  | cons x r =>
   simp only[List.head?_cons,Option.some.injEq]at h45;subst h45;simp only[List.tail_cons]at h;obtain⟨e1,e2,e3,e4,e5⟩:=yu _ _ _ h;have e3':r.head?≠some 48:=by rcases e3 with e3|e3;exact e3;simp at e3
   have hp:=EU r e1 e2 e3';have hpar:Lib.parseUintB 64 r=.ok (dY r):=by unfold Lib.parseUintB;rw[if_neg e1,ET _ (by decide) r 0 e2 e4];(first|done|rfl)
   simp only[if_true]at e5;refine⟨?_, ?_,by omega,by omega⟩
   ·unfold Lib.parseIntB;have c45:(45:UInt8).toNat=45:=rfl;simp only[c45];rw[if_pos (Or.inr trivial),hpar];simp only[not_true,false_and,if_false,true_and];rw[if_neg (by omega),if_pos trivial,e5]
   ·unfold Lib.itoa;rw[if_pos (by omega),e5,show(-(dY r:Int)).natAbs=dY r by omega,EW _ r rfl e1 e2 (.inl e3')]
 ·rename_i h45;obtain⟨e1,e2,e3,e4,e5⟩:=yu _ _ _ h;have hpar:Lib.parseUintB 64 l=.ok (dY l):=by unfold Lib.parseUintB;rw[if_neg e1,ET _ (by decide) l 0 e2 e4];(first|done|rfl)
  simp only[Bool.false_eq_true,if_false]at e5;refine⟨?_, ?_,by omega,by omega⟩
  ·cases l with
   | nil=>exact absurd rfl e1
   | cons x r =>
    simp only[List.all_cons,Bool.and_eq_true]at e2;have hx:=e2.1;unfold cO at hx;simp only[Bool.and_eq_true,decide_eq_true_eq]at hx;have n45:¬(x.toNat=45):=by omega
    unfold Lib.parseIntB;have n43:¬(x.toNat=43):=by omega
    simp only[n45,n43,or_self,if_false,hpar,not_false_eq_true,true_and,false_and];rw[if_neg (by omega),e5]
  ·unfold Lib.itoa;rw[if_neg (by omega),e5,show(dY l:Int).toNat=dY l by omega,EW _ l rfl e1 e2 ?_];rcases e3 with e3|e3
   ·exact .inl e3
   ·exact .inr e3.1
theorem IX(l:Bs):tV l=num l:=by
 cases hn:num l with
 | some v =>obtain⟨h1,h2,h3,h4⟩:=vZ l v hn;unfold tV;rw[h1];simp[h2,h3,h4]
 | none =>
  unfold tV;cases hp:Lib.parseIntB 64 l with
  | ok v =>
   simp only;by_cases hc:Lib.itoa v=l/\-1000000000<=v/\v<=1000000000
   ·have:=Pq v hc.2.1 hc.2.2;rw[hc.1,hn]at this;cases this
   ·rw[if_neg hc]
  | range=>rfl
  | _=>rfl
end Thk
end Go.Proofs.YtfmmllpjgkgeaaaGreatDoor
namespace Go.Proofs.YtfmmllpjgkgeaaaGreatDoor
open Go.Proofs.Tryz Go.RowKit Go.Deep
variable{B:Nat}{v:Value}{w:World}
def iy(av:Value):List Value:=[.slice none 0 0,.bool false,.slice none 0 0,.slice none 0 0,.bool false,.int .i64 0,.int .i64 0,.bool false,.int .i64 0,.int .i64 0,.slice none 0 0,av,.int .i64 0]
def jP(mG:List Value):List Value:=mG.flatMap iy
theorem EX:∀(mG:List Value)(i:Nat)(h:i<mG.length)(j:Nat),j<13->(jP mG)[i*13+j]?=(iy mG[i])[j]?:=by
 intro mG;induction mG with
 | nil=>intro i h;simp at h
 | cons a r ih =>
  intro i h j hj;have e:jP (a::r)=iy a++jP r:=rfl;have hl:(iy a).length=13:=rfl;rw[e];cases i with
  | zero=>rw[List.getElem?_append_left (by rw[hl];omega)];simp
  | succ i =>rw[List.getElem?_append_right (by rw[hl];omega),hl,show(i+1)*13+j-13=i*13+j by omega];exact ih i (by simpa using h) j hj
theorem Df(mG:List Value)(av:Value):jP (mG++[av])=jP mG++iy av:=by unfold jP;simp
def uV(w:World)(r B:Nat)(v:Value):Prop:=∃b,∃kl:List Int,v=.slice (some ⟨b,0,none⟩) r r/\B<=b/\kl.length=r/\aF 3 w v (ints kl)
def KJ(w:World)(r B:Nat)(mG:List Value):Prop:=∀a∈mG,uV w r B a
theorem uV.aJ{M:Nat->Prop}{w':World}{r:Nat}(h:uV w r B v)(hc:ay M w w')(hM:∀b,Tagged w b 3->¬M b):uV w' r B v:=by obtain⟨b,kl,h1,h2,h3,h4⟩:=h;exact⟨b,kl,h1,h2,h3,h4.aJ hc hM⟩
theorem uV.new(w:World)(r:Nat)(o:Obj):uV ((w.alloc (.cells (madeCells #[.int .i64 0] r) 3)).alloc o) r w.heap.size (.slice (some ⟨w.heap.size,0,none⟩) r r):=by
 have hm:(madeCells #[.int .i64 0] r).toList=List.replicate r (.int .i64 0):=by
  apply List.ext_getElem
  ·simp[madeCells]
  ·intro i h1 h2;simp[madeCells,Nat.mod_one]
 have hb:((w.alloc (.cells (madeCells #[.int .i64 0] r) 3)).alloc o).heap[w.heap.size]?=some (.cells (madeCells #[.int .i64 0] r) 3 (0,0)):=(((Below.refl (w.alloc (.cells (madeCells #[.int .i64 0] r) 3)).heap.size _).alloc (Nat.le_refl _) o).block w.heap.size (by simp)).trans (heap_alloc_new w _);refine⟨w.heap.size,List.replicate r 0,rfl,Nat.le_refl _,by simp,Or.inr ⟨w.heap.size,0,r,by simp[ints],by simp[ints],⟨_,hb⟩,λj hj=>?_⟩⟩;have hj':j<r:=by simpa[ints]using hj
 simp only[World.cell?,hb,Nat.zero_add];show(madeCells #[.int .i64 0] r)[j]?=_;rw[<- Array.getElem?_toList,hm];simp[ints,hj']
theorem nI{n size:Nat}{e:TypeId}{xs:List Value}(h:w.ownsRow B e size v n xs):∀g,v.ownBlock=some g->Tagged w g e:=by
 intro g hg;obtain⟨_,h1|⟨g',cap,cur,rfl,_,hh,_⟩⟩:=h
 ·rw[h1.1]at hg;cases hg
 ·cases hg;exact⟨cur,hh⟩
theorem Bq{n size:Nat}{e:TypeId}{xs:List Value}(h:w.ownsRow B e size v n xs)(he:e≠3):∀b,Tagged w b 3->¬v.ownBlock=some b:=λb hb hg=>Tagged.ne (nI h b hg) hb he rfl
theorem Tryz.infoRep:(prog.info? 165).map (λi=>(i.zero,i.size,i.bytes))=some (some (.agg (iy (.slice none 0 0)).toArray),13,184):=by kernel_rfl
theorem mO.set1{b:Nat}{v0 v1 v2 v3 v4:Value}(h:mO b v0 v1 v2 v3 v4 w)(u:Value)(ht:∀j,(w.setCell ⟨b,1,none⟩ u).frozen? ⟨b,j,none⟩=false):mO b v0 u v2 v3 v4 (w.setCell ⟨b,1,none⟩ u) :=
 ⟨(aK (Or.inr (by omega))).trans h.c0,bQ h.c1,(aK (Or.inr (by omega))).trans h.c2,(aK (Or.inr (by omega))).trans h.c3,(aK (Or.inr (by omega))).trans h.c4,ht⟩
theorem LY{c rb room r cap:Nat}{mG:List Value}(hb:mO c (.int .i64 room) (.slice (some ⟨rb,0,none⟩) r cap) (.slice none 0 0) (.int .i64 0) (.slice none 0 0) w)(ht:Tagged w c 170)(base:Nat)(hown:w.ownsRow base 165 13 (.slice (some ⟨rb,0,none⟩) r cap) r (jP mG))(hl:mG.length=r)(hr6:r<=6)(h50:room<=50):bC w c rb (.slice none 0 0) (.slice none 0 0) (λi=>mG.getD i .nilFunc) room [] 0 0 (List.replicate r []):=by
 have hcells:∀i,i<r->∀j,j<13->w.cell? ⟨rb,i*13+j,none⟩=(iy (mG.getD i .nilFunc))[j]?:=by intro i hi j hj;rw[hown.cellAt _ (by omega),EX mG i (by omega) j hj];congr 2;rw[List.getD_eq_getElem?_getD,List.getElem?_eq_getElem (by omega)];(first|done|rfl)
 obtain⟨hx,⟨h1,_⟩|⟨g,cp,cur,hv,_,hh,hcap,_⟩⟩:=hown
 ·cases h1
 ·simp only[Value.slice.injEq,Option.some.injEq,Addr.mk.injEq,true_and,and_true]at hv;obtain⟨rfl,rfl⟩:=hv;refine⟨ht,⟨cur,hh⟩,h50,by simpa using hr6,by simp,hb.c0,⟨cap,by simpa using hb.c1,by simpa using hcap⟩,hb.c2,by simpa using hb.c3,by omega,by omega,⟨[],rfl,World.ownsRow_nil _ _ _ _,λj h=>by simp at h⟩,by simp, ?_, ?_, ?_, ?_⟩
  ·intro i hi;have hi':i<r:=by simpa using hi
   rw[List.getElem_replicate];have e0:=hcells i hi' 0 (by omega);rw[Nat.add_zero]at e0;exact⟨⟨_,e0,Or.inl ⟨rfl,rfl⟩⟩,hcells i hi' 1 (by omega),hcells i hi' 7 (by omega),⟨0,hcells i hi' 9 (by omega),Nat.le_refl _⟩,⟨_,[],hcells i hi' 10 (by omega),Or.inl ⟨rfl,rfl⟩,by simp⟩,⟨0,hcells i hi' 12 (by omega),Nat.le_refl _⟩,⟨hcells i hi' 2 (by omega),hcells i hi' 3 (by omega),hcells i hi' 4 (by omega),hcells i hi' 5 (by omega),hcells i hi' 6 (by omega),hcells i hi' 8 (by omega)⟩⟩
  ·intro k hk;have:=List.eq_of_mem_replicate hk;rw[this];simp
  ·exact hb.c4
  ·intro i hi;exact hcells i (by simpa using hi) 11 (by omega)
theorem LZ(r room:Int)(w:World)(h:r<1\/6<r\/room<0\/50<room):Calls prog 107 #[.int .i64 r,.int .i64 room] w λe w'=>e=.returned (.pointer none)/\w'=w:=by
 have hd:(decide (r<1)||decide (6<r)||decide (room<0)||decide (50<room))=true:=by simp;omega
 go_enter func107,ntmps107;go_wp2;all_goals first|(go_ret;exact⟨rfl,rfl⟩)|(exfalso;omega)
theorem IY(r room:Nat)(w:World)(h1:1<=r)(h6:r<=6)(h50:room<=50):Calls prog 107 #[.int .i64 r,.int .i64 room] w λe w'=>∃rb mG,e=.returned (.pointer (some ⟨w.heap.size,0,none⟩))/\bC w' w.heap.size rb (.slice none 0 0) (.slice none 0 0) (λi=>mG.getD i .nilFunc) room [] 0 0 (List.replicate r [])/\KJ w' r w.heap.size mG/\mG.length=r/\Below w.heap.size w w'/\w.heap.size<=rb:=by
 obtain⟨iR,OJ,wU,wV,wW⟩:=info_parts Tryz.infoRep;have hmk:∀wx:World,(Instr.makeSlice 42 (.int .i64 r) (.int .i64 r)).run prog wx=.ok (.slice (some ⟨wx.heap.size,0,none⟩) r r) (wx.alloc (.cells (madeCells #[.int .i64 0] r) 3)):=λwx=>run_make_row' 42 3 (.int .i64 0) 8 underlying42 Tryz.info3 rfl .i64 .i64 r (by omega) (by omega) wx;go_enter func107,ntmps107;go_wp2;go_loopw [6] (λi wr=>∃(k:Nat)(mG:List Value)(rv:Value),k<=r/\i=.int .i64 k/\(mG.length=k/\KJ wr r w.heap.size mG)/\mO w.heap.size (.int .i64 room) rv (.slice none 0 0) (.int .i64 0) (.slice none 0 0) wr/\Tagged wr w.heap.size 170/\wr.ownsRow (w.heap.size+1) 165 13 rv k (jP mG)/\Below w.heap.size w wr/\w.heap.size+1<=wr.heap.size) (λi _=>r-(intOf i).toNat);case atStart=>exact⟨0,[],.slice none 0 0,by omega,rfl,⟨rfl,λa h=>absurd h (by simp)⟩,LX (Below.refl (w.heap.size+1) _) (by omega),⟨_,heap_alloc_new w _⟩,World.ownsRow_nil _ _ _ _,(Below.refl _ _).alloc (Nat.le_refl _) _,by simp⟩
 case round =>
  obtain⟨k,mG,rv,hk,rfl,⟨hal,hav⟩,xE,hT,hown,hnx,hsz⟩:=hrel;have Hav:Hid (KJ wr r w.heap.size mG):=hav;clear hav;by_cases hlt:k<r
  ·have yw:Hid (wr.ownsRow (w.heap.size+1) 165 13 rv k (jP mG)):=hown;have VQ:Hid (mO w.heap.size (.int .i64 room) rv (.slice none 0 0) (.int .i64 0) (.slice none 0 0) wr):=xE;have HT:Hid (Tagged wr w.heap.size 170):=hT;have c1:=xE.c1;have hwl:w.heap.size<wr.heap.size:=by omega
   have c1A:∀o,(wr.alloc o).cell? ⟨w.heap.size,1,none⟩=some rv:=λo=>(((Below.refl _ wr).alloc (Nat.le_refl _) o).cell (p:=⟨w.heap.size,1,none⟩) hwl).trans c1;have c1B:∀o o',((wr.alloc o).alloc o').cell? ⟨w.heap.size,1,none⟩=some rv:=λo o'=>((((Below.refl wr.heap.size wr).alloc (Nat.le_refl _) o).alloc (by simp) o').cell (p:=⟨w.heap.size,1,none⟩) hwl).trans c1;have m1:Hid (k+1<=maxLen):=by unfold Hid maxLen;omega
   have m2:Hid ((k+1)*184<=140737488355328):=by unfold Hid;omega
   have hone:Hid (∀av:Value,av.oneCell'=true->∀u∈iy av,u.oneCell'=true):=by intro av hav u hu;simp only[iy,List.mem_cons,List.mem_nil_iff,or_false]at hu;rcases hu with rfl|rfl|rfl|rfl|rfl|rfl|rfl|rfl|rfl|rfl|rfl|rfl|rfl<;>first|rfl|exact hav
   clear hown xE hT;have HAv:Hid (∀o,uV ((wr.alloc (.cells (madeCells #[.int .i64 0] r) 3)).alloc o) r wr.heap.size (.slice (some ⟨wr.heap.size,0,none⟩) r r)):=λo=>uV.new wr r o;have ad3:Hid (∀o,uV ((wr.drew.alloc (.cells (madeCells #[.int .i64 0] r) 3)).alloc o) r wr.heap.size (.slice (some ⟨wr.heap.size,0,none⟩) r r)):=λo=>uV.new wr.drew r o;have hwz:Hid (w.heap.size<=wr.heap.size):=by unfold Hid;omega
   go_wp2_with fail
   go_region_law (refine iY rfl (.tmp 33) (.tmp 37) 166 rfl (w.heap.size+1) 165 iR (.agg (iy (.slice none 0 0)).toArray) 13 184 underlying166 OJ wU wV wW rfl (by decide) rv k (jP mG) rfl ?_ _ 1 1 (iy (.slice (some ⟨wr.heap.size,0,none⟩) r r)) rfl rfl ?_ (hone.out _ rfl) m1.out m2.out ?_ ?_;(first|exact(yw.out.alloc _).alloc _|exact yw.out.alloc _);(intro j u hj;match j,hj with|0,hj=>(cases hj;simp[Addr.add])|1,hj=>(cases hj;simp[Addr.add])|2,hj=>(cases hj;simp[Addr.add])|3,hj=>(cases hj;simp[Addr.add])|4,hj=>(cases hj;simp[Addr.add])|5,hj=>(cases hj;simp[Addr.add])|6,hj=>(cases hj;simp[Addr.add])|7,hj=>(cases hj;simp[Addr.add])|8,hj=>(cases hj;simp[Addr.add])|9,hj=>(cases hj;simp[Addr.add])|10,hj=>(cases hj;simp[Addr.add])|11,hj=>(cases hj;simp[Addr.add])|12,hj=>(cases hj;simp[Addr.add]));(simp;omega);intro v6 w6 hown6 eG;obtain⟨g6,c6,rfl⟩:=dL hown6 (Nat.succ_pos _);have oO:ay (λx=>rv.ownBlock=some x) wr w6:=ay.grown (ay.of_below (by go_grown)) eG (λk hk=>Or.inl hk);have hN6:uV w6 r wr.heap.size (.slice (some ⟨wr.heap.size,0,none⟩) r r):=uV.aJ (by first|exact HAv.out _|exact ad3.out _) (ay.grown (M:=λx=>rv.ownBlock=some x) (ay.refl _ _) eG (λk hk=>Or.inl hk)) (Bq (by first|exact(yw.out.alloc _).alloc _|exact yw.out.alloc _) (by decide));have k1:=(World.cell?_of_block (w:=wr) (a:=⟨w.heap.size,1,none⟩) (oO.block w.heap.size hwl (λh=>Tagged.ne (nI yw.out _ h) HT.out (by decide) rfl))).trans c1;have kf:∀j,w6.frozen? ⟨w.heap.size,j,none⟩=false:=λj=>(World.frozen?_of_block (w:=wr) (a:=⟨w.heap.size,j,none⟩) (oO.block w.heap.size hwl (λh=>Tagged.ne (nI yw.out _ h) HT.out (by decide) rfl))).trans (HT.out.frozen j))
   all_goals
    go_wp2;go_roundw;case rel =>
     have KL:Below (w.heap.size+1) wr w6:=⟨oO.os,oO.tape,oO.output,oO.size,λi hi=>oO.block i (by omega) (λh=>by have:=(yw.out.lt i h).1;omega)⟩;have XU:Tagged w6 w.heap.size 170:=by obtain⟨cur,hh⟩:=HT.out;exact⟨cur,(KL.block w.heap.size (by omega)).trans hh⟩
     have hB7:=(VQ.out.below KL (by omega)).set1 (.slice (some ⟨g6,0,none⟩) (k+1) c6) (λj=>(XU.setCell _ _).frozen j);have Ae:Below w.heap.size w (w6.setCell ⟨w.heap.size,1,none⟩ (.slice (some ⟨g6,0,none⟩) (k+1) c6)):=(hnx.trans (KL.mono (by omega))).setCell (p:=⟨w.heap.size,1,none⟩) (Nat.le_refl _) _;have hs7:ay (λx=>x=w.heap.size) w6 (w6.setCell ⟨w.heap.size,1,none⟩ (.slice (some ⟨g6,0,none⟩) (k+1) c6)):=(ay.refl (λx=>x=w.heap.size) w6).setCell (p:=⟨w.heap.size,1,none⟩) rfl _;have ad4:KJ (w6.setCell ⟨w.heap.size,1,none⟩ (.slice (some ⟨g6,0,none⟩) (k+1) c6)) r w.heap.size (mG++[.slice (some ⟨wr.heap.size,0,none⟩) r r]):=by
      intro a ha;rcases List.mem_append.1 ha with h1|h1
      ·exact((Hav.out a h1).aJ oO (Bq yw.out (by decide))).aJ hs7 (λb hb e=>Tagged.ne hb XU (by decide) e)
      ·have e:a=_:=List.mem_singleton.1 h1;rw[e];obtain⟨b,kl,h2,h3,h4⟩:=hN6;exact uV.aJ (w:=w6) ⟨b,kl,h2,Nat.le_trans hwz.out h3,h4⟩ hs7 (λb hb e=>Tagged.ne hb XU (by decide) e)
     exact⟨k+1,mG++[.slice (some ⟨wr.heap.size,0,none⟩) r r],.slice (some ⟨g6,0,none⟩) (k+1) c6,by omega,by go_num,⟨by simp[hal],ad4⟩,hB7,XU.setCell _ _,by rw[Df];exact ownsRow_setCell_below hown6 (by show w.heap.size<w.heap.size+1;omega) _,Ae,by have:=KL.size;simp;omega⟩
    case measure=>simp[intOf];omega
  ·have hkr:k=r:=by omega
   subst hkr;obtain⟨rb,cap,rfl⟩:=dL hown (by omega);have HF:Hid (_):=LY xE hT _ hown hal h6 h50;have hrb:w.heap.size<=rb:=by have:=(hown.lt rb rfl).1;omega
   clear hown xE hT;go_wp2;go_ret;exact⟨rb,mG,rfl,HF.out,Hav.out,hal,hnx,hrb⟩
