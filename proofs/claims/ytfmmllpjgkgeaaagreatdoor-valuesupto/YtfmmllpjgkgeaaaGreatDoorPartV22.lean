import Derived.Test.YtfmmllpjgkgeaaaGreatDoorPartV15
import Derived.Test.YtfmmllpjgkgeaaaGreatDoorPartV21
set_option linter.unusedVariables false
set_option linter.unusedSimpArgs false
set_option maxHeartbeats 16000000
set_option maxRecDepth 100000
namespace Go.Proofs.YtfmmllpjgkgeaaaGreatDoor
open Go.RowKit Go.Maps Go.WideMaps Go.Shelf

theorem toL_nums (l:Thk.Bs):toL (strOfNums (l.map fun b=>(b.toNat:Int)))=l:=by
 unfold toL strOfNums
 simp[List.map_map,Function.comp_def]
theorem conv_out {B:Nat} {w:World} {v:Value} {l:Thk.Bs} (h:OutV B w v l) (hl:l≠[]):(convert 93 9 v).run Tryz.prog w=.ok (.string (strOfNums (l.map fun b=>(b.toNat:Int)))) w:=by
 have hcl:=fun g (hg:v.ownBlock=some g)=>h.cells hg
 rcases h.2 with ⟨rfl,h2⟩ | ⟨g,cap,cur,rfl,_⟩
 ·exact absurd (List.eq_nil_of_length_eq_zero h2) hl
 ·refine run_convert_bytes_arg (P:=Tryz.prog) _ 93 5 Tryz.underlying93 Tryz.underlying5 g 0 l.length cap _ (by simp) ?_ 9 Tryz.underlying9
  intro i hi
  have:=hcl g rfl i (.int .u8 (l[i].toNat:Int)) (by unfold bsV;simp[hi])
  rw[addr0] at this
  rw[Nat.zero_add,this]
  simp[hi]
theorem encN_ne (n:Nat) (l:Thk.Bs):encN n ++ l≠[]:=fun h=>by
 have h1:=encN_len n
 have h2:=congrArg List.length h
 rw[List.length_append] at h2
 simp at h2
 rw[h2.1] at h1
 simp at h1

theorem encS_small {C:Nat->Option Thk.Ch} {rs:List (Nat × Nat)} {xs:List Itm} (l:Thk.Bs) (hl:l.length<=100) (hr:rs.length<=505) (hx:xs.length<=505) (h:∀ k c,C k=some c->(txtC c).length<=1000):(l ++ encS rs (wIt C xs)).length<=600000:=by
 have h1:=enc_small l rs rs.length hl hr
 rw[List.take_length] at h1
 have h2:=items_small C h xs
 have h3:=encN_len (wIt C xs).length
 unfold encS
 simp only[List.length_append] at h1 ⊢
 have:xs.length*1006<=505*1006:=Nat.mul_le_mul_right _ hx
 omega
end Go.Proofs.YtfmmllpjgkgeaaaGreatDoor
namespace Go.Proofs.YtfmmllpjgkgeaaaGreatDoor
open Go.RowKit Go.Maps Go.WideMaps

end Go.Proofs.YtfmmllpjgkgeaaaGreatDoor
namespace Go.Proofs.YtfmmllpjgkgeaaaGreatDoor
open Go.RowKit Go.Maps Go.WideMaps Go.Shelf

end Go.Proofs.YtfmmllpjgkgeaaaGreatDoor

