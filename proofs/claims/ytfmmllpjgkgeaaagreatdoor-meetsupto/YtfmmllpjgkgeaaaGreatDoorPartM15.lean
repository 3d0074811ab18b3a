import Derived.Test.YtfmmllpjgkgeaaaGreatDoorPartM12
set_option linter.unusedVariables false
set_option linter.unusedSimpArgs false
set_option maxHeartbeats 16000000
set_option maxRecDepth 100000
namespace Go.Proofs.YtfmmllpjgkgeaaaGreatDoor
open Go.Proofs.Tryz Go.RowKit
theorem Ju(w:World)(c rb:Nat)(bU fv:Value)(av:Nat->Value)(room:Nat)(es:List Ev)(acc most:Nat)(au:List (List Bool))(h:bC w c rb bU fv av room es acc most au)(i j:Int)(hij:¬((0<=i/\i<au.length)/\(0<=j/\j<au.length))):Calls prog 113 #[.pointer (some ⟨c,0,none⟩),.int .i64 i,.int .i64 j] w λe w'=>e=.returned (.tuple #[.int .i64 0,.int .i64 2])/\w'=w:=by
 have HU:Hid (∀i:Int,Calls prog 109 #[.pointer (some ⟨c,0,none⟩),.int .i64 i] w λe w'=>e=.returned (.int .i64 (if 0<=i/\i<au.length then 0 else 2))/\w'=w):=λi=>nG w c rb bU fv av room es acc most au h i;clear h;by_cases hi:0<=i/\i<au.length
 ·have hj:¬(0<=j/\j<au.length):=λhj=>hij ⟨hi,hj⟩;have HI:Hid (_):=HU.out i;have HJ:Hid (_):=HU.out j;rw[if_pos hi]at HI;rw[if_neg hj]at HJ;clear hi hj hij HU;go_enter func113,ntmps113;go_wp2_with fail;refine Calls.mono HI.out ?_;rintro e w1⟨rfl,rfl⟩;go_wp2_with fail;refine Calls.mono HJ.out ?_;rintro e w1⟨rfl,rfl⟩;go_wp2_with fail;go_ret2;exact⟨rfl,rfl⟩
 ·have HI:Hid (_):=HU.out i;rw[if_neg hi]at HI;clear hi hij HU;go_enter func113,ntmps113;go_wp2_with fail;refine Calls.mono HI.out ?_;rintro e w1⟨rfl,rfl⟩;go_wp2_with fail;go_ret2;exact⟨rfl,rfl⟩
theorem wE(w:World)(c rb:Nat)(bU fv:Value)(av:Nat->Value)(room:Nat)(es:List Ev)(acc most:Nat)(au:List (List Bool))(h:bC w c rb bU fv av room es acc most au)(fs:List oZ)(hf:gB w fv fs)(al8:fs.length<=500)(i j:Int)(hi:0<=i/\i<au.length)(hj:0<=j/\j<au.length)(hx:i=j\/500<=fs.length):Calls prog 113 #[.pointer (some ⟨c,0,none⟩),.int .i64 i,.int .i64 j] w λe w'=>e=.returned (.tuple #[.int .i64 0,.int .i64 (if i=j then 1 else 7)])/\w'=w:=by
 have HI:Hid (_):=nG w c rb bU fv av room es acc most au h i;have HJ:Hid (_):=nG w c rb bU fv av room es acc most au h j;rw[if_pos hi]at HI;rw[if_pos hj]at HJ;obtain⟨fo,fc,hfv,hfc⟩:=hf.shape;have f4:w.cell? ⟨c,4,none⟩=some (.slice fo fs.length fc):=by rw[<- hfv];exact h.f4
 clear h hf hfv hi hj;by_cases hij:i=j
 ·rw[if_pos hij];subst hij;clear hx;go_enter func113,ntmps113;go_wp2_with fail;refine Calls.mono HI.out ?_;rintro e w1⟨rfl,rfl⟩;go_wp2_with fail;refine Calls.mono HJ.out ?_;rintro e w1⟨rfl,rfl⟩;go_wp2_with fail;go_ret2;exact⟨rfl,rfl⟩
 ·rw[if_neg hij];have hb:(i==j)=false:=beq_eq_false_iff_ne.2 hij;have h5:500<=fs.length:=hx.resolve_left hij;have h5I:(500:Int)<=(fs.length:Int):=by omega
  clear hx hij;go_enter func113,ntmps113;go_wp2_with fail;refine Calls.mono HI.out ?_;rintro e w1⟨rfl,rfl⟩;go_wp2_with fail;refine Calls.mono HJ.out ?_;rintro e w1⟨rfl,rfl⟩;go_wp2_with fail;go_ret2;exact⟨rfl,rfl⟩
