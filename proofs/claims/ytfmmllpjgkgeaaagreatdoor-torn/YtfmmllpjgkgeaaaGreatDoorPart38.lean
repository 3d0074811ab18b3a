import Derived.Test.YtfmmllpjgkgeaaaGreatDoorPart35
set_option linter.unusedVariables false
set_option linter.unusedSimpArgs false
set_option maxHeartbeats 16000000
set_option maxRecDepth 100000
namespace Go.Proofs.YtfmmllpjgkgeaaaGreatDoor
theorem PlayTo.evs {n c:Nat} {s s':St} {a:ActD} (h:KOk n c s) (hc:c<=400) (hp:PlayTo n s a s'):s'.es.length=s.es.length+evMore a:=by
 have hi:=pickN_lt a.i (show 1<=n by have:=h.n2;omega)
 have hj:=pickN_lt a.j (show 1<=n by have:=h.n2;omega)
 have hfl:=h.fl
 unfold PlayTo at hp
 unfold evMore
 by_cases h3:pickN a.kd 8<3
 ·rw[if_pos h3] at hp ⊢
  obtain ⟨e,he,rfl⟩:=hp
  simp
 ·rw[if_neg h3] at hp ⊢
  split at hp
  ·split at hp
   ·rw[hp];(first | done | rfl)
   ·rw[hp.1];(first | done | rfl)
  ·split at hp
   ·split at hp
    ·rw[hp];(first | done | rfl)
    ·rw[hp.1];(first | done | rfl)
   ·rw[hp];(first | done | rfl)

end Go.Proofs.YtfmmllpjgkgeaaaGreatDoor
namespace Go.Proofs.YtfmmllpjgkgeaaaGreatDoor
namespace Thk
end Thk

structure CzOk (es:List Ev) (sum:Int):Prop where
 ex:∃ cs:List Ev,es=zE1 :: zE2 :: cs/\(∀ e∈cs,toL e.p=[99,122]/\e.a=62)/\sum=(cs.map (·.n)).sum
theorem CzOk.start:CzOk [zE1,zE2] 0:=⟨[],rfl,fun e he=>by simp at he,rfl⟩
theorem CzOk.more {es:List Ev} {sum:Int} (h:CzOk es sum) {e:Ev} (hp:toL e.p=[99,122]) (ha:e.a=62):CzOk (es ++ [e]) (sum+e.n):=by
 obtain ⟨cs,h1,h2,h3⟩:=h.ex
 refine ⟨cs ++ [e],by rw[h1];rfl,fun x hx=>?_,by rw[h3];simp⟩
 rcases List.mem_append.1 hx with hx | hx
 ·exact h2 x hx
 ·simp at hx;subst hx;exact ⟨hp,ha⟩

theorem covTo_no (es:List Ev) (known:List Bool) (k:Nat) (h:∀ d,k<d->covAt es known k d=false):∀ n,covTo es known k n=false
 | 0=>rfl
 | n+1=>by
  unfold covTo
  rw[covTo_no es known k h n,Bool.false_or]
  by_cases hk:k<n
  ·rw[h n hk,Bool.and_false]
  ·rw[show decide (k<n)=false by simpa using hk];(first | done | rfl)
end Go.Proofs.YtfmmllpjgkgeaaaGreatDoor
namespace Go.Proofs.YtfmmllpjgkgeaaaGreatDoor
end Go.Proofs.YtfmmllpjgkgeaaaGreatDoor

