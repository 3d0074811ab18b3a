import Derived.Test.YtfmmllpjgkgeaaaGreatDoorPart35
set_option linter.unusedVariables false
set_option linter.unusedSimpArgs false
set_option maxHeartbeats 16000000
set_option maxRecDepth 100000
namespace Go.Proofs.YtfmmllpjgkgeaaaGreatDoor
theorem PlayTo.evs {n c:Nat} {s s':St} {a:ActD} (h:KOk n c s) (hc:c<=400) (hp:PlayTo n s a s'):s'.es.length=s.es.length+evMore a:=by
 have hi:=pickN_lt a.i (show 1<=n by have:=h.n2;omega)
 have hj:=pickN_lt a.j (show 1<=n by have:=h.n2;omega)
 have hfl:=h.fl
 unfold PlayTo at hp
 unfold evMore
 by_cases h3:pickN a.kd 8<3
 ·rw[if_pos h3] at hp ⊢
  obtain ⟨e,he,rfl⟩:=hp
  simp
 ·rw[if_neg h3] at hp ⊢
  split at hp
  ·split at hp
   ·rw[hp];(first | done | rfl)
   ·rw[hp.1];(first | done | rfl)
  ·split at hp
   ·split at hp
    ·rw[hp];(first | done | rfl)
    ·rw[hp.1];(first | done | rfl)
   ·rw[hp];(first | done | rfl)

end Go.Proofs.YtfmmllpjgkgeaaaGreatDoor
namespace Go.Proofs.YtfmmllpjgkgeaaaGreatDoor
namespace Thk
end Thk

end Go.Proofs.YtfmmllpjgkgeaaaGreatDoor
namespace Go.Proofs.YtfmmllpjgkgeaaaGreatDoor
end Go.Proofs.YtfmmllpjgkgeaaaGreatDoor

