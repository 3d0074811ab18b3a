import Derived.Test.YtfmmllpjgkgeaaaGreatDoorPart38
set_option linter.unusedVariables false
set_option linter.unusedSimpArgs false
set_option maxHeartbeats 16000000
set_option maxRecDepth 100000
namespace Go.Proofs.YtfmmllpjgkgeaaaGreatDoor
open Go.RowKit

def FrD.key (f:FrD):Nat × Nat × Nat × List Bool:=(f.src,f.dst,f.ack,f.known)
structure Same (s t:St):Prop where
 es:t.es=s.es
 kn:t.kn=s.kn
 fs:t.fs.map FrD.key=s.fs.map FrD.key
theorem Same.fl {s t:St} (h:Same s t):t.fs.length=s.fs.length:=by have:=congrArg List.length h.fs;simpa using this
theorem Same.no {s t:St} (h:Same s t) (f:Int):(frNo t f).map FrD.key=(frNo s f).map FrD.key:=by
 unfold frNo
 rw[h.fl]
 split
 ·rw[<- List.getElem?_map,<- List.getElem?_map,h.fs]
 ·rfl
theorem EvFor.uniq {s t:St} (h:Same s t) {i a b:Nat} {e e':Ev} (h1:EvFor s i a b e) (h2:EvFor t i a b e'):e'=e:=by
 obtain ⟨c,r1,p1,p2,p3,p4⟩:=h1.ex
 obtain ⟨c',r2,q1,q2,q3,q4⟩:=h2.ex
 rw[r1] at r2
 cases r2
 have s1:=h1.saw
 have s2:=h2.saw
 rw[h.kn] at s2
 have a1:e'.p=e.p:=toL_inj (q1.trans p1.symm)
 have a3:e'.v=e.v:=toL_inj (q3.trans p3.symm)
 obtain ⟨x1,x2,x3,x4,x5⟩:=e
 obtain ⟨y1,y2,y3,y4,y5⟩:=e'
 simp only at *
 subst a1 a3 s1 s2 p2 p4
 rw[q2,q4]
theorem Same.send {s t s' t':St} (h:Same s t) {i j:Int} (h1:SendTo s i j s') (h2:SendTo t i j t'):Same s' t':=by
 obtain ⟨a1,a2,a3⟩:=h1
 obtain ⟨b1,b2,b3⟩:=h2
 have hr:sendR t i j=sendR s i j:=by unfold sendR;rw[h.kn,h.fl]
 rw[hr] at b3
 refine ⟨by rw[b1,a1,h.es],by rw[b2,a2,h.kn], ?_⟩
 split at a3
 ·rename_i hz
  rw[if_pos hz] at b3
  obtain ⟨b,a3⟩:=a3
  obtain ⟨b',b3⟩:=b3
  rw[a3,b3,List.map_append,List.map_append,h.fs,h.kn]
  rfl
 ·rename_i hz
  rw[if_neg hz] at b3
  rw[a3,b3,h.fs]
theorem Same.del {s t s' t':St} (h:Same s t) {f:Int} (h1:DelTo s f s') (h2:DelTo t f t'):Same s' t':=by
 obtain ⟨a1,a2⟩:=h1
 obtain ⟨b1,b2⟩:=h2
 have hn:=h.no f
 cases hs:frNo s f with
 | none =>
  rw[hs] at a2 hn
  cases ht:frNo t f with
  | none =>
   rw[ht] at b2
   exact ⟨by rw[b1,a1,h.es],by rw[b2.1,a2.1,h.kn],by rw[b2.2,a2.2,h.fs]⟩
  | some g=>rw[ht] at hn;cases hn
 | some g =>
  rw[hs] at a2 hn
  cases ht:frNo t f with
  | none=>rw[ht] at hn;cases hn
  | some g' =>
   rw[ht] at b2 hn
   have hk:g'.key=g.key:=by simpa using hn
   obtain ⟨x1,x2,x3,x4,x5⟩:=g
   obtain ⟨y1,y2,y3,y4,y5⟩:=g'
   unfold FrD.key at hk
   simp only[Prod.mk.injEq] at hk
   obtain ⟨rfl,rfl,rfl,rfl⟩:=hk
   simp only at a2 b2
   rw[h.fl] at b2
   split at a2
   ·rename_i hz
    rw[if_pos hz] at b2
    exact ⟨by rw[b1,a1,h.es],by rw[b2.1,a2.1,h.kn],by rw[b2.2,a2.2,h.fs]⟩
   ·rename_i hz
    rw[if_neg hz] at b2
    obtain ⟨a2,b,a3⟩:=a2
    obtain ⟨b2,b',b3⟩:=b2
    refine ⟨by rw[b1,a1,h.es],by rw[b2,a2,h.kn], ?_⟩
    rw[a3,b3,List.map_append,List.map_append,h.fs]
    rfl
theorem Same.play {n:Nat} {s t s' t':St} (h:Same s t) {a:ActD} (h1:PlayTo n s a s') (h2:PlayTo n t a t'):Same s' t':=by
 unfold PlayTo at h1 h2
 split at h1
 ·rename_i hz
  rw[if_pos hz] at h2
  obtain ⟨e,e1,rfl⟩:=h1
  obtain ⟨e',e2,rfl⟩:=h2
  have:=EvFor.uniq h e1 e2
  subst this
  exact ⟨by show t.es ++ _=s.es ++ _;rw[h.es],by show t.kn.set _ _=s.kn.set _ _;rw[h.kn,h.es],h.fs⟩
 ·rename_i hz
  rw[if_neg hz] at h2
  split at h1
  ·rename_i hz2
   rw[if_pos hz2] at h2
   split at h1
   ·rename_i hz3
    rw[if_pos hz3] at h2
    rw[h1,h2];exact h
   ·rename_i hz3
    rw[if_neg hz3] at h2
    exact h.send h1 h2
  ·rename_i hz2
   rw[if_neg hz2] at h2
   split at h1
   ·rename_i hz3
    rw[if_pos hz3,h.fl] at h2
    split at h1
    ·rename_i hz4
     rw[if_pos hz4] at h2
     rw[h1,h2];exact h
    ·rename_i hz4
     rw[if_neg hz4] at h2
     exact h.del h1 h2
   ·rename_i hz3
    rw[if_neg hz3] at h2
    rw[h1,h2];exact h
end Go.Proofs.YtfmmllpjgkgeaaaGreatDoor

