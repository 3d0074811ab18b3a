import Derived.Test.YtfmmllpjgkgeaaaGreatDoorPart37
import Derived.Test.YtfmmllpjgkgeaaaGreatDoorPart38
set_option linter.unusedVariables false
set_option linter.unusedSimpArgs false
set_option maxHeartbeats 16000000
set_option maxRecDepth 100000
namespace Go.Proofs.YtfmmllpjgkgeaaaGreatDoor
open Go.RowKit
variable {F:Stt} {R:Nat->Prop}

structure ActsAt (w:World) (b off:Nat) (l:List ActD):Prop where
 lt:b<w.heap.size
 c0:∀ j (h:j<l.length),w.cell? ⟨b,off+j*5,none⟩=some (.int .i64 l[j].kd)
 c1:∀ j (h:j<l.length),w.cell? ⟨b,off+j*5+1,none⟩=some (.int .i64 l[j].i)
 c2:∀ j (h:j<l.length),w.cell? ⟨b,off+j*5+2,none⟩=some (.int .i64 l[j].j)
 c3:∀ j (h:j<l.length),w.cell? ⟨b,off+j*5+3,none⟩=some (.int .i64 l[j].k)
 c4:∀ j (h:j<l.length),w.cell? ⟨b,off+j*5+4,none⟩=some (.int .i64 l[j].v)
theorem ActsAt.below {w w':World} {b off:Nat} {l:List ActD} (h:ActsAt w b off l) (hb:Below w.heap.size w w'):ActsAt w' b off l :=
 ⟨Nat.lt_of_lt_of_le h.lt hb.size,fun j hj=>(hb.cell (p:=⟨b,_,none⟩) h.lt).trans (h.c0 j hj),fun j hj=>(hb.cell (p:=⟨b,_,none⟩) h.lt).trans (h.c1 j hj),fun j hj=>(hb.cell (p:=⟨b,_,none⟩) h.lt).trans (h.c2 j hj),fun j hj=>(hb.cell (p:=⟨b,_,none⟩) h.lt).trans (h.c3 j hj),fun j hj=>(hb.cell (p:=⟨b,_,none⟩) h.lt).trans (h.c4 j hj)⟩
structure ActsV (w:World) (v:Value) (l:List ActD):Prop where
 ex:∃ ad cap,v=.slice ad l.length cap/\(0<l.length->∃ b off,ad=some ⟨b,off,none⟩/\l.length<=cap/\ActsAt w b off l)
 ok:∀ a∈l,a.ok

structure AI (F:Stt) (T:Nat->Prop) (w:World) (x tb n i:Nat) (s:St) (wr:World):Prop where
 k:KAt F T w x s wr
 t:TalAt wr tb s.fs.length s.es.length
 ok:KOk n i s
 ht:T tb
 hb:w.heap.size<=tb
theorem AI.play (hF:ProgOK F R) (hP:ProgFrame F) (hT:ProgTick F) {T:Nat->Prop} {w wr:World} {x tb n i:Nat} {s:St} (h:AI F T w x tb n i s wr) (hi:i<=400) {a:ActD} (ha:a.ok) :
  Calls Tryz.prog 19 #[.pointer (some ⟨tb,0,none⟩),.pointer (some ⟨x,0,none⟩),.int .i64 (n:Int),a.val] wr fun e w'=>e=.returned (.bool true)/\∃ s',PlayTo n s a s'/\AI F T w x tb n (i+1) s' w'/\Chg (fun k=>Mk w.heap.size T k\/k=tb) wr w':=by
 have hev:=h.ok.ev
 refine Calls.mono (play_any hF hP hT T w wr x tb n i s.es.length a s h.ok hi (by omega) ha h.k h.t h.ht h.hb) ?_
 rintro e w' ⟨rfl,s',hp,hk,ht,hc⟩
 exact ⟨rfl,s',hp,⟨hk,by rw[hp.evs h.ok hi];exact ht,h.ok.play hi hp,h.ht,h.hb⟩,hc⟩
theorem AI.start (hP:ProgFrame F) {w w1:World} {x n:Nat} (hn:2<=n/\n<=4) (h:KAt F (fun _=>False) w x (zS n) w1):AI F (fun k=>k=w1.heap.size) w x w1.heap.size n 0 (zS n) (w1.alloc (.cells #[.int .i64 0,.int .i64 2] 32)) :=
 ⟨(h.box hP _).less (fun k hk=>Or.inr hk),Blk.new _ _ _,KOk.start hn.1 hn.2,rfl,h.bel.size⟩
end Go.Proofs.YtfmmllpjgkgeaaaGreatDoor

