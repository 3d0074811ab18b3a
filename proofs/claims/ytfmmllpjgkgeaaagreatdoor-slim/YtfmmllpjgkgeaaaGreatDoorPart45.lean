import Derived.Test.YtfmmllpjgkgeaaaGreatDoorPart42
set_option linter.unusedVariables false
set_option linter.unusedSimpArgs false
set_option maxHeartbeats 16000000
set_option maxRecDepth 100000
namespace Go.Proofs.YtfmmllpjgkgeaaaGreatDoor
open Go.RowKit
variable {F:Stt} {R:Nat->Prop} {H:(Nat->Nat->Prop)->(Nat->Prop)->Stt} {L:Nat->Stt}

structure ProgSlim (F:Stt) (H:(Nat->Nat->Prop)->(Nat->Prop)->Stt) (L:Nat->Stt):Prop where
 inn:∀ {w x S s},F w x S s->H (fun _ _=>False) (fun _=>False) w x S s
 mono:∀ {A A' Z Z' w x S s},H A Z w x S s->(∀ i j,A' i j->A i j)->(∀ i,Z' i->Z i)->H A' Z' w x S s
 sends:∀ A Z w x S s (i j:Nat),Glob w->H A Z w x S s->Calls Tryz.prog 27 #[.pointer (some ⟨x,0,none⟩),.int .i64 (i:Int),.int .i64 (j:Int)] w fun e w'=>e=.returned (.tuple #[.int .i64 (sendR s i j).1,.int .i64 (sendR s i j).2])/\∃ S' s',SendTo s i j s'/\H A Z w' x S' s'/\(∀ k,S' k->S k\/w.heap.size<=k)/\Chg S w w'
 data:∀ A Z w x S s f,Glob w->H A Z w x S s->Calls Tryz.prog 31 #[.pointer (some ⟨x,0,none⟩),.int .i64 f] w fun e w'=>e=.returned (.tuple #[.int .i64 (delR s f).1,.int .i64 (delR s f).2])/\∃ S' s',DelTo s f s'/\(s'.kn=s.kn->H A Z w' x S' s')/\(∀ k,S' k->S k\/w.heap.size<=k)/\Chg S w w'
 ackd:∀ A Z w x S s f g g0,Glob w->H A Z w x S s->frNo s f=some g->0<g.ack->frNo s (g.ack:Int)=some g0->cnt g0.known=cnt (s.kn.getD g.dst [])->Calls Tryz.prog 31 #[.pointer (some ⟨x,0,none⟩),.int .i64 f] w fun e w'=>e=.returned (.tuple #[.int .i64 0,.int .i64 0])/\∃ S',H (fun i j=>A i j\/(i=g.dst/\j=g.src)) Z w' x S' s/\(∀ k,S' k->S k\/w.heap.size<=k)/\Chg S w w'
 tick:∀ A Z w x S s (i:Nat),Glob w->H A Z w x S s->i<s.kn.length->(∀ j,j<s.kn.length->j≠i->A i j)->Calls Tryz.prog 36 #[.pointer (some ⟨x,0,none⟩),.int .i64 (i:Int)] w fun e w'=>e=.returned (.int .i64 0)/\∃ S',H A (fun k=>Z k\/k=i) w' x S' s/\(∀ k,S' k->S k\/w.heap.size<=k)/\Chg S w w'
 waits:∀ A Z w x S s (i:Nat),H A Z w x S s->i<s.kn.length->Z i->Calls Tryz.prog 37 #[.pointer (some ⟨x,0,none⟩),.int .i64 (i:Int)] w fun e w'=>e=.returned (.tuple #[.int .i64 0,.int .i64 0])/\∃ S',H A Z w' x S' s/\(∀ k,S' k->S k\/w.heap.size<=k)/\Chg S w w'
 toLL:∀ {A Z w x S s},H A Z w x S s->A 0 1->Z 0->2<=s.kn.length->L 0 w x S s
 sendL:∀ k w x S s,Glob w->L k w x S s->2<=s.kn.length->s.fs.length<500->s.es.length<=120->k<=20->Calls Tryz.prog 27 #[.pointer (some ⟨x,0,none⟩),.int .i64 0,.int .i64 1] w fun e w'=>e=.returned (.tuple #[.int .i64 ((s.fs.length:Int)+1),.int .i64 0])/\∃ S' s' b,s'.es=s.es/\s'.kn=s.kn/\s'.fs=s.fs ++ [⟨0,1,0,s.kn.getD 0 [],b⟩]/\b.size<=80+80*k+8*s.es.length/\(k=0->b.size<=80)/\L k w' x S' s'/\(∀ k,S' k->S k\/w.heap.size<=k)/\Chg S w w'
 frameL:∀ k w x S s f,Glob w->L k w x S s->Calls Tryz.prog 28 #[.pointer (some ⟨x,0,none⟩),.int .i64 f] w fun e w'=>e=.returned (.tuple #[.string (frameR s f).1,.int .i64 (frameR s f).2])/\∃ S',L k w' x S' s/\(∀ k,S' k->S k\/w.heap.size<=k)/\Chg S w w'
 doL:∀ k w x S s t es' kn',Glob w->L k w x S s->k<50->t.size<=1048576->DoOut s.es s.kn 0 (toL t) 0 es' kn'->Calls Tryz.prog 23 #[.pointer (some ⟨x,0,none⟩),.int .i64 0,.string t] w fun e w'=>e=.returned (.int .i64 0)/\∃ S',L (k+1) w' x S' ⟨es',kn',s.fs⟩/\(∀ k,S' k->S k\/w.heap.size<=k)/\Chg S w w'
 waitL:∀ k w x S s,L k w x S s->1<=s.kn.length->Calls Tryz.prog 37 #[.pointer (some ⟨x,0,none⟩),.int .i64 0] w fun e w'=>e=.returned (.tuple #[.int .i64 (k:Int),.int .i64 0])/\∃ S',L k w' x S' s/\(∀ k,S' k->S k\/w.heap.size<=k)/\Chg S w w'
 stL:∀ {k M w w' x S s},L k w x S s->Chg M w w'->(∀ b,S b->¬M b)->L k w' x S s
section
variable {T:Nat->Prop} {w wx w0:World} {x:Nat} {s:St} {A:Nat->Nat->Prop} {Z:Nat->Prop}
theorem KAt.nextP {P P':Stt} {S S':Nat->Prop} {wy:World} {s':St} (h:KAt P T w x s wx) (hS:∀ k,S k->w.heap.size<=k/\¬T k) (hf:P' wy x S' s') (hs:∀ k,S' k->S k\/wx.heap.size<=k) (hc:Chg S wx wy):KAt P' T w x s' wy/\Chg (Mk w.heap.size T) wx wy :=
 have hb:Below w.heap.size wx wy:=chgS_below hc (fun k hk=>(hS k hk).1) h.bel.size
 ⟨⟨⟨S',hf,fun k hk=>(hs k hk).elim (hS k) (fun h2=>⟨Nat.le_trans h.bel.size h2,fun ht=>by have:=h.tl k ht;omega⟩)⟩,fun k hk=>Nat.lt_of_lt_of_le (h.tl k hk) hc.size,h.bel.trans hb,h.gw⟩,chg_wide hc (fun k hk=>hS k hk)⟩
theorem KAt.inH (hS:ProgSlim F H L) (h:KAt F T w x s wx):KAt (H (fun _ _=>False) (fun _=>False)) T w x s wx:=by
 obtain ⟨S,f1,s1⟩:=h.f
 exact ⟨⟨S,hS.inn f1,s1⟩,h.tl,h.bel,h.gw⟩
theorem KAt.monoH (hS:ProgSlim F H L) {A':Nat->Nat->Prop} {Z':Nat->Prop} (h:KAt (H A Z) T w x s wx) (hA:∀ i j,A' i j->A i j) (hZ:∀ i,Z' i->Z i):KAt (H A' Z') T w x s wx:=by
 obtain ⟨S,f1,s1⟩:=h.f
 exact ⟨⟨S,hS.mono f1 hA hZ,s1⟩,h.tl,h.bel,h.gw⟩
theorem KAt.toLs (hS:ProgSlim F H L) (h:KAt (H A Z) T w x s wx) (hA:A 0 1) (hZ:Z 0) (h2:2<=s.kn.length):KAt (L 0) T w x s wx:=by
 obtain ⟨S,f1,s1⟩:=h.f
 exact ⟨⟨S,hS.toLL f1 hA hZ h2,s1⟩,h.tl,h.bel,h.gw⟩
theorem KAt.belL (hS:ProgSlim F H L) {k:Nat} {wy:World} (h:KAt (L k) T w x s wx) (hb:Below wx.heap.size wx wy):KAt (L k) T w x s wy/\Chg (Mk w.heap.size T) wx wy:=by
 obtain ⟨S,f1,s1⟩:=h.f
 exact ⟨⟨⟨S,hS.stL (M:=fun _=>False) f1 (Chg.of_below hb) (fun _ _ h=>h),s1⟩,fun k hk=>Nat.lt_of_lt_of_le (h.tl k hk) hb.size,h.bel.trans (hb.mono h.bel.size),h.gw⟩,Chg.of_below hb⟩
theorem exchangeH (hS:ProgSlim F H L) (h:KAt (H A Z) T w x s w0) {i j:Nat} (hi:i<s.kn.length) (hj:j<s.kn.length) (hne:i≠j) (hl:s.fs.length+2<=500) (hk:s.kn.getD j []=s.kn.getD i []) :
  Calls Tryz.prog 35 #[.pointer (some ⟨x,0,none⟩),.int .i64 (i:Int),.int .i64 (j:Int)] w0 fun e w'=>e=.returned (.bool true)/\∃ s',(s'.es=s.es/\s'.kn=s.kn/\s'.fs.length=s.fs.length+2)/\KAt (H (fun p q=>A p q\/(p=i/\q=j)) Z) T w x s' w'/\Chg (Mk w.heap.size T) w0 w':=by
 have hdk:delK (s.kn.getD j []) (s.kn.getD i [])=s.kn.getD j []:=by
  rw[hk]
  unfold delK
  refine if_neg fun hlt=>?_
  have:cnt (bothL (s.kn.getD i []) (s.kn.getD i []))<=cnt (s.kn.getD i []):=by
   have h1:=cnt_range (bothL (s.kn.getD i []) (s.kn.getD i [])) ((bothL (s.kn.getD i []) (s.kn.getD i [])).length+(s.kn.getD i []).length) (by omega)
   have h2:=cnt_range (s.kn.getD i []) ((bothL (s.kn.getD i []) (s.kn.getD i [])).length+(s.kn.getD i []).length) (by omega)
   rw[<- h1,<- h2]
   refine Nat.le_of_eq (congrArg List.length (List.filter_congr fun k _=>?_))
   rw[bothL_getD];simp
  omega
 have hset:s.kn.set j (s.kn.getD j [])=s.kn:=by
  have:s.kn.getD j []=s.kn[j]:=by simp[hj]
  rw[this,List.set_getElem_self]
 refine Calls.mono (exchange_of (N:=s.fs.length) (A1:=fun w1=>∃ b,KAt (H A Z) T w x ⟨s.es,s.kn,s.fs ++ [⟨i,j,0,s.kn.getD i [],b⟩]⟩ w1/\Chg (Mk w.heap.size T) w0 w1)
  (A2:=fun w1=>∃ b c,KAt (H A Z) T w x ⟨s.es,s.kn,s.fs ++ [⟨i,j,0,s.kn.getD i [],b⟩] ++ [⟨j,i,s.fs.length+1,[],c⟩]⟩ w1/\Chg (Mk w.heap.size T) w0 w1)
  (A3:=fun w1=>∃ b c,KAt (H (fun p q=>A p q\/(p=i/\q=j)) Z) T w x ⟨s.es,s.kn,s.fs ++ [⟨i,j,0,s.kn.getD i [],b⟩] ++ [⟨j,i,s.fs.length+1,[],c⟩]⟩ w1/\Chg (Mk w.heap.size T) w0 w1) (by omega) ?_ ?_ ?_) ?_
 ·obtain ⟨S,f1,s1⟩:=h.f
  refine Calls.mono (hS.sends A Z w0 x S s i j h.glob f1) ?_
  rw[sendR_ok hi hj hne (by omega)]
  rintro e w' ⟨rfl,S',s',⟨t1,t2,t3⟩,f2,s2,hc⟩
  rw[sendR_ok hi hj hne (by omega),if_pos rfl] at t3
  obtain ⟨b,t3⟩:=t3
  obtain ⟨a1,a2,a3⟩:=s'
  simp only at t1 t2 t3
  subst t1 t2 t3
  exact ⟨rfl,b,h.next s1 f2 s2 hc⟩
 ·rintro wx ⟨b,hk1,hc1⟩
  obtain ⟨S,f1,s1⟩:=hk1.f
  have hf:=frNo_last ⟨s.es,s.kn,s.fs ++ [⟨i,j,0,s.kn.getD i [],b⟩]⟩ _ s.fs rfl
  have hl2:(⟨s.es,s.kn,s.fs ++ [⟨i,j,0,s.kn.getD i [],b⟩]⟩:St).fs.length=s.fs.length+1:=by simp
  refine Calls.mono (hS.data A Z wx x S _ ((s.fs.length:Int)+1) hk1.glob f1) ?_
  rw[delR_new hf rfl (by omega),hl2]
  rintro e w' ⟨rfl,S',s',hd,f2,s2,hc⟩
  obtain ⟨t1,t2,c,t3⟩:=hd.new hf rfl (by omega)
  have hs':s'=⟨s.es,s.kn,s.fs ++ [⟨i,j,0,s.kn.getD i [],b⟩] ++ [⟨j,i,s.fs.length+1,[],c⟩]⟩:=by
   obtain ⟨a1,a2,a3⟩:=s'
   simp only at t1 t2 t3
   rw[hdk,hset] at t2
   rw[show ((s.fs.length:Int)+1).toNat=s.fs.length+1 by omega] at t3
   rw[t1,t2,t3]
  subst hs'
  have h9:=hk1.next s1 (f2 rfl) s2 hc
  exact ⟨by congr 4,b,c,h9.1,hc1.trans h9.2⟩
 ·rintro wx ⟨b,c,hk1,hc1⟩
  obtain ⟨S,f1,s1⟩:=hk1.f
  have hf:=frNo_last ⟨s.es,s.kn,s.fs ++ [⟨i,j,0,s.kn.getD i [],b⟩] ++ [⟨j,i,s.fs.length+1,[],c⟩]⟩ ⟨j,i,s.fs.length+1,[],c⟩ (s.fs ++ [⟨i,j,0,s.kn.getD i [],b⟩]) rfl
  rw[show (((s.fs ++ [(⟨i,j,0,s.kn.getD i [],b⟩:FrD)]).length:Nat):Int)+1=(s.fs.length:Int)+2 by simp;omega] at hf
  have hf0:frNo ⟨s.es,s.kn,s.fs ++ [⟨i,j,0,s.kn.getD i [],b⟩] ++ [⟨j,i,s.fs.length+1,[],c⟩]⟩ ((s.fs.length+1:Nat):Int)=some ⟨i,j,0,s.kn.getD i [],b⟩:=by
   unfold frNo
   rw[if_pos ⟨by omega,by simp only[List.length_append,List.length_singleton];omega⟩,show (((s.fs.length+1:Nat):Int)).toNat-1=s.fs.length by omega]
   simp
  refine Calls.mono (hS.ackd A Z wx x S _ ((s.fs.length:Int)+2) _ _ hk1.glob f1 hf (Nat.succ_pos _) hf0 rfl) ?_
  rintro e w' ⟨rfl,S',f2,s2,hc⟩
  have h9:=hk1.nextP s1 f2 s2 hc
  exact ⟨rfl,b,c,h9.1,hc1.trans h9.2⟩
 ·rintro e w' ⟨rfl,b,c,h1,h2⟩
  refine ⟨rfl,_, ?_,h1,h2⟩
  exact ⟨rfl,rfl,by simp⟩
end
end Go.Proofs.YtfmmllpjgkgeaaaGreatDoor
namespace Go.Proofs.YtfmmllpjgkgeaaaGreatDoor
open Go.RowKit
variable {F:Stt} {R:Nat->Prop} {H:(Nat->Nat->Prop)->(Nat->Prop)->Stt} {L:Nat->Stt}

structure Sl (P:Stt) (T:Nat->Prop) (w:World) (x tb n E M:Nat) (s:St) (wr:World):Prop where
 k:KAt P T w x s wr
 t:∃ f,TalAt wr tb f E
 ht:T tb
 len:s.kn.length=n
 es:s.es.length=E
 full:∀ q,q<n->s.kn.getD q []=List.replicate s.es.length true
 fl:s.fs.length<=M
structure Sm (L:Nat->Stt) (T:Nat->Prop) (w:World) (x tb n E k c:Nat) (s:St) (wr:World):Prop where
 kat:KAt (L k) T w x s wr
 t:∃ f,TalAt wr tb f E
 ht:T tb
 len:s.kn.length=n
 es:s.es.length=E+k
 fl:s.fs.length<=300+c
def exd (n i j p q:Nat):Prop:=p≠q/\q<n/\(p<i\/(p=i/\q<j))
section
variable {T:Nat->Prop} {w wr w':World} {x tb n E M c:Nat} {s:St} {P P':Stt}
theorem Sl.next (h:Sl P T w x tb n E M s wr) {s':St} {M':Nat} (hk:KAt P' T w x s' w') (hc:Chg (Mk w.heap.size T) wr w') (h1:s'.es=s.es) (h2:s'.kn=s.kn) (h3:s'.fs.length<=M'):Sl P' T w x tb n E M' s' w':=by
 obtain ⟨f,ht⟩:=h.t
 exact ⟨hk,⟨f,Blk.chg ht hc (fun e=>e.2 h.ht)⟩,h.ht,by rw[h2];exact h.len,by rw[h1];exact h.es,fun q hq=>by rw[h1,h2];exact h.full q hq,h3⟩
theorem Sm.next {k k' c':Nat} (h:Sm L T w x tb n E k c s wr) {s':St} (hk:KAt (L k') T w x s' w') (hc:Chg (Mk w.heap.size T) wr w') (h1:s'.es.length=E+k') (h2:s'.kn.length=n) (h3:s'.fs.length<=300+c'):Sm L T w x tb n E k' c' s' w':=by
 obtain ⟨f,ht⟩:=h.t
 exact ⟨hk,⟨f,Blk.chg ht hc (fun e=>e.2 h.ht)⟩,h.ht,h2,h1,h3⟩
end
theorem slim_do {s:St} {a b:Nat} (ha:a<12) (hb:b<40) {t:ByteArray} (ht:toL t=changeL a b) (h1:1<=s.kn.length) (h5:s.es.length<500):∃ e,DoOut s.es s.kn 0 (toL t) 0 (s.es ++ [e]) (s.kn.set 0 (moreOf (s.kn.getD 0 []) s.es.length)):=by
 have h:=chOk_all a ha b hb
 unfold chOk at h
 cases hr:Thk.read (changeL a b) with
 | inl k=>rw[hr] at h;cases h
 | inr c =>
  have:=DoOut.done (es:=s.es) (knowns:=s.kn) (i:=0) (s:=toL t) c ⟨⟨c.path.toArray⟩,c.act,⟨c.val.toArray⟩,c.n,s.kn.getD 0 []⟩ ⟨by omega,by omega⟩ (by rw[ht];exact hr) h5 (by simp[toL]) rfl (by simp[toL]) rfl rfl
  exact ⟨_,this⟩

structure SlimC (w:World) (x tb n E:Nat) (ok:Int->Int->Prop) (wr:World) (B1:Nat->Nat->World->Prop) (B2 B3:Nat->World->Prop) (C:Nat->Nat->World->Prop) (D:Nat->Nat->Nat->ByteArray->World->Prop) (W:ByteArray->Prop):Prop where
 round:Calls Tryz.prog 20 #[.pointer (some ⟨x,0,none⟩),.int .i64 (n:Int)] wr fun e w'=>e=.returned (.bool true)/\Hid (B1 0 0 w')
 exch:∀ i j wy,i<n->j<n->i≠j->B1 i j wy->Calls Tryz.prog 35 #[.pointer (some ⟨x,0,none⟩),.int .i64 (i:Int),.int .i64 (j:Int)] wy fun e w'=>e=.returned (.bool true)/\Hid (B1 i (j+1) w')
 skip:∀ i wy,B1 i i wy->B1 i (i+1) wy
 nextI:∀ i wy,i<n->B1 i n wy->B1 (i+1) 0 wy
 allI:∀ wy,B1 n 0 wy->B2 0 wy
 tick:∀ i wy,i<n->B2 i wy->Calls Tryz.prog 36 #[.pointer (some ⟨x,0,none⟩),.int .i64 (i:Int)] wy fun e w'=>e=.returned (.int .i64 0)/\Hid (B3 i w')
 wait:∀ i wy,i<n->B3 i wy->Calls Tryz.prog 37 #[.pointer (some ⟨x,0,none⟩),.int .i64 (i:Int)] wy fun e w'=>e=.returned (.tuple #[.int .i64 0,.int .i64 0])/\Hid (B2 (i+1) w')
 allT:∀ wy,B2 n wy->C 0 0 wy
 send:∀ k c wy,k<=20->c<=5->C k c wy->Calls Tryz.prog 27 #[.pointer (some ⟨x,0,none⟩),.int .i64 0,.int .i64 1] wy fun e w'=>∃ (f:Nat) (b:ByteArray),e=.returned (.tuple #[.int .i64 (f:Int),.int .i64 0])/\f<=1000/\b.size<=80+80*k+8*(E+k)/\(k=0->b.size<=80)/\Hid (D k c f b w')
 frame:∀ k c f b wy,D k c f b wy->Calls Tryz.prog 28 #[.pointer (some ⟨x,0,none⟩),.int .i64 (f:Int)] wy fun e w'=>e=.returned (.tuple #[.string b,.int .i64 0])/\Hid (C k (c+1) w')
 chg:∀ (rk rv:Int) k c wy,ok rk rv->C k c wy->Calls Tryz.prog 33 #[.int .i64 rk,.int .i64 rv] wy fun e w'=>∃ t,e=.returned (.string t)/\Hid (W t)/\Hid (C k c w')
 does:∀ k c t wy,k<20->W t->C k c wy->Calls Tryz.prog 23 #[.pointer (some ⟨x,0,none⟩),.int .i64 0,.string t] wy fun e w'=>e=.returned (.int .i64 0)/\Hid (C (k+1) c w')
 keeps:∀ k c wy,C k c wy->Calls Tryz.prog 37 #[.pointer (some ⟨x,0,none⟩),.int .i64 0] wy fun e w'=>e=.returned (.tuple #[.int .i64 (k:Int),.int .i64 0])/\Hid (C k c w')
 tal:∀ k c wy,C k c wy->wy.cell? ⟨tb,1,none⟩=some (.int .i64 (E:Int))/\Below w.heap.size w wy
 drew:∀ k c wy,C k c wy->C k c wy.drew

theorem slim_calls (hF:ProgOK F R) (hS:ProgSlim F H L) {T:Nat->Prop} {w wr:World} {x tb n i:Nat} {s:St} (h:AI F T w x tb n i s wr) (hi:i<=80) :
  ∃ E B1 B2 B3 C D W,E<=84/\SlimC w x tb n E (fun a b=>i64B a/\i64B b) wr B1 B2 B3 C D W:=by
 have hn2:=h.ok.n2
 have hn4:=h.ok.n4
 have hev:=h.ok.ev
 have hfl:=h.ok.fl
 have hbel:∀ {P:Stt} {s':St} {wy:World},KAt P T w x s' wy->Below w.heap.size w wy:=fun h=>h.bel
 refine ⟨s.es.length,fun a b wy=>∃ s',Sl (H (exd n a b) (fun _=>False)) T w x tb n s.es.length (150+2*(a*4+b)) s' wy,fun a wy=>∃ s',Sl (H (fun p q=>p≠q/\q<n/\p<n) (fun k=>k<a)) T w x tb n s.es.length 300 s' wy,fun a wy=>∃ s',Sl (H (fun p q=>p≠q/\q<n/\p<n) (fun k=>k<a\/k=a)) T w x tb n s.es.length 300 s' wy,fun k c wy=>∃ s',Sm L T w x tb n s.es.length k c s' wy,fun k c f b wy=>∃ s',(∃ g,frNo s' (f:Int)=some g/\g.bytes=b)/\Sm L T w x tb n s.es.length k (c+1) s' wy,fun t=>∃ a b,a<12/\b<40/\toL t=changeL a b/\t.size<=300,by omega, ?_⟩
 refine ⟨?_,fun a b wy ha hb hne=>?_,fun a wy=>?_,fun a wy ha=>?_,fun wy=>?_,fun a wy ha=>?_,fun a wy ha=>?_,fun wy=>?_,fun k c wy hk hc=>?_,fun k c f b wy=>?_,fun rk rv k c wy hok=>?_,fun k c t wy hk=>?_,fun k c wy=>?_,fun k c wy=>?_,fun k c wy=>?_⟩
 ·refine Calls.mono (round_any hF T w wr x n ⟨hn2,hn4⟩ s h.k h.ok.len h.ok.kl (by omega)) ?_
  rintro e w' ⟨rfl,s',hr,hk,hc⟩
  have hf2:=hr.fl
  refine ⟨rfl,s',(hk.inH hS).monoH hS (fun p q hpq=>by have:=hpq.2.2;omega) (fun _ h=>h),⟨s.fs.length,Blk.chg h.t hc (fun e=>e.2 h.ht)⟩,h.ht,hr.len,by rw[hr.es],fun q hq=>h.ok.full hr hq,by omega⟩
 ·rintro ⟨s',hs⟩
  have hl:=hs.len
  have hf:=hs.fl
  refine Calls.mono (exchangeH hS hs.k (i:=a) (j:=b) (by omega) (by omega) hne (by omega) (by rw[hs.full a ha,hs.full b hb])) ?_
  rintro e w' ⟨rfl,s2,⟨e1,e2,e3⟩,hk,hc⟩
  exact ⟨rfl,s2,hs.next (hk.monoH hS (fun p q hpq=>by
   obtain ⟨h1,h2,h3⟩:=hpq
   by_cases e:p=a/\q=b
   ·exact Or.inr e
   ·exact Or.inl ⟨h1,h2,by omega⟩) (fun _ h=>h)) hc e1 e2 (by omega)⟩
 ·rintro ⟨s',hs⟩
  have hf:=hs.fl
  exact ⟨s',hs.next (hs.k.monoH hS (fun p q hpq=>⟨hpq.1,hpq.2.1,by have:=hpq.1;have:=hpq.2.2;omega⟩) (fun _ h=>h)) (Chg.refl _ _) rfl rfl (by omega)⟩
 ·rintro ⟨s',hs⟩
  have hf:=hs.fl
  exact ⟨s',hs.next (hs.k.monoH hS (fun p q hpq=>⟨hpq.1,hpq.2.1,by have:=hpq.2;omega⟩) (fun _ h=>h)) (Chg.refl _ _) rfl rfl (by omega)⟩
 ·rintro ⟨s',hs⟩
  have hf:=hs.fl
  exact ⟨s',hs.next (hs.k.monoH hS (fun p q hpq=>⟨hpq.1,hpq.2.1,Or.inl hpq.2.2⟩) (fun k hk=>by omega)) (Chg.refl _ _) rfl rfl (by omega)⟩
 ·rintro ⟨s',hs⟩
  obtain ⟨S,f1,s1⟩:=hs.k.f
  have hl:=hs.len
  refine Calls.mono (hS.tick _ _ wy x S s' a hs.k.glob f1 (by omega) (fun j hj hne=>⟨fun e=>hne e.symm,by omega,ha⟩)) ?_
  rintro e w' ⟨rfl,S',f2,s2,hc⟩
  have h9:=hs.k.nextP s1 f2 s2 hc
  exact ⟨rfl,s',hs.next h9.1 h9.2 rfl rfl hs.fl⟩
 ·rintro ⟨s',hs⟩
  obtain ⟨S,f1,s1⟩:=hs.k.f
  have hl:=hs.len
  refine Calls.mono (hS.waits _ _ wy x S s' a f1 (by omega) (Or.inr rfl)) ?_
  rintro e w' ⟨rfl,S',f2,s2,hc⟩
  have h9:=hs.k.nextP s1 f2 s2 hc
  exact ⟨rfl,s',hs.next (h9.1.monoH hS (fun _ _ h=>h) (fun k hk=>by omega)) h9.2 rfl rfl hs.fl⟩
 ·rintro ⟨s',hs⟩
  obtain ⟨f,ht⟩:=hs.t
  exact ⟨s',hs.k.toLs hS ⟨by omega,by omega,by omega⟩ (by omega) (by rw[hs.len];omega),⟨f,ht⟩,hs.ht,hs.len,hs.es,hs.fl⟩
 ·rintro ⟨s',hs⟩
  obtain ⟨S,f1,s1⟩:=hs.kat.f
  have hl:=hs.len
  have he:=hs.es
  have hf:=hs.fl
  refine Calls.mono (hS.sendL k wy x S s' hs.kat.glob f1 (by omega) (by omega) (by omega) hk) ?_
  rintro e w' ⟨rfl,S',s2,b,t1,t2,t3,t4,t5,f2,s3,hc⟩
  have h9:=hs.kat.nextP s1 f2 s3 hc
  refine ⟨s'.fs.length+1,b,by rw[Int.natCast_add];rfl,by omega,by rw[he] at t4;exact t4,t5,s2,⟨⟨0,1,0,s'.kn.getD 0 [],b⟩, ?_,rfl⟩,hs.next h9.1 h9.2 (by rw[t1];exact he) (by rw[t2];exact hl) (by rw[t3];simp;omega)⟩
  have:=frNo_last s2 _ s'.fs t3
  rw[Int.natCast_add];exact this
 ·rintro ⟨s',⟨g,hg,rfl⟩,hs⟩
  obtain ⟨S,f1,s1⟩:=hs.kat.f
  refine Calls.mono (hS.frameL k wy x S s' (f:Int) hs.kat.glob f1) ?_
  rintro e w' ⟨rfl,S',f2,s3,hc⟩
  have h9:=hs.kat.nextP s1 f2 s3 hc
  refine ⟨?_,s',hs.next h9.1 h9.2 hs.es hs.len hs.fl⟩
  unfold frameR;rw[hg]
 ·rintro ⟨s',hs⟩
  refine Calls.mono (kchange_any rk rv wy hok.1 hok.2) ?_
  rintro e w' ⟨t,rfl,h1,h2,hb⟩
  have h9:=hs.kat.belL hS hb
  exact ⟨t,rfl,⟨_,_,pickN_lt rk (by omega),pickN_lt rv (by omega),h1,h2⟩,s',hs.next h9.1 h9.2 hs.es hs.len hs.fl⟩
 ·rintro ⟨a,b,ha,hb,ht,hts⟩ ⟨s',hs⟩
  obtain ⟨S,f1,s1⟩:=hs.kat.f
  have hl:=hs.len
  have he:=hs.es
  obtain ⟨ev,hd⟩:=slim_do (s:=s') ha hb ht (by omega) (by omega)
  refine Calls.mono (hS.doL k wy x S s' t _ _ hs.kat.glob f1 (by omega) (by omega) hd) ?_
  rintro e w' ⟨rfl,S',f2,s3,hc⟩
  have h9:=hs.kat.nextP s1 f2 s3 hc
  exact ⟨rfl,_,hs.next h9.1 h9.2 (by simp;omega) (by simp[hl]) hs.fl⟩
 ·rintro ⟨s',hs⟩
  obtain ⟨S,f1,s1⟩:=hs.kat.f
  have hl:=hs.len
  refine Calls.mono (hS.waitL k wy x S s' f1 (by omega)) ?_
  rintro e w' ⟨rfl,S',f2,s3,hc⟩
  have h9:=hs.kat.nextP s1 f2 s3 hc
  exact ⟨rfl,s',hs.next h9.1 h9.2 hs.es hs.len hs.fl⟩
 ·rintro ⟨s',hs⟩
  obtain ⟨f,ht⟩:=hs.t
  exact ⟨ht.cell 1,hs.kat.bel⟩
 ·rintro ⟨s',hs⟩
  have h9:=hs.kat.belL hS ((Below.refl _ wy).drew)
  exact ⟨s',hs.next h9.1 h9.2 hs.es hs.len hs.fl⟩
end Go.Proofs.YtfmmllpjgkgeaaaGreatDoor

