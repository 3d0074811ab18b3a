import Derived.Handy
import Derived.Lib.Split
import Derived.Lib.IndexBytes
import Derived.Test.YtoiiaankpnhppaaGreatDoorPart01
import Derived.Test.YtoiiaankpnhppaaGreatDoorPart03
import Derived.Test.YtoiiaankpnhppaaGreatDoorPart04
import Derived.Test.YtoiiaankpnhppaaGreatDoorPart07
import Derived.Test.YtoiiaankpnhppaaGreatDoorPart13
set_option linter.unusedVariables false
set_option linter.unusedSimpArgs false
namespace Go.Proofs.YtoiiaankpnhppaaGreatDoor
open Go.RowKit Go.Maps Go.WideMaps Go.Shelf Go.Sort

set_option maxHeartbeats 1000000 in
theorem Collect_any (w : World) (gf : Nat) (lb : Array Value) (S : List Nat → Prop) (E : Nat → Prop) (hit : Iter Tryz.prog gf lb (fun n : Nat => #[Value.agg #[.int .i64 (who n : Int), .int .i64 (nth n : Int)]]) S E w) (eg : ∀ args w, (callFunc gf args).run Tryz.prog w = .ok (.enter gf args) w) (hE : ∀ k, E k → k < w.heap.size) (hS : ∀ ns, S ns → ns.length ≤ 4000) :
    Calls Tryz.prog 209 #[.func (.func gf) #[] lb] w fun e w' => ∃ v ns, e = .returned v ∧ S ns ∧ w'.ownsRow w.heap.size 121 2 v ns.length (dcells ns) ∧ Below w.heap.size w w' := by
  have Hc : Hid (_) := AppendSeq_any w gf lb S E hit eg hE hS
  clear hit eg hE hS
  go_enter Tryz.func209, Tryz.ntmps209
  go_wp2_with fail
  refine Calls.mono Hc.out ?_
  rintro e w1 ⟨v, ns, rfl, h1, h2, h3⟩
  have HF : Hid (S ns ∧ w1.ownsRow w.heap.size 121 2 v ns.length (dcells ns) ∧ Below w.heap.size w w1) := ⟨h1, h2, h3⟩
  clear h1 h2 h3 Hc
  go_wp2
  go_ret
  exact ⟨v, ns, rfl, HF.out⟩

set_option maxHeartbeats 1000000 in
theorem SortedFunc_any (w : World) (gf : Nat) (lb : Array Value) (It : Nat → Option Value) (E : Nat → Prop) (hit : Iter Tryz.prog gf lb (fun n : Nat => #[Value.agg #[.int .i64 (who n : Int), .int .i64 (nth n : Int)]]) (AllOf It) E w) (eg : ∀ args w, (callFunc gf args).run Tryz.prog w = .ok (.enter gf args) w) (hE : ∀ k, E k → k < w.heap.size) (h501 : ∀ n, It n ≠ none → okD n) :
    Calls Tryz.prog 166 #[.func (.func gf) #[] lb, .func (.func 168) #[] #[]] w fun e w' => ∃ v ns, e = .returned v ∧ AllOf It ns ∧ SliceD w' v ns ∧ (∀ b, v.ownBlock = some b → w.heap.size ≤ b) ∧ Below w.heap.size w w' := by
  have hS : ∀ ns, AllOf It ns → ns.length ≤ 4000 := fun ns h => by
    have := nodup_lt 3072 ns h.1 (fun n hn => okD_lt (h501 n ((h.2 n).1 hn)))
    omega
  have HS : Hid (∀ ns, AllOf It ns → ns.length ≤ 4000) := hS
  have Hc : Hid (_) := Collect_any w gf lb (AllOf It) E hit eg hE hS
  clear hit eg hE hS
  go_enter Tryz.func166, Tryz.ntmps166
  go_wp2_with fail
  refine Calls.mono Hc.out ?_
  rintro e w1 ⟨v, ns, rfl, h1, h2, h3⟩
  have HF : Hid (AllOf It ns ∧ w1.ownsRow w.heap.size 121 2 v ns.length (dcells ns) ∧ Below w.heap.size w w1) := ⟨h1, h2, h3⟩
  clear h1 h2 h3 Hc
  go_wp2_with fail
  refine Calls.mono (SortFunc_any w1 _ v ns HF.out.2.1 (HS.out ns HF.out.1)) ?_
  rintro e w2 ⟨rfl, ns', hp, hsl, hch⟩
  have HG : Hid (AllOf It ns' ∧ SliceD w2 v ns' ∧ (∀ b, v.ownBlock = some b → w.heap.size ≤ b) ∧ Below w.heap.size w w2) := ⟨⟨hp.nodup_iff.2 HF.out.1.1, fun n => (hp.mem_iff).trans (HF.out.1.2 n)⟩, hsl, fun b hb => (HF.out.2.1.lt b hb).1, HF.out.2.2.trans ⟨hch.os, hch.tape, hch.output, hch.size, fun k hk => hch.block k (Nat.lt_of_lt_of_le hk HF.out.2.2.size) (fun e => by have := (HF.out.2.1.lt k e).1; omega)⟩⟩
  clear hp hsl hch HF
  go_wp2
  go_ret
  exact ⟨v, ns', rfl, HG.out⟩

set_option maxHeartbeats 1000000 in
theorem All_any (w : World) (io co lo : Option Nat) : Calls Tryz.prog 121 #[.agg #[.map io, .map co, .map lo]] w fun e w' => e = .returned (.func (.func 165) #[] #[.pointer (some ⟨w.heap.size, 0, none⟩)]) ∧ w' = w.alloc (.cells #[.map io, .map co, .map lo] 106) := by
  go_enter Tryz.func121, Tryz.ntmps121
  go_wp2
  go_ret
  exact ⟨rfl, rfl⟩
end Go.Proofs.YtoiiaankpnhppaaGreatDoor
namespace Go.Proofs.YtoiiaankpnhppaaGreatDoor
open Go.RowKit Go.Maps Go.WideMaps Go.Shelf

attribute [local go_sem] Oper.semAt_some

structure Itm where
  n : Nat
  p : ByteArray
  a : Int
  v : ByteArray
  m : Int
noncomputable def itm (It : Nat → Option Value) (n : Nat) : Itm := @dite _ (∃ x : Itm, x.n = n ∧ It n = some (.agg #[.string x.p, .int .u8 x.a, .string x.v, .int .i64 x.m])) (Classical.propDecidable _) (fun h => Classical.choose h) (fun _ => ⟨n, ⟨#[]⟩, 0, ⟨#[]⟩, 0⟩)
theorem itm_n (It : Nat → Option Value) (n : Nat) : (itm It n).n = n := by
  unfold itm
  split
  · rename_i h; exact (Classical.choose_spec h).1
  · rfl
theorem itm_at {It : Nat → Option Value} {n : Nat} {v : Value} (h : It n = some v) (hv : ItemV v) : It n = some (.agg #[.string (itm It n).p, .int .u8 (itm It n).a, .string (itm It n).v, .int .i64 (itm It n).m]) := by
  obtain ⟨s0, x1, s2, x3, rfl⟩ := hv
  unfold itm
  have hh : ∃ x : Itm, x.n = n ∧ It n = some (.agg #[.string x.p, .int .u8 x.a, .string x.v, .int .i64 x.m]) := ⟨⟨n, s0, x1, s2, x3⟩, rfl, h⟩
  rw [dif_pos hh]
  exact (Classical.choose_spec hh).2

def SAll (It : Nat → Option Value) (xs : List Itm) : Prop := AllOf It (xs.map Itm.n) ∧ ∀ x ∈ xs, It x.n = some (.agg #[.string x.p, .int .u8 x.a, .string x.v, .int .i64 x.m])

theorem sAll_of {It : Nat → Option Value} {ns : List Nat} (h : AllOf It ns) (hv : ∀ n v, It n = some v → ItemV v) : SAll It (ns.map (itm It)) := by
  refine ⟨?_, fun x hx => ?_⟩
  · have e : (ns.map (itm It)).map Itm.n = ns := by rw [List.map_map]; exact (List.map_congr_left (fun n _ => itm_n It n)).trans (List.map_id _)
    rw [e]; exact h
  · obtain ⟨n, hn, rfl⟩ := List.mem_map.1 hx
    obtain ⟨v, hvv⟩ := Option.ne_none_iff_exists'.1 ((h.2 n).1 hn)
    rw [itm_n]
    exact itm_at hvv (hv n v hvv)

set_option maxRecDepth 100000 in
set_option maxHeartbeats 4000000 in
theorem All1_iter (w0 : World) (sb : Nat) (io co lo : Option Nat) (It : Nat → Option Value) (N : Nat) (hk : Blk w0 sb #[.map io, .map co, .map lo] 106) (hM : MapO Tryz.prog 121 w0 (.map io) N (im It)) (h501 : ∀ n, It n ≠ none → okD n) (hv : ∀ n v, It n = some v → ItemV v) :
    Iter Tryz.prog 165 #[.pointer (some ⟨sb, 0, none⟩)] (fun x : Itm => #[dotE x.n, Value.agg #[.string x.p, .int .u8 x.a, .string x.v, .int .i64 x.m]]) (SAll It) (fun k => k = sb ∨ io = some k) w0 := by
  intro l J Jx W hE hJ hJx hY h0
  have hkb : Blk W sb #[.map io, .map co, .map lo] 106 := (hE.2 sb (Or.inl rfl)).trans hk
  have c0 : W.cell? ⟨sb, 0, none⟩ = some (.map io) := (hkb.cell 0).trans rfl
  have hMW : MapO Tryz.prog 121 W (.map io) N (im It) := by
    rcases hM with h | ⟨b, hb, h⟩
    · exact Or.inl h
    · exact Or.inr ⟨b, hb, h.block (hE.2 b (Or.inr (by cases hb; rfl)))⟩
  have hlt : ∀ k, (k = sb ∨ io = some k) → k < W.heap.size := by
    rintro k (rfl | h)
    · exact hkb.lt
    · exact hMW.lt k (by rw [h])
  clear hM hk
  have HKe : Hid (_) := Keys_any W io
  have HSo : Hid (∀ wx, wx = W.alloc (.cells #[.map io] 100) → Calls Tryz.prog 166 #[.func (.func 211) #[] #[.pointer (some ⟨W.heap.size, 0, none⟩)], .func (.func 168) #[] #[]] wx fun e w' => ∃ v ns, e = .returned v ∧ AllOf It ns ∧ SliceD w' v ns ∧ (∀ b, v.ownBlock = some b → W.heap.size ≤ b) ∧ Below W.heap.size W w') := fun wx hx => by
    subst hx
    have hb : Below W.heap.size W (W.alloc (.cells #[.map io] 100)) := (Below.refl _ W).alloc (Nat.le_refl _) _
    refine Calls.mono (SortedFunc_any _ _ _ It _ (Keys1_iter _ W.heap.size io It N (Blk.new W _ _) (hMW.below hb) h501) (enters_of Tryz.func211 (by kernel_rfl) rfl) ?_ h501) ?_
    · rintro k (rfl | h)
      · simp
      · have := hlt k (Or.inr h); simp; omega
    · rintro e w' ⟨v, ns, rfl, h1, h2, h3, h4⟩
      exact ⟨v, ns, rfl, h1, h2, fun b hb' => by have := h3 b hb'; simp at this; omega, hb.trans (h4.mono (by simp))⟩
  refine callsIn_of_wp Tryz.func165 rfl trivial ?_ rfl
  simp only [Tryz.ntmps165, List.size_toArray, List.length_cons, List.length_nil, Nat.reduceAdd, Nat.reduceSub, Array.replicate_succ, Array.replicate_zero, List.push_toArray, List.append_toArray, List.nil_append, List.cons_append]
  gi_wp2_with fail
  refine ⟨trivial, (callsIn_wide.2 HKe.out).mono ?_⟩
  rintro e w1 ⟨rfl, rfl⟩
  gi_wp2_with fail
  refine ⟨trivial, (callsIn_wide.2 (HSo.out _ rfl)).mono ?_⟩
  rintro e w2 ⟨v, ns, rfl, hns, hsl, hvb, hb2⟩
  obtain ⟨T, hT⟩ : ∃ T : Nat → Prop, T = fun k => v.ownBlock = some k := ⟨_, rfl⟩
  have hTl : ∀ k, T k → k < w2.heap.size := fun k hk => by
    rw [hT] at hk
    rcases hsl with ⟨rfl, _⟩ | ⟨b, off, cap, rfl, _, h3, _⟩
    · cases hk
    · cases hk; exact h3
  have hJ2 : J T [] w2 := hJ _ _ _ _ _ h0 (Chg.of_below hb2) (fun k hk => ⟨Or.inr (by rw [hT] at hk; exact hvb k hk), hTl k hk⟩)
  have hshape : ∃ ao cap, v = .slice ao ns.length cap ∧ ns.length ≤ cap := by
    rcases hsl with ⟨rfl, rfl⟩ | ⟨b, off, cap, rfl, h2, _⟩
    · exact ⟨none, 0, rfl, Nat.le_refl _⟩
    · exact ⟨_, cap, rfl, h2⟩
  obtain ⟨ao, cap, hveq, hcap⟩ := hshape
  have hl502 : ns.length ≤ 3072 := nodup_lt 3072 ns hns.1 (fun n hn => okD_lt (h501 n ((hns.2 n).1 hn)))
  have HJ2 : Hid (J T [] w2) := hJ2
  have HE2 : Hid (Blk w2 sb #[.map io, .map co, .map lo] 106 ∧ MapO Tryz.prog 121 w2 (.map io) N (im It) ∧ SliceD w2 v ns) := ⟨hkb.below hb2, hMW.below hb2, hsl⟩
  clear hJ2 hsl hb2 HSo HKe hkb hMW c0
  subst hveq
  gi_wp2_with fail
  gi_loopg [10] ns.length (fun g v10 wx => ∃ i : Nat, i + g = ns.length ∧ v10 = .int .i64 (i : Int) ∧ J T ((ns.take i).map (itm It)) wx ∧ Blk wx sb #[.map io, .map co, .map lo] 106 ∧ MapO Tryz.prog 121 wx (.map io) N (im It) ∧ SliceD wx (.slice ao ns.length cap) ns ∧ w2.heap.size ≤ wx.heap.size)
  case atStart => exact ⟨0, by omega, rfl, HJ2.out, HE2.out.1, HE2.out.2.1, HE2.out.2.2, Nat.le_refl _⟩
  case round =>
    obtain ⟨i, hig, rfl, hJi, hbk, hmo, hsl, hwsz⟩ := hrel
    have HJi : Hid (J T ((ns.take i).map (itm It)) wr) := hJi
    have HEi : Hid (Blk wr sb #[.map io, .map co, .map lo] 106 ∧ MapO Tryz.prog 121 wr (.map io) N (im It) ∧ SliceD wr (.slice ao ns.length cap) ns) := ⟨hbk, hmo, hsl⟩
    clear HJ2 HE2 hJi hbk hmo
    by_cases hi : i < ns.length
    · obtain ⟨b, off, cap', hvv, _, hb, hcells⟩ := hsl.resolve_left (fun h => by rw [h.2] at hi; simp at hi)
      simp only [Value.slice.injEq] at hvv
      obtain ⟨rfl, _, rfl⟩ := hvv
      have k0 := (hcells i hi).1
      have k1 := (hcells i hi).2
      clear hsl hcells
      have hmem : ns[i] ∈ ns := List.getElem_mem hi
      have hall : ns.take (i + 1) = ns.take i ++ [ns[i]] := List.take_succ_eq_append_getElem hi
      obtain ⟨vi, hvi⟩ := Option.ne_none_iff_exists'.1 ((hns.2 _).1 hmem)
      have hIt := itm_at hvi (hv _ _ hvi)
      have hin := itm_n It ns[i]
      have hn501 := h501 _ ((hns.2 _).1 hmem)
      have hpre : ∃ ys, SAll It ys ∧ (ns.take i).map (itm It) ++ [itm It ns[i]] <+: ys := ⟨ns.map (itm It), sAll_of hns hv, by rw [← List.map_singleton, ← List.map_append, ← hall]; exact (List.take_prefix _ _).map _⟩
      have Hall : Hid ((ns.take (i + 1)).map (itm It) = (ns.take i).map (itm It) ++ [itm It ns[i]]) := by show _ = _; rw [hall, List.map_append]; (first | done | rfl)
      generalize ns[i] = n at *
      generalize itm It n = x at *
      obtain ⟨xn, s0, x1, s2, x3⟩ := x
      simp only at hin hIt
      subst hin
      gi_wp2_with fail
      have kd : Blk (wr.alloc (.cells #[.int .i64 (who xn : Int), .int .i64 (nth xn : Int)] 121)) wr.heap.size #[.int .i64 (who xn : Int), .int .i64 (nth xn : Int)] 121 := Blk.new wr _ _
      have hbw : Below wr.heap.size wr (wr.alloc (.cells #[.int .i64 (who xn : Int), .int .i64 (nth xn : Int)] 121)) := (Below.refl _ wr).alloc (Nat.le_refl _) _
      generalize wr.alloc (.cells #[.int .i64 (who xn : Int), .int .i64 (nth xn : Int)] 121) = w5 at *
      have d0 : w5.cell? ⟨wr.heap.size, 0, none⟩ = some (.int .i64 (who xn : Int)) := (kd.cell 0).trans rfl
      have d1 : w5.cell? ⟨wr.heap.size, 1, none⟩ = some (.int .i64 (nth xn : Int)) := (kd.cell 1).trans rfl
      have s0' : w5.cell? ⟨sb, 0, none⟩ = some (.map io) := ((HEi.out.1.below hbw).cell 0).trans rfl
      obtain ⟨kl, hkl⟩ := keyE xn (by have := hn501.1; omega)
      have hlk : (Instr.lookup 100 (.map io) (.agg #[.int .i64 (who xn : Int), .int .i64 (nth xn : Int)]) false).run Tryz.prog w5.drew = .ok (.agg #[.string s0, .int .u8 x1, .string s2, .int .i64 x3]) w5.drew := by
        have h1 := ((HEi.out.2.1.below hbw).below (Below.refl _ w5).drew).look kDot Tryz.underlying100 (zCh _) hkl
        rw [im_dot, hIt] at h1
        exact h1
      have hJ6 : J T ((ns.take i).map (itm It)) w5.drew := hJ _ _ _ _ _ HJi.out (Chg.of_below (hbw.drew)) (fun k hk => ⟨Or.inl hk, by have := hTl k hk; have := hbw.size; show k < w5.heap.size; omega⟩)
      obtain ⟨fn, tmps, assign, body, hy, hRd⟩ := hY T _ ⟨xn, s0, x1, s2, x3⟩ _ hJ6 hpre
      try dsimp only at hy
      have hRd2 : RoundIn Fence.wide 3 Tryz.prog l fn tmps assign body w5.drew fun e W' => ∃ bb : Bool, e = .returned (.bool bb) ∧ (bb = true → J T ((ns.take i).map (itm It) ++ [⟨xn, s0, x1, s2, x3⟩]) W' ∧ KeepT (fun k => (k = sb ∨ io = some k) ∨ T k) w5.drew W') ∧ (bb = false → Jx T ((ns.take i).map (itm It) ++ [⟨xn, s0, x1, s2, x3⟩]) W') := hRd.mono (by
        rintro e W' (⟨rfl, h1, h2⟩ | ⟨rfl, h1, _⟩)
        · exact ⟨true, rfl, fun _ => ⟨h1, h2⟩, fun h => by cases h⟩
        · exact ⟨false, rfl, (fun h => by cases h), fun _ => h1⟩)
      have HK : Hid (∀ W3, KeepT (fun k => (k = sb ∨ io = some k) ∨ T k) w5.drew W3 → Blk W3 sb #[.map io, .map co, .map lo] 106 ∧ MapO Tryz.prog 121 W3 (.map io) N (im It) ∧ SliceD W3 (.slice (some ⟨b, off, none⟩) ns.length cap) ns ∧ w2.heap.size ≤ W3.heap.size) := fun W3 hk => by
        have e1 := HEi.out.1.below hbw
        have e2 := HEi.out.2.1.below hbw
        have e3 := HEi.out.2.2.below hbw
        refine ⟨(hk.2 sb (Or.inl (Or.inl rfl))).trans e1, ?_, ?_, by have := hk.1; have := hbw.size; simp only [World.drew] at *; omega⟩
        · rcases e2 with h | ⟨b', hb', h⟩
          · exact Or.inl h
          · exact Or.inr ⟨b', hb', h.block (hk.2 b' (Or.inl (Or.inr (by cases hb'; rfl))))⟩
        · rcases e3 with ⟨h, _⟩ | ⟨b', off', cap'', h1, h2, h3, h4⟩
          · cases h
          · have hbb : b' = b := by cases h1; rfl
            have e : ∀ i, W3.cell? ⟨b', i, none⟩ = w5.cell? ⟨b', i, none⟩ := fun i => World.cell?_of_block (w := w5) (hk.2 b' (Or.inr (by rw [hT, hbb]; rfl)))
            exact Or.inr ⟨b', off', cap'', h1, h2, Nat.lt_of_lt_of_le h3 hk.1, fun j hj => ⟨(e _).trans (h4 j hj).1, (e _).trans (h4 j hj).2⟩⟩
      gi_region_with (first | (refine RoundIn.mono (roundIn_wide_any hRd2) ?_; rintro e W3 ⟨bb, rfl, h3, h4⟩))
      all_goals
        cases bb with
        | true =>
          have H3 : Hid (_) := h3 rfl
          clear h3 h4 hRd2 hy hlk d0 d1 s0' kd
          gi_wp2_with fail
          gi_roundg (ns.length - (i + 1))
          case measure => omega
          case rel => exact ⟨i + 1, by omega, by go_num, by rw [Hall.out]; exact H3.out.1, HK.out _ H3.out.2⟩
        | false =>
          have H4 : Hid (_) := h4 rfl
          clear h3 h4 hRd2 hy hlk d0 d1 s0' kd
          gi_wp2_with fail
          refine bodyPost_ret (results_none rfl _ _ _) rfl ?_
          exact ⟨⟨_, rfl⟩, Or.inr ⟨_, T, H4.out⟩⟩
    · clear hsl
      gi_wp2_with fail
      go_end0
      refine ⟨⟨_, rfl⟩, Or.inl ⟨ns.map (itm It), sAll_of hns hv, T, ?_⟩⟩
      have := HJi.out
      rw [List.take_of_length_le (by omega)] at this
      exact this
end Go.Proofs.YtoiiaankpnhppaaGreatDoor
namespace Go.Proofs.YtoiiaankpnhppaaGreatDoor
open Go.RowKit

def Thk.isAln (c : UInt8) : Bool := Thk.isLow c || Thk.isDig c
def Thk.word (p : UInt8 → Bool) (m : Nat) (l : Thk.Bs) : Bool := decide (1 ≤ l.length) && decide (l.length ≤ m) && l.all p

set_option maxHeartbeats 400000 in
theorem isLetter_any (c : UInt8) (w : World) :
    Calls Tryz.prog 126 #[.int .u8 (c.toNat : Int)] w fun e w' => e = .returned (.bool (Thk.isLow c)) ∧ w' = w := by
  go_enter Tryz.func126, Tryz.ntmps126
  go_wp2
  all_goals
    go_ret
    refine ⟨ret_bool ?_, rfl⟩
    unfold Thk.isLow
    rw [Bool.eq_iff_iff]
    simp
    try omega

set_option maxHeartbeats 400000 in
theorem isLetterOrDigit_any (c : UInt8) (w : World) :
    Calls Tryz.prog 116 #[.int .u8 (c.toNat : Int)] w fun e w' => e = .returned (.bool (Thk.isLow c || Thk.isDig c)) ∧ w' = w := by
  cases hl : Thk.isLow c
  · have Hl : Hid (_) := hl
    have hl2 : ¬ (97 ≤ c.toNat ∧ c.toNat ≤ 122) := by unfold Thk.isLow at hl; simp at hl; omega
    clear hl
    go_enter Tryz.func116, Tryz.ntmps116
    go_wp2_with (go_at_call 126; refine (isLetter_any _ _).mono ?_; rintro e w' ⟨rfl, rfl⟩; rw [Hl.out])
    all_goals
      go_ret
      refine ⟨ret_bool ?_, rfl⟩
      unfold Thk.isDig
      rw [Bool.eq_iff_iff]
      simp
      try omega
  · have Hl : Hid (_) := hl
    clear hl
    go_enter Tryz.func116, Tryz.ntmps116
    go_wp2_with (go_at_call 126; refine (isLetter_any _ _).mono ?_; rintro e w' ⟨rfl, rfl⟩; rw [Hl.out])
    go_ret
    exact ⟨ret_bool rfl, rfl⟩

theorem isAln_any (c : UInt8) (w : World) : Calls Tryz.prog 116 #[.int .u8 (c.toNat : Int)] w fun e w' => e = .returned (.bool (Thk.isAln c)) ∧ w' = w := isLetterOrDigit_any c w
theorem word_false_len (p : UInt8 → Bool) (l : Thk.Bs) (m : Nat) (h : l.length < 1 ∨ m < l.length) : Thk.word p m l = false := by
  unfold Thk.word
  rcases h with h | h
  · have : decide (1 ≤ l.length) = false := by rw [decide_eq_false_iff_not]; omega
    rw [this]; (first | done | rfl)
  · have : decide (l.length ≤ m) = false := by rw [decide_eq_false_iff_not]; omega
    rw [this]; simp
theorem word_false_at (p : UInt8 → Bool) (s : ByteArray) (m k : Nat) (hk : k < s.size) (h : p s[k] = false) : Thk.word p m (toL s) = false := by
  have : (toL s).all p = false := by
    rw [List.all_eq_false]; refine ⟨(toL s)[k]'(by rw [toL_length]; exact hk), List.getElem_mem _, ?_⟩
    rw [toL_get s k hk, h]; simp
  unfold Thk.word; rw [this]; simp
theorem word_true (p : UInt8 → Bool) (s : ByteArray) (m : Nat) (h1 : 1 ≤ s.size) (h2 : s.size ≤ m) (h : ∀ j (hj : j < s.size), p s[j] = true) : Thk.word p m (toL s) = true := by
  have : (toL s).all p = true := by
    rw [List.all_eq_true]; intro x hx
    obtain ⟨i, hi, rfl⟩ := List.getElem_of_mem hx
    rw [toL_length] at hi
    rw [toL_get s i hi]; exact h i hi
  unfold Thk.word; rw [this, toL_length]; simp [h1, h2]

set_option maxHeartbeats 400000 in
theorem isWord_letters (s : ByteArray) (m : Nat) (w : World) (hs : s.size ≤ 1048576) (hm : m ≤ 100) :
    Calls Tryz.prog 115 #[.string s, .int .i64 (m : Int), .func (.func 126) #[] #[]] w fun e w' => e = .returned (.bool (Thk.word Thk.isLow m (toL s))) ∧ w' = w := by
  by_cases hl : s.size < 1 ∨ m < s.size
  · have hfin : Hid (Thk.word Thk.isLow m (toL s) = false) := word_false_len _ _ _ (by rw [toL_length]; exact hl)
    rcases hl with hl | hl
    all_goals
      go_enter Tryz.func115, Tryz.ntmps115
      go_wp2
      all_goals first | (go_ret; exact ⟨ret_bool hfin.out.symm, rfl⟩) | (exfalso; omega)
  · have h1 : ¬ s.size < 1 := by omega
    have h2 : ¬ m < s.size := by omega
    clear hl
    go_enter Tryz.func115, Tryz.ntmps115
    go_wp2
    go_loop [19] (fun i => ∃ k : Nat, k ≤ s.size ∧ i = .int .i64 k ∧ Hid (∀ j (hj : j < s.size), j < k → Thk.isLow s[j] = true)) (fun i => s.size - (intOf i).toNat)
    case atStart => exact ⟨0, by omega, rfl, fun j _ h => by omega⟩
    case round =>
      obtain ⟨k, hk, rfl, Hall⟩ := hrel
      by_cases hlt : k < s.size
      · cases hp : Thk.isLow s[k]
        · have hfin : Hid (Thk.word Thk.isLow m (toL s) = false) := word_false_at _ s m k hlt hp
          have Hp : Hid (_) := hp
          clear hp Hall
          go_wp2_with (go_at_call 126; refine (isLetter_any _ _).mono ?_; rintro e w' ⟨rfl, rfl⟩; rw [Hp.out])
          go_ret
          exact ⟨ret_bool hfin.out.symm, rfl⟩
        · have Hn : Hid (∀ j (hj : j < s.size), j < k + 1 → Thk.isLow s[j] = true) := by
            intro j hj h
            by_cases e : j = k
            · subst e; exact hp
            · exact Hall.out j hj (by omega)
          have Hp : Hid (_) := hp
          clear hp Hall
          go_wp2_with (go_at_call 126; refine (isLetter_any _ _).mono ?_; rintro e w' ⟨rfl, rfl⟩; rw [Hp.out])
          go_round
          case rel => exact ⟨k + 1, by omega, by go_num, Hn⟩
          case measure => simp [intOf]; omega
      · have hfin : Hid (Thk.word Thk.isLow m (toL s) = true) := word_true _ s m (by omega) (by omega) (fun j hj => Hall.out j hj (by omega))
        clear Hall
        go_wp2
        go_ret
        exact ⟨ret_bool hfin.out.symm, rfl⟩

set_option maxHeartbeats 400000 in
theorem isWord_alnum (s : ByteArray) (m : Nat) (w : World) (hs : s.size ≤ 1048576) (hm : m ≤ 100) :
    Calls Tryz.prog 115 #[.string s, .int .i64 (m : Int), .func (.func 116) #[] #[]] w fun e w' => e = .returned (.bool (Thk.word Thk.isAln m (toL s))) ∧ w' = w := by
  by_cases hl : s.size < 1 ∨ m < s.size
  · have hfin : Hid (Thk.word Thk.isAln m (toL s) = false) := word_false_len _ _ _ (by rw [toL_length]; exact hl)
    rcases hl with hl | hl
    all_goals
      go_enter Tryz.func115, Tryz.ntmps115
      go_wp2
      all_goals first | (go_ret; exact ⟨ret_bool hfin.out.symm, rfl⟩) | (exfalso; omega)
  · have h1 : ¬ s.size < 1 := by omega
    have h2 : ¬ m < s.size := by omega
    clear hl
    go_enter Tryz.func115, Tryz.ntmps115
    go_wp2
    go_loop [19] (fun i => ∃ k : Nat, k ≤ s.size ∧ i = .int .i64 k ∧ Hid (∀ j (hj : j < s.size), j < k → Thk.isAln s[j] = true)) (fun i => s.size - (intOf i).toNat)
    case atStart => exact ⟨0, by omega, rfl, fun j _ h => by omega⟩
    case round =>
      obtain ⟨k, hk, rfl, Hall⟩ := hrel
      by_cases hlt : k < s.size
      · cases hp : Thk.isAln s[k]
        · have hfin : Hid (Thk.word Thk.isAln m (toL s) = false) := word_false_at _ s m k hlt hp
          have Hp : Hid (_) := hp
          clear hp Hall
          go_wp2_with (go_at_call 116; refine (isAln_any _ _).mono ?_; rintro e w' ⟨rfl, rfl⟩; rw [Hp.out])
          go_ret
          exact ⟨ret_bool hfin.out.symm, rfl⟩
        · have Hn : Hid (∀ j (hj : j < s.size), j < k + 1 → Thk.isAln s[j] = true) := by
            intro j hj h
            by_cases e : j = k
            · subst e; exact hp
            · exact Hall.out j hj (by omega)
          have Hp : Hid (_) := hp
          clear hp Hall
          go_wp2_with (go_at_call 116; refine (isAln_any _ _).mono ?_; rintro e w' ⟨rfl, rfl⟩; rw [Hp.out])
          go_round
          case rel => exact ⟨k + 1, by omega, by go_num, Hn⟩
          case measure => simp [intOf]; omega
      · have hfin : Hid (Thk.word Thk.isAln m (toL s) = true) := word_true _ s m (by omega) (by omega) (fun j hj => Hall.out j hj (by omega))
        clear Hall
        go_wp2
        go_ret
        exact ⟨ret_bool hfin.out.symm, rfl⟩


theorem index_ge (l : Thk.Bs) (c : UInt8) : -1 ≤ Lib.indexByte l c := by
  induction l with
  | nil => simp [Lib.indexByte]
  | cons b r ih => unfold Lib.indexByte; split; omega; split; omega; omega
theorem index_mem (l : Thk.Bs) (c : UInt8) : (0 ≤ Lib.indexByte l c) ↔ c ∈ l := by
  induction l with
  | nil => simp [Lib.indexByte]
  | cons b r ih =>
    have hge := index_ge r c
    unfold Lib.indexByte
    by_cases h : b = c
    · simp [h]
    · rw [if_neg (by simpa using h)]
      by_cases h2 : Lib.indexByte r c = -1
      · rw [if_pos (by simpa using h2)]
        have : ¬ c ∈ r := fun hm => by have := ih.2 hm; omega
        simp [this, Ne.symm h]
      · rw [if_neg (by simpa using h2)]
        have : c ∈ r := ih.1 (by omega)
        simp [this]; omega
theorem byte_back (c : UInt8) : ((c.toNat : Int).toNat.toUInt8) = c := by simp
theorem kinds_mem (c : UInt8) : c ∈ ([115, 102, 114, 99, 109] : Thk.Bs) ↔ Thk.isKind c = true := by
  have key : ∀ n : Nat, n < 256 → (c = UInt8.ofNat n ↔ c.toNat = n) := fun n hn => by
    constructor
    · intro h; rw [h]; simp; omega
    · intro h; rw [← h]; simp
  unfold Thk.isKind
  simp only [List.mem_cons, List.mem_nil_iff, or_false, Bool.or_eq_true, beq_iff_eq]
  have a1 := key 115 (by omega); have a2 := key 102 (by omega); have a3 := key 114 (by omega); have a4 := key 99 (by omega); have a5 := key 109 (by omega)
  constructor
  · rintro (h | h | h | h | h)
    · left; left; left; left; exact a1.1 h
    · left; left; left; right; exact a2.1 h
    · left; left; right; exact a3.1 h
    · left; right; exact a4.1 h
    · right; exact a5.1 h
  · rintro ((((h | h) | h) | h) | h)
    · left; exact a1.2 h
    · right; left; exact a2.2 h
    · right; right; left; exact a3.2 h
    · right; right; right; left; exact a4.2 h
    · right; right; right; right; exact a5.2 h

theorem seg_word (s : ByteArray) (h : 0 < s.size) : Thk.seg (toL s) = (Thk.isKind s[0] && Thk.word Thk.isLow 4 (toL (s.extract 1 s.size))) := by
  have e : toL (s.extract 1 s.size) = (toL s).tail := by rw [toL_extract, ← toL_length s, List.take_length, List.drop_one]
  unfold Thk.seg Thk.word
  rw [e, head_toL s h]
  rw [Bool.eq_iff_iff]
  simp only [Bool.and_eq_true, decide_eq_true_eq, List.length_tail, Option.map_some, Option.getD_some]
  constructor
  · rintro ⟨⟨⟨a, b⟩, c⟩, d⟩; exact ⟨d, ⟨by omega, by omega⟩, c⟩
  · rintro ⟨d, ⟨a, b⟩, c⟩; exact ⟨⟨⟨by omega, by omega⟩, c⟩, d⟩

set_option maxHeartbeats 400000 in
theorem isSegment_any (s : ByteArray) (w : World) (hs : s.size ≤ 1048576) :
    Calls Tryz.prog 76 #[.string s] w fun e w' => e = .returned (.bool (Thk.seg (toL s))) ∧ w' = w := by
  by_cases h0 : s.size = 0
  · have hfin : Hid (Thk.seg (toL s) = false) := Thk.seg_false_len _ (by rw [toL_length]; omega)
    have hem : s.toList.isEmpty = true := by rw [toList_eq]; rw [List.isEmpty_iff]; apply List.eq_nil_of_length_eq_zero; simpa using h0
    go_enter Tryz.func76, Tryz.ntmps76
    go_wp2
    go_ret
    exact ⟨ret_bool hfin.out.symm, rfl⟩
  · have hp : 0 < s.size := by omega
    have hem : s.toList.isEmpty = false := by
      rw [toList_eq, List.isEmpty_eq_false_iff]; intro h; apply h0; have := congrArg List.length h; simpa using this
    have Hsw : Hid (_) := seg_word s hp
    have hix : Hid ((0 ≤ Lib.indexByte [115, 102, 114, 99, 109] s[0]) ↔ Thk.isKind s[0] = true) := (index_mem _ _).trans (kinds_mem _)
    have Hcall : Hid (∀ wx, Calls Tryz.prog 63 #[.string ⟨#[115, 102, 114, 99, 109]⟩, .int .u8 (s[0].toNat : Int)] wx fun e w' => e = .returned (.int .i64 (Lib.indexByte [115, 102, 114, 99, 109] s[0])) ∧ w' = wx) := by
      intro wx
      refine (Tryz.strings_IndexByte ⟨#[115, 102, 114, 99, 109]⟩ (s[0].toNat : Int) wx).mono ?_
      rintro e w' ⟨rfl, rfl⟩
      rw [byte_back]; exact ⟨rfl, rfl⟩
    cases hk : Thk.isKind s[0]
    · have hfin : Hid (Thk.seg (toL s) = false) := by unfold Hid; rw [Hsw.out, hk]; (first | done | rfl)
      have hneg : ¬ 0 ≤ Lib.indexByte [115, 102, 114, 99, 109] s[0] := fun h => by have := hix.out.1 h; rw [hk] at this; cases this
      generalize Lib.indexByte [115, 102, 114, 99, 109] s[0] = ix at *
      clear hk Hsw
      go_enter Tryz.func76, Tryz.ntmps76
      go_wp2_with (go_at_call 63; refine (Hcall.out _).mono ?_; rintro e w' ⟨rfl, rfl⟩)
      all_goals
        go_ret
        exact ⟨ret_bool hfin.out.symm, rfl⟩
    · have hpos : 0 ≤ Lib.indexByte [115, 102, 114, 99, 109] s[0] := hix.out.2 hk
      have hfin : Hid (Thk.seg (toL s) = Thk.word Thk.isLow 4 (toL (s.extract 1 s.size))) := by unfold Hid; rw [Hsw.out, hk]; (first | done | rfl)
      generalize Lib.indexByte [115, 102, 114, 99, 109] s[0] = ix at *
      clear hk Hsw
      go_enter Tryz.func76, Tryz.ntmps76
      go_wp2_with (first | (go_at_call 63; refine (Hcall.out _).mono ?_; rintro e w' ⟨rfl, rfl⟩) | (go_at_call 115; refine (isWord_letters (s.extract 1 s.size) 4 _ (by simp [ByteArray.size_extract]; omega) (by omega)).mono ?_; rintro e w' ⟨rfl, rfl⟩))
      all_goals
        go_ret
        exact ⟨ret_bool hfin.out.symm, rfl⟩


theorem ix_cons (b : UInt8) (l : Thk.Bs) (c : UInt8) : Lib.indexByte (b :: l) c = if b == c then 0 else if Lib.indexByte l c == -1 then -1 else Lib.indexByte l c + 1 := rfl
theorem splitAcc_index (c : UInt8) : ∀ (l cur : Thk.Bs), Thk.splitAcc c cur l = if Lib.indexByte l c = -1 then [cur ++ l] else (cur ++ l.take (Lib.indexByte l c).toNat) :: Thk.split c (l.drop ((Lib.indexByte l c).toNat + 1)) := by
  intro l
  induction l with
  | nil => intro cur; simp [Thk.splitAcc, Lib.indexByte]
  | cons x r ih =>
    intro cur
    have hge := index_ge r c
    by_cases h : x = c
    · subst h
      rw [Thk.splitAcc_eq]
      have e : Lib.indexByte (x :: r) x = 0 := by rw [ix_cons]; simp
      rw [e]; simp [Thk.split]
    · rw [Thk.splitAcc_ne _ _ _ _ h, ih (cur ++ [x])]
      by_cases h2 : Lib.indexByte r c = -1
      · have e : Lib.indexByte (x :: r) c = -1 := by rw [ix_cons, if_neg (by simpa using h), if_pos (by simpa using h2)]
        rw [if_pos h2, if_pos e]; simp
      · have e : Lib.indexByte (x :: r) c = Lib.indexByte r c + 1 := by rw [ix_cons, if_neg (by simpa using h), if_neg (by simpa using h2)]
        rw [if_neg h2, if_neg (by rw [e]; omega), e]
        have e2 : (Lib.indexByte r c + 1).toNat = (Lib.indexByte r c).toNat + 1 := by omega
        rw [e2]; simp
theorem split_index (c : UInt8) (l : Thk.Bs) : Thk.split c l = if Lib.indexByte l c = -1 then [l] else l.take (Lib.indexByte l c).toNat :: Thk.split c (l.drop ((Lib.indexByte l c).toNat + 1)) := by
  have := splitAcc_index c l []; simpa [Thk.split] using this
theorem splitK_split (c : UInt8) : ∀ (k : Nat) (l : Thk.Bs), ((Thk.split c l).length ≤ k + 1 → Lib.splitK [c] 0 k l = Thk.split c l) ∧ (k + 1 < (Thk.split c l).length → (Lib.splitK [c] 0 k l).length = k + 1) := by
  intro k
  induction k with
  | zero =>
    intro l
    refine ⟨fun h => ?_, fun _ => rfl⟩
    rw [split_index] at h ⊢
    by_cases h2 : Lib.indexByte l c = -1
    · rw [if_pos h2]; (first | done | rfl)
    · rw [if_neg h2] at h
      have := List.length_pos_iff.2 (Thk.split_ne_nil c (l.drop ((Lib.indexByte l c).toNat + 1)))
      simp only [List.length_cons] at h; omega
  | succ k ih =>
    intro l
    obtain ⟨a, b⟩ := ih (l.drop ((Lib.indexByte l c).toNat + 1))
    unfold Lib.splitK
    rw [Lib.index_one, split_index]
    by_cases h2 : Lib.indexByte l c = -1
    · rw [if_pos h2, if_pos (by simpa using h2)]; exact ⟨fun _ => rfl, fun h => by simp at h⟩
    · rw [if_neg h2, if_neg (by simpa using h2)]
      simp only [List.length_cons, Nat.add_zero, List.length_nil, Nat.zero_add]
      exact ⟨fun h => by rw [a (by omega)], fun h => by rw [b (by omega)]⟩

theorem splitN_path (s : ByteArray) (ps : List ByteArray) (hps : ps = Lib.splitB ⟨#[47]⟩ 0 (min 4 (s.size + 1) - 1) s) :
    (ps.length ≤ 3 → ps.map toL = Thk.split 47 (toL s)) ∧ (3 < ps.length → Thk.path (toL s) = false) ∧ ps.length ≤ 4 ∧ ps ≠ [] := by
  have hd : ps.map toL = Lib.splitK [47] 0 (min 4 (s.size + 1) - 1) (toL s) := by rw [hps]; exact Lib.splitB_data ⟨#[47]⟩ 0 _ s
  have hl : (Thk.split 47 (toL s)).length ≤ s.size + 1 := by
    have := Thk.splitAcc_len 47 (toL s) []
    rw [toL_length] at this
    unfold Thk.split; simp at this; omega
  obtain ⟨a, b⟩ := splitK_split 47 (min 4 (s.size + 1) - 1) (toL s)
  have hle : ps.length ≤ min 4 (s.size + 1) - 1 + 1 := by rw [hps]; exact Lib.splitB_length_le _ _ _ _
  have hlen : ps.length = (Lib.splitK [47] 0 (min 4 (s.size + 1) - 1) (toL s)).length := by rw [← hd, List.length_map]
  have hbig : ∀ l : Thk.Bs, 3 < (Thk.split 47 l).length → Thk.path l = false := by
    intro l h
    unfold Thk.path Thk.pathL
    have : decide ((Thk.split 47 l).length ≤ 3) = false := by rw [decide_eq_false_iff_not]; omega
    rw [this]; (first | done | rfl)
  by_cases hS : (Thk.split 47 (toL s)).length ≤ min 4 (s.size + 1) - 1 + 1
  · have e := a hS
    rw [e] at hd hlen
    refine ⟨fun _ => hd, fun h => hbig _ (by omega), by omega, ?_⟩
    intro h; rw [h] at hd; exact Thk.split_ne_nil 47 (toL s) hd.symm
  · have e := b (by omega)
    rw [e] at hlen
    refine ⟨fun h => by omega, fun _ => hbig _ (by omega), by omega, ?_⟩
    intro h; rw [h] at hlen; simp at hlen

def okStr (b : Bool) (s : ByteArray) : ByteArray := match b with | true => s | false => ⟨#[]⟩
theorem splitB_size' (sep : ByteArray) (save : Nat) : ∀ (k : Nat) (s : ByteArray), ∀ p ∈ _root_.Go.Lib.splitB sep save k s, p.size ≤ s.size := by
  intro k
  induction k with
  | zero => intro s p hp; simp [_root_.Go.Lib.splitB] at hp; rw [hp]; exact Nat.le_refl _
  | succ k ih =>
    intro s p hp
    unfold _root_.Go.Lib.splitB at hp
    split at hp
    · simp at hp; rw [hp]; exact Nat.le_refl _
    · rcases List.mem_cons.1 hp with h | h
      · rw [h]; simp [ByteArray.size_extract]; omega
      · have := ih _ p h; simp [ByteArray.size_extract] at this; omega

set_option maxHeartbeats 2000000 in
theorem ReadPath_any (s : ByteArray) (m : Int) (w : World) (hs : s.size ≤ 1048576) (hm : w.cell? ⟨0, 0, none⟩ = some (.int .i64 m)) :
    Calls Tryz.prog 41 #[.string s] w fun e w' => e = .returned (.tuple #[.string (okStr (Thk.path (toL s)) s), .bool (Thk.path (toL s))]) ∧ Below w.heap.size w w' := by
  have Hcall : Hid (_) := Tryz.strings_SplitN s ⟨#[47]⟩ 4 m w (by omega) hm (by decide) (by omega) (by omega)
  obtain ⟨ps, hps⟩ : ∃ ps, ps = Lib.splitB ⟨#[47]⟩ 0 (min 4 (s.size + 1) - 1) s := ⟨_, rfl⟩
  obtain ⟨p1, p2, p3, p4⟩ := splitN_path s ps hps
  clear hm
  go_enter Tryz.func41, Tryz.ntmps41
  go_wp2_with fail
  refine Calls.mono Hcall.out ?_
  rw [← hps]
  rintro e w1 ⟨rfl, rfl⟩
  have hb1 : Below w.heap.size w (w.alloc (.cells (Lib.cellsOf ps (min 4 (s.size + 1))) 9)) := (Below.refl _ _).alloc (Nat.le_refl _) _
  have Hcell : Hid (∀ j (h : j < ps.length), (w.alloc (.cells (Lib.cellsOf ps (min 4 (s.size + 1))) 9)).cell? ⟨w.heap.size, j, none⟩ = some (.string ps[j])) := by
    intro j h
    have : (Lib.cellsOf ps (min 4 (s.size + 1)))[j]? = some (.string ps[j]) := by
      unfold Lib.cellsOf
      simp only [List.getElem?_toArray]
      rw [List.getElem?_append_left (by simpa using h), List.getElem?_map, List.getElem?_eq_getElem h]; (first | done | rfl)
    simpa using this
  have Hsz : Hid (∀ p ∈ ps, p.size ≤ 1048576) := by
    intro p hp
    have h1 := splitB_size' ⟨#[47]⟩ 0 (min 4 (s.size + 1) - 1) s p (by rw [← hps]; exact hp)
    omega
  have hcap : ps.length ≤ min 4 (s.size + 1) := by
    have := Lib.splitB_length_le ⟨#[47]⟩ 0 (min 4 (s.size + 1) - 1) s; rw [← hps] at this; omega
  clear Hcall hps
  generalize w.alloc (.cells (Lib.cellsOf ps (min 4 (s.size + 1))) 9) = w1 at *
  generalize min 4 (s.size + 1) = cp at *
  by_cases h3 : 3 < ps.length
  · have hfin : Hid (Thk.path (toL s) = false) := p2 h3
    clear p1 p2
    go_wp2
    go_ret2
    exact ⟨by rw [hfin.out]; rfl, hb1⟩
  · have Hpath : Hid (Thk.path (toL s) = Thk.pathL (ps.map toL)) := by unfold Hid Thk.path; rw [p1 (by omega)]
    have hpos : 0 < ps.length := List.length_pos_iff.2 p4
    clear p1 p2 p3 p4
    go_wp2
    go_loop [18] (fun i => ∃ k : Nat, k ≤ ps.length ∧ i = .int .i64 k ∧ Hid (∀ j (h : j < ps.length), j < k → Thk.seg (toL ps[j]) = true ∧ (j + 1 < ps.length → (toL ps[j]).head? = some 109))) (fun i => ps.length - (intOf i).toNat)
    case atStart => exact ⟨0, by omega, rfl, fun j _ b => by omega⟩
    case round =>
      obtain ⟨k, hk, rfl, hall⟩ := hrel
      by_cases hlt : k < ps.length
      · have hck := Hcell.out k hlt
        have hqz := Hsz.out _ (List.getElem_mem hlt)
        have Hnext : Hid (Thk.seg (toL ps[k]) = true → (k + 1 < ps.length → (toL ps[k]).head? = some 109) → ∀ j (h : j < ps.length), j < k + 1 → Thk.seg (toL ps[j]) = true ∧ (j + 1 < ps.length → (toL ps[j]).head? = some 109)) := by
          intro h1 h2 j h b
          by_cases e : j = k
          · subst e; exact ⟨h1, h2⟩
          · exact hall.out j h (by omega)
        have Hf1 : Hid (Thk.seg (toL ps[k]) = false → Thk.pathL (ps.map toL) = false) := fun h => Thk.pathL_false_seg _ k (by simpa using hlt) (by simpa using h)
        have Hf2 : Hid (k + 1 < ps.length → ((toL ps[k]).head? == some 109) = false → Thk.pathL (ps.map toL) = false) := fun h1 h => Thk.pathL_false_map _ k (by simpa using h1) (by simpa using h)
        clear hall
        generalize ps[k] = q at *
        cases hseg : Thk.seg (toL q)
        · have hfin : Hid (Thk.path (toL s) = false) := Hpath.out.trans (Hf1.out hseg)
          have Hs2 : Hid (_) := hseg
          clear hseg Hnext Hf1 Hf2
          go_wp2_with (go_at_call 76; refine (isSegment_any q _ (by omega)).mono ?_; rintro e w' ⟨rfl, rfl⟩; rw [Hs2.out])
          go_ret2
          exact ⟨by rw [hfin.out]; rfl, hb1⟩
        · have hq2 : 2 ≤ q.size := by have := Thk.seg_pos _ hseg; rwa [toL_length] at this
          have Hs2 : Hid (_) := hseg
          have Hn1 : Hid (_) := Hnext.out hseg
          clear hseg Hnext Hf1
          have hh := head_toL q (by omega)
          by_cases hl : k + 1 < ps.length
          · by_cases hm : q[0] = 109
            · have Hn2 : Hid (_) := Hn1.out (fun _ => by rw [hh, hm])
              have hd : ((q[0].toNat : Int) != 109) = false := by rw [hm]; (first | done | rfl)
              clear Hf2 Hn1 hh hm
              go_wp2_with (go_at_call 76; refine (isSegment_any q _ (by omega)).mono ?_; rintro e w' ⟨rfl, rfl⟩; rw [Hs2.out])
              go_round
              case rel => exact ⟨k + 1, by omega, by go_num, Hn2⟩
              case measure => simp [intOf]; omega
            · have hfin : Hid (Thk.path (toL s) = false) := Hpath.out.trans (Hf2.out hl (by rw [hh]; simpa using hm))
              have hd : ((q[0].toNat : Int) != 109) = true := by
                rw [bne_iff_ne]; intro h; apply hm; apply UInt8.toNat_inj.1; have : (109 : UInt8).toNat = 109 := rfl; omega
              clear Hf2 Hn1 hh hm
              go_wp2_with (go_at_call 76; refine (isSegment_any q _ (by omega)).mono ?_; rintro e w' ⟨rfl, rfl⟩; rw [Hs2.out])
              go_ret2
              exact ⟨by rw [hfin.out]; rfl, hb1⟩
          · have Hn2 : Hid (_) := Hn1.out (fun h => absurd h hl)
            clear Hf2 Hn1 hh
            go_wp2_with (go_at_call 76; refine (isSegment_any q _ (by omega)).mono ?_; rintro e w' ⟨rfl, rfl⟩; rw [Hs2.out])
            go_round
            case rel => exact ⟨k + 1, by omega, by go_num, Hn2⟩
            case measure => simp [intOf]; omega
      · have hfin : Hid (Thk.path (toL s) = true) := by
          refine Hpath.out.trans ((Thk.pathL_eq _ (fun j h => ?_) (fun j h h2 => ?_)).trans (by simp; omega))
          · simp only [List.getElem_map]; exact (hall.out j (by simpa using h) (by simp at h; omega)).1
          · simp only [List.getElem_map]; exact (hall.out j (by simpa using h) (by simp at h; omega)).2 (by simpa using h2)
        clear hall
        go_wp2
        go_ret2
        exact ⟨by rw [hfin.out]; rfl, hb1⟩


theorem splitAcc_none (c : UInt8) (l cur : Thk.Bs) (h : ¬ c ∈ l) : Thk.splitAcc c cur l = [cur ++ l] := by
  rw [splitAcc_index, if_pos]
  have h1 := index_ge l c
  have h2 := (not_congr (index_mem l c)).2 h
  omega
theorem splitAcc_last (c : UInt8) : ∀ (l cur : Thk.Bs) (i : Nat), l[i]? = some c → (∀ j, i < j → l[j]? ≠ some c) → (Thk.splitAcc c cur l).getLast? = some (l.drop (i + 1)) := by
  intro l
  induction l with
  | nil => intro cur i h; simp at h
  | cons x r ih =>
    intro cur i hi hj
    cases i with
    | zero =>
      have hx : x = c := by simpa using hi
      subst hx
      have hn : ¬ x ∈ r := fun hm => by
        obtain ⟨j, hj1, hj2⟩ := List.getElem_of_mem hm
        exact hj (j + 1) (by omega) (by simp [List.getElem?_eq_getElem hj1, hj2])
      rw [Thk.splitAcc_eq, splitAcc_none _ _ _ hn]; simp
    | succ i =>
      have hi' : r[i]? = some c := by simpa using hi
      have hj' : ∀ j, i < j → r[j]? ≠ some c := fun j h => by have := hj (j + 1) (by omega); simpa using this
      by_cases hx : x = c
      · subst hx
        rw [Thk.splitAcc_eq, List.getLast?_cons, ih [] i hi' hj']; simp
      · rw [Thk.splitAcc_ne _ _ _ _ hx, ih _ i hi' hj']; simp

theorem data_get (s : ByteArray) (j : Nat) (h : j < s.size) : s.data[j]! = s[j] := by
  rw [getElem!_pos s.data j h]; (first | done | rfl)

theorem kind_at (s : ByteArray) (hp : Thk.path (toL s) = true) : ∃ k : Nat, Lib.lastIndexByte s 47 + 1 = (k : Int) ∧ ∃ h : k < s.size, s[k] = Thk.kindOf (toL s) := by
  obtain ⟨hn, h2, h0⟩ := Thk.path_last _ hp
  have hl : (Thk.split 47 (toL s)).getLast? = some ((Thk.split 47 (toL s))[(Thk.split 47 (toL s)).length - 1]'(by omega)) := by
    rw [List.getLast?_eq_getElem?, List.getElem?_eq_getElem]
  have key : ∀ k : Nat, (Thk.split 47 (toL s)).getLast? = some ((toL s).drop k) → ∃ h : k < s.size, s[k] = Thk.kindOf (toL s) := by
    intro k hk
    rw [hl] at hk
    simp only [Option.some.injEq] at hk
    rw [hk] at h2 h0
    simp only [List.length_drop, toL_length] at h2
    have hks : k < s.size := by omega
    refine ⟨hks, ?_⟩
    rw [List.getElem?_drop, Nat.add_zero, List.getElem?_eq_getElem (by rw [toL_length]; exact hks), toL_get s k hks] at h0
    simpa using h0
  rcases Lib.lastIdx_spec s 47 s.size with ⟨h1, hno⟩ | ⟨i, hi, h1, hc, hno⟩
  · refine ⟨0, by unfold Lib.lastIndexByte; rw [h1]; rfl, key 0 ?_⟩
    have hmem : ¬ (47 : UInt8) ∈ toL s := fun hm => by
      obtain ⟨j, hj1, hj2⟩ := List.getElem_of_mem hm
      rw [toL_length] at hj1
      have := hno j hj1
      rw [data_get s j hj1, ← toL_get s j hj1, hj2] at this
      exact this rfl
    unfold Thk.split; rw [splitAcc_none _ _ _ hmem]; simp
  · refine ⟨i + 1, by unfold Lib.lastIndexByte; rw [h1]; omega, key (i + 1) ?_⟩
    unfold Thk.split
    apply splitAcc_last
    · rw [List.getElem?_eq_getElem (by rw [toL_length]; exact hi), toL_get s i hi]
      rw [data_get s i hi] at hc
      congr 1
      apply UInt8.toNat_inj.1
      have : (47 : UInt8).toNat = 47 := rfl
      omega
    · intro j hj e
      have hjs : j < s.size := by
        rcases Nat.lt_or_ge j s.size with h | h
        · exact h
        · rw [List.getElem?_eq_none (by rw [toL_length]; exact h)] at e; cases e
      rw [List.getElem?_eq_getElem (by rw [toL_length]; exact hjs), toL_get s j hjs] at e
      have := hno j hj hjs
      rw [data_get s j hjs] at this
      simp only [Option.some.injEq] at e
      rw [e] at this; exact this rfl

set_option maxHeartbeats 400000 in
theorem Kind_any (s : ByteArray) (w : World) (hs : s.size ≤ 1048576) (hp : Thk.path (toL s) = true) :
    Calls Tryz.prog 65 #[.string s] w fun e w' => e = .returned (.int .u8 ((Thk.kindOf (toL s)).toNat : Int)) ∧ w' = w := by
  obtain ⟨k, h1, h2, h3⟩ := kind_at s hp
  have Hc : Hid (_) := Tryz.strings_LastIndexByte s 47 (by omega) w
  obtain ⟨ix, hix⟩ : ∃ ix, ix = Lib.lastIndexByte s 47 := ⟨_, rfl⟩
  rw [← hix] at h1
  have hixe : ix = (k : Int) - 1 := by omega
  have H3 : Hid (_) := h3
  clear h3 h1 hp
  go_enter Tryz.func65, Tryz.ntmps65
  go_wp2_with fail
  refine Calls.mono Hc.out ?_
  rintro e w' ⟨rfl, rfl⟩
  rw [← hix, hixe]
  clear hix hixe
  go_wp2
  go_ret
  exact ⟨ret_int (by rw [H3.out]), rfl⟩

def actsOf (k : UInt8) : Thk.Bs := if (k.toNat : Int) = 115 then [43, 45, 33] else if (k.toNat : Int) = 102 then [94, 95, 33] else if (k.toNat : Int) = 114 then [61, 33] else if (k.toNat : Int) = 99 then [62, 33] else [33]

set_option maxHeartbeats 400000 in
theorem actionsOf_any (k : UInt8) (w : World) :
    Calls Tryz.prog 64 #[.int .u8 (k.toNat : Int)] w fun e w' => ∃ t, e = .returned (.string t) ∧ toL t = actsOf k ∧ w' = w := by
  go_enter Tryz.func64, Tryz.ntmps64
  go_wp2
  all_goals
    go_ret
    refine ⟨_, rfl, ?_, rfl⟩
    simp only [beq_iff_eq, beq_eq_false_iff_ne] at *
    unfold actsOf
    simp [*]
    try rfl

set_option maxHeartbeats 400000 in
theorem IsEffect_any (p : ByteArray) (a : UInt8) (v : ByteArray) (n : Int) (w : World) :
    Calls Tryz.prog 72 #[.agg #[.string p, .int .u8 (a.toNat : Int), .string v, .int .i64 n]] w fun e w' => e = .returned (.bool (effB a)) ∧ Below w.heap.size w w' := by
  go_enter Tryz.func72, Tryz.ntmps72
  go_wp2
  all_goals
    go_ret
    refine ⟨ret_bool ?_, (Below.refl _ _).alloc (Nat.le_refl _) _⟩
    simp only [beq_iff_eq, beq_eq_false_iff_ne] at *
    unfold effB
    rw [Bool.eq_iff_iff]
    simp
    try omega

end Go.Proofs.YtoiiaankpnhppaaGreatDoor

