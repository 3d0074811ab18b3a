import Derived.Laws.Runes
import Derived.Laws.RangeAny
import Derived.Deep.LoopGhost
import Derived.WalkMore
import Derived.BigQuiet
import Derived.Lib.OthersKept
import Derived.Test.YtoiiaankpnhppaaGreatDoorPart04
import Derived.Test.YtoiiaankpnhppaaGreatDoorPart05
import Derived.Test.YtoiiaankpnhppaaGreatDoorPart10
import Derived.Test.YtoiiaankpnhppaaGreatDoorPart15
set_option linter.unusedVariables false
set_option linter.unusedSimpArgs false
namespace Go.Proofs.YtoiiaankpnhppaaGreatDoor
open Go.RowKit Go.Maps Go.WideMaps Go.Shelf Go.Sort

set_option maxHeartbeats 1000000 in
theorem Collect_any (w : World) (gf : Nat) (lb : Array Value) (S : List Nat → Prop) (E : Nat → Prop) (hit : Iter Tryz.prog gf lb (fun n : Nat => #[Value.agg #[.int .i64 (who n : Int), .int .i64 (nth n : Int)]]) S E w) (eg : ∀ args w, (callFunc gf args).run Tryz.prog w = .ok (.enter gf args) w) (hE : ∀ k, E k → k < w.heap.size) (hS : ∀ ns, S ns → ns.length ≤ 4000) :
    Calls Tryz.prog 209 #[.func (.func gf) #[] lb] w fun e w' => ∃ v ns, e = .returned v ∧ S ns ∧ w'.ownsRow w.heap.size 121 2 v ns.length (dcells ns) ∧ Below w.heap.size w w' := by
  have Hc : Hid (_) := AppendSeq_any w gf lb S E hit eg hE hS
  clear hit eg hE hS
  go_enter Tryz.func209, Tryz.ntmps209
  go_wp2_with fail
  refine Calls.mono Hc.out ?_
  rintro e w1 ⟨v, ns, rfl, h1, h2, h3⟩
  have HF : Hid (S ns ∧ w1.ownsRow w.heap.size 121 2 v ns.length (dcells ns) ∧ Below w.heap.size w w1) := ⟨h1, h2, h3⟩
  clear h1 h2 h3 Hc
  go_wp2
  go_ret
  exact ⟨v, ns, rfl, HF.out⟩

set_option maxHeartbeats 1000000 in
theorem SortedFunc_any (w : World) (gf : Nat) (lb : Array Value) (It : Nat → Option Value) (E : Nat → Prop) (hit : Iter Tryz.prog gf lb (fun n : Nat => #[Value.agg #[.int .i64 (who n : Int), .int .i64 (nth n : Int)]]) (AllOf It) E w) (eg : ∀ args w, (callFunc gf args).run Tryz.prog w = .ok (.enter gf args) w) (hE : ∀ k, E k → k < w.heap.size) (h501 : ∀ n, It n ≠ none → okD n) :
    Calls Tryz.prog 166 #[.func (.func gf) #[] lb, .func (.func 168) #[] #[]] w fun e w' => ∃ v ns, e = .returned v ∧ AllOf It ns ∧ SliceD w' v ns ∧ (∀ b, v.ownBlock = some b → w.heap.size ≤ b) ∧ Below w.heap.size w w' := by
  have hS : ∀ ns, AllOf It ns → ns.length ≤ 4000 := fun ns h => by
    have := nodup_lt 3072 ns h.1 (fun n hn => okD_lt (h501 n ((h.2 n).1 hn)))
    omega
  have HS : Hid (∀ ns, AllOf It ns → ns.length ≤ 4000) := hS
  have Hc : Hid (_) := Collect_any w gf lb (AllOf It) E hit eg hE hS
  clear hit eg hE hS
  go_enter Tryz.func166, Tryz.ntmps166
  go_wp2_with fail
  refine Calls.mono Hc.out ?_
  rintro e w1 ⟨v, ns, rfl, h1, h2, h3⟩
  have HF : Hid (AllOf It ns ∧ w1.ownsRow w.heap.size 121 2 v ns.length (dcells ns) ∧ Below w.heap.size w w1) := ⟨h1, h2, h3⟩
  clear h1 h2 h3 Hc
  go_wp2_with fail
  refine Calls.mono (SortFunc_any w1 _ v ns HF.out.2.1 (HS.out ns HF.out.1)) ?_
  rintro e w2 ⟨rfl, ns', hp, hsl, hch⟩
  have HG : Hid (AllOf It ns' ∧ SliceD w2 v ns' ∧ (∀ b, v.ownBlock = some b → w.heap.size ≤ b) ∧ Below w.heap.size w w2) := ⟨⟨hp.nodup_iff.2 HF.out.1.1, fun n => (hp.mem_iff).trans (HF.out.1.2 n)⟩, hsl, fun b hb => (HF.out.2.1.lt b hb).1, HF.out.2.2.trans ⟨hch.os, hch.tape, hch.output, hch.size, fun k hk => hch.block k (Nat.lt_of_lt_of_le hk HF.out.2.2.size) (fun e => by have := (HF.out.2.1.lt k e).1; omega)⟩⟩
  clear hp hsl hch HF
  go_wp2
  go_ret
  exact ⟨v, ns', rfl, HG.out⟩

set_option maxHeartbeats 1000000 in
theorem All_any (w : World) (io co lo : Option Nat) : Calls Tryz.prog 121 #[.agg #[.map io, .map co, .map lo]] w fun e w' => e = .returned (.func (.func 165) #[] #[.pointer (some ⟨w.heap.size, 0, none⟩)]) ∧ w' = w.alloc (.cells #[.map io, .map co, .map lo] 106) := by
  go_enter Tryz.func121, Tryz.ntmps121
  go_wp2
  go_ret
  exact ⟨rfl, rfl⟩
end Go.Proofs.YtoiiaankpnhppaaGreatDoor
namespace Go.Proofs.YtoiiaankpnhppaaGreatDoor
open Go.RowKit Go.Maps Go.WideMaps Go.Shelf

attribute [local go_sem] Oper.semAt_some

structure Itm where
  n : Nat
  p : ByteArray
  a : Int
  v : ByteArray
  m : Int
noncomputable def itm (It : Nat → Option Value) (n : Nat) : Itm := @dite _ (∃ x : Itm, x.n = n ∧ It n = some (.agg #[.string x.p, .int .u8 x.a, .string x.v, .int .i64 x.m])) (Classical.propDecidable _) (fun h => Classical.choose h) (fun _ => ⟨n, ⟨#[]⟩, 0, ⟨#[]⟩, 0⟩)
theorem itm_n (It : Nat → Option Value) (n : Nat) : (itm It n).n = n := by
  unfold itm
  split
  · rename_i h; exact (Classical.choose_spec h).1
  · rfl
theorem itm_at {It : Nat → Option Value} {n : Nat} {v : Value} (h : It n = some v) (hv : ItemV v) : It n = some (.agg #[.string (itm It n).p, .int .u8 (itm It n).a, .string (itm It n).v, .int .i64 (itm It n).m]) := by
  obtain ⟨s0, x1, s2, x3, rfl⟩ := hv
  unfold itm
  have hh : ∃ x : Itm, x.n = n ∧ It n = some (.agg #[.string x.p, .int .u8 x.a, .string x.v, .int .i64 x.m]) := ⟨⟨n, s0, x1, s2, x3⟩, rfl, h⟩
  rw [dif_pos hh]
  exact (Classical.choose_spec hh).2

def SAll (It : Nat → Option Value) (xs : List Itm) : Prop := AllOf It (xs.map Itm.n) ∧ ∀ x ∈ xs, It x.n = some (.agg #[.string x.p, .int .u8 x.a, .string x.v, .int .i64 x.m])

theorem sAll_of {It : Nat → Option Value} {ns : List Nat} (h : AllOf It ns) (hv : ∀ n v, It n = some v → ItemV v) : SAll It (ns.map (itm It)) := by
  refine ⟨?_, fun x hx => ?_⟩
  · have e : (ns.map (itm It)).map Itm.n = ns := by rw [List.map_map]; exact (List.map_congr_left (fun n _ => itm_n It n)).trans (List.map_id _)
    rw [e]; exact h
  · obtain ⟨n, hn, rfl⟩ := List.mem_map.1 hx
    obtain ⟨v, hvv⟩ := Option.ne_none_iff_exists'.1 ((h.2 n).1 hn)
    rw [itm_n]
    exact itm_at hvv (hv n v hvv)

set_option maxRecDepth 100000 in
set_option maxHeartbeats 4000000 in
theorem All1_iter (w0 : World) (sb : Nat) (io co lo : Option Nat) (It : Nat → Option Value) (N : Nat) (hk : Blk w0 sb #[.map io, .map co, .map lo] 106) (hM : MapO Tryz.prog 121 w0 (.map io) N (im It)) (h501 : ∀ n, It n ≠ none → okD n) (hv : ∀ n v, It n = some v → ItemV v) :
    Iter Tryz.prog 165 #[.pointer (some ⟨sb, 0, none⟩)] (fun x : Itm => #[dotE x.n, Value.agg #[.string x.p, .int .u8 x.a, .string x.v, .int .i64 x.m]]) (SAll It) (fun k => k = sb ∨ io = some k) w0 := by
  intro l J Jx W hE hJ hJx hY h0
  have hkb : Blk W sb #[.map io, .map co, .map lo] 106 := (hE.2 sb (Or.inl rfl)).trans hk
  have c0 : W.cell? ⟨sb, 0, none⟩ = some (.map io) := (hkb.cell 0).trans rfl
  have hMW : MapO Tryz.prog 121 W (.map io) N (im It) := by
    rcases hM with h | ⟨b, hb, h⟩
    · exact Or.inl h
    · exact Or.inr ⟨b, hb, h.block (hE.2 b (Or.inr (by cases hb; rfl)))⟩
  have hlt : ∀ k, (k = sb ∨ io = some k) → k < W.heap.size := by
    rintro k (rfl | h)
    · exact hkb.lt
    · exact hMW.lt k (by rw [h])
  clear hM hk
  have HKe : Hid (_) := Keys_any W io
  have HSo : Hid (∀ wx, wx = W.alloc (.cells #[.map io] 100) → Calls Tryz.prog 166 #[.func (.func 211) #[] #[.pointer (some ⟨W.heap.size, 0, none⟩)], .func (.func 168) #[] #[]] wx fun e w' => ∃ v ns, e = .returned v ∧ AllOf It ns ∧ SliceD w' v ns ∧ (∀ b, v.ownBlock = some b → W.heap.size ≤ b) ∧ Below W.heap.size W w') := fun wx hx => by
    subst hx
    have hb : Below W.heap.size W (W.alloc (.cells #[.map io] 100)) := (Below.refl _ W).alloc (Nat.le_refl _) _
    refine Calls.mono (SortedFunc_any _ _ _ It _ (Keys1_iter _ W.heap.size io It N (Blk.new W _ _) (hMW.below hb) h501) (enters_of Tryz.func211 (by kernel_rfl) rfl) ?_ h501) ?_
    · rintro k (rfl | h)
      · simp
      · have := hlt k (Or.inr h); simp; omega
    · rintro e w' ⟨v, ns, rfl, h1, h2, h3, h4⟩
      exact ⟨v, ns, rfl, h1, h2, fun b hb' => by have := h3 b hb'; simp at this; omega, hb.trans (h4.mono (by simp))⟩
  refine callsIn_of_wp Tryz.func165 rfl trivial ?_ rfl
  simp only [Tryz.ntmps165, List.size_toArray, List.length_cons, List.length_nil, Nat.reduceAdd, Nat.reduceSub, Array.replicate_succ, Array.replicate_zero, List.push_toArray, List.append_toArray, List.nil_append, List.cons_append]
  gi_wp2_with fail
  refine ⟨trivial, (callsIn_wide.2 HKe.out).mono ?_⟩
  rintro e w1 ⟨rfl, rfl⟩
  gi_wp2_with fail
  refine ⟨trivial, (callsIn_wide.2 (HSo.out _ rfl)).mono ?_⟩
  rintro e w2 ⟨v, ns, rfl, hns, hsl, hvb, hb2⟩
  obtain ⟨T, hT⟩ : ∃ T : Nat → Prop, T = fun k => v.ownBlock = some k := ⟨_, rfl⟩
  have hTl : ∀ k, T k → k < w2.heap.size := fun k hk => by
    rw [hT] at hk
    rcases hsl with ⟨rfl, _⟩ | ⟨b, off, cap, rfl, _, h3, _⟩
    · cases hk
    · cases hk; exact h3
  have hJ2 : J T [] w2 := hJ _ _ _ _ _ h0 (Chg.of_below hb2) (fun k hk => ⟨Or.inr (by rw [hT] at hk; exact hvb k hk), hTl k hk⟩)
  have hshape : ∃ ao cap, v = .slice ao ns.length cap ∧ ns.length ≤ cap := by
    rcases hsl with ⟨rfl, rfl⟩ | ⟨b, off, cap, rfl, h2, _⟩
    · exact ⟨none, 0, rfl, Nat.le_refl _⟩
    · exact ⟨_, cap, rfl, h2⟩
  obtain ⟨ao, cap, hveq, hcap⟩ := hshape
  have hl502 : ns.length ≤ 3072 := nodup_lt 3072 ns hns.1 (fun n hn => okD_lt (h501 n ((hns.2 n).1 hn)))
  have HJ2 : Hid (J T [] w2) := hJ2
  have HE2 : Hid (Blk w2 sb #[.map io, .map co, .map lo] 106 ∧ MapO Tryz.prog 121 w2 (.map io) N (im It) ∧ SliceD w2 v ns) := ⟨hkb.below hb2, hMW.below hb2, hsl⟩
  clear hJ2 hsl hb2 HSo HKe hkb hMW c0
  subst hveq
  gi_wp2_with fail
  gi_loopg [10] ns.length (fun g v10 wx => ∃ i : Nat, i + g = ns.length ∧ v10 = .int .i64 (i : Int) ∧ J T ((ns.take i).map (itm It)) wx ∧ Blk wx sb #[.map io, .map co, .map lo] 106 ∧ MapO Tryz.prog 121 wx (.map io) N (im It) ∧ SliceD wx (.slice ao ns.length cap) ns ∧ w2.heap.size ≤ wx.heap.size)
  case atStart => exact ⟨0, by omega, rfl, HJ2.out, HE2.out.1, HE2.out.2.1, HE2.out.2.2, Nat.le_refl _⟩
  case round =>
    obtain ⟨i, hig, rfl, hJi, hbk, hmo, hsl, hwsz⟩ := hrel
    have HJi : Hid (J T ((ns.take i).map (itm It)) wr) := hJi
    have HEi : Hid (Blk wr sb #[.map io, .map co, .map lo] 106 ∧ MapO Tryz.prog 121 wr (.map io) N (im It) ∧ SliceD wr (.slice ao ns.length cap) ns) := ⟨hbk, hmo, hsl⟩
    clear HJ2 HE2 hJi hbk hmo
    by_cases hi : i < ns.length
    · obtain ⟨b, off, cap', hvv, _, hb, hcells⟩ := hsl.resolve_left (fun h => by rw [h.2] at hi; simp at hi)
      simp only [Value.slice.injEq] at hvv
      obtain ⟨rfl, _, rfl⟩ := hvv
      have k0 := (hcells i hi).1
      have k1 := (hcells i hi).2
      clear hsl hcells
      have hmem : ns[i] ∈ ns := List.getElem_mem hi
      have hall : ns.take (i + 1) = ns.take i ++ [ns[i]] := List.take_succ_eq_append_getElem hi
      obtain ⟨vi, hvi⟩ := Option.ne_none_iff_exists'.1 ((hns.2 _).1 hmem)
      have hIt := itm_at hvi (hv _ _ hvi)
      have hin := itm_n It ns[i]
      have hn501 := h501 _ ((hns.2 _).1 hmem)
      have hpre : ∃ ys, SAll It ys ∧ (ns.take i).map (itm It) ++ [itm It ns[i]] <+: ys := ⟨ns.map (itm It), sAll_of hns hv, by rw [← List.map_singleton, ← List.map_append, ← hall]; exact (List.take_prefix _ _).map _⟩
      have Hall : Hid ((ns.take (i + 1)).map (itm It) = (ns.take i).map (itm It) ++ [itm It ns[i]]) := by show _ = _; rw [hall, List.map_append]; (first | done | rfl)
      generalize ns[i] = n at *
      generalize itm It n = x at *
      obtain ⟨xn, s0, x1, s2, x3⟩ := x
      simp only at hin hIt
      subst hin
      gi_wp2_with fail
      have kd : Blk (wr.alloc (.cells #[.int .i64 (who xn : Int), .int .i64 (nth xn : Int)] 121)) wr.heap.size #[.int .i64 (who xn : Int), .int .i64 (nth xn : Int)] 121 := Blk.new wr _ _
      have hbw : Below wr.heap.size wr (wr.alloc (.cells #[.int .i64 (who xn : Int), .int .i64 (nth xn : Int)] 121)) := (Below.refl _ wr).alloc (Nat.le_refl _) _
      generalize wr.alloc (.cells #[.int .i64 (who xn : Int), .int .i64 (nth xn : Int)] 121) = w5 at *
      have d0 : w5.cell? ⟨wr.heap.size, 0, none⟩ = some (.int .i64 (who xn : Int)) := (kd.cell 0).trans rfl
      have d1 : w5.cell? ⟨wr.heap.size, 1, none⟩ = some (.int .i64 (nth xn : Int)) := (kd.cell 1).trans rfl
      have s0' : w5.cell? ⟨sb, 0, none⟩ = some (.map io) := ((HEi.out.1.below hbw).cell 0).trans rfl
      obtain ⟨kl, hkl⟩ := keyE xn (by have := hn501.1; omega)
      have hlk : (Instr.lookup 100 (.map io) (.agg #[.int .i64 (who xn : Int), .int .i64 (nth xn : Int)]) false).run Tryz.prog w5.drew = .ok (.agg #[.string s0, .int .u8 x1, .string s2, .int .i64 x3]) w5.drew := by
        have h1 := ((HEi.out.2.1.below hbw).below (Below.refl _ w5).drew).look kDot Tryz.underlying100 (zCh _) hkl
        rw [im_dot, hIt] at h1
        exact h1
      have hJ6 : J T ((ns.take i).map (itm It)) w5.drew := hJ _ _ _ _ _ HJi.out (Chg.of_below (hbw.drew)) (fun k hk => ⟨Or.inl hk, by have := hTl k hk; have := hbw.size; show k < w5.heap.size; omega⟩)
      obtain ⟨fn, tmps, assign, body, hy, hRd⟩ := hY T _ ⟨xn, s0, x1, s2, x3⟩ _ hJ6 hpre
      try dsimp only at hy
      have hRd2 : RoundIn Fence.wide 3 Tryz.prog l fn tmps assign body w5.drew fun e W' => ∃ bb : Bool, e = .returned (.bool bb) ∧ (bb = true → J T ((ns.take i).map (itm It) ++ [⟨xn, s0, x1, s2, x3⟩]) W' ∧ KeepT (fun k => (k = sb ∨ io = some k) ∨ T k) w5.drew W') ∧ (bb = false → Jx T ((ns.take i).map (itm It) ++ [⟨xn, s0, x1, s2, x3⟩]) W') := hRd.mono (by
        rintro e W' (⟨rfl, h1, h2⟩ | ⟨rfl, h1, _⟩)
        · exact ⟨true, rfl, fun _ => ⟨h1, h2⟩, fun h => by cases h⟩
        · exact ⟨false, rfl, (fun h => by cases h), fun _ => h1⟩)
      have HK : Hid (∀ W3, KeepT (fun k => (k = sb ∨ io = some k) ∨ T k) w5.drew W3 → Blk W3 sb #[.map io, .map co, .map lo] 106 ∧ MapO Tryz.prog 121 W3 (.map io) N (im It) ∧ SliceD W3 (.slice (some ⟨b, off, none⟩) ns.length cap) ns ∧ w2.heap.size ≤ W3.heap.size) := fun W3 hk => by
        have e1 := HEi.out.1.below hbw
        have e2 := HEi.out.2.1.below hbw
        have e3 := HEi.out.2.2.below hbw
        refine ⟨(hk.2 sb (Or.inl (Or.inl rfl))).trans e1, ?_, ?_, by have := hk.1; have := hbw.size; simp only [World.drew] at *; omega⟩
        · rcases e2 with h | ⟨b', hb', h⟩
          · exact Or.inl h
          · exact Or.inr ⟨b', hb', h.block (hk.2 b' (Or.inl (Or.inr (by cases hb'; rfl))))⟩
        · rcases e3 with ⟨h, _⟩ | ⟨b', off', cap'', h1, h2, h3, h4⟩
          · cases h
          · have hbb : b' = b := by cases h1; rfl
            have e : ∀ i, W3.cell? ⟨b', i, none⟩ = w5.cell? ⟨b', i, none⟩ := fun i => World.cell?_of_block (w := w5) (hk.2 b' (Or.inr (by rw [hT, hbb]; (first | done | rfl))))
            exact Or.inr ⟨b', off', cap'', h1, h2, Nat.lt_of_lt_of_le h3 hk.1, fun j hj => ⟨(e _).trans (h4 j hj).1, (e _).trans (h4 j hj).2⟩⟩
      gi_region_with (first | (refine RoundIn.mono (roundIn_wide_any hRd2) ?_; rintro e W3 ⟨bb, rfl, h3, h4⟩))
      all_goals
        cases bb with
        | true =>
          have H3 : Hid (_) := h3 rfl
          clear h3 h4 hRd2 hy hlk d0 d1 s0' kd
          gi_wp2_with fail
          gi_roundg (ns.length - (i + 1))
          case measure => omega
          case rel => exact ⟨i + 1, by omega, by go_num, by rw [Hall.out]; exact H3.out.1, HK.out _ H3.out.2⟩
        | false =>
          have H4 : Hid (_) := h4 rfl
          clear h3 h4 hRd2 hy hlk d0 d1 s0' kd
          gi_wp2_with fail
          refine bodyPost_ret (results_none rfl _ _ _) rfl ?_
          exact ⟨⟨_, rfl⟩, Or.inr ⟨_, T, H4.out⟩⟩
    · clear hsl
      gi_wp2_with fail
      go_end0
      refine ⟨⟨_, rfl⟩, Or.inl ⟨ns.map (itm It), sAll_of hns hv, T, ?_⟩⟩
      have := HJi.out
      rw [List.take_of_length_le (by omega)] at this
      exact this
end Go.Proofs.YtoiiaankpnhppaaGreatDoor
namespace Go.Proofs.YtoiiaankpnhppaaGreatDoor
open Go.RowKit

set_option maxHeartbeats 1000000 in
theorem Clone_any (s : ByteArray) (w : World) (hs : s.size ≤ 1048576) :
    Calls Tryz.prog 118 #[.string s] w fun e w' => e = .returned (.string s) ∧ Below w.heap.size w w' := by
  have Hc1 : Hid (_) := Tryz.stringslite_Clone s w (by omega)
  go_enter Tryz.func118, Tryz.ntmps118
  go_wp2_with fail
  refine Calls.mono Hc1.out ?_
  rintro e w1 ⟨rfl, hb⟩
  go_wp2
  go_ret
  exact ⟨rfl, hb⟩

structure ChAt (w : World) (b : Nat) (p : ByteArray) (a : UInt8) (v : ByteArray) (n : Int) : Prop where
  tag : Tagged w b 81
  c0 : w.cell? ⟨b, 0, none⟩ = some (.string p)
  c1 : w.cell? ⟨b, 1, none⟩ = some (.int .u8 (a.toNat : Int))
  c2 : w.cell? ⟨b, 2, none⟩ = some (.string v)
  c3 : w.cell? ⟨b, 3, none⟩ = some (.int .i64 n)

theorem ChAt.chg {M : Nat → Prop} {w w' : World} {b : Nat} {p : ByteArray} {a : UInt8} {v : ByteArray} {n : Int} (h : ChAt w b p a v n) (hc : Chg M w w') (hm : ¬ M b) : ChAt w' b p a v n := by
  have hcell : ∀ i, w'.cell? ⟨b, i, none⟩ = w.cell? ⟨b, i, none⟩ := fun i => World.cell?_of_block (w := w) (hc.block b h.tag.lt hm)
  exact ⟨h.tag.chg hc hm, (hcell 0).trans h.c0, (hcell 1).trans h.c1, (hcell 2).trans h.c2, (hcell 3).trans h.c3⟩
theorem ChAt.below {w w' : World} {b : Nat} {p : ByteArray} {a : UInt8} {v : ByteArray} {n : Int} (h : ChAt w b p a v n) (hb : Below w.heap.size w w') : ChAt w' b p a v n :=
  h.chg (Chg.of_below (M := fun _ => False) hb) (fun h => h)
theorem ChAt.set2 {w : World} {b : Nat} {p : ByteArray} {a : UInt8} {v : ByteArray} {n : Int} (h : ChAt w b p a v n) (v' : ByteArray) : ChAt (w.setCell ⟨b, 2, none⟩ (.string v')) b p a v' n :=
  ⟨h.tag.setCell _ _, (cs_oth (Or.inr (by omega))).trans h.c0, (cs_oth (Or.inr (by omega))).trans h.c1, cs_same h.c2, (cs_oth (Or.inr (by omega))).trans h.c3⟩
theorem ChAt.set3 {w : World} {b : Nat} {p : ByteArray} {a : UInt8} {v : ByteArray} {n : Int} (h : ChAt w b p a v n) (n' : Int) : ChAt (w.setCell ⟨b, 3, none⟩ (.int .i64 n')) b p a v n' :=
  ⟨h.tag.setCell _ _, (cs_oth (Or.inr (by omega))).trans h.c0, (cs_oth (Or.inr (by omega))).trans h.c1, (cs_oth (Or.inr (by omega))).trans h.c2, cs_same h.c3⟩
theorem ChAt.set0 {w : World} {b : Nat} {p : ByteArray} {a : UInt8} {v : ByteArray} {n : Int} (h : ChAt w b p a v n) (p' : ByteArray) : ChAt (w.setCell ⟨b, 0, none⟩ (.string p')) b p' a v n :=
  ⟨h.tag.setCell _ _, cs_same h.c0, (cs_oth (Or.inr (by omega))).trans h.c1, (cs_oth (Or.inr (by omega))).trans h.c2, (cs_oth (Or.inr (by omega))).trans h.c3⟩
theorem ChAt.set1 {w : World} {b : Nat} {p : ByteArray} {a : UInt8} {v : ByteArray} {n : Int} (h : ChAt w b p a v n) (a' : UInt8) : ChAt (w.setCell ⟨b, 1, none⟩ (.int .u8 (a'.toNat : Int))) b p a' v n :=
  ⟨h.tag.setCell _ _, (cs_oth (Or.inr (by omega))).trans h.c0, cs_same h.c1, (cs_oth (Or.inr (by omega))).trans h.c2, (cs_oth (Or.inr (by omega))).trans h.c3⟩
theorem ChAt.setOth {w : World} {b b' i : Nat} {p : ByteArray} {a : UInt8} {v : ByteArray} {n : Int} (h : ChAt w b p a v n) (hb : b ≠ b') (u : Value) : ChAt (w.setCell ⟨b', i, none⟩ u) b p a v n :=
  h.chg ((Chg.refl (fun k => k = b') w).setCell (p := ⟨b', i, none⟩) rfl u) hb
theorem chAt_alloc (w : World) (p : ByteArray) (a : UInt8) (v : ByteArray) (n : Int) : ChAt (w.alloc (.cells #[.string p, .int .u8 (a.toNat : Int), .string v, .int .i64 n] 81)) w.heap.size p a v n := by
  have h : (w.alloc (.cells #[.string p, .int .u8 (a.toNat : Int), .string v, .int .i64 n] 81)).heap[w.heap.size]? = some (.cells #[.string p, .int .u8 (a.toNat : Int), .string v, .int .i64 n] 81 (0, 0)) := heap_alloc_new _ _
  refine ⟨⟨_, h⟩, ?_, ?_, ?_, ?_⟩ <;> rw [World.cell?_alloc_at _ _ _ _ rfl] <;> rfl

set_option maxHeartbeats 1000000 in
theorem copied_any (p : ByteArray) (a : UInt8) (v : ByteArray) (n : Int) (w : World) (hp : p.size ≤ 1048576) (hv : v.size ≤ 1048576) :
    Calls Tryz.prog 67 #[.agg #[.string p, .int .u8 (a.toNat : Int), .string v, .int .i64 n]] w
      fun e w' => e = .returned (.agg #[.string p, .int .u8 (a.toNat : Int), .string v, .int .i64 n]) ∧ Below w.heap.size w w' := by
  have HA0 : Hid (∀ o, ChAt ((w.alloc (.cells #[.string p, .int .u8 (a.toNat : Int), .string v, .int .i64 n] 81)).alloc o) w.heap.size p a v n) := fun o => (chAt_alloc w p a v n).below ((Below.refl _ _).alloc (Nat.le_refl _) o)
  have HA1 : Hid (∀ o, ChAt ((w.alloc o).alloc (.cells #[.string ⟨#[]⟩, .int .u8 0, .string ⟨#[]⟩, .int .i64 0] 81)) (w.heap.size + 1) ⟨#[]⟩ 0 ⟨#[]⟩ 0) := fun o => by
    have := chAt_alloc (w.alloc o) ⟨#[]⟩ 0 ⟨#[]⟩ 0
    have e : (w.alloc o).heap.size = w.heap.size + 1 := by simp
    rw [e] at this; exact this
  have HB : Hid (∀ o o', Below w.heap.size w ((w.alloc o).alloc o')) := fun o o' => ((Below.refl _ w).alloc (Nat.le_refl _) o).alloc (by simp) o'
  go_enter Tryz.func67, Tryz.ntmps67
  go_wp2_with fail
  refine Calls.mono (Clone_any p _ hp) ?_
  rintro e w1 ⟨rfl, hb1⟩
  have a0 : ChAt w1 w.heap.size p a v n := (HA0.out _).below hb1
  have a1 : ChAt w1 (w.heap.size + 1) ⟨#[]⟩ 0 ⟨#[]⟩ 0 := (HA1.out _).below hb1
  have b1 : Hid (Below w.heap.size w w1) := (HB.out _ _).trans (hb1.mono (by simp; omega))
  clear hb1
  have x0 := a0.c0
  have x1 := a0.c1
  have x2 := a0.c2
  have x3 := a0.c3
  have xf := a0.tag.frozen
  have A0 : Hid (ChAt w1 w.heap.size p a v n) := a0
  have A1 : Hid (ChAt w1 (w.heap.size + 1) ⟨#[]⟩ 0 ⟨#[]⟩ 0) := a1
  clear a0 a1 HA0 HA1 HB
  go_wp2_with fail
  refine Calls.mono (Clone_any v _ hv) ?_
  rintro e w2 ⟨rfl, hb2⟩
  have a0 : ChAt w2 w.heap.size p a v n := (A0.out.set0 p).below hb2
  have a1 : ChAt w2 (w.heap.size + 1) ⟨#[]⟩ 0 ⟨#[]⟩ 0 := (A1.out.chg ((Chg.refl (fun k => k = w.heap.size) w1).setCell (p := ⟨w.heap.size, 0, none⟩) rfl (.string p)) (by simp)).below hb2
  have b2 : Hid (Below w.heap.size w w2) := (b1.out.setCell (p := ⟨w.heap.size, 0, none⟩) (Nat.le_refl _) (.string p)).trans (hb2.mono (by have := b1.out.size; simpa [World.setCell] using this))
  clear hb2 x0 x1 x2 x3 xf
  have x0 := a0.c0
  have x1 := a0.c1
  have x2 := a0.c2
  have x3 := a0.c3
  have xf := a0.tag.frozen
  have y0 := a1.c0
  have y1 := a1.c1
  have y2 := a1.c2
  have y3 := a1.c3
  have yf := a1.tag.frozen
  have A1 : Hid (ChAt w2 (w.heap.size + 1) ⟨#[]⟩ 0 ⟨#[]⟩ 0) := a1
  clear a0 a1 A0 b1
  go_wp2
  have hF : ChAt (((((w2.setCell ⟨w.heap.size, 2, none⟩ (.string v)).setCell ⟨w.heap.size + 1, 0, none⟩ (.string p)).setCell ⟨w.heap.size + 1, 1, none⟩ (.int .u8 (a.toNat : Int))).setCell ⟨w.heap.size + 1, 2, none⟩ (.string v)).setCell ⟨w.heap.size + 1, 3, none⟩ (.int .i64 n)) (w.heap.size + 1) p a v n :=
    ((((A1.out.setOth (by omega) _).set0 p).set1 a).set2 v).set3 n
  have hB : Below w.heap.size w (((((w2.setCell ⟨w.heap.size, 2, none⟩ (.string v)).setCell ⟨w.heap.size + 1, 0, none⟩ (.string p)).setCell ⟨w.heap.size + 1, 1, none⟩ (.int .u8 (a.toNat : Int))).setCell ⟨w.heap.size + 1, 2, none⟩ (.string v)).setCell ⟨w.heap.size + 1, 3, none⟩ (.int .i64 n)) :=
    ((((b2.out.setCell (p := ⟨w.heap.size, 2, none⟩) (Nat.le_refl _) _).setCell (p := ⟨w.heap.size + 1, 0, none⟩) (Nat.le_succ _) _).setCell (p := ⟨w.heap.size + 1, 1, none⟩) (Nat.le_succ _) _).setCell (p := ⟨w.heap.size + 1, 2, none⟩) (Nat.le_succ _) _).setCell (p := ⟨w.heap.size + 1, 3, none⟩) (Nat.le_succ _) _
  generalize (((((w2.setCell ⟨w.heap.size, 2, none⟩ (.string v)).setCell ⟨w.heap.size + 1, 0, none⟩ (.string p)).setCell ⟨w.heap.size + 1, 1, none⟩ (.int .u8 (a.toNat : Int))).setCell ⟨w.heap.size + 1, 2, none⟩ (.string v)).setCell ⟨w.heap.size + 1, 3, none⟩ (.int .i64 n)) = WF at *
  refine bodyPost_ret (v := .agg #[.string p, .int .u8 (a.toNat : Int), .string v, .int .i64 n]) (by simp [results, Tryz.results67, go_sem, hF.c0, hF.c1, hF.c2, hF.c3]) rfl ⟨rfl, hB⟩

def keptVal (a : UInt8) (t : ByteArray) : ByteArray := if a.toNat = 43 ∨ a.toNat = 45 ∨ a.toNat = 61 then t else ByteArray.empty

theorem opA {p : Thk.Bs} {a : UInt8} {l : Thk.Bs} (ha : a.toNat = 43 ∨ a.toNat = 45 ∨ a.toNat = 61) : (Thk.operand p a l).isRight = Thk.word Thk.isAln 8 l ∧ ∀ c, Thk.operand p a l = .inr c → c.n = 0 := by
  have hv : Thk.val l = Thk.word Thk.isAln 8 l := rfl
  unfold Thk.operand
  rw [if_pos ha, hv]
  cases Thk.word Thk.isAln 8 l
  · simp
  · simp only [if_true, Sum.isRight_inr, Sum.inr.injEq, true_and]; rintro c rfl; rfl
theorem opB {p : Thk.Bs} {a : UInt8} {l : Thk.Bs} (ha : a.toNat = 62) : (Thk.operand p a l).isRight = (Thk.num l).isSome ∧ ∀ c, Thk.operand p a l = .inr c → Thk.num l = some c.n := by
  unfold Thk.operand
  rw [if_neg (by omega), if_pos ha]
  cases Thk.num l
  · simp
  · simp only [Sum.isRight_inr, Sum.inr.injEq, Option.isSome_some, true_and]; rintro c rfl; rfl
theorem opC {p : Thk.Bs} {a : UInt8} {l : Thk.Bs} (ha : ¬ (a.toNat = 43 ∨ a.toNat = 45 ∨ a.toNat = 61)) (hb : ¬ a.toNat = 62) : (Thk.operand p a l).isRight = decide (l = []) ∧ ∀ c, Thk.operand p a l = .inr c → c.n = 0 := by
  unfold Thk.operand
  rw [if_neg ha, if_neg hb]
  by_cases h : l = []
  · rw [if_pos h]; simp only [Sum.isRight_inr, Sum.inr.injEq, h, decide_true, true_and]; rintro c rfl; rfl
  · rw [if_neg h]; simp [h]
theorem keptA {a : UInt8} {t : ByteArray} (ha : a.toNat = 43 ∨ a.toNat = 45 ∨ a.toNat = 61) : keptVal a t = t := if_pos ha
theorem keptN {a : UInt8} {t : ByteArray} (ha : ¬ (a.toNat = 43 ∨ a.toNat = 45 ∨ a.toNat = 61)) : keptVal a t = ByteArray.empty := if_neg ha

set_option maxHeartbeats 1000000 in
theorem readOperand_any (b : Nat) (p : ByteArray) (a : UInt8) (t : ByteArray) (w : World) (ht : t.size ≤ 1048576) (hG : Glob w) (hC : ChAt w b p a ByteArray.empty 0) :
    Calls Tryz.prog 66 #[.pointer (some ⟨b, 0, none⟩), .string t] w
      fun e w' => e = .returned (.bool (Thk.operand (toL p) a (toL t)).isRight) ∧ (∀ c, Thk.operand (toL p) a (toL t) = .inr c → ChAt w' b p a (keptVal a t) c.n) ∧ Chg (· = b) w w' := by
  have c0 := hC.c0
  have c1 := hC.c1
  have c2 := hC.c2
  have c3 := hC.c3
  have fz := hC.tag.frozen
  have HC : Hid (ChAt w b p a ByteArray.empty 0) := hC
  have Hn : Hid (_) := readNumber_any t w ht hG
  clear hG hC
  go_enter Tryz.func66, Tryz.ntmps66
  go_wp2_with (first | (go_at_call 117; refine Calls.mono Hn.out ?_; rintro e w1 ⟨n, rfl, hn, hb⟩; have z3 := (HC.out.below hb).c3; have zf := (HC.out.below hb).tag.frozen) | (go_at_call 115; refine (isWord_alnum t 8 _ ht (by omega)).mono ?_; rintro e w1 ⟨rfl, rfl⟩))
  iterate 3
    · go_ret
      have ha : a.toNat = 43 ∨ a.toNat = 45 ∨ a.toNat = 61 := by simp only [beq_iff_eq, beq_eq_false_iff_ne] at *; omega
      refine ⟨ret_bool (opA ha).1.symm, fun c hc => ?_, Chg.setCell (M := fun x => x = b) (Chg.refl _ w) (p := ⟨b, 2, none⟩) rfl _⟩
      rw [(opA ha).2 c hc, keptA ha]; exact HC.out.set2 t
  · go_ret
    have hb' : a.toNat = 62 := by simp only [beq_iff_eq, beq_eq_false_iff_ne] at *; omega
    refine ⟨ret_bool (opB hb').1.symm, fun c hc => ?_, Chg.setCell (M := fun x => x = b) (Chg.of_below hb) (p := ⟨b, 3, none⟩) rfl _⟩
    rw [← hn _ ((opB hb').2 c hc), keptN (by omega)]; exact (HC.out.below hb).set3 n
  · go_ret
    have ha : ¬ (a.toNat = 43 ∨ a.toNat = 45 ∨ a.toNat = 61) := by simp only [beq_iff_eq, beq_eq_false_iff_ne] at *; omega
    have hb' : ¬ a.toNat = 62 := by simp only [beq_iff_eq, beq_eq_false_iff_ne] at *; omega
    refine ⟨ret_bool ?_, fun c hc => ?_, Chg.refl _ w⟩
    · rw [(opC ha hb').1, toList_eq]
      show (toL t).isEmpty = _
      cases toL t <;> rfl
    · rw [(opC ha hb').2 c hc, keptN ha]; exact HC.out

def actsB : ByteArray := ⟨#[43, 45, 94, 95, 61, 62, 33]⟩
theorem acts_low : ∀ b ∈ actsB.data.toList, b.toNat < 128 := by decide +kernel

theorem iter_below (w : World) (s : ByteArray) (i : Nat) : Below w.heap.size w (w.iter s i) := (Below.refl _ w).alloc (Nat.le_refl _) _

set_option maxHeartbeats 4000000 in
set_option maxRecDepth 100000 in
theorem IndexRune_bad (w : World) :
    Calls Tryz.prog 109 #[.string actsB, .int .i32 65533] w fun e w' => e = .returned (.int .i64 (-1)) ∧ Below w.heap.size w w' := by
  have hsz : actsB.size = 7 := rfl
  have Hlow : Hid (∀ i (h : i < actsB.size), (actsB[i]'h).toNat < 128) := fun i h => acts_low _ (Array.getElem_mem_toList (xs := actsB.data) h)
  generalize actsB = s at *
  go_enter Tryz.func109, Tryz.ntmps109
  go_wp2_with fail
  go_loopg [5, 6] 7 (fun g _ _ wx => ∃ i : Nat, i + g = 7 ∧ wx = w.iter s i)
  case atStart => exact ⟨0, by omega, rfl⟩
  case round =>
    obtain ⟨i, hig, rfl⟩ := hrel
    cases gk with
    | zero =>
      have hnx := fun ty => run_next_end (P := Tryz.prog) w s i ty (by omega)
      go_wp2
      go_ret
      exact ⟨rfl, iter_below _ _ _⟩
    | succ g =>
      have hi : i < s.size := by omega
      have hx := Hlow.out i hi
      have hnx := fun ty => run_next_ascii (P := Tryz.prog) w s i ty hi hx
      generalize (s[i]'hi) = x at *
      have hne : ((x.toNat : Int) == 65533) = false := beq_eq_false_iff_ne.2 (by omega)
      go_wp2
      go_roundg g
      case measure => omega
      case rel => exact ⟨i + 1, by omega, rfl⟩

theorem indexByte_none (c : UInt8) : ∀ l : Thk.Bs, (∀ b ∈ l, b ≠ c) → Lib.indexByte l c = -1 := by
  intro l
  induction l with
  | nil => intro _; rfl
  | cons x l ih =>
    intro h
    have h1 : (x == c) = false := by simpa using h x (by simp)
    have h2 := ih (fun b hb => h b (by simp [hb]))
    rw [ix_cons, h1, h2]; (first | done | rfl)

theorem inBlock_ret (id : Nat) (Q : Exit → Act → World → Prop) (a : Act) (w : World) : Exit.inBlock id Q .ret a w = Q .ret a w := rfl
theorem then_ret (K : Act → World → Prop) (Q : Exit → Act → World → Prop) (a : Act) (w : World) : Exit.then K Q .ret a w = Q .ret a w := rfl

def Qb (s : ByteArray) (c : UInt8) : Prop := ∀ i j wx, Calls Tryz.prog 63 #[.string (s.extract i j), .int .u8 (c.toNat : Int)] wx fun e w' => e = .returned (.int .i64 (-1)) ∧ w' = wx

set_option maxHeartbeats 4000000 in
set_option maxRecDepth 100000 in
theorem IndexRune_high (r : Int) (w : World) (h1 : 128 ≤ r) (h2 : r ≤ 2147483647) :
    Calls Tryz.prog 109 #[.string actsB, .int .i32 r] w fun e w' => e = .returned (.int .i64 (-1)) ∧ Below w.heap.size w w' := by
  by_cases hbad : r = 65533
  · subst hbad; exact IndexRune_bad w
  have hne : (r == 65533) = false := beq_eq_false_iff_ne.2 hbad
  have n128 : ¬ r < 128 := by omega
  cases hv : Lib.validRune r
  · have Hv : Hid (Lib.validRune r = false) := hv
    clear hv
    go_enter Tryz.func109, Tryz.ntmps109
    go_wp2_with (go_at_call 155; refine (Tryz.utf8_ValidRune r _).mono ?_; rintro e w1 ⟨rfl, rfl⟩; rw [Hv.out])
    go_ret
    exact ⟨rfl, Below.refl _ _⟩
  · have Hv : Hid (Lib.validRune r = true) := hv
    have hv2 : Utf8.valid r = true := by unfold Lib.validRune at hv; unfold Utf8.valid; simp at hv ⊢; omega
    obtain ⟨e1, e2, e3⟩ := encode_facts r hv2 h1
    clear hv hv2
    obtain ⟨n, hn⟩ : ∃ n, (Utf8.encode r).size = n + 1 := ⟨(Utf8.encode r).size - 1, by omega⟩
    have hsz : actsB.size = 7 := rfl
    have Hlow : Hid (∀ i (h : i < actsB.size), (actsB[i]'h).toNat < 128) := fun i h => acts_low _ (Array.getElem_mem_toList (xs := actsB.data) h)
    generalize actsB = s at *
    have hcv : ∀ wx, (convert 21 9 (.int .i32 r)).run Tryz.prog wx = .ok (.string (Utf8.encode r)) wx := fun wx => run_convert_int_string wx 21 9 .i32 r (by rw [Tryz.underlying21]; (first | done | rfl)) Tryz.underlying9
    generalize Utf8.encode r = rs at *
    go_enter Tryz.func109, Tryz.ntmps109
    go_wp2_with (go_at_call 155; refine (Tryz.utf8_ValidRune r _).mono ?_; rintro e w1 ⟨rfl, rfl⟩; rw [Hv.out])
    go_step3
    go_wp2_with fail
    have hns : n < s.size := by omega
    have hnr : n < rs.size := by omega
    have hx := Hlow.out n hns
    have hy : 128 ≤ (rs[n]'hnr).toNat := by
      have := e3 (by omega)
      have e : rs.size - 1 = n := by omega
      simp only [e] at this; exact this
    have hneq : (((s[n]'hns).toNat : Int) != ((rs[n]'hnr).toNat : Int)) = true := by simp; omega
    have Hc : Hid (∀ i j, Lib.indexByte (s.extract i j).data.toList (rs[n]'hnr) = -1) := fun i j => indexByte_none _ _ (fun b hb => by
      intro he
      have h1 := mem_extract hb
      obtain ⟨k, hk, hk2⟩ := List.getElem_of_mem h1
      have h2 := Hlow.out k (by simpa using hk)
      have h3 : s[k]'(by simpa using hk) = b := hk2
      rw [h3, he] at h2; omega)
    have hback : (((rs[n]'hnr).toNat : Int)).toNat.toUInt8 = rs[n]'hnr := by simp
    have Hc2 : Qb s (rs[n]'hnr) := fun i j wx => by
      refine (Tryz.strings_IndexByte _ _ _).mono ?_
      rintro e w2 ⟨rfl, rfl⟩
      rw [hback, Hc.out]
      exact ⟨rfl, rfl⟩
    have hwr : IntKind.i64.wrap ((n : Int) + 1) = (n : Int) + 1 := wrap_small _ (by omega) (by omega)
    have hle : (n : Int) + 1 ≤ 7 := by omega
    have hle0 : (0 : Int) ≤ (n : Int) + 1 := by omega
    clear e1 e2 e3 hcv hn
    go_loopg [9, 10, 11, 12] 0 (fun g v9 v10 v11 v12 wx => v9 = .int .i64 (n : Int) ∧ v10 = .int .i64 0 ∧ wx = w1)
    case atStart => exact ⟨rfl, rfl, rfl⟩
    case round =>
      obtain ⟨rfl, rfl, rfl⟩ := hrel
      go_wp2_with fail
      go_step3
      go_wp2_with fail
      go_quiet (fail)
      go_wp2_with fail
      go_quiet (first | (go_at_call 63; exact Calls.mono (Hc2 _ _ _) (fun _ _ h => ⟨h.1, _, h.2⟩)))
      go_wp2
      rw [Exit.noGoto_ret, inBlock_ret, then_ret, inBlock_ret, then_ret, Exit.noGoto_ret, inBlock_ret]
      go_ret
      exact ⟨rfl, below_drewN (Below.refl _ _) _⟩

theorem decode_span (s : ByteArray) (i : Nat) (h : i < s.size) (ha : 128 ≤ (s[i]'h).toNat) : ∀ j, j < (Utf8.decode s i).2 → ∃ hj : i + j < s.size, 128 ≤ (s[i + j]'hj).toNat := by
  have hg : ∀ k (hk : i + k < s.size), (s.get! (i + k)).toNat / 64 = 2 → 128 ≤ (s[i + k]'hk).toNat := fun k hk h2 => by
    have e : s.get! (i + k) = s[i + k]'hk := by simp [ByteArray.get!, getElem!_pos, hk]; (first | done | rfl)
    rw [e] at h2; omega
  have h0 : ∃ hj : i + 0 < s.size, 128 ≤ (s[i + 0]'hj).toNat := ⟨h, ha⟩
  have hn : ¬ (s[i]'h).toNat < 128 := by omega
  intro j hj
  have hc : ∀ k, (decide (i + k < s.size) && (s.get! (i + k)).toNat / 64 == 2) = true → ∃ hj : i + k < s.size, 128 ≤ (s[i + k]'hj).toNat := fun k hk => by
    simp only [Bool.and_eq_true, decide_eq_true_eq, beq_iff_eq] at hk
    exact ⟨hk.1, hg k hk.1 hk.2⟩
  simp only [Utf8.decode, get_at s i h, hn, if_false] at hj
  split at hj
  · rename_i hx
    simp only [Bool.and_eq_true] at hx
    have c1 := hc 1 (by simpa using hx.2)
    split at hj <;> (simp only at hj; rcases j with _ | _ | j; exact h0; exact c1; omega)
  · split at hj
    · rename_i hx
      simp only [Bool.and_eq_true] at hx
      have c1 := hc 1 (by simpa using hx.1.2)
      have c2 := hc 2 (by simpa using hx.2)
      split at hj <;> (simp only at hj; rcases j with _ | _ | _ | j; exact h0; exact c1; exact c2; omega)
    · split at hj
      · rename_i hx
        simp only [Bool.and_eq_true] at hx
        have c1 := hc 1 (by simpa using hx.1.1.2)
        have c2 := hc 2 (by simpa using hx.1.2)
        have c3 := hc 3 (by simpa using hx.2)
        split at hj <;> (simp only at hj; rcases j with _ | _ | _ | _ | j; exact h0; exact c1; exact c2; exact c3; omega)
      · simp only at hj; rcases j with _ | j; exact h0; omega

end Go.Proofs.YtoiiaankpnhppaaGreatDoor
namespace Go.Proofs.YtoiiaankpnhppaaGreatDoor
open Go.RowKit Go.Lib

theorem acts_not (x : UInt8) (h : 128 ≤ x.toNat) : (toL actsB).contains x = false := by
  have : ∀ b ∈ toL actsB, b.toNat < 128 := acts_low
  cases hc : (toL actsB).contains x
  · rfl
  · have := this x (by simpa using hc); omega

theorem NoAny_skip {s : ByteArray} {i d : Nat} (h : Lib.NoAny (toL s) (toL actsB) i) (hd : ∀ j, j < d → ∃ hj : i + j < s.size, 128 ≤ (s[i + j]'hj).toNat) : Lib.NoAny (toL s) (toL actsB) (i + d) := by
  intro j b hj hb
  by_cases h1 : j < i
  · exact h j b h1 hb
  · obtain ⟨hj', h2⟩ := hd (j - i) (by omega)
    have e : i + (j - i) = j := by omega
    simp only [e] at hj' h2
    have e2 : (toL s)[j]? = some (s[j]'hj') := Lib.data_getElem? s j hj'
    rw [e2] at hb
    cases hb
    exact acts_not _ h2

set_option maxHeartbeats 4000000 in
set_option maxRecDepth 100000 in
theorem IndexAny_short (s : ByteArray) (w : World) (h8 : s.size ≤ 8) :
    Calls Tryz.prog 62 #[.string s, .string actsB] w fun e w' => e = .returned (.int .i64 (Lib.indexAny (toL s) (toL actsB))) ∧ Below w.heap.size w w' := by
  have hsz : actsB.size = 7 := rfl
  have hemp : actsB.toList.isEmpty = false := by rw [toList_eq]; (first | done | rfl)
  have h8z : decide ((8 : Int) < (s.size : Int)) = false := decide_eq_false (by omega)
  have Hr : Hid (∀ (r : Int) (wx : World), 128 ≤ r → r ≤ 2147483647 → Calls Tryz.prog 109 #[.string actsB, .int .i32 r] wx fun e w' => e = .returned (.int .i64 (-1)) ∧ Below wx.heap.size wx w') := fun r wx h1 h2 => IndexRune_high r wx h1 h2
  have Hs : Hid (∀ {i d : Nat}, Lib.NoAny (toL s) (toL actsB) i → (∀ j, j < d → ∃ hj : i + j < s.size, 128 ≤ (s[i + j]'hj).toNat) → Lib.NoAny (toL s) (toL actsB) (i + d)) := fun h hd => NoAny_skip h hd
  generalize actsB = ch at *
  go_enter Tryz.func62, Tryz.ntmps62
  go_wp2_with (go_at_call 110; refine (Tryz.strings_shouldUseASCIISet _ _).mono ?_; rintro e w' ⟨rfl, hw⟩; rw [hw, h8z])
  go_loopg [9, 10] s.size (fun g _ _ wx => ∃ i : Nat, i + g = s.size ∧ wx.heap[w.heap.size]? = some (.stringIter s i) ∧ Below w.heap.size w wx ∧ Lib.NoAny (toL s) (toL ch) i)
  case atStart => exact ⟨0, by omega, World.iter_heap _ _ _, iter_below _ _ _, Lib.NoAny.zero _ _⟩
  case round =>
    obtain ⟨i, hig, hit, hbl, hno⟩ := hrel
    have HN : Hid (Lib.NoAny (toL s) (toL ch) i) := hno
    have HB : Hid (Below w.heap.size w wr) := hbl
    have Hit : Hid (wr.heap[w.heap.size]? = some (.stringIter s i)) := hit
    clear hno hbl
    by_cases hi : i < s.size
    · by_cases hx : (s[i]'hi).toNat < 128
      · have hnx := fun ty => run_next_ascii_at (P := Tryz.prog) wr w.heap.size s i ty hit hi hx
        have Hx : Hid ((toL s)[i]? = some (s[i]'hi)) := Lib.data_getElem? s i hi
        clear hit
        generalize (s[i]'hi) = x at *
        have hcon : (toL ch).contains x = decide (0 ≤ Lib.indexByte ch.data.toList x) := Lib.contains_iff_indexByte ch.data.toList x
        have hback : ((x.toNat : Int)).toNat.toUInt8 = x := by simp
        have HW : Hid ((wr.iterAt w.heap.size s (i + 1)).heap[w.heap.size]? = some (.stringIter s (i + 1)) ∧ Below w.heap.size w (wr.iterAt w.heap.size s (i + 1))) := ⟨iterAt_heap _ _ _ _ _ Hit.out, below_iterAt HB.out (Nat.le_refl _) _ _⟩
        cases hin : (toL ch).contains x
        · rw [hin] at hcon
          have hlt : ¬ ((0 : Int) ≤ Lib.indexByte ch.data.toList x) := of_decide_eq_false hcon.symm
          clear hcon
          go_wp2_with (go_at_call 109; refine (Tryz.strings_IndexRune_ascii _ _ _ (by omega) (by omega)).mono ?_; rintro e w' ⟨rfl, hw⟩; rw [hw, hback])
          go_roundg (s.size - (i + 1))
          case measure => omega
          case rel => exact ⟨i + 1, by omega, HW.out.1, HW.out.2, HN.out.succ Hx.out hin⟩
        · rw [hin] at hcon
          have hge : (0 : Int) ≤ Lib.indexByte ch.data.toList x := of_decide_eq_true hcon.symm
          clear hcon
          go_wp2_with (go_at_call 109; refine (Tryz.strings_IndexRune_ascii _ _ _ (by omega) (by omega)).mono ?_; rintro e w' ⟨rfl, hw⟩; rw [hw, hback])
          go_ret
          exact ⟨by rw [Lib.indexAny_hit HN.out Hx.out hin]; (first | done | rfl), HW.out.2⟩
      · have hnx := fun ty => run_next_any_at (P := Tryz.prog) wr w.heap.size s i ty hit hi
        have hhi := decode_high s i hi (by omega)
        have hle := decode_le s i
        have Hsp : Hid (_) := decode_span s i hi (by omega)
        clear hit
        have Hd : Hid (i + (Utf8.decode s i).2 ≤ s.size) := by
          obtain ⟨hj, _⟩ := Hsp.out ((Utf8.decode s i).2 - 1) (by omega)
          unfold Hid; omega
        generalize Utf8.decode s i = rd at *
        obtain ⟨r, d⟩ := rd
        simp only at *
        have hb1 : Hid (Below w.heap.size w (wr.iterAt w.heap.size s (i + d))) := below_iterAt HB.out (Nat.le_refl _) _ _
        have hi1 : Hid ((wr.iterAt w.heap.size s (i + d)).heap[w.heap.size]? = some (.stringIter s (i + d))) := iterAt_heap _ _ _ _ _ Hit.out
        generalize wr.iterAt w.heap.size s (i + d) = w2 at *
        go_wp2_with (go_at_call 109; refine (Hr.out _ _ (by omega) (by omega)).mono ?_; rintro e w' ⟨rfl, hb⟩)
        go_roundg (s.size - (i + d))
        case measure => omega
        case rel =>
          have hlt2 : w.heap.size < w2.heap.size := (Array.getElem?_eq_some_iff.1 hi1.out).1
          refine ⟨i + d, ?_, ?_, ?_, Hs.out HN.out Hsp.out⟩
          · have := Hd.out; omega
          · exact (hb.block _ hlt2).trans hi1.out
          · exact hb1.out.trans (hb.mono (by omega))
    · have he : i = s.size := by omega
      have hnx := fun ty => run_next_end_at (P := Tryz.prog) wr w.heap.size s i ty hit hi
      clear hit
      go_wp2
      go_ret
      exact ⟨by rw [Lib.indexAny_none (by rw [toL_length, ← he]; exact HN.out)]; (first | done | rfl), HB.out⟩

theorem IndexAny_any (s : ByteArray) (w : World) (hs : s.size ≤ 1048576) :
    Calls Tryz.prog 62 #[.string s, .string actsB] w fun e w' => e = .returned (.int .i64 (Lib.indexAny (toL s) (toL actsB))) ∧ Below w.heap.size w w' := by
  by_cases h8 : s.size ≤ 8
  · exact IndexAny_short s w h8
  · have hsz : actsB.size = 7 := rfl
    have h116 : (Tryz.prog.info? 172).map (fun i => (i.zero, i.size)) = some (some (.agg (Array.replicate 256 (.bool false))), 256) := by kernel_rfl
    refine Calls.mono (Tryz.strings_IndexAny_long ?_ s actsB w (by omega) (by omega) (by omega) (by omega) ?_) ?_
    · exact (zero_of_info h116).1
    · intro j b hj
      exact acts_low b (List.mem_of_getElem? hj)
    · rintro e w' ⟨rfl, rfl⟩
      exact ⟨rfl, ((Below.refl _ w).alloc (Nat.le_refl _) _).alloc (by simp) _⟩

theorem isAct_acts (c : UInt8) : Thk.isAct c = (toL actsB).contains c := by
  have e : toL actsB = [43, 45, 94, 95, 61, 62, 33] := rfl
  rw [e, Bool.eq_iff_iff]
  simp only [Thk.isAct, List.contains_cons, List.contains_nil, Bool.or_eq_true, beq_iff_eq, ← UInt8.toNat_inj, Bool.or_false]
  simp
  omega

theorem indexAny_acts (l : Thk.Bs) : (l.findIdx Thk.isAct = l.length ∧ Lib.indexAny l (toL actsB) = -1) ∨ (∃ h : l.findIdx Thk.isAct < l.length, Lib.indexAny l (toL actsB) = (l.findIdx Thk.isAct : Int) ∧ Thk.isAct (l[l.findIdx Thk.isAct]'h) = true) := by
  rcases Nat.lt_or_ge (l.findIdx Thk.isAct) l.length with h | h
  · right
    have ha : Thk.isAct (l[l.findIdx Thk.isAct]'h) = true := List.findIdx_getElem (w := h)
    refine ⟨h, ?_, ha⟩
    refine Lib.indexAny_hit (x := l[l.findIdx Thk.isAct]'h) ?_ (List.getElem?_eq_getElem h) (by rw [← isAct_acts]; exact ha)
    intro j b hj hb
    have hjl : j < l.length := by omega
    rw [List.getElem?_eq_getElem hjl] at hb
    cases hb
    rw [← isAct_acts]
    exact List.not_of_lt_findIdx hj
  · left
    have he : l.findIdx Thk.isAct = l.length := Nat.le_antisymm List.findIdx_le_length h
    refine ⟨he, Lib.indexAny_none ?_⟩
    intro j b hj hb
    rw [List.getElem?_eq_getElem hj] at hb
    cases hb
    rw [← isAct_acts]
    exact List.not_of_lt_findIdx (he ▸ hj)

def chV (c : Thk.Ch) : Value := .agg #[.string ⟨c.path.toArray⟩, .int .u8 (c.act.toNat : Int), .string (keptVal c.act ⟨c.val.toArray⟩), .int .i64 c.n]
def noCh : Value := .agg #[.string ⟨#[]⟩, .int .u8 0, .string ⟨#[]⟩, .int .i64 0]
def readV : Nat ⊕ Thk.Ch → Value
  | .inl m => .tuple #[noCh, .int .i64 (m : Int)]
  | .inr c => .tuple #[chV c, .int .i64 0]
theorem mk_toL (s : ByteArray) : (⟨(toL s).toArray⟩ : ByteArray) = s := by
  show (⟨s.data.toList.toArray⟩ : ByteArray) = s
  rw [Array.toArray_toList]
end Go.Proofs.YtoiiaankpnhppaaGreatDoor

