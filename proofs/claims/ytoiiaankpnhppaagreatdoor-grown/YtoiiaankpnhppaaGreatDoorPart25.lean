import Derived.Test.YtoiiaankpnhppaaGreatDoorPart24
set_option linter.unusedVariables false
set_option linter.unusedSimpArgs false
namespace Go.Proofs.YtoiiaankpnhppaaGreatDoor
open Go.RowKit Go.Maps Go.WideMaps Go.Shelf Go.Sort Go.Lib

def listB (l : List Thk.Bs) : Thk.Bs := Lib.join (Lib.compact (l.mergeSort fun x y => decide (x ≤ y))) [44]

theorem ownsRow_holds {w : World} {base g cap : Nat} {l : List ByteArray} (h : w.ownsRow base 9 1 (.slice (some ⟨g, 0, none⟩) l.length cap) l.length (svals l)) : Holds encStr w g 0 (l.map toL).toArray := by
  intro j hj
  simp at hj
  have hf : w.frozen? ⟨g, 0 + j, none⟩ = false := by
    obtain ⟨_, ⟨h1, _⟩ | ⟨g', cap', cur, hv, _, hh, _⟩⟩ := h
    · cases h1
    · simp only [Value.slice.injEq, Option.some.injEq, Addr.mk.injEq, true_and, and_true] at hv
      obtain ⟨rfl, rfl⟩ := hv
      simp [World.frozen?, hh]
  refine ⟨?_, hf⟩
  rw [Nat.zero_add, h.cellAt j (by omega)]
  simp [svals, hj, encStr, toL]

theorem joinTail_len (B : Nat) : ∀ r : List (List UInt8), (∀ x ∈ r, x.length ≤ B) → (Lib.joinTail [44] r).length ≤ r.length * (B + 1) := by
  intro r
  induction r with
  | nil => intro _; simp [Lib.joinTail]
  | cons x r ih =>
    intro h
    have h1 := ih (fun y hy => h y (by simp [hy]))
    have h2 := h x (by simp)
    have e : Lib.joinTail [44] (x :: r) = [44] ++ x ++ Lib.joinTail [44] r := by simp [Lib.joinTail]
    rw [e]
    simp only [List.length_append, List.length_cons, List.length_nil]
    rw [Nat.add_mul]
    omega
theorem join_len (B : Nat) (xs : List (List UInt8)) (h : ∀ x ∈ xs, x.length ≤ B) : (Lib.join xs [44]).length ≤ xs.length * (B + 1) := by
  cases xs with
  | nil => simp [Lib.join_nil]
  | cons x r =>
    rw [Lib.join_cons, List.length_append]
    have h1 := joinTail_len B r (fun y hy => h y (by simp [hy]))
    have h2 := h x (by simp)
    simp only [List.length_cons]
    rw [Nat.add_mul]
    omega
theorem compact_mem {zs : List (List UInt8)} {x : List UInt8} (h : x ∈ Lib.compact zs) : x ∈ zs := by
  unfold Lib.compact Lib.compactUpTo at h
  obtain ⟨j, hj, rfl⟩ := List.mem_map.1 h
  have hl : j < zs.length := by have := (List.mem_filter.1 hj).1; simpa using this
  simp [hl]
theorem compact_len (zs : List (List UInt8)) : (Lib.compact zs).length ≤ zs.length := by
  unfold Lib.compact Lib.compactUpTo
  rw [List.length_map]
  exact Nat.le_trans (List.length_filter_le _ _) (by simp)

theorem chg_putRow {α : Type} [Inhabited α] (enc : α → Value) (w : World) (q blk off : Nat) (d : Array α) (os : Array Obj) : Chg (fun b => b = blk) w (grow (putRow enc (Sort.ahead w q) blk off d) os) := by
  refine ⟨rfl, rfl, rfl, by simp [putRow, mapBlock, Sort.ahead], fun b hb hne => ?_⟩
  rw [heap_grow_old _ _ (by simp [putRow, mapBlock, Sort.ahead]; exact hb)]
  simp only [putRow, mapBlock, Sort.ahead]
  rw [Array.getElem?_modify, if_neg (fun e => hne (Eq.symm e))]

set_option maxHeartbeats 600000 in
set_option maxRecDepth 100000 in
theorem list_any (w : World) (base : Nat) (v : Value) (l : List ByteArray) (h : w.ownsRow base 9 1 v l.length (svals l)) (hl : l.length ≤ 1000) (hs : ∀ s ∈ l, s.size ≤ 1000) :
    Calls Tryz.prog 127 #[v] w fun e w' => e = .returned (.string ⟨(listB (l.map toL)).toArray⟩) ∧ Chg (fun k => v.ownBlock = some k) w w' := by
  have h0 := h
  obtain ⟨hx, ⟨rfl, hn⟩ | ⟨g, cap, cur, rfl, hg, hh, hnc, _⟩⟩ := h
  · have hle : l = [] := List.eq_nil_of_length_eq_zero hn
    subst hle
    have H1 : Hid (_) := Tryz.slices_Sort_string_none none 0 w
    have H2 : Hid (_) := Tryz.slices_Compact_string_empty none 0 w
    have H3 : Hid (_) := Tryz.strings_Join_none none 0 ⟨#[44]⟩ w
    have H4 : Hid (_) := Clone_any ⟨#[]⟩ w (by decide)
    clear h0
    go_enter Tryz.func127, Tryz.ntmps127
    go_wp2_with fail
    refine Calls.mono H1.out ?_
    rintro e w1 ⟨rfl, rfl⟩
    go_wp2_with fail
    refine Calls.mono H2.out ?_
    rintro e w2 ⟨rfl, rfl⟩
    go_wp2_with fail
    refine Calls.mono H3.out ?_
    rintro e w3 ⟨rfl, rfl⟩
    go_wp2_with fail
    refine Calls.mono H4.out ?_
    rintro e w4 ⟨rfl, hb⟩
    have he : listB (List.map toL []) = [] := by unfold listB; simp [Lib.compact, Lib.compactUpTo, Lib.join_nil]
    go_wp2
    go_ret
    exact ⟨by rw [he]; rfl, Chg.of_below hb⟩
  · have hblk : g < w.heap.size := (h0.lt g rfl).2
    have hH := ownsRow_holds h0
    obtain ⟨zs, hzs⟩ : ∃ zs, zs = (l.map toL).mergeSort (fun x y => decide (x ≤ y)) := ⟨_, rfl⟩
    have hperm : zs.Perm (l.map toL) := by rw [hzs]; exact List.mergeSort_perm _ _
    have hzl : zs.length = l.length := by rw [hperm.length_eq]; simp
    have hzb : ∀ x ∈ zs, x.length ≤ 1000 := fun x hx => by
      obtain ⟨s, hs1, rfl⟩ := List.mem_map.1 (hperm.mem_iff.1 hx)
      have := hs s hs1
      show s.data.toList.length ≤ 1000
      simpa using this
    have hlb : Lib.join (Lib.compact zs) [44] = listB (l.map toL) := by rw [hzs]; (first | done | rfl)
    have hjl : (Lib.join (Lib.compact zs) [44]).length ≤ 1001000 := by
      have h1 := join_len 1000 (Lib.compact zs) (fun x hx => hzb x (compact_mem hx))
      have h2 := compact_len zs
      have h3 : (Lib.compact zs).length * 1001 ≤ 1000 * 1001 := Nat.mul_le_mul_right _ (by omega)
      omega
    have H1 : Hid (Calls Tryz.prog 176 #[.slice (some ⟨g, 0, none⟩) l.length cap] w fun e w' => e = .returned (.tuple #[]) ∧ Holds encStr w' g 0 zs.toArray ∧ Chg (fun k => k = g) w w') := by
      have := Tryz.slices_Sort_string g 0 cap (l.map toL) w hH hblk (by simp; omega)
      rw [List.length_map] at this
      refine Calls.mono this ?_
      rintro e w' ⟨rfl, n, os, rfl⟩
      rw [← hzs]
      refine ⟨rfl, holds_grow _ _ _ _ _ _ (by simp [putRow, mapBlock, Sort.ahead]; exact hblk) (holds_putRow encStr (Sort.ahead w n) g 0 (l.map toL).toArray zs.toArray hH (by simp [hzl])), chg_putRow encStr w n g 0 _ os⟩
    have H2 : Hid (∀ w1, Holds encStr w1 g 0 zs.toArray → g < w1.heap.size → Calls Tryz.prog 178 #[.slice (some ⟨g, 0, none⟩) l.length cap] w1 fun e w' => e = .returned (.slice (some ⟨g, 0, none⟩) (Lib.compact zs).length cap) ∧ (∀ (j : Nat) x, ((Lib.compact zs).map (fun l => (⟨l.toArray⟩ : ByteArray)))[j]? = some x → w'.cell? ⟨g, 0 + j, none⟩ = some (.string x)) ∧ Chg (fun k => k = g) w1 w') := fun w1 hH1 hg1 => by
      have := Tryz.slices_Compact_string g 0 cap zs w1 hH1 (by omega) (by omega)
      rw [hzl] at this
      refine Calls.mono this ?_
      rintro e w' ⟨rfl, q, rfl⟩
      refine ⟨rfl, fun j x hj => ?_, ?_⟩
      · have hjl2 : j < (Lib.compact zs).length := by
          rcases Nat.lt_or_ge j (Lib.compact zs).length with h | h
          · exact h
          · rw [List.getElem?_eq_none (by simpa using h)] at hj; cases hj
        have hcl := compact_len zs
        have hc := cell?_putRow encStr (Sort.ahead w1 q) g 0 zs.toArray (Lib.compact zs ++ List.replicate (l.length - (Lib.compact zs).length) []).toArray hH1 (by simp; omega) j (by simp; omega)
        rw [hc]
        rw [List.getElem?_map, List.getElem?_eq_getElem hjl2] at hj
        simp at hj
        subst hj
        have hj3 : j < (Lib.compact zs ++ List.replicate (l.length - (Lib.compact zs).length) ([] : List UInt8)).length := by simp; omega
        simp only [List.getElem!_toArray, List.getElem!_eq_getElem?_getD]
        rw [List.getElem?_append_left hjl2, List.getElem?_eq_getElem hjl2]
        rfl
      · have := chg_putRow encStr w1 q g 0 (Lib.compact zs ++ List.replicate (l.length - (Lib.compact zs).length) []).toArray #[]
        rw [grow_empty] at this
        exact this
    have H3 : Hid (∀ w2, (∀ (j : Nat) x, ((Lib.compact zs).map (fun l => (⟨l.toArray⟩ : ByteArray)))[j]? = some x → w2.cell? ⟨g, 0 + j, none⟩ = some (.string x)) → g < w2.heap.size → Calls Tryz.prog 177 #[.slice (some ⟨g, 0, none⟩) (Lib.compact zs).length cap, .string ⟨#[44]⟩] w2 fun e w' => e = .returned (.string ⟨(listB (l.map toL)).toArray⟩) ∧ Below w2.heap.size w2 w') := fun w2 hc hg2 => by
      have e1 : ((Lib.compact zs).map (fun l => (⟨l.toArray⟩ : ByteArray))).map (·.data.toList) = Lib.compact zs := by
        rw [List.map_map]; exact (List.map_congr_left (fun x _ => by simp)).trans (List.map_id _)
      have := Tryz.strings_Join g 0 cap ((Lib.compact zs).map (fun l => (⟨l.toArray⟩ : ByteArray))) ⟨#[44]⟩ w2 hc hg2 (by have := compact_len zs; simp; omega) (by have := compact_len zs; simp; omega) (by rw [e1]; exact Nat.le_trans hjl (by omega))
      rw [e1, List.length_map] at this
      rw [← hlb]
      exact this
    have H4 : Hid (∀ w3, Calls Tryz.prog 118 #[.string ⟨(listB (l.map toL)).toArray⟩] w3 fun e w' => e = .returned (.string ⟨(listB (l.map toL)).toArray⟩) ∧ Below w3.heap.size w3 w') := fun w3 => Clone_any _ w3 (by rw [hlb] at hjl; show (listB (l.map toL)).toArray.size ≤ _; simp; omega)
    generalize listB (l.map toL) = R at *
    clear h0 hH hh hlb hjl hzb hperm hzs
    go_enter Tryz.func127, Tryz.ntmps127
    go_wp2_with fail
    refine Calls.mono H1.out ?_
    rintro e w1 ⟨rfl, hh1, hc1⟩
    have HH1 : Hid (Holds encStr w1 g 0 zs.toArray) := hh1
    have hg1 : g < w1.heap.size := Nat.lt_of_lt_of_le hblk hc1.size
    clear hh1
    go_wp2_with fail
    refine Calls.mono (H2.out w1 HH1.out hg1) ?_
    rintro e w2 ⟨rfl, hh2, hc2⟩
    have HH2 : Hid (_) := hh2
    have hg2 : g < w2.heap.size := Nat.lt_of_lt_of_le hg1 hc2.size
    clear hh2
    go_wp2_with fail
    refine Calls.mono (H3.out w2 HH2.out hg2) ?_
    rintro e w3 ⟨rfl, hb3⟩
    go_wp2_with fail
    refine Calls.mono (H4.out w3) ?_
    rintro e w4 ⟨rfl, hb4⟩
    go_wp2
    go_ret
    exact ⟨rfl, (((hc1.trans hc2).below hb3).below hb4).mono (fun k _ hk => by subst hk; rfl)⟩
end Go.Proofs.YtoiiaankpnhppaaGreatDoor
namespace Go.Proofs.YtoiiaankpnhppaaGreatDoor
open Go.RowKit Go.Maps Go.WideMaps Go.Shelf

def tellP (p : Thk.Bs) (xs : List Itm) : Thk.Bs :=
  if (Thk.kindOf p).toNat = 109 then listB ((stepsOf ⟨p.toArray⟩ xs).map toL)
  else if (Thk.kindOf p).toNat = 102 then (if atP ⟨p.toArray⟩ xs ≠ [] then [49] else [48])
  else if (Thk.kindOf p).toNat = 99 then Lib.itoa (sumOf (atP ⟨p.toArray⟩ xs))
  else listB (((atP ⟨p.toArray⟩ xs).map Itm.v).map toL)

theorem iter_bel {α : Type} {P : Program} {gf : Nat} {lb : Array Value} {encs : α → Array Value} {S : List α → Prop} {E : Nat → Prop} {w w' : World} (h : Iter P gf lb encs S E w) (hE : ∀ k, E k → k < w.heap.size) (hb : Below w.heap.size w w') : Iter P gf lb encs S E w' := by
  intro l J Jx W hk
  exact h l J Jx W (KeepT.trans ⟨hb.size, fun k hk => hb.block k (hE k hk)⟩ hk)

structure ItmsOK (S : List Itm → Prop) : Prop where
  len : ∀ xs, S xs → xs.length ≤ 1000
  ok : ∀ xs, S xs → ∀ x ∈ xs, x.p.size ≤ 1000 ∧ x.v.size ≤ 1000 ∧ -1000000000 ≤ x.m ∧ x.m ≤ 1000000000
theorem splitAcc_head_len (c : UInt8) : ∀ (l cur : Thk.Bs), ((Thk.splitAcc c cur l).headD []).length ≤ cur.length + l.length := by
  intro l
  induction l with
  | nil => intro cur; simp [Thk.splitAcc]
  | cons x r ih =>
    intro cur
    unfold Thk.splitAcc
    split
    · simp
    · have := ih (cur ++ [x])
      simp at this ⊢
      omega
theorem stepSeg_len (p l : Thk.Bs) : (stepSeg p l).length ≤ l.length := by
  unfold stepSeg Thk.split
  have := splitAcc_head_len 47 (l.drop (p.length + 1)) []
  simp at this ⊢
  omega
theorem stepsOf_size (p : ByteArray) (xs : List Itm) (h : ∀ x ∈ xs, x.p.size ≤ 1000) : ∀ s ∈ stepsOf p xs, s.size ≤ 1000 := by
  intro s hs
  unfold stepsOf at hs
  obtain ⟨x, hx, rfl⟩ := List.mem_map.1 hs
  have h1 := h x (List.mem_filter.1 hx).1
  have h2 := stepSeg_len (toL p) (toL x.p)
  have h3 : (toL x.p).length = x.p.size := by show x.p.data.toList.length = _; simp
  show (stepSeg (toL p) (toL x.p)).toArray.size ≤ 1000
  simp
  omega

set_option maxHeartbeats 2000000 in
set_option maxRecDepth 100000 in
theorem At_any (w : World) (hG : Glob w) (p : ByteArray) (hps : p.size ≤ 1048576) (hpp : Thk.path (toL p) = true) (gf : Nat) (lb : Array Value) (S : List Itm → Prop) (E : Nat → Prop) (hit : Iter Tryz.prog gf lb (fun x : Itm => #[Value.agg #[.string x.p, .int .u8 x.a, .string x.v, .int .i64 x.m]]) S E w) (eg : ∀ args w, (callFunc gf args).run Tryz.prog w = .ok (.enter gf args) w) (hE : ∀ k, E k → k < w.heap.size) (hS : ItmsOK S) :
    Calls Tryz.prog 77 #[.string p, .func (.func gf) #[] lb] w fun e w' => ∃ xs, S xs ∧ e = .returned (.string ⟨(tellP (toL p) xs).toArray⟩) ∧ Below w.heap.size w w' := by
  have hpe : (⟨(toL p).toArray⟩ : ByteArray) = p := mk_toL p
  obtain ⟨m, hm⟩ := hG.len
  -- the map's steps
  have HSteps : Hid (∀ wx, Below w.heap.size w wx → Calls Tryz.prog 128 #[.string p, .func (.func gf) #[] lb] wx fun e w' => ∃ v xs, e = .returned v ∧ S xs ∧ w'.ownsRow wx.heap.size 9 1 v (stepsOf p xs).length (svals (stepsOf p xs)) ∧ Below wx.heap.size wx w') := fun wx hb => by
    exact steps_any wx m ((hb.cell (p := ⟨0, 0, none⟩) (block_lt_of_cell hm)).trans hm) p hps gf lb S E (iter_bel hit hE hb) eg (fun k hk => Nat.lt_of_lt_of_le (hE k hk) hb.size) (fun xs hx => ⟨hS.len xs hx, fun x hxx => by have := hS.ok xs hx x hxx; omega⟩)
  have HHere : Hid (∀ wx, Below w.heap.size w wx → ∀ wy, wy = (wx.alloc (.cells #[.string p] 78)).alloc (.cells #[.func (.func gf) #[] lb] 132) → Iter Tryz.prog 180 #[.pointer (some ⟨wx.heap.size + 1, 0, none⟩), .pointer (some ⟨wx.heap.size, 0, none⟩)] (fun x : Itm => #[Value.agg #[.string x.p, .int .u8 x.a, .string x.v, .int .i64 x.m]]) (SHere S p) (fun k => k = wx.heap.size + 1 ∨ k = wx.heap.size ∨ E k) wy ∧ (∀ k, (k = wx.heap.size + 1 ∨ k = wx.heap.size ∨ E k) → k < wy.heap.size) ∧ Below wx.heap.size wx wy) := fun wx hb wy hy => by
    subst hy
    have hb2 : Below wx.heap.size wx ((wx.alloc (.cells #[.string p] 78)).alloc (.cells #[.func (.func gf) #[] lb] 132)) := ((Below.refl _ wx).alloc (Nat.le_refl _) _).alloc (by simp) _
    have kf := Blk.new (wx.alloc (.cells #[.string p] 78)) #[.func (.func gf) #[] lb] 132
    rw [World.size_alloc] at kf
    refine ⟨here1_iter _ (wx.heap.size + 1) wx.heap.size p gf lb S E (iter_bel hit hE (hb.trans (hb2.mono hb.size))) eg (fun k hk => Nat.lt_of_lt_of_le (Nat.lt_of_lt_of_le (hE k hk) hb.size) hb2.size) kf ((Blk.new wx _ _).alloc _), ?_, hb2⟩
    rintro k (rfl | rfl | hk)
    · simp
    · simp; omega
    · exact Nat.lt_of_lt_of_le (Nat.lt_of_lt_of_le (hE k hk) hb.size) hb2.size
  have HKind : Hid (_) := Kind_any p w hps hpp
  have HhS : Hid (ItmsOK (SHere S p)) := by
    refine ⟨fun xs hx => ?_, fun xs hx x hxx => ?_⟩
    · obtain ⟨ys, hy, rfl⟩ := hx
      exact Nat.le_trans (List.length_filter_le _ _) (hS.len ys hy)
    · obtain ⟨ys, hy, rfl⟩ := hx
      exact hS.ok ys hy x (List.mem_filter.1 hxx).1
  have HS : Hid (ItmsOK S) := hS
  have HG : Hid (Glob w) := hG
  have egH : ∀ args w, (callFunc 180 args).run Tryz.prog w = .ok (.enter 180 args) w := enters_of Tryz.func180 (by kernel_rfl) rfl
  have HegH : Hid (_) := egH
  obtain ⟨kd, hkd⟩ : ∃ kd, kd = (Thk.kindOf (toL p)).toNat := ⟨_, rfl⟩
  have HT : Hid (∀ xs, tellP (toL p) xs = if kd = 109 then listB ((stepsOf p xs).map toL) else if kd = 102 then (if atP p xs ≠ [] then [49] else [48]) else if kd = 99 then Lib.itoa (sumOf (atP p xs)) else listB (((atP p xs).map Itm.v).map toL)) := fun xs => by unfold tellP; rw [hpe, hkd]
  rw [← hkd] at HKind
  clear hit eg hE hS hG hm hpe egH hkd
  go_enter Tryz.func77, Tryz.ntmps77
  go_wp2_with fail
  refine Calls.mono HKind.out ?_
  rintro e w1 ⟨rfl, rfl⟩
  clear HKind
  by_cases k1 : kd = 109
  · subst k1
    have h1 := HT.out
    simp only [if_true] at h1
    have H1 : Hid (_) := h1
    clear h1 HT
    go_wp2_with fail
    refine Calls.mono (HSteps.out _ (Below.refl _ _)) ?_
    rintro e w2 ⟨v, xs, rfl, hx, hrow, hb2⟩
    have HL : Hid (_) := list_any w2 _ v (stepsOf p xs) hrow (Nat.le_trans (stepsOf_len p xs) (HS.out.len xs hx)) (stepsOf_size p xs (fun x hxx => (HS.out.ok xs hx x hxx).1))
    have hvb : ∀ k, v.ownBlock = some k → w1.heap.size ≤ k := fun k hk => (hrow.lt k hk).1
    clear hrow HSteps HHere
    go_wp2_with fail
    refine Calls.mono HL.out ?_
    rintro e w3 ⟨rfl, hc3⟩
    clear HL
    go_wp2_with fail
    go_ret
    refine ⟨xs, hx, by rw [H1.out xs]; rfl, hb2.trans ⟨hc3.os, hc3.tape, hc3.output, hc3.size, fun k hk => hc3.block k (Nat.lt_of_lt_of_le hk hb2.size) (fun e => by have := hvb k e; omega)⟩⟩
  · have k1' : ((kd : Int) == 109) = false := beq_eq_false_iff_ne.2 (by omega)
    by_cases k2 : kd = 102
    · subst k2
      have h1 := HT.out
      simp only [k1, if_false, if_true] at h1
      have H1 : Hid (∀ xs, tellP (toL p) xs = if atP p xs ≠ [] then [49] else [48]) := h1
      clear h1 HT
      go_wp2_with fail
      refine Calls.mono (here_any w1 p gf lb) ?_
      rintro e w2 ⟨rfl, hw2⟩
      obtain ⟨hitH, hEH, hb2⟩ := HHere.out w1 (Below.refl _ _) w2 hw2
      have HF : Hid (_) := flag_any w2 _ _ _ _ hitH HegH.out hEH
      have hb2' : Hid (Below w1.heap.size w1 w2) := hb2
      clear hitH hEH hb2 hw2 HHere HSteps
      go_wp2_with fail
      refine Calls.mono HF.out ?_
      rintro e w3 ⟨ys, b, rfl, ⟨xs, hx, rfl⟩, hb, hb3⟩
      have Hb : Hid (b = true ↔ atP p xs ≠ []) := hb
      clear hb HF
      cases b with
      | true =>
        have HN : Hid (atP p xs ≠ []) := Hb.out.1 rfl
        clear Hb
        go_wp2_with fail
        go_ret
        exact ⟨xs, hx, by rw [H1.out xs, if_pos HN.out]; rfl, hb2'.out.trans (hb3.mono hb2'.out.size)⟩
      | false =>
        have HN : Hid (¬ (atP p xs ≠ [])) := fun h => by have := Hb.out.2 h; cases this
        clear Hb
        go_wp2_with fail
        go_ret
        exact ⟨xs, hx, by rw [H1.out xs, if_neg HN.out]; rfl, hb2'.out.trans (hb3.mono hb2'.out.size)⟩
    · have k2' : ((kd : Int) == 102) = false := beq_eq_false_iff_ne.2 (by omega)
      by_cases k3 : kd = 99
      · subst k3
        have h1 := HT.out
        simp only [k1, k2, if_false, if_true] at h1
        have H1 : Hid (∀ xs, tellP (toL p) xs = Lib.itoa (sumOf (atP p xs))) := h1
        clear h1 HT
        go_wp2_with fail
        refine Calls.mono (here_any w1 p gf lb) ?_
        rintro e w2 ⟨rfl, hw2⟩
        obtain ⟨hitH, hEH, hb2⟩ := HHere.out w1 (Below.refl _ _) w2 hw2
        have HF : Hid (_) := sum_any w2 (HG.out.mono hb2) _ _ _ _ hitH HegH.out hEH (fun xs hx => ⟨HhS.out.len xs hx, fun x hxx => by have := HhS.out.ok xs hx x hxx; omega⟩)
        have hb2' : Hid (Below w1.heap.size w1 w2) := hb2
        clear hitH hEH hb2 hw2 HHere HSteps
        go_wp2_with fail
        refine Calls.mono HF.out ?_
        rintro e w3 ⟨ys, rfl, ⟨xs, hx, rfl⟩, hb3⟩
        clear HF
        go_wp2_with fail
        go_ret
        exact ⟨xs, hx, by rw [H1.out xs]; rfl, hb2'.out.trans (hb3.mono hb2'.out.size)⟩
      · have k3' : ((kd : Int) == 99) = false := beq_eq_false_iff_ne.2 (by omega)
        have h1 := HT.out
        simp only [k1, k2, k3, if_false] at h1
        have H1 : Hid (∀ xs, tellP (toL p) xs = listB (((atP p xs).map Itm.v).map toL)) := h1
        clear h1 HT
        go_wp2_with fail
        refine Calls.mono (here_any w1 p gf lb) ?_
        rintro e w2 ⟨rfl, hw2⟩
        obtain ⟨hitH, hEH, hb2⟩ := HHere.out w1 (Below.refl _ _) w2 hw2
        have HF : Hid (_) := written_any w2 _ _ _ _ hitH HegH.out hEH HhS.out.len
        have hb2' : Hid (Below w1.heap.size w1 w2) := hb2
        clear hitH hEH hb2 hw2 HHere HSteps
        go_wp2_with fail
        refine Calls.mono HF.out ?_
        rintro e w3 ⟨v, ys, rfl, hy, hrow, hb3⟩
        have HL : Hid (_) := list_any w3 _ v (ys.map Itm.v) (by rw [List.length_map]; exact hrow) (by rw [List.length_map]; exact HhS.out.len ys hy) (fun s hs => by obtain ⟨x, hxx, rfl⟩ := List.mem_map.1 hs; exact (HhS.out.ok ys hy x hxx).2.1)
        have hvb : ∀ k, v.ownBlock = some k → w2.heap.size ≤ k := fun k hk => (hrow.lt k hk).1
        obtain ⟨xs, hx, rfl⟩ := hy
        have hb13 : Below w1.heap.size w1 w3 := hb2'.out.trans (hb3.mono hb2'.out.size)
        have hs2 := hb2'.out.size
        clear hrow HF hb3
        go_wp2_with fail
        refine Calls.mono HL.out ?_
        rintro e w4 ⟨rfl, hc3⟩
        clear HL
        go_wp2_with fail
        go_ret
        refine ⟨xs, hx, by rw [H1.out xs, List.map_map]; rfl, hb13.trans ⟨hc3.os, hc3.tape, hc3.output, hc3.size, fun k hk => hc3.block k (Nat.lt_of_lt_of_le hk hb13.size) (fun e => by have := hvb k e; omega)⟩⟩

set_option maxHeartbeats 1000000 in
theorem RepTell_any (w : World) (hG : Glob w) (rb a : Nat) (io co lo : Option Nat) (K : Nat → Nat) (C : Nat → Option Thk.Ch) (hR : RepP w rb a io co lo K C) (hok : ItmsOK (SAll (itOf C))) (p : ByteArray) (hps : p.size ≤ 1048576) (hpp : Thk.path (toL p) = true) :
    Calls Tryz.prog 42 #[.pointer (some ⟨rb, 0, none⟩), .string p] w fun e w' => ∃ xs, SAll (itOf C) xs ∧ e = .returned (.string ⟨(tellP (toL p) xs).toArray⟩) ∧ Below w.heap.size w w' := by
  have HA : Hid (∀ wx, wx = w.alloc (.cells #[.pointer (some ⟨rb, 0, none⟩)] 76) → Calls Tryz.prog 77 #[.string p, .func (.func 133) #[] #[.pointer (some ⟨w.heap.size, 0, none⟩)]] wx fun e w' => ∃ xs, SAll (itOf C) xs ∧ e = .returned (.string ⟨(tellP (toL p) xs).toArray⟩) ∧ Below w.heap.size w w') := fun wx hx => by
    subst hx
    have hb : Below w.heap.size w (w.alloc (.cells #[.pointer (some ⟨rb, 0, none⟩)] 76)) := (Below.refl _ w).alloc (Nat.le_refl _) _
    have hR2 := hR.below hb
    refine Calls.mono (At_any _ (hG.mono hb) p hps hpp _ _ (SAll (itOf C)) _ (alive1_iter _ w.heap.size rb a io co lo K C (Blk.new w _ _) hR2) (enters_of Tryz.func133 (by kernel_rfl) rfl) ?_ hok) ?_
    · rintro k (rfl | rfl | hk)
      · simp
      · exact hR2.blk.lt
      · exact hR2.st.lt k (Or.inl (by rw [hk]))
    · rintro e w' ⟨xs, h1, rfl, h2⟩
      exact ⟨xs, h1, rfl, hb.trans (h2.mono hb.size)⟩
  have HL : Hid (_) := alive_any w rb
  clear hR hok hG
  go_enter Tryz.func42, Tryz.ntmps42
  go_wp2_with fail
  refine Calls.mono HL.out ?_
  rintro e w1 ⟨rfl, hw1⟩
  have HA2 : Hid (_) := HA.out w1 hw1
  clear HA HL hw1
  go_wp2_with fail
  refine Calls.mono HA2.out ?_
  rintro e w2 ⟨xs, hx, rfl, hb⟩
  clear HA2
  go_wp2_with fail
  go_ret
  exact ⟨xs, hx, rfl, hb⟩
end Go.Proofs.YtoiiaankpnhppaaGreatDoor

