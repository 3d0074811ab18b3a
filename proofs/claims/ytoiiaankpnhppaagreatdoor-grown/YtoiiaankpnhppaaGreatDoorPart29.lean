import Derived.Test.YtoiiaankpnhppaaGreatDoorProg
import Derived.Conc.MuLone
import Derived.Conc.MuData
import Derived.KernelRfl
import Derived.Test.YtoiiaankpnhppaaGreatDoorPart22
import Derived.Test.YtoiiaankpnhppaaGreatDoorPart25
set_option linter.unusedVariables false
set_option linter.unusedSimpArgs false
namespace Go.Proofs
abbrev YtoiiaankpnhppaaGreatDoor.muLink : Go.Conc.Locks.MuLink := { lock := 34, unlock := 35, ilock := 59, iunlock := 60, lockSlow := 104, unlockSlow := 107, disable := 100, enable := 102, acquire := 103, relMerge := 105, cas32 := 101, add32 := 106, tMutex := 70, tIMutex := 68, tPMutex := 110, tPIMutex := 163, tPI32 := 165, tUP := 167, tNoCopy := 65, tU32 := 66 }
theorem YtoiiaankpnhppaaGreatDoor.muLib : Go.Conc.Locks.MuLib Tryz.prog YtoiiaankpnhppaaGreatDoor.muLink :=
  ⟨Tryz.func34, Tryz.func35, Tryz.func59, Tryz.func60, Tryz.func100, Tryz.func102, Tryz.func103, Tryz.func105, Tryz.func101, Tryz.func106,
   Tryz.underlying68, Tryz.runUnderlying68, Tryz.sizeOf68, Tryz.isAgg68, Tryz.zeroValue68, Tryz.underlying70, Tryz.runUnderlying70, Tryz.sizeOf70, Tryz.isAgg70, Tryz.zeroValue70, Tryz.underlying110, Tryz.runUnderlying110, Tryz.sizeOf110, Tryz.isAgg110, Tryz.zeroValue110, Tryz.underlying163, Tryz.runUnderlying163, Tryz.sizeOf163, Tryz.isAgg163, Tryz.zeroValue163, Tryz.underlying165, Tryz.runUnderlying165, Tryz.sizeOf165, Tryz.isAgg165, Tryz.zeroValue165, Tryz.underlying167, Tryz.runUnderlying167, Tryz.sizeOf167, Tryz.isAgg167, Tryz.zeroValue167, Tryz.underlying65, Tryz.runUnderlying65, Tryz.sizeOf65, Tryz.isAgg65, Tryz.zeroValue65, Tryz.underlying21, Tryz.runUnderlying21, Tryz.sizeOf21, Tryz.isAgg21, Tryz.zeroValue21, (by kernel_rfl)⟩
end Go.Proofs

namespace Go.Proofs.YtoiiaankpnhppaaGreatDoor
open Go.RowKit Go.Maps Go.WideMaps

structure RepD where
  rb : Nat
  io : Option Nat
  co : Option Nat
  lo : Option Nat
  K : Nat → Nat
  C : Nat → Option Thk.Ch
def RepD.own (d : RepD) (k : Nat) : Prop := k = d.rb ∨ d.io = some k ∨ d.co = some k ∨ d.lo = some k
def frV (bs : List (Nat × ByteArray)) : List Value := bs.flatMap fun b => [.int .i64 (b.1 : Int), .string b.2]
theorem frV_snoc (bs : List (Nat × ByteArray)) (b : Nat × ByteArray) : frV (bs ++ [b]) = frV bs ++ [.int .i64 (b.1 : Int), .string b.2] := by simp [frV]
theorem frV_at : ∀ (bs : List (Nat × ByteArray)) (i : Nat) (h : i < bs.length), (frV bs)[i * 2]? = some (.int .i64 (bs[i].1 : Int)) ∧ (frV bs)[i * 2 + 1]? = some (.string bs[i].2)
  | [], i, h => by simp at h
  | b :: r, 0, h => by simp [frV]
  | b :: r, i + 1, h => by
    have := frV_at r i (by simpa using h)
    have e : frV (b :: r) = [.int .i64 (b.1 : Int), .string b.2] ++ frV r := rfl
    rw [e, List.getElem?_append_right (by simp; omega), List.getElem?_append_right (by simp; omega)]
    simp only [List.length_cons, List.length_nil, List.getElem_cons_succ]
    rw [show (i + 1) * 2 - (0 + 1 + 1) = i * 2 by omega, show (i + 1) * 2 + 1 - (0 + 1 + 1) = i * 2 + 1 by omega]
    exact this

structure CluP (w : World) (x q cap : Nat) (fv : Value) (st : Int) (ds : List RepD) (bs : List (Nat × ByteArray)) : Prop where
  blk : Blk w x #[.int .i32 st, .int .u32 0, .slice (some ⟨q, 0, none⟩) ds.length cap, fv] 74
  row : ∃ cs, Blk w q cs 76 ∧ ∀ j (h : j < ds.length), cs[j]? = some (.pointer (some ⟨ds[j].rb, 0, none⟩))
  fr : w.ownsRow 0 92 2 fv bs.length (frV bs)
  rep : ∀ j (h : j < ds.length), RepP w ds[j].rb j ds[j].io ds[j].co ds[j].lo ds[j].K ds[j].C
  apart : ∀ i j (hi : i < ds.length) (hj : j < ds.length), i ≠ j → ¬ ds[j].own ds[i].rb
  xr : ∀ j (h : j < ds.length), ¬ ds[j].own x
  qr : ∀ j (h : j < ds.length), ¬ ds[j].own q
  len : ds.length ≤ 6
  x4 : 4 ≤ x
  b500 : bs.length ≤ 500

section
variable {w w' : World} {x q cap : Nat} {fv : Value} {st : Int} {ds : List RepD} {bs : List (Nat × ByteArray)}
theorem CluP.frT (h : CluP w x q cap fv st ds bs) : ∀ g, fv.ownBlock = some g → Tagged w g 92 := by
  intro g hg
  obtain ⟨_, h1 | ⟨g', cap, cur, rfl, _, hh, _⟩⟩ := h.fr
  · rw [h1.1] at hg; cases hg
  · cases hg; exact ⟨cur, hh⟩
theorem CluP.xq (h : CluP w x q cap fv st ds bs) : x ≠ q := by
  intro e
  obtain ⟨cs, h1, _⟩ := h.row
  have := h.blk
  subst e
  have e2 : some (Obj.cells _ _ _) = some (Obj.cells _ _ _) := (show w.heap[x]? = _ from this).symm.trans h1
  injection e2 with e2
  injection e2 with _ e3
  exact absurd e3 (by decide)
theorem CluP.chg {M : Nat → Prop} (h : CluP w x q cap fv st ds bs) (hc : Chg M w w') (h1 : ¬ M x) (h2 : ¬ M q) (h3 : ∀ j (h : j < ds.length) k, ds[j].own k → ¬ M k) (h4 : ∀ g, fv.ownBlock = some g → ¬ M g) : CluP w' x q cap fv st ds bs := by
  obtain ⟨cs, r1, r2⟩ := h.row
  exact ⟨h.blk.chg hc h1, ⟨cs, r1.chg hc h2, r2⟩, ownsRow_chg h.fr hc h4, fun j hj => (h.rep j hj).chg hc (h3 j hj _ (Or.inl rfl)) (fun b hb => h3 j hj b (Or.inr hb)), h.apart, h.xr, h.qr, h.len, h.x4, h.b500⟩
theorem CluP.below (h : CluP w x q cap fv st ds bs) (hb : Below w.heap.size w w') : CluP w' x q cap fv st ds bs := h.chg (M := fun _ => False) (Chg.of_below hb) (fun h => h) (fun h => h) (fun _ _ _ _ h => h) (fun _ _ h => h)
theorem CluP.cell (h : CluP w x q cap fv st ds bs) (j : Nat) (hj : j < ds.length) : w.cell? ⟨q, j, none⟩ = some (.pointer (some ⟨ds[j].rb, 0, none⟩)) := by
  obtain ⟨cs, r1, r2⟩ := h.row
  exact (r1.cell j).trans (r2 j hj)
theorem CluP.turn (h : CluP w x q cap fv st ds bs) (st' : Int) : CluP (w.setCell ⟨x, 0, none⟩ (.int .i32 st')) x q cap fv st' ds bs := by
  have hc : Chg (fun k => k = x) w (w.setCell ⟨x, 0, none⟩ (.int .i32 st')) := Chg.setCell (M := fun k => k = x) (p := ⟨x, 0, none⟩) (Chg.refl _ w) rfl _
  obtain ⟨cs, r1, r2⟩ := h.row
  refine ⟨?_, ⟨cs, r1.chg hc (Ne.symm h.xq), r2⟩, ownsRow_chg h.fr hc (fun g hg e => Tagged.ne (h.frT g hg) ⟨_, h.blk⟩ (by decide) e), fun j hj => (h.rep j hj).chg hc (fun e => h.xr j hj (Or.inl e.symm)) (fun b hb e => h.xr j hj (by subst e; exact Or.inr hb)), h.apart, h.xr, h.qr, h.len, h.x4, h.b500⟩
  have hb := h.blk
  unfold Blk at hb ⊢
  simp [World.setCell, Array.getElem?_modify, hb]
end

def namedL (n : Nat) (l : List Int) : Int := if ∀ i ∈ l, 0 ≤ i ∧ i < n then 0 else 2
def namedR (n : Nat) (i : Int) : Int := if 0 ≤ i ∧ i < n then 0 else 2
theorem namedL_1 (n : Nat) (i : Int) : namedL n [i] = namedR n i := by unfold namedL namedR; simp
theorem namedL_2 (n : Nat) (i j : Int) : namedL n [i, j] = if (0 ≤ i ∧ i < n) ∧ (0 ≤ j ∧ j < n) then 0 else 2 := by unfold namedL; simp

set_option maxHeartbeats 4000000 in
set_option maxRecDepth 100000 in
theorem named_list (w : World) (x q cap : Nat) (fv : Value) (st : Int) (ds : List RepD) (bs : List (Nat × ByteArray)) (hC : CluP w x q cap fv st ds bs) (g : Nat) (l : List Int) (hl : l.length ≤ 10) (hg : ∀ j (h : j < l.length), w.cell? ⟨g, j, none⟩ = some (.int .i64 l[j])) :
    Calls Tryz.prog 36 #[.pointer (some ⟨x, 0, none⟩), .slice (some ⟨g, 0, none⟩) l.length l.length] w fun e w' => e = .returned (.int .i64 (namedL ds.length l)) ∧ w' = w := by
  have c2 : w.cell? ⟨x, 2, none⟩ = some (.slice (some ⟨q, 0, none⟩) ds.length cap) := (hC.blk.cell 2).trans rfl
  have hlen := hC.len
  clear hC
  generalize ds.length = L at *
  have Hr : Hid (namedL L l = if ∀ i ∈ l, 0 ≤ i ∧ i < L then 0 else 2) := rfl
  generalize namedL L l = R at *
  have Hg : Hid (∀ j (h : j < l.length), w.cell? ⟨g, j, none⟩ = some (.int .i64 l[j])) := hg
  clear hg
  go_enter Tryz.func36, Tryz.ntmps36
  go_wp2
  go_loopg [9] l.length (fun gh v9 wx => ∃ i : Nat, i + gh = l.length ∧ v9 = .int .i64 (i : Int) ∧ Hid (∀ j (h : j < l.length), j < i → 0 ≤ l[j] ∧ l[j] < L) ∧ wx = w)
  case atStart => exact ⟨0, by omega, rfl, fun j _ h => absurd h (by omega), rfl⟩
  case round =>
    obtain ⟨i, hi, rfl, hin, rfl⟩ := hrel
    by_cases hlt : i < l.length
    · have hc := Hg.out i hlt
      have Hm : Hid (l[i] ∈ l) := List.getElem_mem hlt
      have He : Hid (∀ j (h : j < l.length), j < i + 1 → j < i ∨ l[j] = l[i]) := fun j h h2 => by
        by_cases e : j = i
        · subst e; exact Or.inr rfl
        · exact Or.inl (by omega)
      generalize l[i] = y at *
      by_cases h1 : y < 0
      · go_wp2
        go_ret
        exact ⟨by rw [Hr.out, if_neg (fun h => by have := h y Hm.out; omega)]; rfl, rfl⟩
      · by_cases h2 : (L : Int) ≤ y
        · go_wp2
          go_ret
          exact ⟨by rw [Hr.out, if_neg (fun h => by have := h y Hm.out; omega)]; rfl, rfl⟩
        · have hz : Hid (0 ≤ y ∧ y < L) := ⟨by omega, by omega⟩
          go_wp2
          go_roundg (l.length - (i + 1))
          case measure => omega
          case rel => exact ⟨i + 1, by omega, by go_num, fun j h h2 => by
            rcases He.out j h h2 with h3 | h3
            · exact hin.out j h h3
            · rw [h3]; exact hz.out, rfl⟩
    · have hz : Hid (∀ y ∈ l, 0 ≤ y ∧ y < L) := fun y hy => by
        obtain ⟨j, hj, rfl⟩ := List.getElem_of_mem hy
        exact hin.out j hj (by omega)
      go_wp2
      go_ret
      exact ⟨by rw [Hr.out, if_pos hz.out]; rfl, rfl⟩
theorem named_any (w : World) (x q cap : Nat) (fv : Value) (st : Int) (ds : List RepD) (bs : List (Nat × ByteArray)) (hC : CluP w x q cap fv st ds bs) (g : Nat) (i : Int) (hg : w.cell? ⟨g, 0, none⟩ = some (.int .i64 i)) :
    Calls Tryz.prog 36 #[.pointer (some ⟨x, 0, none⟩), .slice (some ⟨g, 0, none⟩) 1 1] w fun e w' => e = .returned (.int .i64 (namedR ds.length i)) ∧ w' = w := by
  rw [← namedL_1]
  exact named_list w x q cap fv st ds bs hC g [i] (by simp) (fun j h => by
    have : j = 0 := by simpa using h
    subst this; exact hg)
theorem named_two (w : World) (x q cap : Nat) (fv : Value) (st : Int) (ds : List RepD) (bs : List (Nat × ByteArray)) (hC : CluP w x q cap fv st ds bs) (g : Nat) (i j : Int) (hg : w.cell? ⟨g, 0, none⟩ = some (.int .i64 i)) (hg1 : w.cell? ⟨g, 1, none⟩ = some (.int .i64 j)) :
    Calls Tryz.prog 36 #[.pointer (some ⟨x, 0, none⟩), .slice (some ⟨g, 0, none⟩) 2 2] w fun e w' => e = .returned (.int .i64 (namedL ds.length [i, j])) ∧ w' = w := by
  exact named_list w x q cap fv st ds bs hC g [i, j] (by simp) (fun k h => by
    have h2 : k < 2 := by simpa using h
    match k, h2 with
    | 0, _ => exact hg
    | 1, _ => exact hg1)

def ownN (ds : List RepD) (j : Nat) : Nat := (ds[j]?.map fun d => d.K j).getD 0
def sumN (ds : List RepD) : Nat → Nat
  | 0 => 0
  | k + 1 => sumN ds k + ownN ds k
theorem ownN_eq (ds : List RepD) (k : Nat) (h : k < ds.length) : ownN ds k = ds[k].K k := by unfold ownN; simp [h]
theorem sumN_succ (ds : List RepD) (k : Nat) (h : k < ds.length) : sumN ds (k + 1) = sumN ds k + ds[k].K k := by rw [sumN, ownN_eq ds k h]
theorem sumN_le (ds : List RepD) (hn : ∀ j (h : j < ds.length), ds[j].K j ≤ 500) : ∀ k, k ≤ ds.length → sumN ds k ≤ 500 * k
  | 0, _ => by simp [sumN]
  | k + 1, h => by rw [sumN_succ ds k (by omega)]; have := sumN_le ds hn k (by omega); have := hn k (by omega); omega

set_option maxHeartbeats 4000000 in
set_option maxRecDepth 100000 in
theorem events_any (w : World) (x q cap : Nat) (fv : Value) (st : Int) (ds : List RepD) (bs : List (Nat × ByteArray)) (hC : CluP w x q cap fv st ds bs) :
    Calls Tryz.prog 39 #[.pointer (some ⟨x, 0, none⟩)] w fun e w' => e = .returned (.int .i64 (sumN ds ds.length : Int)) ∧ Below w.heap.size w w' := by
  have c2 : w.cell? ⟨x, 2, none⟩ = some (.slice (some ⟨q, 0, none⟩) ds.length cap) := (hC.blk.cell 2).trans rfl
  have hlen := hC.len
  have Hs : Hid (∀ k, k ≤ ds.length → sumN ds k ≤ 500 * k) := sumN_le ds (fun j h => (hC.rep j h).k500 j)
  have Hm : Hid (∀ j (h : j < ds.length) wx, Below w.heap.size w wx → wx.cell? ⟨q, j, none⟩ = some (.pointer (some ⟨ds[j].rb, 0, none⟩)) ∧ Calls Tryz.prog 68 #[.pointer (some ⟨ds[j].rb, 0, none⟩)] wx fun e w' => e = .returned (.int .i64 (ds[j].K j : Int)) ∧ Below w.heap.size w w') := fun j hj wx hb => by
    refine ⟨(hC.below hb).cell j hj, Calls.mono (Made_any wx _ _ _ _ _ _ _ ((hC.below hb).rep j hj)) ?_⟩
    rintro e w' ⟨rfl, hb2⟩
    exact ⟨rfl, hb.trans (hb2.mono hb.size)⟩
  clear hC
  go_enter Tryz.func39, Tryz.ntmps39
  go_wp2
  go_loopg [3, 11] ds.length (fun g v3 v11 wx => ∃ i : Nat, i + g = ds.length ∧ v3 = .int .i64 (sumN ds i : Int) ∧ v11 = .int .i64 (i : Int) ∧ Below w.heap.size w wx)
  case atStart => exact ⟨0, by omega, rfl, rfl, Below.refl _ w⟩
  case round =>
    obtain ⟨i, hi, rfl, rfl, hb⟩ := hrel
    by_cases hlt : i < ds.length
    · obtain ⟨hc, hm⟩ := Hm.out i hlt _ hb
      have HM : Hid (_) := hm
      have hs := sumN_succ ds i hlt
      have hle := Hs.out (i + 1) (by omega)
      clear hm
      generalize ds[i].K i = ki at *
      go_wp2_with fail
      refine Calls.mono HM.out ?_
      rintro e w1 ⟨rfl, hb1⟩
      clear HM hc
      go_wp2_with fail
      go_roundg (ds.length - (i + 1))
      case measure => omega
      case rel => exact ⟨i + 1, by omega, by go_num, by go_num, hb1⟩
    · have he : i = ds.length := by omega
      subst he
      go_wp2_with fail
      go_ret
      exact ⟨rfl, hb⟩
end Go.Proofs.YtoiiaankpnhppaaGreatDoor
namespace Go.Proofs.YtoiiaankpnhppaaGreatDoor
open Go.RowKit Go.Maps Go.WideMaps Go.MuLone

theorem chg_turn {M : Nat → Prop} {w : World} {x : Nat} (h : M x) (v : Value) : Chg M w (w.setCell ⟨x, 0, none⟩ v) := Chg.setCell (M := M) (p := ⟨x, 0, none⟩) (Chg.refl _ w) h v

def knowsD (ds : List RepD) (i : Int) : Int × Int := if 0 ≤ i ∧ i < ds.length then (((ds[i.toNat]?.map fun d => sizeK d.K).getD 0 : Nat), 0) else (0, 2)

set_option maxHeartbeats 4000000 in
set_option maxRecDepth 100000 in
theorem CKnows_any (w : World) (x q cap : Nat) (fv : Value) (ds : List RepD) (bs : List (Nat × ByteArray)) (hC : CluP w x q cap fv 0 ds bs) (i : Int) :
    Calls Tryz.prog 18 #[.pointer (some ⟨x, 0, none⟩), .int .i64 i] w fun e w' => e = .returned (.tuple #[.int .i64 (knowsD ds i).1, .int .i64 (knowsD ds i).2]) ∧ CluP w' x q cap fv 0 ds bs ∧ Chg (fun k => k = x) w w' := by
  have HC : Hid (CluP w x q cap fv 0 ds bs) := hC
  have k0 : w.cell? ⟨x, 0, none⟩ = some (.int .i32 0) := (hC.blk.cell 0).trans rfl
  have z0 : w.frozen? ⟨x, 0, none⟩ = false := hC.blk.frozen 0
  have HC1 : Hid (CluP (w.setCell ⟨x, 0, none⟩ (.int .i32 1)) x q cap fv 1 ds bs) := hC.turn 1
  have hxl := hC.blk.lt
  clear hC
  go_enter_defers Tryz.func18, Tryz.ntmps18
  go_wp2_with (go_at_call 34; refine (lock_free YtoiiaankpnhppaaGreatDoor.muLib ⟨x, 0, none⟩ _ k0 z0).mono ?_; rintro e w' ⟨rfl, rfl⟩)
  have h1b : Below (w.setCell ⟨x, 0, none⟩ (.int .i32 1)).heap.size (w.setCell ⟨x, 0, none⟩ (.int .i32 1)) ((w.setCell ⟨x, 0, none⟩ (.int .i32 1)).alloc (.cells #[.int .i64 i] 3)) := (Below.refl _ _).alloc (Nat.le_refl _) _
  have hgc : ((w.setCell ⟨x, 0, none⟩ (.int .i32 1)).alloc (.cells #[.int .i64 i] 3)).cell? ⟨w.heap.size, 0, none⟩ = some (.int .i64 i) := by
    have := (Blk.new (w.setCell ⟨x, 0, none⟩ (.int .i32 1)) #[.int .i64 i] 3).cell 0
    simpa using this
  have hch : Chg (fun k => k = x) w ((w.setCell ⟨x, 0, none⟩ (.int .i32 1)).alloc (.cells #[.int .i64 i] 3)) := (chg_turn (M := fun k => k = x) rfl _).below h1b
  have HB := HC1.out.below h1b
  refine Calls.mono (named_any _ x q cap fv 1 ds bs HB w.heap.size i hgc) ?_
  rintro e w1 ⟨rfl, hw1⟩
  rw [← hw1] at HB hch
  clear hgc h1b hw1 HC1 k0 z0 hxl
  have HC1 : Hid (CluP w1 x q cap fv 1 ds bs) := HB
  have Hch : Hid (Chg (fun k => k = x) w w1) := hch
  clear HB hch HC
  by_cases hi : 0 ≤ i ∧ i < ds.length
  · obtain ⟨k, rfl⟩ := Int.eq_ofNat_of_zero_le hi.1
    have hk : k < ds.length := by omega
    have hn : namedR ds.length (k : Int) = 0 := by unfold namedR; rw [if_pos hi]
    have hkd : Hid (knowsD ds (k : Int) = ((sizeK ds[k].K : Int), 0)) := by unfold Hid knowsD; rw [if_pos hi]; simp [hk]
    rw [hn]
    have c2 : w1.cell? ⟨x, 2, none⟩ = some (.slice (some ⟨q, 0, none⟩) ds.length cap) := (HC1.out.blk.cell 2).trans rfl
    have cq := HC1.out.cell k hk
    have HK : Hid (_) := RepKnows_any w1 _ _ _ _ _ _ _ (HC1.out.rep k hk)
    clear hn hi
    go_wp2_with fail
    refine Calls.mono HK.out ?_
    rintro e w2 ⟨rfl, hb2⟩
    have HC2 : Hid (CluP w2 x q cap fv 1 ds bs) := HC1.out.below hb2
    have Hch2 : Hid (Chg (fun k => k = x) w w2) := Hch.out.below hb2
    clear HK HC1 Hch hb2 c2 cq
    go_wp2_with fail
    refine leaves_cons (f := 35) (args := #[.pointer (some ⟨x, 0, none⟩)]) (by simp) (by simp [go_sem]) ?_
    refine (unlock_deferred YtoiiaankpnhppaaGreatDoor.muLib ⟨x, 0, none⟩ .returning _ ((HC2.out.blk.cell 0).trans rfl) (HC2.out.blk.frozen 0)).mono ?_
    rintro e u' w3 ⟨rfl, rfl, rfl⟩
    exact ⟨_, results_tmp2 rfl _ _ _, by rw [hkd.out]; rfl, HC2.out.turn 0, Chg.setCell (M := fun k => k = x) (p := ⟨x, 0, none⟩) Hch2.out rfl _⟩
  · have hn : namedR ds.length i = 2 := by unfold namedR; rw [if_neg hi]
    have hkd : Hid (knowsD ds i = (0, 2)) := by unfold Hid knowsD; rw [if_neg hi]
    rw [hn]
    clear hn hi
    go_wp2_with fail
    refine leaves_cons (f := 35) (args := #[.pointer (some ⟨x, 0, none⟩)]) (by simp) (by simp [go_sem]) ?_
    refine (unlock_deferred YtoiiaankpnhppaaGreatDoor.muLib ⟨x, 0, none⟩ .returning _ ((HC1.out.blk.cell 0).trans rfl) (HC1.out.blk.frozen 0)).mono ?_
    rintro e u' w3 ⟨rfl, rfl, rfl⟩
    exact ⟨_, results_tmp2 rfl _ _ _, by rw [hkd.out]; rfl, HC1.out.turn 0, Chg.setCell (M := fun k => k = x) (p := ⟨x, 0, none⟩) Hch.out rfl _⟩

theorem Glob.chg4 {M : Nat → Prop} {w w' : World} (h : Glob w) (hc : Chg M w w') (h4 : ∀ k, M k → 4 ≤ k) : Glob w' := by
  obtain ⟨⟨m, g1⟩, ⟨e1, g2, g2'⟩, ⟨e2, g3, g3'⟩, g4, g5⟩ := h
  have hb4 : Below 4 w w' := ⟨hc.os, hc.tape, hc.output, hc.size, fun k hk => hc.block k (by omega) (fun hk2 => by have := h4 k hk2; omega)⟩
  refine ⟨⟨m, (hb4.cell (p := ⟨0, 0, none⟩) (by decide)).trans g1⟩, ⟨e1, (hb4.cell (p := ⟨1, 0, none⟩) (by decide)).trans g2, g2'⟩, ⟨e2, (hb4.cell (p := ⟨2, 0, none⟩) (by decide)).trans g3, g3'⟩, ?_, Nat.lt_of_lt_of_le g5 hb4.size⟩
  exact var?_below (g := 3) hb4 (by kernel_rfl) (by decide) g4

def AskOut (ds : List RepD) (i : Int) (s t : ByteArray) (r : Int) : Prop :=
  (¬ (0 ≤ i ∧ i < ds.length) ∧ t = ⟨#[]⟩ ∧ r = 2) ∨ ((0 ≤ i ∧ i < ds.length) ∧ Thk.path (toL s) = false ∧ t = ⟨#[]⟩ ∧ r = 4) ∨
  ∃ k, ∃ h : k < ds.length, i = (k : Int) ∧ Thk.path (toL s) = true ∧ r = 0 ∧ ∃ xs, SAll (itOf ds[k].C) xs ∧ t = ⟨(tellP (toL s) xs).toArray⟩

set_option maxHeartbeats 4000000 in
set_option maxRecDepth 100000 in
theorem CAsk_any (w : World) (hG : Glob w) (x q cap : Nat) (fv : Value) (ds : List RepD) (bs : List (Nat × ByteArray)) (hC : CluP w x q cap fv 0 ds bs) (hok : ∀ j (h : j < ds.length), ItmsOK (SAll (itOf ds[j].C))) (i : Int) (s : ByteArray) (hs : s.size ≤ 1048576) :
    Calls Tryz.prog 20 #[.pointer (some ⟨x, 0, none⟩), .int .i64 i, .string s] w fun e w' => ∃ t r, e = .returned (.tuple #[.string t, .int .i64 r]) ∧ AskOut ds i s t r ∧ CluP w' x q cap fv 0 ds bs ∧ Chg (fun k => k = x) w w' := by
  have Hok : Hid (∀ j (h : j < ds.length), ItmsOK (SAll (itOf ds[j].C))) := hok
  clear hok
  have HC : Hid (CluP w x q cap fv 0 ds bs) := hC
  have k0 : w.cell? ⟨x, 0, none⟩ = some (.int .i32 0) := (hC.blk.cell 0).trans rfl
  have z0 : w.frozen? ⟨x, 0, none⟩ = false := hC.blk.frozen 0
  have HC1 : Hid (CluP (w.setCell ⟨x, 0, none⟩ (.int .i32 1)) x q cap fv 1 ds bs) := hC.turn 1
  have HG : Hid (Glob w) := hG
  clear hC hG
  go_enter_defers Tryz.func20, Tryz.ntmps20
  go_wp2_with (go_at_call 34; refine (lock_free YtoiiaankpnhppaaGreatDoor.muLib ⟨x, 0, none⟩ _ k0 z0).mono ?_; rintro e w' ⟨rfl, rfl⟩)
  have h1b : Below (w.setCell ⟨x, 0, none⟩ (.int .i32 1)).heap.size (w.setCell ⟨x, 0, none⟩ (.int .i32 1)) ((w.setCell ⟨x, 0, none⟩ (.int .i32 1)).alloc (.cells #[.int .i64 i] 3)) := (Below.refl _ _).alloc (Nat.le_refl _) _
  have hgc : ((w.setCell ⟨x, 0, none⟩ (.int .i32 1)).alloc (.cells #[.int .i64 i] 3)).cell? ⟨w.heap.size, 0, none⟩ = some (.int .i64 i) := by
    have := (Blk.new (w.setCell ⟨x, 0, none⟩ (.int .i32 1)) #[.int .i64 i] 3).cell 0
    simpa using this
  have hch : Chg (fun k => k = x) w ((w.setCell ⟨x, 0, none⟩ (.int .i32 1)).alloc (.cells #[.int .i64 i] 3)) := (chg_turn (M := fun k => k = x) rfl _).below h1b
  have HB := HC1.out.below h1b
  refine Calls.mono (named_any _ x q cap fv 1 ds bs HB w.heap.size i hgc) ?_
  rintro e w1 ⟨rfl, hw1⟩
  rw [← hw1] at HB hch
  clear hgc h1b hw1 HC1 k0 z0
  have G1 : Hid (Glob w1) := HG.out.chg4 hch (fun k e => by subst e; exact HC.out.x4)
  have HC1 : Hid (CluP w1 x q cap fv 1 ds bs) := HB
  have Hch : Hid (Chg (fun k => k = x) w w1) := hch
  clear HB hch HC HG
  by_cases hi : 0 ≤ i ∧ i < ds.length
  · obtain ⟨k, rfl⟩ := Int.eq_ofNat_of_zero_le hi.1
    have hk : k < ds.length := by omega
    have Hi : Hid (_) := hi
    have hn : namedR ds.length (k : Int) = 0 := by unfold namedR; rw [if_pos hi]
    rw [hn]
    clear hn hi
    obtain ⟨m, hm⟩ := G1.out.len
    have HP : Hid (_) := ReadPath_any s m w1 hs hm
    clear hm
    go_wp2_with fail
    refine Calls.mono HP.out ?_
    rintro e w2 ⟨rfl, hb2⟩
    have HC2 : Hid (CluP w2 x q cap fv 1 ds bs) := HC1.out.below hb2
    have Hch2 : Hid (Chg (fun k => k = x) w w2) := Hch.out.below hb2
    have G2 : Hid (Glob w2) := G1.out.mono hb2
    clear HP HC1 Hch G1 hb2
    cases hp : Thk.path (toL s) with
    | false =>
      have Hp : Hid (_) := hp
      clear hp
      go_wp2_with fail
      refine leaves_cons (f := 35) (args := #[.pointer (some ⟨x, 0, none⟩)]) (by simp) (by simp [go_sem]) ?_
      refine (unlock_deferred YtoiiaankpnhppaaGreatDoor.muLib ⟨x, 0, none⟩ .returning _ ((HC2.out.blk.cell 0).trans rfl) (HC2.out.blk.frozen 0)).mono ?_
      rintro e u' w9 ⟨rfl, rfl, rfl⟩
      exact ⟨_, results_tmp2 rfl _ _ _, _, _, rfl, Or.inr (Or.inl ⟨Hi.out, Hp.out, rfl, rfl⟩), HC2.out.turn 0, Chg.setCell (M := fun k => k = x) (p := ⟨x, 0, none⟩) Hch2.out rfl _⟩
    | true =>
      have HT : Hid (_) := RepTell_any w2 G2.out _ _ _ _ _ _ _ (HC2.out.rep k hk) (Hok.out k hk) s hs hp
      have Hp : Hid (_) := hp
      have c2 : w2.cell? ⟨x, 2, none⟩ = some (.slice (some ⟨q, 0, none⟩) ds.length cap) := (HC2.out.blk.cell 2).trans rfl
      have cq := HC2.out.cell k hk
      clear hp G2
      go_wp2_with fail
      refine Calls.mono HT.out ?_
      rintro e w3 ⟨xs, hx, rfl, hb3⟩
      have HC3 : Hid (CluP w3 x q cap fv 1 ds bs) := HC2.out.below hb3
      have Hch3 : Hid (Chg (fun k => k = x) w w3) := Hch2.out.below hb3
      have Hx : Hid (_) := hx
      clear HT HC2 Hch2 hb3 c2 cq hx
      generalize ht : (⟨(tellP (toL s) xs).toArray⟩ : ByteArray) = tt at *
      have Ht : Hid (_) := ht.symm
      clear ht
      go_wp2_with fail
      refine leaves_cons (f := 35) (args := #[.pointer (some ⟨x, 0, none⟩)]) (by simp) (by simp [go_sem]) ?_
      refine (unlock_deferred YtoiiaankpnhppaaGreatDoor.muLib ⟨x, 0, none⟩ .returning _ ((HC3.out.blk.cell 0).trans rfl) (HC3.out.blk.frozen 0)).mono ?_
      rintro e u' w9 ⟨rfl, rfl, rfl⟩
      exact ⟨_, results_tmp2 rfl _ _ _, _, _, rfl, Or.inr (Or.inr ⟨k, hk, rfl, Hp.out, rfl, xs, Hx.out, Ht.out⟩), HC3.out.turn 0, Chg.setCell (M := fun k => k = x) (p := ⟨x, 0, none⟩) Hch3.out rfl _⟩
  · have hn : namedR ds.length i = 2 := by unfold namedR; rw [if_neg hi]
    have Hi : Hid (_) := hi
    rw [hn]
    clear hn hi
    go_wp2_with fail
    refine leaves_cons (f := 35) (args := #[.pointer (some ⟨x, 0, none⟩)]) (by simp) (by simp [go_sem]) ?_
    refine (unlock_deferred YtoiiaankpnhppaaGreatDoor.muLib ⟨x, 0, none⟩ .returning _ ((HC1.out.blk.cell 0).trans rfl) (HC1.out.blk.frozen 0)).mono ?_
    rintro e u' w9 ⟨rfl, rfl, rfl⟩
    exact ⟨_, results_tmp2 rfl _ _ _, _, _, rfl, Or.inl ⟨Hi.out, rfl, rfl⟩, HC1.out.turn 0, Chg.setCell (M := fun k => k = x) (p := ⟨x, 0, none⟩) Hch.out rfl _⟩

theorem Chg.wide {M M' : Nat → Prop} {w w' : World} (h : Chg M w w') (hm : ∀ k, M k → M' k) : Chg M' w w' := ⟨h.os, h.tape, h.output, h.size, fun k hk hn => h.block k hk (fun e => hn (hm k e))⟩
theorem Chg.then {M : Nat → Prop} {w w1 w2 : World} (h : Chg M w w1) (h2 : Chg M w1 w2) : Chg M w w2 := ⟨h2.os.trans h.os, h2.tape.trans h.tape, h2.output.trans h.output, Nat.le_trans h.size h2.size, fun k hk hn => (h2.block k (Nat.lt_of_lt_of_le hk h.size) hn).trans (h.block k hk hn)⟩

theorem CluP.renew {w w' : World} {x q cap : Nat} {fv : Value} {st : Int} {ds : List RepD} {bs : List (Nat × ByteArray)} (h : CluP w x q cap fv st ds bs) (k : Nat) (hk : k < ds.length) {io co lo : Nat} {K' : Nat → Nat} {C' : Nat → Option Thk.Ch} (hr : RepP w' ds[k].rb k (some io) (some co) (some lo) K' C') (hn : w.heap.size ≤ io ∧ w.heap.size ≤ co ∧ w.heap.size ≤ lo) (hc : Chg (fun b => b = ds[k].rb) w w') :
    CluP w' x q cap fv st (ds.set k ⟨ds[k].rb, some io, some co, some lo, K', C'⟩) bs := by
  obtain ⟨cs, r1, r2⟩ := h.row
  have hx : ¬ x = ds[k].rb := fun e => h.xr k hk (Or.inl e)
  have hq : ¬ q = ds[k].rb := fun e => h.qr k hk (Or.inl e)
  have hrb : ∀ j (hj : j < ds.length), (ds.set k ⟨ds[k].rb, some io, some co, some lo, K', C'⟩)[j]'(by simpa using hj) = if k = j then ⟨ds[k].rb, some io, some co, some lo, K', C'⟩ else ds[j] := fun j hj => by rw [List.getElem_set]
  have hown : ∀ b, b < w.heap.size → (RepD.mk ds[k].rb (some io) (some co) (some lo) K' C').own b → b = ds[k].rb := fun b hb ho => by
    rcases ho with h | h | h | h
    · exact h
    · cases h; omega
    · cases h; omega
    · cases h; omega
  refine ⟨?_, ⟨cs, r1.chg hc hq, fun j hj => ?_⟩, ownsRow_chg h.fr hc (fun g hg e => Tagged.ne (h.frT g hg) ⟨_, (h.rep k hk).blk⟩ (by decide) e), fun j hj => ?_, fun i j hi hj hij => ?_, fun j hj => ?_, fun j hj => ?_, by simpa using h.len, h.x4, h.b500⟩
  · rw [List.length_set]; exact h.blk.chg hc hx
  · have hj' : j < ds.length := by simpa using hj
    rw [hrb j hj', r2 j hj']
    by_cases e : k = j
    · subst e; rw [if_pos rfl]
    · rw [if_neg e]
  · have hj' : j < ds.length := by simpa using hj
    rw [hrb j hj']
    by_cases e : k = j
    · subst e; rw [if_pos rfl]; exact hr
    · rw [if_neg e]
      exact (h.rep j hj').chg hc (fun e2 => h.apart k j hk hj' e (Or.inl e2.symm)) (fun b hb e2 => h.apart k j hk hj' e (by subst e2; exact Or.inr hb))
  · have hi' : i < ds.length := by simpa using hi
    have hj' : j < ds.length := by simpa using hj
    rw [hrb i hi', hrb j hj']
    by_cases e : k = i
    · subst e
      rw [if_pos rfl, if_neg hij]
      exact h.apart k j hk hj' hij
    · rw [if_neg e]
      by_cases e2 : k = j
      · subst e2
        rw [if_pos rfl]
        intro ho
        exact h.apart i k hi' hk hij (Or.inl (hown _ (h.rep i hi').blk.lt ho))
      · rw [if_neg e2]
        exact h.apart i j hi' hj' hij
  · have hj' : j < ds.length := by simpa using hj
    rw [hrb j hj']
    by_cases e : k = j
    · subst e; rw [if_pos rfl]; exact fun ho => hx (hown _ h.blk.lt ho)
    · rw [if_neg e]; exact h.xr j hj'
  · have hj' : j < ds.length := by simpa using hj
    rw [hrb j hj']
    by_cases e : k = j
    · subst e; rw [if_pos rfl]; exact fun ho => hq (hown _ r1.lt ho)
    · rw [if_neg e]; exact h.qr j hj'

def DoD (w : World) (ds : List RepD) (i : Int) (s : ByteArray) (r : Int) (ds' : List RepD) : Prop :=
  (¬ (0 ≤ i ∧ i < ds.length) ∧ r = 2 ∧ ds' = ds) ∨
  (∃ m : Nat, (0 ≤ i ∧ i < ds.length) ∧ Thk.read (toL s) = .inl m ∧ r = (m : Int) ∧ ds' = ds) ∨
  (∃ c : Thk.Ch, (0 ≤ i ∧ i < ds.length) ∧ Thk.read (toL s) = .inr c ∧ 500 ≤ sumN ds ds.length ∧ r = 7 ∧ ds' = ds) ∨
  ∃ (c : Thk.Ch) (k : Nat) (hk : k < ds.length) (io co lo : Nat), i = (k : Int) ∧ Thk.read (toL s) = .inr c ∧ sumN ds ds.length < 500 ∧ (w.heap.size ≤ io ∧ w.heap.size ≤ co ∧ w.heap.size ≤ lo) ∧
    r = 0 ∧ ds' = ds.set k ⟨ds[k].rb, some io, some co, some lo, inc ds[k].K k, stepC ds[k].C c (mkD k (ds[k].K k + 1))⟩
section
variable {w : World} {ds : List RepD} {i : Int} {s : ByteArray}
theorem DoD.rep (h : ¬ (0 ≤ i ∧ i < ds.length)) : DoD w ds i s 2 ds := Or.inl ⟨h, rfl, rfl⟩
theorem DoD.bad (m : Nat) (h : 0 ≤ i ∧ i < ds.length) (hr : Thk.read (toL s) = .inl m) : DoD w ds i s m ds := Or.inr (Or.inl ⟨m, h, hr, rfl, rfl⟩)
theorem DoD.full (c : Thk.Ch) (h : 0 ≤ i ∧ i < ds.length) (hr : Thk.read (toL s) = .inr c) (hl : 500 ≤ sumN ds ds.length) : DoD w ds i s 7 ds := Or.inr (Or.inr (Or.inl ⟨c, h, hr, hl, rfl, rfl⟩))
theorem DoD.done (c : Thk.Ch) (k : Nat) (hk : k < ds.length) (io co lo : Nat) (h : i = (k : Int)) (hr : Thk.read (toL s) = .inr c) (hl : sumN ds ds.length < 500) (hn : w.heap.size ≤ io ∧ w.heap.size ≤ co ∧ w.heap.size ≤ lo) :
    DoD w ds i s 0 (ds.set k ⟨ds[k].rb, some io, some co, some lo, inc ds[k].K k, stepC ds[k].C c (mkD k (ds[k].K k + 1))⟩) := Or.inr (Or.inr (Or.inr ⟨c, k, hk, io, co, lo, h, hr, hl, hn, rfl, rfl⟩))
end
theorem sumN_part (ds : List RepD) (k : Nat) (hk : k < ds.length) : ∀ m, k < m → m ≤ ds.length → ds[k].K k ≤ sumN ds m
  | 0, h, _ => by omega
  | m + 1, h, hm => by
    rw [sumN_succ ds m (by omega)]
    by_cases e : k = m
    · subst e; omega
    · have := sumN_part ds k hk m (by omega) (by omega); omega

theorem readV_inl (m : Nat) : readV (.inl m) = .tuple #[.agg #[.string ⟨#[]⟩, .int .u8 0, .string ⟨#[]⟩, .int .i64 0], .int .i64 (m : Int)] := rfl
theorem readV_inr (c : Thk.Ch) : readV (.inr c) = .tuple #[.agg #[.string ⟨c.path.toArray⟩, .int .u8 (c.act.toNat : Int), .string (keptVal c.act ⟨c.val.toArray⟩), .int .i64 c.n], .int .i64 0] := rfl

set_option maxHeartbeats 4000000 in
set_option maxRecDepth 100000 in
theorem CDo_any (w : World) (hG : Glob w) (x q cap : Nat) (fv : Value) (ds : List RepD) (bs : List (Nat × ByteArray)) (hC : CluP w x q cap fv 0 ds bs) (i : Int) (s : ByteArray) (hs : s.size ≤ 1048576) :
    Calls Tryz.prog 19 #[.pointer (some ⟨x, 0, none⟩), .int .i64 i, .string s] w fun e w' => ∃ r ds', e = .returned (.int .i64 r) ∧ DoD w ds i s r ds' ∧ CluP w' x q cap fv 0 ds' bs ∧ Chg (fun k => k = x ∨ ∃ j, ∃ h : j < ds.length, k = ds[j].rb) w w' := by
  have HC : Hid (CluP w x q cap fv 0 ds bs) := hC
  have k0 : w.cell? ⟨x, 0, none⟩ = some (.int .i32 0) := (hC.blk.cell 0).trans rfl
  have z0 : w.frozen? ⟨x, 0, none⟩ = false := hC.blk.frozen 0
  have HC1 : Hid (CluP (w.setCell ⟨x, 0, none⟩ (.int .i32 1)) x q cap fv 1 ds bs) := hC.turn 1
  have HG : Hid (Glob w) := hG
  clear hC hG
  go_enter_defers Tryz.func19, Tryz.ntmps19
  go_wp2_with (go_at_call 34; refine (lock_free YtoiiaankpnhppaaGreatDoor.muLib ⟨x, 0, none⟩ _ k0 z0).mono ?_; rintro e w' ⟨rfl, rfl⟩)
  have h1b : Below (w.setCell ⟨x, 0, none⟩ (.int .i32 1)).heap.size (w.setCell ⟨x, 0, none⟩ (.int .i32 1)) ((w.setCell ⟨x, 0, none⟩ (.int .i32 1)).alloc (.cells #[.int .i64 i] 3)) := (Below.refl _ _).alloc (Nat.le_refl _) _
  have hgc : ((w.setCell ⟨x, 0, none⟩ (.int .i32 1)).alloc (.cells #[.int .i64 i] 3)).cell? ⟨w.heap.size, 0, none⟩ = some (.int .i64 i) := by
    have := (Blk.new (w.setCell ⟨x, 0, none⟩ (.int .i32 1)) #[.int .i64 i] 3).cell 0
    simpa using this
  have hch : Chg (fun k => k = x) w ((w.setCell ⟨x, 0, none⟩ (.int .i32 1)).alloc (.cells #[.int .i64 i] 3)) := (chg_turn (M := fun k => k = x) rfl _).below h1b
  have HB := HC1.out.below h1b
  refine Calls.mono (named_any _ x q cap fv 1 ds bs HB w.heap.size i hgc) ?_
  rintro e w1 ⟨rfl, hw1⟩
  rw [← hw1] at HB hch
  clear hgc h1b hw1 HC1 k0 z0
  have G1 : Hid (Glob w1) := HG.out.chg4 hch (fun k e => by subst e; exact HC.out.x4)
  have HC1 : Hid (CluP w1 x q cap fv 1 ds bs) := HB
  have Hch : Hid (Chg (fun k => k = x) w w1) := hch
  clear HB hch HC HG
  by_cases hi : 0 ≤ i ∧ i < ds.length
  · obtain ⟨k, rfl⟩ := Int.eq_ofNat_of_zero_le hi.1
    have hk : k < ds.length := by omega
    have Hi : Hid (_) := hi
    have hn : namedR ds.length (k : Int) = 0 := by unfold namedR; rw [if_pos hi]
    rw [hn]
    clear hn hi
    have HP : Hid (_) := ProgRead_any s w1 hs G1.out
    go_wp2_with fail
    refine Calls.mono HP.out ?_
    rintro e w2 ⟨rfl, hb2⟩
    have HC2 : Hid (CluP w2 x q cap fv 1 ds bs) := HC1.out.below hb2
    have Hch2 : Hid (Chg (fun k => k = x) w w2) := Hch.out.below hb2
    have G2 : Hid (Glob w2) := G1.out.mono hb2
    clear HP HC1 Hch G1 hb2
    cases hp : Thk.read (toL s) with
    | inl m =>
      have Hp : Hid (_) := hp
      have hm := Thk.read_err _ _ hp
      clear hp G2
      rw [readV_inl]
      have HC3 : Hid (CluP (w2.alloc (.cells #[.string ⟨#[]⟩, .int .u8 0, .string ⟨#[]⟩, .int .i64 0] 81)) x q cap fv 1 ds bs) := HC2.out.below ((Below.refl _ _).alloc (Nat.le_refl _) _)
      have Hch3 : Hid (Chg (fun k => k = x) w (w2.alloc (.cells #[.string ⟨#[]⟩, .int .u8 0, .string ⟨#[]⟩, .int .i64 0] 81))) := Hch2.out.below ((Below.refl _ _).alloc (Nat.le_refl _) _)
      go_wp2_with fail
      refine leaves_cons (f := 35) (args := #[.pointer (some ⟨x, 0, none⟩)]) (by simp) (by simp [go_sem]) ?_
      refine (unlock_deferred YtoiiaankpnhppaaGreatDoor.muLib ⟨x, 0, none⟩ .returning _ ((HC3.out.blk.cell 0).trans rfl) (HC3.out.blk.frozen 0)).mono ?_
      rintro e u' w9 ⟨rfl, rfl, rfl⟩
      exact ⟨_, results_tmp rfl _ _ _, _, _, rfl, DoD.bad m Hi.out Hp.out, HC3.out.turn 0, Chg.setCell (M := fun k => k = x ∨ ∃ j, ∃ h : j < ds.length, k = ds[j].rb) (p := ⟨x, 0, none⟩) (Hch3.out.wide (fun k e => Or.inl e)) (Or.inl rfl) _⟩
    | inr c =>
      have Hp : Hid (_) := hp
      have Hcp : Hid (c.path.length ≤ 1048576) := Nat.le_trans (Thk.read_ok _ _ hp).1 (by decide)
      clear hp
      rw [readV_inr]
      have hba : Below w2.heap.size w2 (w2.alloc (.cells #[.string ⟨c.path.toArray⟩, .int .u8 (c.act.toNat : Int), .string (keptVal c.act ⟨c.val.toArray⟩), .int .i64 c.n] 81)) := (Below.refl _ _).alloc (Nat.le_refl _) _
      have HC3 : Hid (CluP (w2.alloc (.cells #[.string ⟨c.path.toArray⟩, .int .u8 (c.act.toNat : Int), .string (keptVal c.act ⟨c.val.toArray⟩), .int .i64 c.n] 81)) x q cap fv 1 ds bs) := HC2.out.below hba
      have Hch3 : Hid (Chg (fun k => k = x) w (w2.alloc (.cells #[.string ⟨c.path.toArray⟩, .int .u8 (c.act.toNat : Int), .string (keptVal c.act ⟨c.val.toArray⟩), .int .i64 c.n] 81))) := Hch2.out.below hba
      have G3 : Hid (Glob (w2.alloc (.cells #[.string ⟨c.path.toArray⟩, .int .u8 (c.act.toNat : Int), .string (keptVal c.act ⟨c.val.toArray⟩), .int .i64 c.n] 81))) := G2.out.mono hba
      have Hch4 : Hid (Blk (w2.alloc (.cells #[.string ⟨c.path.toArray⟩, .int .u8 (c.act.toNat : Int), .string (keptVal c.act ⟨c.val.toArray⟩), .int .i64 c.n] 81)) w2.heap.size #[.string ⟨c.path.toArray⟩, .int .u8 (c.act.toNat : Int), .string (keptVal c.act ⟨c.val.toArray⟩), .int .i64 c.n] 81) := Blk.new w2 _ _
      have HC2x := HC2
      clear hba HC2 Hch2 G2
      go_wp2_with fail
      refine Calls.mono (events_any _ x q cap fv 1 ds bs HC3.out) ?_
      rintro e w3 ⟨rfl, hb3⟩
      have HC4 : Hid (CluP w3 x q cap fv 1 ds bs) := HC3.out.below hb3
      have Hch5 : Hid (Chg (fun k => k = x) w w3) := Hch3.out.below hb3
      have G4 : Hid (Glob w3) := G3.out.mono hb3
      have HK4 : Hid (Blk w3 w2.heap.size #[.string ⟨c.path.toArray⟩, .int .u8 (c.act.toNat : Int), .string (keptVal c.act ⟨c.val.toArray⟩), .int .i64 c.n] 81) := Hch4.out.below hb3
      clear hb3 HC3 Hch3 G3 Hch4
      by_cases h5 : 500 ≤ sumN ds ds.length
      · have H5 : Hid (_) := h5
        go_wp2_with fail
        refine leaves_cons (f := 35) (args := #[.pointer (some ⟨x, 0, none⟩)]) (by simp) (by simp [go_sem]) ?_
        refine (unlock_deferred YtoiiaankpnhppaaGreatDoor.muLib ⟨x, 0, none⟩ .returning _ ((HC4.out.blk.cell 0).trans rfl) (HC4.out.blk.frozen 0)).mono ?_
        rintro e u' w9 ⟨rfl, rfl, rfl⟩
        exact ⟨_, results_tmp rfl _ _ _, _, _, rfl, DoD.full c Hi.out Hp.out H5.out, HC4.out.turn 0, Chg.setCell (M := fun k => k = x ∨ ∃ j, ∃ h : j < ds.length, k = ds[j].rb) (p := ⟨x, 0, none⟩) (Hch5.out.wide (fun k e => Or.inl e)) (Or.inl rfl) _⟩
      · have H5 : Hid (sumN ds ds.length < 500) := by unfold Hid; omega
        have hn5 : ds[k].K k + 1 ≤ 500 := by have := sumN_part ds k hk ds.length hk (Nat.le_refl _); omega
        obtain ⟨m, hm⟩ := G4.out.len
        have c2 : w3.cell? ⟨x, 2, none⟩ = some (.slice (some ⟨q, 0, none⟩) ds.length cap) := (HC4.out.blk.cell 2).trans rfl
        have cq := HC4.out.cell k hk
        have v0 : w3.cell? ⟨w2.heap.size, 0, none⟩ = some (.string ⟨c.path.toArray⟩) := (HK4.out.cell 0).trans rfl
        have v1 : w3.cell? ⟨w2.heap.size, 1, none⟩ = some (.int .u8 (c.act.toNat : Int)) := (HK4.out.cell 1).trans rfl
        have v2 : w3.cell? ⟨w2.heap.size, 2, none⟩ = some (.string (keptVal c.act ⟨c.val.toArray⟩)) := (HK4.out.cell 2).trans rfl
        have v3 : w3.cell? ⟨w2.heap.size, 3, none⟩ = some (.int .i64 c.n) := (HK4.out.cell 3).trans rfl
        have hrne : ¬ w2.heap.size = ds[k].rb := fun e => by have := (HC2x.out.rep k hk).blk.lt; omega
        have HA : Hid (Calls Tryz.prog 40 #[.pointer (some ⟨ds[k].rb, 0, none⟩), .agg #[.string ⟨c.path.toArray⟩, .int .u8 (c.act.toNat : Int), .string (keptVal c.act ⟨c.val.toArray⟩), .int .i64 c.n]] w3.drew fun e w' => e = .returned (.tuple #[]) ∧ (∃ io co lo, CluP w' x q cap fv 1 (ds.set k ⟨ds[k].rb, some io, some co, some lo, inc ds[k].K k, stepC ds[k].C c (mkD k (ds[k].K k + 1))⟩) bs ∧ (w.heap.size ≤ io ∧ w.heap.size ≤ co ∧ w.heap.size ≤ lo) ∧ Chg (fun k => k = x ∨ ∃ j, ∃ h : j < ds.length, k = ds[j].rb) w w') ∧
            w'.cell? ⟨x, 2, none⟩ = some (.slice (some ⟨q, 0, none⟩) ds.length cap) ∧ w'.cell? ⟨q, k, none⟩ = some (.pointer (some ⟨ds[k].rb, 0, none⟩)) ∧ w'.cell? ⟨w2.heap.size, 0, none⟩ = some (.string ⟨c.path.toArray⟩) ∧ w'.cell? ⟨w2.heap.size, 1, none⟩ = some (.int .u8 (c.act.toNat : Int)) ∧ w'.cell? ⟨w2.heap.size, 2, none⟩ = some (.string (keptVal c.act ⟨c.val.toArray⟩)) ∧ w'.cell? ⟨w2.heap.size, 3, none⟩ = some (.int .i64 c.n)) := by
          have hdr : Below w3.heap.size w3 w3.drew := (Below.refl _ w3).drew
          have hcl := HC4.out.below hdr
          refine Calls.mono (Accept_any w3.drew _ _ _ _ _ _ _ (hcl.rep k hk) c hn5 Hcp.out m hm) ?_
          rintro e w' ⟨rfl, io, co, lo, hr, hnw, hc⟩
          have hcx := hcl.renew k hk hr hnw hc
          have hz : w.heap.size ≤ w3.drew.heap.size := Nat.le_trans Hch5.out.size hdr.size
          have hx : ¬ x = ds[k].rb := fun e => HC4.out.xr k hk (Or.inl e)
          have hq : ¬ q = ds[k].rb := fun e => HC4.out.qr k hk (Or.inl e)
          have hK5 := (HK4.out.below hdr).chg hc hrne
          have hX5 := (hcl.blk.cell 2)
          obtain ⟨cs, r1, r2⟩ := hcl.row
          refine ⟨rfl, ⟨io, co, lo, hcx, ⟨by omega, by omega, by omega⟩, ((Hch5.out.below hdr).wide (fun _ e => Or.inl e)).then (hc.wide (fun _ e => Or.inr ⟨k, hk, e⟩))⟩, ((hcl.blk.chg hc hx).cell 2).trans rfl, ((r1.chg hc hq).cell k).trans (r2 k hk), (hK5.cell 0).trans rfl, (hK5.cell 1).trans rfl, (hK5.cell 2).trans rfl, (hK5.cell 3).trans rfl⟩
        clear hm HC4 Hch5 G4 HK4 hrne HC2x
        go_wp2_with fail
        go_region_held3 (fun w' => w'.cell? ⟨x, 2, none⟩ = some (.slice (some ⟨q, 0, none⟩) ds.length cap) ∧ w'.cell? ⟨q, k, none⟩ = some (.pointer (some ⟨ds[k].rb, 0, none⟩)) ∧ w'.cell? ⟨w2.heap.size, 0, none⟩ = some (.string ⟨c.path.toArray⟩) ∧ w'.cell? ⟨w2.heap.size, 1, none⟩ = some (.int .u8 (c.act.toNat : Int)) ∧ w'.cell? ⟨w2.heap.size, 2, none⟩ = some (.string (keptVal c.act ⟨c.val.toArray⟩)) ∧ w'.cell? ⟨w2.heap.size, 3, none⟩ = some (.int .i64 c.n)) ((refine ⟨?_, ?_, ?_, ?_, ?_, ?_⟩ <;> assumption)) (first | (go_at_call 40; refine Calls.mono HA.out ?_; rintro e w4 ⟨rfl, hE, d0, d1, d2, d3, d4, d5⟩))
        obtain ⟨io, co, lo, hcx, hnw, hch⟩ := hE
        have HX : Hid (_) := hcx
        have HN : Hid (_) := hnw
        have HH : Hid (_) := hch
        clear hcx hnw hch HA c2 cq v0 v1 v2 v3 d0 d1 d2 d3 d4 d5
        go_wp2_with fail
        refine leaves_cons (f := 35) (args := #[.pointer (some ⟨x, 0, none⟩)]) (by simp) (by simp [go_sem]) ?_
        refine (unlock_deferred YtoiiaankpnhppaaGreatDoor.muLib ⟨x, 0, none⟩ .returning _ ((HX.out.blk.cell 0).trans rfl) (HX.out.blk.frozen 0)).mono ?_
        rintro e u' w9 ⟨rfl, rfl, rfl⟩
        exact ⟨_, results_tmp rfl _ _ _, _, _, rfl, DoD.done c k hk io co lo rfl Hp.out H5.out HN.out, HX.out.turn 0, Chg.setCell (M := fun k => k = x ∨ ∃ j, ∃ h : j < ds.length, k = ds[j].rb) (p := ⟨x, 0, none⟩) HH.out (Or.inl rfl) _⟩
  · have hn : namedR ds.length i = 2 := by unfold namedR; rw [if_neg hi]
    have Hi : Hid (_) := hi
    rw [hn]
    clear hn hi
    go_wp2_with fail
    refine leaves_cons (f := 35) (args := #[.pointer (some ⟨x, 0, none⟩)]) (by simp) (by simp [go_sem]) ?_
    refine (unlock_deferred YtoiiaankpnhppaaGreatDoor.muLib ⟨x, 0, none⟩ .returning _ ((HC1.out.blk.cell 0).trans rfl) (HC1.out.blk.frozen 0)).mono ?_
    rintro e u' w9 ⟨rfl, rfl, rfl⟩
    exact ⟨_, results_tmp rfl _ _ _, _, _, rfl, DoD.rep Hi.out, HC1.out.turn 0, Chg.setCell (M := fun k => k = x ∨ ∃ j, ∃ h : j < ds.length, k = ds[j].rb) (p := ⟨x, 0, none⟩) (Hch.out.wide (fun k e => Or.inl e)) (Or.inl rfl) _⟩
end Go.Proofs.YtoiiaankpnhppaaGreatDoor

