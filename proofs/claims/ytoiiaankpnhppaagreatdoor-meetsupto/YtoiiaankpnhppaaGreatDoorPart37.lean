import Derived.Deep.LoopGhost
import Derived.Deep.RegionHeld3
import Derived.Test.YtoiiaankpnhppaaGreatDoorPart05
import Derived.Test.YtoiiaankpnhppaaGreatDoorPart07
import Derived.Test.YtoiiaankpnhppaaGreatDoorPart10
import Derived.Test.YtoiiaankpnhppaaGreatDoorPart12
import Derived.Test.YtoiiaankpnhppaaGreatDoorPart16
set_option linter.unusedVariables false
set_option linter.unusedSimpArgs false
namespace Go.Proofs.YtoiiaankpnhppaaGreatDoor
open Go.RowKit

structure StepD where
  kind : Int
  a : Int
  n : Int
  m : Int
  s : ByteArray
def StepD.ok (o : StepD) : Prop := (-9223372036854775808 ≤ o.kind ∧ o.kind ≤ 9223372036854775807) ∧ (-9223372036854775808 ≤ o.a ∧ o.a ≤ 9223372036854775807) ∧ (-9223372036854775808 ≤ o.n ∧ o.n ≤ 9223372036854775807) ∧ (-9223372036854775808 ≤ o.m ∧ o.m ≤ 9223372036854775807) ∧ o.s.size ≤ 1048576
def StepD.val (o : StepD) : Value := .agg #[.int .i64 o.kind, .int .i64 o.a, .int .i64 o.n, .int .i64 o.m, .string o.s]

structure ScriptAt (w : World) (b off : Nat) (l : List StepD) : Prop where
  lt : b < w.heap.size
  k : ∀ j (h : j < l.length), w.cell? ⟨b, off + j * 5, none⟩ = some (.int .i64 l[j].kind)
  a : ∀ j (h : j < l.length), w.cell? ⟨b, off + j * 5 + 1, none⟩ = some (.int .i64 l[j].a)
  n : ∀ j (h : j < l.length), w.cell? ⟨b, off + j * 5 + 2, none⟩ = some (.int .i64 l[j].n)
  m : ∀ j (h : j < l.length), w.cell? ⟨b, off + j * 5 + 3, none⟩ = some (.int .i64 l[j].m)
  s : ∀ j (h : j < l.length), w.cell? ⟨b, off + j * 5 + 4, none⟩ = some (.string l[j].s)
theorem ScriptAt.below {w w' : World} {b off : Nat} {l : List StepD} (h : ScriptAt w b off l) (hb : Below w.heap.size w w') : ScriptAt w' b off l :=
  ⟨Nat.lt_of_lt_of_le h.lt hb.size, fun j hj => (hb.cell (p := ⟨b, _, none⟩) h.lt).trans (h.k j hj), fun j hj => (hb.cell (p := ⟨b, _, none⟩) h.lt).trans (h.a j hj), fun j hj => (hb.cell (p := ⟨b, _, none⟩) h.lt).trans (h.n j hj), fun j hj => (hb.cell (p := ⟨b, _, none⟩) h.lt).trans (h.m j hj), fun j hj => (hb.cell (p := ⟨b, _, none⟩) h.lt).trans (h.s j hj)⟩

structure LawOK (last : Int) (I : Nat → Nat → World → Nat → Prop) : Prop where
  heads : ∀ w, Glob w → Calls Tryz.prog 25 #[.bool (decide (5 ≤ last))] w fun e w' => e = .returned (.bool true) ∧ Below w.heap.size w w'
  start : ∀ w, Glob w → I 0 w.heap.size (w.alloc (.cells #[.slice none 0 0, .bool (decide (7 < last))] 54)) w.heap.size
  step : ∀ c B w b (o : StepD), o.ok → o.kind ≤ last → c < 1099511627776 → I c B w b → Calls Tryz.prog 26 #[.pointer (some ⟨b, 0, none⟩), o.val] w fun e w' => e = .returned (.bool true) ∧ I (c + 1) B w' b ∧ Below B w w'

set_option maxHeartbeats 4000000 in
theorem upTo_any (last : Int) (I : Nat → Nat → World → Nat → Prop) (hL : LawOK last I) (w : World) (hG : Glob w) (b off cap : Nat) (l : List StepD) (hS : ScriptAt w b off l) (hcap : l.length ≤ cap) (hlen : l.length ≤ 1099511627776) (hok : ∀ o ∈ l, o.ok) :
    Calls Tryz.prog 11 #[.slice (some ⟨b, off, none⟩) l.length cap, .int .i64 last] w fun e w' => e = .returned (.int .i64 (-1)) ∧ Below w.heap.size w w' := by
  have HL : Hid (LawOK last I) := hL
  have HG : Hid (Glob w) := hG
  have HS : Hid (ScriptAt w b off l) := hS
  have Hok : Hid (∀ o ∈ l, o.ok) := hok
  clear hL hG hS hok
  go_enter Tryz.func11, Tryz.ntmps11
  go_wp2_with fail
  refine Calls.mono (HL.out.heads w HG.out) ?_
  rintro e w1 ⟨rfl, hb1⟩
  have b1 : Hid (Below w.heap.size w w1) := hb1
  have g1 : Hid (Glob w1) := HG.out.mono hb1
  have i1 : Hid (_) := HL.out.start w1 g1.out
  have bz : Hid (∀ o, Below w.heap.size w (w1.alloc o)) := fun o => hb1.alloc hb1.size o
  clear hb1
  go_wp2_with fail
  go_loopg [5, 7] l.length (fun g v5 v7 wx => ∃ i : Nat, i + g = l.length ∧ v5 = .bool true ∧ v7 = .int .i64 (i : Int) ∧ (∃ c, c ≤ i ∧ I c w1.heap.size wx w1.heap.size) ∧ Below w.heap.size w wx)
  case atStart => exact ⟨0, by omega, rfl, rfl, ⟨0, Nat.le_refl _, i1.out⟩, bz.out _⟩
  case round =>
    obtain ⟨i, hig, rfl, rfl, ⟨ct, hct, hI⟩, hb⟩ := hrel
    have HI : Hid (I ct w1.heap.size wr w1.heap.size) := hI
    have HB : Hid (Below w.heap.size w wr) := hb
    clear hI hb
    by_cases hi : i < l.length
    · have hS2 := HS.out.below HB.out
      have hk := hS2.k i hi
      have ha := hS2.a i hi
      have hn := hS2.n i hi
      have hm := hS2.m i hi
      have hs := hS2.s i hi
      clear hS2
      have Ho : Hid (l[i].ok) := Hok.out _ (List.getElem_mem hi)
      generalize l[i] = o at *
      by_cases hkd : last < o.kind
      · go_wp2
        go_roundg (l.length - (i + 1))
        case measure => omega
        case rel => exact ⟨i + 1, by omega, rfl, rfl, ⟨ct, by omega, HI.out⟩, HB.out⟩
      · have hkl : o.kind ≤ last := by omega
        have Hc : Hid (_) := HL.out.step ct w1.heap.size wr w1.heap.size o Ho.out hkl (by omega) HI.out
        go_wp2_with fail
        refine Calls.mono Hc.out ?_
        rintro e w2 ⟨rfl, hI2, hb2⟩
        have HI2 : Hid (I (ct + 1) w1.heap.size w2 w1.heap.size) := hI2
        have HB2 : Hid (Below w.heap.size w w2) := HB.out.trans (hb2.mono b1.out.size)
        clear hI2 hb2 Hc
        go_wp2
        go_roundg (l.length - (i + 1))
        case measure => omega
        case rel => exact ⟨i + 1, by omega, rfl, rfl, ⟨ct + 1, by omega, HI2.out⟩, HB2.out⟩
    · go_wp2
      go_ret
      exact ⟨rfl, HB.out⟩

set_option maxHeartbeats 4000000 in
theorem upTo_nil (last : Int) (I : Nat → Nat → World → Nat → Prop) (hL : LawOK last I) (w : World) (hG : Glob w) (ad : Option Addr) (cap : Nat) :
    Calls Tryz.prog 11 #[.slice ad 0 cap, .int .i64 last] w fun e w' => e = .returned (.int .i64 (-1)) ∧ Below w.heap.size w w' := by
  have HL : Hid (LawOK last I) := hL
  have HG : Hid (Glob w) := hG
  clear hL hG
  go_enter Tryz.func11, Tryz.ntmps11
  go_wp2_with fail
  refine Calls.mono (HL.out.heads w HG.out) ?_
  rintro e w1 ⟨rfl, hb1⟩
  have bz : Hid (∀ o, Below w.heap.size w (w1.alloc o)) := fun o => hb1.alloc hb1.size o
  clear hb1
  go_wp2_with fail
  go_loopg [5, 7] 0 (fun g v5 v7 wx => v7 = .int .i64 0 ∧ Below w.heap.size w wx)
  case atStart => exact ⟨rfl, bz.out _⟩
  case round =>
    obtain ⟨rfl, hb⟩ := hrel
    have HB : Hid (Below w.heap.size w wr) := hb
    clear hb
    go_wp2
    go_ret
    exact ⟨rfl, HB.out⟩

def ScriptV (w : World) (v : Value) (l : List StepD) : Prop :=
  (∃ ad cap, v = .slice ad 0 cap ∧ l = []) ∨ ∃ b off cap, v = .slice (some ⟨b, off, none⟩) l.length cap ∧ l.length ≤ cap ∧ ScriptAt w b off l

set_option maxHeartbeats 4000000 in
theorem Meets_of (I : Nat → Nat → World → Nat → Prop) (hL : LawOK 7 I) (w : World) (hG : Glob w) (v : Value) (l : List StepD) (hS : ScriptV w v l) (hlen : l.length ≤ 1099511627776) (hok : ∀ o ∈ l, o.ok) :
    Calls Tryz.prog 4 #[v] w fun e w' => e = .returned (.bool true) ∧ Below w.heap.size w w' := by
  rcases hS with ⟨ad, cap, rfl, rfl⟩ | ⟨b, off, cap, rfl, hcap, hS⟩
  · have Hc : Hid (_) := upTo_nil 7 I hL w hG ad cap
    go_enter Tryz.func4, Tryz.ntmps4
    go_wp2_with fail
    refine Calls.mono Hc.out ?_
    rintro e w1 ⟨rfl, hb⟩
    go_wp2
    go_ret
    exact ⟨rfl, hb⟩
  · have Hc : Hid (_) := upTo_any 7 I hL w hG b off cap l hS hcap hlen hok
    clear hL hS hok
    go_enter Tryz.func4, Tryz.ntmps4
    go_wp2_with fail
    refine Calls.mono Hc.out ?_
    rintro e w1 ⟨rfl, hb⟩
    go_wp2
    go_ret
    exact ⟨rfl, hb⟩

def knowsR (kn : List (List Bool)) (i : Int) : Int × Int := if 0 ≤ i ∧ i < kn.length then ((cnt (kn.getD i.toNat []) : Int), 0) else (0, 2)

structure St where
  es : List Ev
  kn : List (List Bool)
  fs : List FrD
def sendR (s : St) (i j : Int) : Int × Int :=
  if (0 ≤ i ∧ i < s.kn.length) ∧ (0 ≤ j ∧ j < s.kn.length) then (if i = j then (0, 1) else if 500 ≤ s.fs.length then (0, 7) else ((s.fs.length : Int) + 1, 0)) else (0, 2)
def SendTo (s : St) (i j : Int) (s' : St) : Prop := s'.es = s.es ∧ s'.kn = s.kn ∧ (if (sendR s i j).2 = 0 then ∃ b, s'.fs = s.fs ++ [⟨i.toNat, j.toNat, 0, s.kn.getD i.toNat [], b⟩] else s'.fs = s.fs)
def frNo (s : St) (f : Int) : Option FrD := if 1 ≤ f ∧ f ≤ s.fs.length then s.fs[f.toNat - 1]? else none
def delR (s : St) (f : Int) : Int × Int :=
  match frNo s f with
  | none => (0, 9)
  | some g => if 0 < g.ack then (0, 0) else if 500 ≤ s.fs.length then (0, 7) else ((s.fs.length : Int) + 1, 0)
def delK (a b : List Bool) : List Bool := if cnt a < cnt (bothL a b) then bothL a b else a
def DelTo (s : St) (f : Int) (s' : St) : Prop :=
  s'.es = s.es ∧
  match frNo s f with
  | none => s'.kn = s.kn ∧ s'.fs = s.fs
  | some g => if 0 < g.ack ∨ 500 ≤ s.fs.length then s'.kn = s.kn ∧ s'.fs = s.fs else s'.kn = s.kn.set g.dst (delK (s.kn.getD g.dst []) g.known) ∧ ∃ b, s'.fs = s.fs ++ [⟨g.dst, g.src, f.toNat, [], b⟩]
def frameR (s : St) (f : Int) : ByteArray × Int :=
  match frNo s f with
  | none => (⟨#[]⟩, 9)
  | some g => (g.bytes, 0)

abbrev Stt : Type := World → Nat → (Nat → Prop) → St → Prop

structure ProgOK (F : Stt) : Prop where
  bad : ∀ w (r room : Int), Glob w → (r < 1 ∨ 6 < r ∨ room < 0 ∨ 50 < room) →
    Calls Tryz.prog 27 #[.int .i64 r, .int .i64 room] w fun e w' => e = .returned (.tuple #[.pointer none, .int .i64 1]) ∧ Below w.heap.size w w'
  good : ∀ w (r room : Nat), Glob w → 1 ≤ r → r ≤ 6 → room ≤ 50 →
    Calls Tryz.prog 27 #[.int .i64 (r : Int), .int .i64 (room : Int)] w fun e w' => ∃ x S, e = .returned (.tuple #[.pointer (some ⟨x, 0, none⟩), .int .i64 0]) ∧ F w' x S ⟨[], List.replicate r [], []⟩ ∧ (∀ k, S k → w.heap.size ≤ k) ∧ Below w.heap.size w w'
  does : ∀ w x S s i t r es' kn', Glob w → F w x S s → t.size ≤ 1048576 → DoOut s.es s.kn i (toL t) r es' kn' →
    Calls Tryz.prog 19 #[.pointer (some ⟨x, 0, none⟩), .int .i64 i, .string t] w fun e w' => e = .returned (.int .i64 r) ∧ ∃ S', F w' x S' ⟨es', kn', s.fs⟩ ∧ (∀ k, S' k → S k ∨ w.heap.size ≤ k) ∧ Chg S w w'
  asks : ∀ w x S s i t, Glob w → F w x S s → t.size ≤ 1048576 →
    Calls Tryz.prog 20 #[.pointer (some ⟨x, 0, none⟩), .int .i64 i, .string t] w fun e w' => ∃ u, e = .returned (.tuple #[.string u, .int .i64 (askR s.es s.kn i (toL t)).2]) ∧ toL u = (askR s.es s.kn i (toL t)).1 ∧ ∃ S', F w' x S' s ∧ (∀ k, S' k → S k ∨ w.heap.size ≤ k) ∧ Chg S w w'
  knows : ∀ w x S s i, Glob w → F w x S s →
    Calls Tryz.prog 18 #[.pointer (some ⟨x, 0, none⟩), .int .i64 i] w fun e w' => e = .returned (.tuple #[.int .i64 (knowsR s.kn i).1, .int .i64 (knowsR s.kn i).2]) ∧ ∃ S', F w' x S' s ∧ (∀ k, S' k → S k ∨ w.heap.size ≤ k) ∧ Chg S w w'
  sends : ∀ w x S s i j, Glob w → F w x S s →
    Calls Tryz.prog 29 #[.pointer (some ⟨x, 0, none⟩), .int .i64 i, .int .i64 j] w fun e w' => e = .returned (.tuple #[.int .i64 (sendR s i j).1, .int .i64 (sendR s i j).2]) ∧ ∃ S' s', SendTo s i j s' ∧ F w' x S' s' ∧ (∀ k, S' k → S k ∨ w.heap.size ≤ k) ∧ Chg S w w'
  frame : ∀ w x S s f, Glob w → F w x S s →
    Calls Tryz.prog 86 #[.pointer (some ⟨x, 0, none⟩), .int .i64 f] w fun e w' => e = .returned (.tuple #[.string (frameR s f).1, .int .i64 (frameR s f).2]) ∧ ∃ S', F w' x S' s ∧ (∀ k, S' k → S k ∨ w.heap.size ≤ k) ∧ Chg S w w'
  dels : ∀ w x S s f, Glob w → F w x S s →
    Calls Tryz.prog 23 #[.pointer (some ⟨x, 0, none⟩), .int .i64 f] w fun e w' => e = .returned (.tuple #[.int .i64 (delR s f).1, .int .i64 (delR s f).2]) ∧ ∃ S' s', DelTo s f s' ∧ F w' x S' s' ∧ (∀ k, S' k → S k ∨ w.heap.size ≤ k) ∧ Chg S w w'
  fsz : ∀ w x S s f g, F w x S s → frNo s f = some g → g.bytes.size ≤ 1000000000
  flen : ∀ w x S s, F w x S s → s.fs.length ≤ 1000000

structure RefOK (G : Stt) : Prop where
  up : ∀ w c R s i, G w c R s → Calls Tryz.prog 83 #[.pointer (some ⟨c, 0, none⟩), .int .i64 i] w fun e w' => e = .returned (.int .i64 (if 0 ≤ i ∧ i < s.kn.length then 0 else 2)) ∧ w' = w
  does : ∀ w c R s i t, G w c R s → t.size ≤ 1048576 →
    Calls Tryz.prog 92 #[.pointer (some ⟨c, 0, none⟩), .int .i64 i, .string t] w fun e w' => ∃ r es' kn', e = .returned (.int .i64 r) ∧ DoOut s.es s.kn i (toL t) r es' kn' ∧ ∃ R', G w' c R' ⟨es', kn', s.fs⟩ ∧ (∀ k, R' k → R k ∨ w.heap.size ≤ k) ∧ Chg R w w' ∧ IntsKept w w'
  asks : ∀ w c R s i t, G w c R s → t.size ≤ 1048576 →
    Calls Tryz.prog 84 #[.pointer (some ⟨c, 0, none⟩), .int .i64 i, .string t] w fun e w' => ∃ u, e = .returned (.tuple #[.string u, .int .i64 (askR s.es s.kn i (toL t)).2]) ∧ toL u = (askR s.es s.kn i (toL t)).1 ∧ Below w.heap.size w w'
  cells : ∀ w c R s, G w c R s → s.kn.length ≤ 6 ∧ ∃ rb cap, w.cell? ⟨c, 1, none⟩ = some (.slice (some ⟨rb, 0, none⟩) s.kn.length cap) ∧ s.kn.length ≤ cap ∧ ∀ i (h : i < s.kn.length), ∃ kv, w.cell? ⟨rb, i * 13, none⟩ = some kv ∧ SliceT 4 w kv (bools s.kn[i]) ∧ s.kn[i].length ≤ 1048576
  sends : ∀ w c R s i j s', G w c R s → SendTo s i j s' →
    Calls Tryz.prog 88 #[.pointer (some ⟨c, 0, none⟩), .int .i64 i, .int .i64 j] w fun e w' => e = .returned (.tuple #[.int .i64 (sendR s i j).1, .int .i64 (sendR s i j).2]) ∧ ∃ R', G w' c R' s' ∧ (∀ k, R' k → R k ∨ w.heap.size ≤ k) ∧ Chg R w w' ∧ IntsKept w w'
  dels : ∀ w c R s f s', G w c R s → DelTo s f s' →
    Calls Tryz.prog 89 #[.pointer (some ⟨c, 0, none⟩), .int .i64 f] w fun e w' => e = .returned (.tuple #[.int .i64 (delR s f).1, .int .i64 (delR s f).2]) ∧ ∃ R', G w' c R' s' ∧ (∀ k, R' k → R k ∨ w.heap.size ≤ k) ∧ Chg R w w' ∧ IntsKept w w'
  bound : ∀ w c R s f, G w c R s → Calls Tryz.prog 87 #[.pointer (some ⟨c, 0, none⟩), .int .i64 f] w fun e w' => ∃ n : Nat, e = .returned (.int .i64 (n : Int)) ∧ n ≤ 1000000 ∧ (n = 0 ↔ frNo s f = none) ∧ w' = w

theorem chgS_below {B : Nat} {S : Nat → Prop} {a c : World} (h : Chg S a c) (hS : ∀ k, S k → B ≤ k) (hs : B ≤ a.heap.size) : Below B a c :=
  ⟨h.os, h.tape, h.output, h.size, fun k hk => h.block k (by omega) (fun hk2 => by have := hS k hk2; omega)⟩

def hE1 : Ev := ⟨⟨#[115, 120]⟩, 43, ⟨#[97]⟩, 0, []⟩
def hE2 : Ev := ⟨⟨#[115, 120]⟩, 43, ⟨#[98]⟩, 0, [true]⟩
def hE3 : Ev := ⟨⟨#[115, 120]⟩, 45, ⟨#[97]⟩, 0, [true, true]⟩
theorem hd1 : DoOut [] (List.replicate 2 []) 0 (toL ⟨#[115, 120, 43, 97]⟩) 0 [hE1] [[true], []] :=
  DoOut.done (es := []) (knowns := List.replicate 2 []) (i := 0) ⟨[115, 120], 43, [97], 0⟩ hE1 (by decide) (by kernel_rfl) (by decide) rfl rfl rfl rfl rfl
theorem hd2 : DoOut [hE1] [[true], []] 0 (toL ⟨#[115, 120, 43, 98]⟩) 0 [hE1, hE2] [[true, true], []] :=
  DoOut.done (es := [hE1]) (knowns := [[true], []]) (i := 0) ⟨[115, 120], 43, [98], 0⟩ hE2 (by decide) (by kernel_rfl) (by decide) rfl rfl rfl rfl rfl
theorem hd3 : DoOut [hE1, hE2] [[true, true], []] 0 (toL ⟨#[115, 120, 45, 97]⟩) 0 [hE1, hE2, hE3] [[true, true, true], []] :=
  DoOut.done (es := [hE1, hE2]) (knowns := [[true, true], []]) (i := 0) ⟨[115, 120], 45, [97], 0⟩ hE3 (by decide) (by kernel_rfl) (by decide) rfl rfl rfl rfl rfl
theorem hask : askR [hE1, hE2, hE3] [[true, true, true], []] 0 (toL ⟨#[115, 120]⟩) = ([98], 0) := by decide +kernel
theorem hask1 : askR [hE1, hE2, hE3] [[true, true, true], [true, true, true]] 1 (toL ⟨#[115, 120]⟩) = ([98], 0) := by decide +kernel
theorem hkn : knowsR [[true, true, true], []] 0 = (3, 0) := by decide +kernel
theorem hsend : sendR ⟨[hE1, hE2, hE3], [[true, true, true], []], []⟩ 0 1 = (1, 0) := by decide +kernel

structure HdAt (F : Stt) (w : World) (x : Nat) (s : St) (wx : World) : Prop where
  f : ∃ S, F wx x S s ∧ ∀ k, S k → w.heap.size ≤ k
  bel : Below w.heap.size w wx
  glob : Glob wx
theorem HdAt.next {F : Stt} {w wx wy : World} {x : Nat} {s s' : St} {S S' : Nat → Prop} (h : HdAt F w x s wx) (hS : ∀ k, S k → w.heap.size ≤ k) (hG : Glob w) (hf : F wy x S' s') (hs : ∀ k, S' k → S k ∨ wx.heap.size ≤ k) (hc : Chg S wx wy) : HdAt F w x s' wy :=
  have hb : Below w.heap.size w wy := h.bel.trans (chgS_below hc hS h.bel.size)
  ⟨⟨S', hf, fun k hk => (hs k hk).elim (hS k) (fun h2 => Nat.le_trans h.bel.size h2)⟩, hb, hG.mono hb⟩

set_option maxHeartbeats 8000000 in
set_option maxRecDepth 100000 in
theorem heads_any {F : Stt} (hF : ProgOK F) (w : World) (hG : Glob w) :
    Calls Tryz.prog 25 #[.bool true] w fun e w' => e = .returned (.bool true) ∧ Below w.heap.size w w' := by
  have HN : Hid (Calls Tryz.prog 27 #[.int .i64 2, .int .i64 10] w fun e w' => ∃ x, e = .returned (.tuple #[.pointer (some ⟨x, 0, none⟩), .int .i64 0]) ∧ HdAt F w x ⟨[], List.replicate 2 [], []⟩ w') := by
    refine Calls.mono (hF.good w 2 10 hG (by decide) (by decide) (by decide)) ?_
    rintro e w1 ⟨x, S1, rfl, f1, s1, hb1⟩
    exact ⟨x, rfl, ⟨S1, f1, s1⟩, hb1, hG.mono hb1⟩
  have HD : Hid (∀ x s wx t r es' kn', HdAt F w x s wx → t.size ≤ 1048576 → DoOut s.es s.kn 0 (toL t) r es' kn' → Calls Tryz.prog 19 #[.pointer (some ⟨x, 0, none⟩), .int .i64 0, .string t] wx fun e w' => e = .returned (.int .i64 r) ∧ HdAt F w x ⟨es', kn', s.fs⟩ w') := fun x s wx t r es' kn' h ht hd => by
    obtain ⟨S, f1, s1⟩ := h.f
    refine Calls.mono (hF.does wx x S s 0 t r es' kn' h.glob f1 ht hd) ?_
    rintro e w2 ⟨rfl, S2, f2, s2, hc2⟩
    exact ⟨rfl, h.next s1 hG f2 s2 hc2⟩
  have HA : Hid (∀ x s wx i t u, HdAt F w x s wx → t.size ≤ 1048576 → askR s.es s.kn i (toL t) = (toL u, 0) → Calls Tryz.prog 20 #[.pointer (some ⟨x, 0, none⟩), .int .i64 i, .string t] wx fun e w' => e = .returned (.tuple #[.string u, .int .i64 0]) ∧ HdAt F w x s w') := fun x s wx i t u h ht ha => by
    obtain ⟨S, f1, s1⟩ := h.f
    refine Calls.mono (hF.asks wx x S s i t h.glob f1 ht) ?_
    rw [ha]
    rintro e w2 ⟨u', rfl, hu, S2, f2, s2, hc2⟩
    have : u' = u := toL_inj hu
    subst this
    exact ⟨rfl, h.next s1 hG f2 s2 hc2⟩
  have HK : Hid (∀ x s wx, HdAt F w x s wx → knowsR s.kn 0 = (3, 0) → Calls Tryz.prog 18 #[.pointer (some ⟨x, 0, none⟩), .int .i64 0] wx fun e w' => e = .returned (.tuple #[.int .i64 3, .int .i64 0]) ∧ HdAt F w x s w') := fun x s wx h hk => by
    obtain ⟨S, f1, s1⟩ := h.f
    refine Calls.mono (hF.knows wx x S s 0 h.glob f1) ?_
    rw [hk]
    rintro e w2 ⟨rfl, S2, f2, s2, hc2⟩
    exact ⟨rfl, h.next s1 hG f2 s2 hc2⟩
  have HS : Hid (∀ x wx, HdAt F w x ⟨[hE1, hE2, hE3], [[true, true, true], []], []⟩ wx → Calls Tryz.prog 29 #[.pointer (some ⟨x, 0, none⟩), .int .i64 0, .int .i64 1] wx fun e w' => e = .returned (.tuple #[.int .i64 1, .int .i64 0]) ∧ ∃ b, HdAt F w x ⟨[hE1, hE2, hE3], [[true, true, true], []], [⟨0, 1, 0, [true, true, true], b⟩]⟩ w') := fun x wx h => by
    obtain ⟨S, f1, s1⟩ := h.f
    refine Calls.mono (hF.sends wx x S _ 0 1 h.glob f1) ?_
    rw [hsend]
    rintro e w2 ⟨rfl, S2, s', ⟨t1, t2, t3⟩, f2, s2, hc2⟩
    rw [hsend, if_pos rfl] at t3
    obtain ⟨b, hb⟩ := t3
    obtain ⟨a1, a2, a3⟩ := s'
    simp only at t1 t2 hb
    subst t1 t2 hb
    exact ⟨rfl, b, h.next s1 hG f2 s2 hc2⟩
  have HL : Hid (∀ x wx b, HdAt F w x ⟨[hE1, hE2, hE3], [[true, true, true], []], [⟨0, 1, 0, [true, true, true], b⟩]⟩ wx → Calls Tryz.prog 23 #[.pointer (some ⟨x, 0, none⟩), .int .i64 1] wx fun e w' => e = .returned (.tuple #[.int .i64 2, .int .i64 0]) ∧ ∃ fs, HdAt F w x ⟨[hE1, hE2, hE3], [[true, true, true], [true, true, true]], fs⟩ w') := fun x wx b h => by
    obtain ⟨S, f1, s1⟩ := h.f
    refine Calls.mono (hF.dels wx x S _ 1 h.glob f1) ?_
    have e1 : delR ⟨[hE1, hE2, hE3], [[true, true, true], []], [⟨0, 1, 0, [true, true, true], b⟩]⟩ 1 = (2, 0) := rfl
    have e2 : frNo ⟨[hE1, hE2, hE3], [[true, true, true], []], [⟨0, 1, 0, [true, true, true], b⟩]⟩ 1 = some ⟨0, 1, 0, [true, true, true], b⟩ := rfl
    rw [e1]
    rintro e w2 ⟨rfl, S2, s', ⟨t1, t2⟩, f2, s2, hc2⟩
    rw [e2] at t2
    obtain ⟨a1, a2, a3⟩ := s'
    simp only at t1 t2
    rw [if_neg (by simp)] at t2
    obtain ⟨t2, b', t3⟩ := t2
    have e3 : ([[true, true, true], []] : List (List Bool)).set 1 (delK (([[true, true, true], []] : List (List Bool)).getD 1 []) [true, true, true]) = [[true, true, true], [true, true, true]] := by decide +kernel
    rw [e3] at t2
    subst t1 t2
    exact ⟨rfl, a3, h.next s1 hG f2 s2 hc2⟩
  clear hF hG
  go_enter Tryz.func25, Tryz.ntmps25
  go_wp2_with fail
  refine Calls.mono HN.out ?_
  rintro e w1 ⟨x, rfl, h1⟩
  go_wp2_with fail
  refine Calls.mono (HD.out x _ w1 _ _ _ _ h1 (by decide) hd1) ?_
  rintro e w2 ⟨rfl, h2⟩
  clear h1
  go_wp2_with fail
  refine Calls.mono (HD.out x _ w2 _ _ _ _ h2 (by decide) hd2) ?_
  rintro e w3 ⟨rfl, h3⟩
  clear h2
  go_wp2_with fail
  refine Calls.mono (HD.out x _ w3 _ _ _ _ h3 (by decide) hd3) ?_
  rintro e w4 ⟨rfl, h4⟩
  clear h3
  go_wp2_with fail
  refine Calls.mono (HA.out x _ w4 0 _ ⟨#[98]⟩ h4 (by decide) hask) ?_
  rintro e w5 ⟨rfl, h5⟩
  clear h4
  go_wp2_with fail
  refine Calls.mono (HK.out x _ w5 h5 hkn) ?_
  rintro e w6 ⟨rfl, h6⟩
  clear h5
  go_wp2_with fail
  refine Calls.mono (HS.out x w6 h6) ?_
  rintro e w7 ⟨rfl, b, h7⟩
  clear h6
  go_wp2_with fail
  refine Calls.mono (HL.out x w7 b h7) ?_
  rintro e w8 ⟨rfl, fs, h8⟩
  clear h7
  go_wp2_with fail
  refine Calls.mono (HA.out x _ w8 1 _ ⟨#[98]⟩ h8 (by decide) hask1) ?_
  rintro e w9 ⟨rfl, h9⟩
  have H9 : Hid (Below w.heap.size w w9) := h9.bel
  clear h8 h9 HN HD HA HK HS HL
  go_wp2
  go_ret
  exact ⟨rfl, H9.out⟩

def isRef (t : TypeId) : Prop := t = 152 ∨ t = 147 ∨ t = 207 ∨ t = 201 ∨ t = 3
structure ProgFrame (F : Stt) : Prop where
  stable : ∀ {M : Nat → Prop} {w w' : World} {x : Nat} {S : Nat → Prop} {s : St}, F w x S s → Chg M w w' → (∀ k, S k → ¬ M k) → F w' x S s
  tags : ∀ {w : World} {x : Nat} {S : Nat → Prop} {s : St} {k : Nat} {t : TypeId}, F w x S s → S k → Tagged w k t → ¬ isRef t ∧ t ≠ 4 ∧ t ≠ 141 ∧ t ≠ 54 ∧ t ≠ 93
  lt : ∀ {w : World} {x : Nat} {S : Nat → Prop} {s : St} {k : Nat}, F w x S s → S k → k < w.heap.size
structure RefFrame (G : Stt) : Prop where
  stable : ∀ {M : Nat → Prop} {w w' : World} {c : Nat} {R : Nat → Prop} {s : St}, G w c R s → Chg M w w' → (∀ k, R k → ¬ M k) → (∀ b, Tagged w b 4 → ¬ M b) → IntsKept w w' → G w' c R s
  tags : ∀ {w : World} {c : Nat} {R : Nat → Prop} {s : St} {k : Nat}, G w c R s → R k → ∃ t, isRef t ∧ Tagged w k t
theorem tag_same {w : World} {k : Nat} {t t' : TypeId} (h : Tagged w k t) (h' : Tagged w k t') : t = t' := Classical.byContradiction fun e => h.ne h' e rfl
theorem isRef_ne {t : TypeId} (h : isRef t) : t ≠ 4 ∧ t ≠ 141 ∧ t ≠ 54 ∧ t ≠ 93 := by
  rcases h with rfl | rfl | rfl | rfl | rfl <;> decide

structure PairAt (F G : Stt) (w : World) (pb x : Nat) (S : Nat → Prop) (c : Nat) (R : Nat → Prop) (s : St) : Prop where
  tag : Tagged w pb 141
  c0 : w.cell? ⟨pb, 0, none⟩ = some (.pointer (some ⟨x, 0, none⟩))
  c1 : w.cell? ⟨pb, 1, none⟩ = some (.pointer (some ⟨c, 0, none⟩))
  f : F w x S s
  r : G w c R s

variable {F G : Stt}
theorem fr_sr (hP : ProgFrame F) (hQ : RefFrame G) {w : World} {x : Nat} {S : Nat → Prop} {s s2 : St} {c : Nat} {R : Nat → Prop} (hf : F w x S s) (hg : G w c R s2) (k : Nat) (hs : S k) (hr : R k) : False := by
  obtain ⟨t, h1, h2⟩ := hQ.tags hg hr
  exact (hP.tags hf hs h2).1 h1
theorem RefFrame.lt (hQ : RefFrame G) {w : World} {c : Nat} {R : Nat → Prop} {s : St} {k : Nat} (hg : G w c R s) (hr : R k) : k < w.heap.size := by
  obtain ⟨t, _, h2⟩ := hQ.tags hg hr
  exact h2.lt
theorem RefFrame.below (hQ : RefFrame G) {w w' : World} {c : Nat} {R : Nat → Prop} {s : St} (hg : G w c R s) (hb : Below w.heap.size w w') : G w' c R s := hQ.stable hg (Chg.of_below (M := fun _ => False) hb) (fun _ _ h => h) (fun _ _ h => h) (IntsKept.of_below hb)
theorem ProgFrame.below (hP : ProgFrame F) {w w' : World} {x : Nat} {S : Nat → Prop} {s : St} (hf : F w x S s) (hb : Below w.heap.size w w') : F w' x S s := hP.stable hf (Chg.of_below (M := fun _ => False) hb) (fun _ _ h => h)
theorem PairAt.below (hP : ProgFrame F) (hQ : RefFrame G) {w w' : World} {pb x : Nat} {S : Nat → Prop} {c : Nat} {R : Nat → Prop} {s : St} (h : PairAt F G w pb x S c R s) (hb : Below w.heap.size w w') : PairAt F G w' pb x S c R s :=
  ⟨h.tag.below hb, (hb.cell (p := ⟨pb, 0, none⟩) h.tag.lt).trans h.c0, (hb.cell (p := ⟨pb, 1, none⟩) h.tag.lt).trans h.c1, hP.below h.f hb, hQ.below h.r hb⟩

structure Mid0 (F G : Stt) (S R : Nat → Prop) (w0 : World) (pb x c : Nat) (s1 s2 : St) (wx : World) : Prop where
  tag : Tagged wx pb 141
  p0 : wx.cell? ⟨pb, 0, none⟩ = some (.pointer (some ⟨x, 0, none⟩))
  p1 : wx.cell? ⟨pb, 1, none⟩ = some (.pointer (some ⟨c, 0, none⟩))
  f : ∃ S', F wx x S' s1 ∧ ∀ k, S' k → S k ∨ w0.heap.size ≤ k
  g : ∃ R', G wx c R' s2 ∧ ∀ k, R' k → R k ∨ w0.heap.size ≤ k
  chg : Chg (fun k => S k ∨ R k) w0 wx
  ints : IntsKept w0 wx
  glob : Glob wx
  s4 : (∀ k, S k → 4 ≤ k) ∧ (∀ k, R k → 4 ≤ k) ∧ 4 ≤ w0.heap.size
abbrev stepO (o : StepD) : Obj := .cells #[.int .i64 o.kind, .int .i64 o.a, .int .i64 o.n, .int .i64 o.m, .string o.s] 56
structure Mid (F G : Stt) (S R : Nat → Prop) (w0 : World) (bx : Nat) (o : StepD) (pb x c : Nat) (s1 s2 : St) (wx : World) : Prop where
  m : Mid0 F G S R w0 pb x c s1 s2 wx
  bk : Blk w0 bx #[.int .i64 o.kind, .int .i64 o.a, .int .i64 o.n, .int .i64 o.m, .string o.s] 56
  bS : ¬ S bx
  bR : ¬ R bx

section
variable {S R : Nat → Prop} {w0 : World} {bx : Nat} {o : StepD} {pb x c : Nat} {s1 s2 : St} {wx wy : World}
theorem Mid0.cell (h : Mid0 F G S R w0 pb x c s1 s2 wx) {b : Nat} (hb : b < w0.heap.size) (hS : ¬ S b) (hR : ¬ R b) (i : Nat) : wx.cell? ⟨b, i, none⟩ = w0.cell? ⟨b, i, none⟩ := World.cell?_of_block (w := w0) (h.chg.block b hb (fun h2 => h2.elim hS hR))
theorem Mid.p0 (h : Mid F G S R w0 bx o pb x c s1 s2 wx) : wx.cell? ⟨pb, 0, none⟩ = some (.pointer (some ⟨x, 0, none⟩)) := h.m.p0
theorem Mid.p1 (h : Mid F G S R w0 bx o pb x c s1 s2 wx) : wx.cell? ⟨pb, 1, none⟩ = some (.pointer (some ⟨c, 0, none⟩)) := h.m.p1
theorem Mid.b0 (h : Mid F G S R w0 bx o pb x c s1 s2 wx) : wx.cell? ⟨bx, 0, none⟩ = some (.int .i64 o.kind) := (h.m.cell h.bk.lt h.bS h.bR 0).trans ((h.bk.cell 0).trans rfl)
theorem Mid.b2 (h : Mid F G S R w0 bx o pb x c s1 s2 wx) : wx.cell? ⟨bx, 2, none⟩ = some (.int .i64 o.n) := (h.m.cell h.bk.lt h.bS h.bR 2).trans ((h.bk.cell 2).trans rfl)
theorem Mid.b3 (h : Mid F G S R w0 bx o pb x c s1 s2 wx) : wx.cell? ⟨bx, 3, none⟩ = some (.int .i64 o.m) := (h.m.cell h.bk.lt h.bS h.bR 3).trans ((h.bk.cell 3).trans rfl)
theorem Mid.b4 (h : Mid F G S R w0 bx o pb x c s1 s2 wx) : wx.cell? ⟨bx, 4, none⟩ = some (.string o.s) := (h.m.cell h.bk.lt h.bS h.bR 4).trans ((h.bk.cell 4).trans rfl)
theorem Mid0.below (hP : ProgFrame F) (hQ : RefFrame G) (h : Mid0 F G S R w0 pb x c s1 s2 wx) (hb : Below wx.heap.size wx wy) : Mid0 F G S R w0 pb x c s1 s2 wy := by
  obtain ⟨S', h1, h2⟩ := h.f
  obtain ⟨R', h3, h4⟩ := h.g
  exact ⟨h.tag.below hb, (hb.cell (p := ⟨pb, 0, none⟩) h.tag.lt).trans h.p0, (hb.cell (p := ⟨pb, 1, none⟩) h.tag.lt).trans h.p1, ⟨S', hP.below h1 hb, h2⟩, ⟨R', hQ.below h3 hb, h4⟩, h.chg.below hb, h.ints.trans (IntsKept.of_below hb), h.glob.mono hb, h.s4⟩
theorem Mid.below (hP : ProgFrame F) (hQ : RefFrame G) (h : Mid F G S R w0 bx o pb x c s1 s2 wx) (hb : Below wx.heap.size wx wy) : Mid F G S R w0 bx o pb x c s1 s2 wy := ⟨h.m.below hP hQ hb, h.bk, h.bS, h.bR⟩
theorem Mid.drew (hP : ProgFrame F) (hQ : RefFrame G) (h : Mid F G S R w0 bx o pb x c s1 s2 wx) : Mid F G S R w0 bx o pb x c s1 s2 wx.drew := h.below hP hQ (Below.refl _ _).drew
theorem Mid0.drew (hP : ProgFrame F) (hQ : RefFrame G) (h : Mid0 F G S R w0 pb x c s1 s2 wx) : Mid0 F G S R w0 pb x c s1 s2 wx.drew := h.below hP hQ (Below.refl _ _).drew
theorem Mid.drewN (hP : ProgFrame F) (hQ : RefFrame G) (h : Mid F G S R w0 bx o pb x c s1 s2 wx) (n : Nat) : Mid F G S R w0 bx o pb x c s1 s2 (wx.drewN n) := h.below hP hQ (below_drewN (Below.refl _ _) n)
theorem glob4 {wx wy : World} (h : Glob wx) (hb4 : Below 4 wx wy) : Glob wy := by
  obtain ⟨⟨m, g1⟩, ⟨e1, g2, g2'⟩, ⟨e2, g3, g3'⟩, g4, g5⟩ := h
  refine ⟨⟨m, (hb4.cell (p := ⟨0, 0, none⟩) (by decide)).trans g1⟩, ⟨e1, (hb4.cell (p := ⟨1, 0, none⟩) (by decide)).trans g2, g2'⟩, ⟨e2, (hb4.cell (p := ⟨2, 0, none⟩) (by decide)).trans g3, g3'⟩, ?_, Nat.lt_of_lt_of_le g5 hb4.size⟩
  exact var?_below (g := 3) hb4 (by kernel_rfl) (by decide) g4

theorem Mid0.prog (hP : ProgFrame F) (hQ : RefFrame G) (h : Mid0 F G S R w0 pb x c s1 s2 wx) {S1 S2 : Nat → Prop} {s1' : St} (h1 : F wx x S1 s1) (hs1 : ∀ k, S1 k → S k ∨ w0.heap.size ≤ k) (hf : F wy x S2 s1') (hs2 : ∀ k, S2 k → S1 k ∨ wx.heap.size ≤ k) (hc : Chg S1 wx wy) : Mid0 F G S R w0 pb x c s1' s2 wy := by
  obtain ⟨R', h3, h4⟩ := h.g
  have hpb : ¬ S1 pb := fun hs => (hP.tags h1 hs h.tag).2.2.1 rfl
  have hcp : ∀ i, wy.cell? ⟨pb, i, none⟩ = wx.cell? ⟨pb, i, none⟩ := fun i => World.cell?_of_block (w := wx) (hc.block pb h.tag.lt hpb)
  have hik : IntsKept wx wy := IntsKept.of_chg hc (fun b hb hs => (hP.tags h1 hs hb).1 (Or.inr (Or.inr (Or.inr (Or.inr rfl)))))
  refine ⟨h.tag.chg hc hpb, (hcp 0).trans h.p0, (hcp 1).trans h.p1, ⟨S2, hf, fun k hk => (hs2 k hk).elim (hs1 k) (fun h2 => Or.inr (Nat.le_trans h.chg.size h2))⟩, ⟨R', hQ.stable h3 hc (fun k hr hs => fr_sr hP hQ h1 h3 k hs hr) (fun b hb hs => (hP.tags h1 hs hb).2.1 rfl) hik, h4⟩, ?_, h.ints.trans hik, ?_, h.s4⟩
  · refine ⟨hc.os.trans h.chg.os, hc.tape.trans h.chg.tape, hc.output.trans h.chg.output, Nat.le_trans h.chg.size hc.size, fun k hk hn => ?_⟩
    exact (hc.block k (Nat.lt_of_lt_of_le hk h.chg.size) (fun hs => (hs1 k hs).elim (fun h2 => hn (Or.inl h2)) (fun h2 => by omega))).trans (h.chg.block k hk hn)
  · exact glob4 h.glob (chgS_below hc (fun k hk => (hs1 k hk).elim (h.s4.1 k) (fun h2 => Nat.le_trans h.s4.2.2 h2)) (Nat.le_trans h.s4.2.2 h.chg.size))
theorem Mid0.ref (hP : ProgFrame F) (hQ : RefFrame G) (h : Mid0 F G S R w0 pb x c s1 s2 wx) {R1 R2 : Nat → Prop} {s2' : St} (h1 : G wx c R1 s2) (hs1 : ∀ k, R1 k → R k ∨ w0.heap.size ≤ k) (hf : G wy c R2 s2') (hs2 : ∀ k, R2 k → R1 k ∨ wx.heap.size ≤ k) (hc : Chg R1 wx wy) (hik : IntsKept wx wy) : Mid0 F G S R w0 pb x c s1 s2' wy := by
  obtain ⟨S', h3, h4⟩ := h.f
  have hpb : ¬ R1 pb := fun hs => by
    obtain ⟨t, h5, h6⟩ := hQ.tags h1 hs
    exact (isRef_ne h5).2.1 (tag_same h6 h.tag)
  have hcp : ∀ i, wy.cell? ⟨pb, i, none⟩ = wx.cell? ⟨pb, i, none⟩ := fun i => World.cell?_of_block (w := wx) (hc.block pb h.tag.lt hpb)
  refine ⟨h.tag.chg hc hpb, (hcp 0).trans h.p0, (hcp 1).trans h.p1, ⟨S', hP.stable h3 hc (fun k hs hr => fr_sr hP hQ h3 h1 k hs hr), h4⟩, ⟨R2, hf, fun k hk => (hs2 k hk).elim (hs1 k) (fun h2 => Or.inr (Nat.le_trans h.chg.size h2))⟩, ?_, h.ints.trans hik, ?_, h.s4⟩
  · refine ⟨hc.os.trans h.chg.os, hc.tape.trans h.chg.tape, hc.output.trans h.chg.output, Nat.le_trans h.chg.size hc.size, fun k hk hn => ?_⟩
    exact (hc.block k (Nat.lt_of_lt_of_le hk h.chg.size) (fun hs => (hs1 k hs).elim (fun h2 => hn (Or.inr h2)) (fun h2 => by omega))).trans (h.chg.block k hk hn)
  · exact glob4 h.glob (chgS_below hc (fun k hk => (hs1 k hk).elim (h.s4.2.1 k) (fun h2 => Nat.le_trans h.s4.2.2 h2)) (Nat.le_trans h.s4.2.2 h.chg.size))

def Told (F G : Stt) (S R : Nat → Prop) (w : World) (pb x c : Nat) (s : St) (w' : World) : Prop :=
  ∃ S' R', PairAt F G w' pb x S' c R' s ∧ (∀ k, S' k → S k ∨ w.heap.size ≤ k) ∧ (∀ k, R' k → R k ∨ w.heap.size ≤ k) ∧ Chg (fun k => S k ∨ R k) w w' ∧ IntsKept w w'
theorem Mid0.start (hP : ProgFrame F) (hQ : RefFrame G) {w w' : World} (hG : Glob w) {s : St} (h : PairAt F G w pb x S c R s) (h4 : (∀ k, S k → 4 ≤ k) ∧ (∀ k, R k → 4 ≤ k)) (hb : Below w.heap.size w w') : Mid0 F G S R w pb x c s s w' := by
  have h2 := h.below hP hQ hb
  exact ⟨h2.tag, h2.c0, h2.c1, ⟨S, h2.f, fun k hk => Or.inl hk⟩, ⟨R, h2.r, fun k hk => Or.inl hk⟩, Chg.of_below hb, IntsKept.of_below hb, hG.mono hb, h4.1, h4.2, hG.size⟩
theorem Mid0.fin {w : World} {s : St} (h : Mid0 F G S R w pb x c s s wx) : Told F G S R w pb x c s wx := by
  obtain ⟨S', h1, h2⟩ := h.f
  obtain ⟨R', h3, h4⟩ := h.g
  exact ⟨S', R', ⟨h.tag, h.p0, h.p1, h1, h3⟩, h2, h4, h.chg, h.ints⟩
theorem Mid.start (hP : ProgFrame F) (hQ : RefFrame G) {w : World} (hG : Glob w) {s : St} (h : PairAt F G w pb x S c R s) (h4 : (∀ k, S k → 4 ≤ k) ∧ (∀ k, R k → 4 ≤ k)) (o : StepD) : Mid F G S R (w.alloc (stepO o)) w.heap.size o pb x c s s (w.alloc (stepO o)) := by
  have hb : Below w.heap.size w (w.alloc (stepO o)) := (Below.refl _ w).alloc (Nat.le_refl _) _
  exact ⟨Mid0.start hP hQ (hG.mono hb) (h.below hP hQ hb) h4 (Below.refl _ _), Blk.new w _ _, fun hk => by have := hP.lt h.f hk; omega, fun hk => by have := hQ.lt h.r hk; omega⟩
theorem Mid.fin {w : World} {s : St} (h : Mid F G S R (w.alloc (stepO o)) w.heap.size o pb x c s s wx) : Told F G S R w pb x c s wx := by
  obtain ⟨S', R', h1, h2, h3, h4, h5⟩ := h.m.fin
  have hb : Below w.heap.size w (w.alloc (stepO o)) := (Below.refl _ w).alloc (Nat.le_refl _) _
  exact ⟨S', R', h1, fun k hk => (h2 k hk).imp id (fun h5 => Nat.le_trans hb.size h5), fun k hk => (h3 k hk).imp id (fun h5 => Nat.le_trans hb.size h5), (Chg.of_below hb).trans h4, (IntsKept.of_below hb).trans h5⟩
end
end Go.Proofs.YtoiiaankpnhppaaGreatDoor

