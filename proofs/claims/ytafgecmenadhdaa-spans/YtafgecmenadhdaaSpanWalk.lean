/- The statement Spans: the walk of the law. -/
import Derived.Test.YtafgecmenadhdaaSpanPure
namespace Go.Proofs.Ytafgecmenadhdaa
open Go.RowKit Go.Lib Go.MuLone

theorem bad1 {a n : Int} (h0 : 0 ≤ a) (h1 : 1 ≤ n) (h2 : a + n ≤ 64) : badS a n = false ∧ fromS a n = a ∧ toS a n = a + n - 1 := by
  refine ⟨by simp [badS]; omega, ?_, ?_⟩
  · unfold fromS; rw [if_neg (by omega)]
  · unfold toS; rw [if_neg (by omega), if_pos (by omega)]
theorem bad2 {a n : Int} (h0 : 0 ≤ a) (h1 : 1 ≤ n) (h2 : a + n ≤ 64) : badS (a + n) (-n) = false ∧ fromS (a + n) (-n) = a ∧ toS (a + n) (-n) = a + n - 1 := by
  refine ⟨by simp [badS]; omega, ?_, ?_⟩
  · unfold fromS; rw [if_pos (by omega)]; omega
  · unfold toS; rw [if_neg (by omega), if_neg (by omega)]
theorem bad3 {a n : Int} (h0 : 0 ≤ a) (h1 : 1 ≤ n) (h2 : a + n = 64) : badS a 0 = false ∧ fromS a 0 = a ∧ toS a 0 = a + n - 1 := by
  refine ⟨by simp [badS]; omega, by simp [fromS], by simp [toS]; omega⟩
theorem Kp.toBelow {base kb : Nat} {w W W' : World} (hp : Kp [kb] W W') (h : Below base w W) (hkb : base ≤ kb) (hb : base ≤ W.heap.size) : Below base w W' :=
  h.trans ⟨hp.os, hp.tape, hp.output, hp.size, fun k hk => hp.block k (by omega) (by simp; omega)⟩
/-- The reply that the law holds in its own variable. -/
def Res (W : World) (rb : Nat) : Prop := W.heap[rb]? = some (.cells #[.int .i64 0, .int .i64 0, .slice none 0 0] 31 (0, 0))
theorem Res.cells {W : World} {rb : Nat} (h : Res W rb) : W.cell? ⟨rb, 0, none⟩ = some (.int .i64 0) ∧ W.cell? ⟨rb, 1, none⟩ = some (.int .i64 0) ∧ W.cell? ⟨rb, 2, none⟩ = some (.slice none 0 0) ∧ ∀ o, W.frozen? ⟨rb, o, none⟩ = false := reply_block h
theorem Res.again {W : World} {rb : Nat} (h : Res W rb) : Res (((W.setCell ⟨rb, 0, none⟩ (.int .i64 0)).setCell ⟨rb, 1, none⟩ (.int .i64 0)).setCell ⟨rb, 2, none⟩ (.slice none 0 0)) rb := by
  unfold Res at *
  rw [heap_setCell_at (heap_setCell_at (heap_setCell_at h))]
  rfl

set_option maxHeartbeats 16000000 in
set_option maxRecDepth 100000 in
theorem Spans_any (x y z : Int) (w : World) (hx : -9223372036854775808 ≤ x ∧ x ≤ 9223372036854775807) (hy : -9223372036854775808 ≤ y ∧ y ≤ 9223372036854775807) :
    Calls Try.prog 4 #[.int .i64 x, .int .i64 y, .int .i64 z] w fun e w' => e = .returned (.bool true) ∧ Below w.heap.size w w' := by
  have HX := Hid.mk hx
  have HY := Hid.mk hy
  clear hx hy
  have HS := Hid.mk (some_any 3 (by omega) (by omega))
  cases h3 : (z.tmod 3 == 0) <;> cases h2 : (z.tmod 2 == 0)
  · go_enter Try.func4, Try.ntmps4
    go_wp2_with fail
    refine (HS.out w).mono ?_
    rintro e w1 ⟨kb, tb, mb, s, rfl, hk1, hs1, hb1, b1, b2, b3⟩
    have HK1 := Hid.mk hk1
    have HS1 := Hid.mk (SpOk.mk hs1.l hs1.f (hs1.r 0))
    have HB1 := Hid.mk hb1
    clear hk1 hs1 hb1
    go_wp2_with fail
    refine (pick_any x 64 _ HX.out.1 HX.out.2 (by omega) (by omega)).mono ?_
    rintro e w2 ⟨a, rfl, ha0, ha1, hw⟩
    have hw2 := hw.symm; clear hw; subst hw2
    go_wp2_with fail
    refine (pick_any y (64 - a) _ HY.out.1 HY.out.2 (by omega) (by omega)).mono ?_
    rintro e w2 ⟨m, rfl, hm0, hm1, hw⟩
    have hw2 := hw.symm; clear hw; subst hw2
    go_wp2_with fail
    generalize hnn : (1 + m : Int) = n at *
    have hn1 : 1 ≤ n := by omega
    have hn3 : a + n ≤ 64 := by omega
    clear hnn hm1
    refine (lockS HK1.out HS1.out a n hn1 (Or.inl rfl) a n (bad1 ha0 hn1 hn3).1 (bad1 ha0 hn1 hn3).2.1 (bad1 ha0 hn1 hn3).2.2 _).mono ?_
    rintro e w2 ⟨s2, rfl, hk2, hs2, hp2⟩
    obtain ⟨rb, hrb⟩ : ∃ rb, rb = w2.heap.size := ⟨_, rfl⟩
    have HKX := Hid.mk (hk2.below ((Below.refl _ _).alloc (Nat.le_refl _) (.cells #[.int .i64 0, .int .i64 0, .slice none 0 0] 31)))
    have HSX := Hid.mk hs2
    have HRX : Hid (Res (w2.alloc (.cells #[.int .i64 0, .int .i64 0, .slice none 0 0] 31)) rb) := by rw [hrb]; exact heap_alloc_new w2 _
    have HWX := Hid.mk ((hp2.toBelow HB1.out b1 HB1.out.size).alloc (Nat.le_trans HB1.out.size hp2.size) (.cells #[.int .i64 0, .int .i64 0, .slice none 0 0] 31))
    have hrk : kb < rb := by rw [hrb]; exact hk2.lt
    have hrz : w.heap.size ≤ rb := by omega
    clear hk2 hs2 hp2
    go_wp2_with fail
    rw [← hrb]
    generalize hWX : w2.alloc (.cells #[.int .i64 0, .int .i64 0, .slice none 0 0] 31) = WX at *
    clear hWX hrb
    refine (Runs_any HKX.out 0 (by omega)).mono ?_
    rintro e w4 ⟨v4, rfl, ho4, hk4, hp4⟩
    rw [HSX.out.r] at ho4
    obtain ⟨g4, c4, rfl⟩ : ∃ g4 c4, v4 = .slice (some ⟨g4, 0, none⟩) 1 c4 := by
      rcases ho4.2 with ⟨_, h⟩ | ⟨g4, c4, cur, h, _⟩
      · simp at h
      · exact ⟨g4, c4, h⟩
    have z0 : w4.cell? ⟨g4, 0, none⟩ = some (.int .i64 1) := ho4.cellAt 0 (by simp)
    have z1 : w4.cell? ⟨g4, 1, none⟩ = some (.int .i64 2) := ho4.cellAt 1 (by simp)
    have z2 : w4.cell? ⟨g4, 2, none⟩ = some (.int .i64 a) := ho4.cellAt 2 (by simp)
    have z3 : w4.cell? ⟨g4, 3, none⟩ = some (.int .i64 (a + n - 1)) := ho4.cellAt 3 (by simp)
    have hg4 : g4 < w4.heap.size := (ho4.lt g4 rfl).2
    have hr4 : Res w4 rb := (hp4.block rb (Array.getElem?_eq_some_iff.1 HRX.out).1 (by simp; omega)).trans HRX.out
    obtain ⟨q0, q1, q2, qz⟩ := hr4.cells
    have HK4 := Hid.mk hk4
    have HW4 := Hid.mk (hp4.toBelow HWX.out b1 HWX.out.size)
    clear ho4 hk4 hp4 hr4 HKX HRX HWX
    go_wp2_with (go_at_call 10; refine (ok_any 0 0 0 w4).mono ?_; simp only [decide_true, Bool.and_self]; rintro e w5 ⟨rfl, hb5⟩; have y0 : w5.cell? ⟨g4, 0, none⟩ = some (.int .i64 1) := ((bcell hb5).1 _ _ hg4).trans z0; have y1 : w5.cell? ⟨g4, 1, none⟩ = some (.int .i64 2) := ((bcell hb5).1 _ _ hg4).trans z1; have y2 : w5.cell? ⟨g4, 2, none⟩ = some (.int .i64 a) := ((bcell hb5).1 _ _ hg4).trans z2; have y3 : w5.cell? ⟨g4, 3, none⟩ = some (.int .i64 (a + n - 1)) := ((bcell hb5).1 _ _ hg4).trans z3; have HK5 := Hid.mk (HK4.out.below hb5); have HW5 := Hid.mk (HW4.out.trans (hb5.mono HW4.out.size)); clear hb5)
    clear y0 y1 y2 y3 z0 z1 z2 z3 q0 q1 q2 qz
    go_loopw [13] (fun s13 wr => ∃ i : Nat, s13 = .int .i64 i ∧ i ≤ 64 ∧ Hid (KInv wr kb tb mb 0 s2) ∧ Hid (Below w.heap.size w wr)) (fun s13 _ => 64 - (intOf s13).toNat)
    case atStart => exact ⟨0, rfl, Nat.zero_le _, HK5.out, HW5.out⟩
    case round =>
      clear HK5 HW5 HK4 HW4 HK1 HS1 HB1 HS HX HY
      obtain ⟨i, rfl, hi, HKR, HWR⟩ := hrel
      by_cases hlt : i < 64
      · have hi63 : (i : Int) ≤ 63 := by omega
        by_cases hA : a ≤ (i : Int)
        · by_cases hB : (i : Int) < a + n
          · go_wp2_with fail
            refine (testS HKR.out HSX.out (i : Int) (by omega) (by omega) 1 (by first | rw [if_pos (by omega)] | rw [if_neg (by omega)])).mono ?_
            rintro e w6 ⟨rfl, hk6, hp6⟩
            have HK6 := Hid.mk hk6
            have HW6 := Hid.mk (hp6.toBelow HWR.out b1 HWR.out.size)
            clear hk6 hp6
            go_wp2_with fail
            refine (ok_any 0 1 1 w6).mono ?_
            simp only [decide_true, Bool.and_self]
            rintro e w7 ⟨rfl, hb7⟩
            have HK7 := Hid.mk (HK6.out.below hb7)
            have HW7 := Hid.mk (HW6.out.trans (hb7.mono HW6.out.size))
            clear hb7
            go_wp2_with fail
            refine (testOwn HK7.out HSX.out (i : Int) (by omega) (by omega)).mono ?_
            rintro e w8 ⟨rfl, hk8, hp8⟩
            have HK8 := Hid.mk hk8
            have HW8 := Hid.mk (hp8.toBelow HW7.out b1 HW7.out.size)
            clear hk8 hp8
            go_wp2_with fail
            refine (ok_any 0 (-1) (-1) w8).mono ?_
            simp only [decide_true, Bool.and_self]
            rintro e w9 ⟨rfl, hb9⟩
            have HK9 := Hid.mk (HK8.out.below hb9)
            have HW9 := Hid.mk (HW8.out.trans (hb9.mono HW8.out.size))
            clear hb9
            go_wp2
            go_roundw
            case rel => exact ⟨i + 1, by go_num, by omega, HK9.out, HW9.out⟩
            case measure => simp [intOf]; omega
          · go_wp2_with fail
            refine (testS HKR.out HSX.out (i : Int) (by omega) (by omega) (-1) (by first | rw [if_pos (by omega)] | rw [if_neg (by omega)])).mono ?_
            rintro e w6 ⟨rfl, hk6, hp6⟩
            have HK6 := Hid.mk hk6
            have HW6 := Hid.mk (hp6.toBelow HWR.out b1 HWR.out.size)
            clear hk6 hp6
            go_wp2_with fail
            refine (ok_any 0 (-1) (-1) w6).mono ?_
            simp only [decide_true, Bool.and_self]
            rintro e w7 ⟨rfl, hb7⟩
            have HK7 := Hid.mk (HK6.out.below hb7)
            have HW7 := Hid.mk (HW6.out.trans (hb7.mono HW6.out.size))
            clear hb7
            go_wp2_with fail
            refine (testOwn HK7.out HSX.out (i : Int) (by omega) (by omega)).mono ?_
            rintro e w8 ⟨rfl, hk8, hp8⟩
            have HK8 := Hid.mk hk8
            have HW8 := Hid.mk (hp8.toBelow HW7.out b1 HW7.out.size)
            clear hk8 hp8
            go_wp2_with fail
            refine (ok_any 0 (-1) (-1) w8).mono ?_
            simp only [decide_true, Bool.and_self]
            rintro e w9 ⟨rfl, hb9⟩
            have HK9 := Hid.mk (HK8.out.below hb9)
            have HW9 := Hid.mk (HW8.out.trans (hb9.mono HW8.out.size))
            clear hb9
            go_wp2
            go_roundw
            case rel => exact ⟨i + 1, by go_num, by omega, HK9.out, HW9.out⟩
            case measure => simp [intOf]; omega
        · go_wp2_with fail
          refine (testS HKR.out HSX.out (i : Int) (by omega) (by omega) (-1) (by first | rw [if_pos (by omega)] | rw [if_neg (by omega)])).mono ?_
          rintro e w6 ⟨rfl, hk6, hp6⟩
          have HK6 := Hid.mk hk6
          have HW6 := Hid.mk (hp6.toBelow HWR.out b1 HWR.out.size)
          clear hk6 hp6
          go_wp2_with fail
          refine (ok_any 0 (-1) (-1) w6).mono ?_
          simp only [decide_true, Bool.and_self]
          rintro e w7 ⟨rfl, hb7⟩
          have HK7 := Hid.mk (HK6.out.below hb7)
          have HW7 := Hid.mk (HW6.out.trans (hb7.mono HW6.out.size))
          clear hb7
          go_wp2_with fail
          refine (testOwn HK7.out HSX.out (i : Int) (by omega) (by omega)).mono ?_
          rintro e w8 ⟨rfl, hk8, hp8⟩
          have HK8 := Hid.mk hk8
          have HW8 := Hid.mk (hp8.toBelow HW7.out b1 HW7.out.size)
          clear hk8 hp8
          go_wp2_with fail
          refine (ok_any 0 (-1) (-1) w8).mono ?_
          simp only [decide_true, Bool.and_self]
          rintro e w9 ⟨rfl, hb9⟩
          have HK9 := Hid.mk (HK8.out.below hb9)
          have HW9 := Hid.mk (HW8.out.trans (hb9.mono HW8.out.size))
          clear hb9
          go_wp2
          go_roundw
          case rel => exact ⟨i + 1, by go_num, by omega, HK9.out, HW9.out⟩
          case measure => simp [intOf]; omega
      · have hi64 : ¬ (i : Int) ≤ 63 := by omega
        go_wp2_with fail
        refine (lockBusy HKR.out HSX.out ha0 (by omega) hn1 _).mono ?_
        rintro e w6 ⟨rfl, hk6, hp6⟩
        have HK6 := Hid.mk hk6
        have HW6 := Hid.mk (hp6.toBelow HWR.out b1 HWR.out.size)
        clear hk6 hp6
        go_wp2_with fail
        refine (ok_any 8 0 0 w6).mono ?_
        simp only [show decide ((8 : Int) = 0) = false from rfl, Bool.false_and]
        rintro e w7 ⟨rfl, hb7⟩
        have HK7 := Hid.mk (HK6.out.below hb7)
        have HW7 := Hid.mk (HW6.out.trans (hb7.mono HW6.out.size))
        clear hb7
        go_wp2_with fail
        refine (lockBad HK7.out HSX.out 1 1 a (65 - a) (by omega) (by omega) rfl (by omega) (by simp [badS]; omega) _).mono ?_
        rintro e w8 ⟨rfl, hk8, hp8⟩
        have HK8 := Hid.mk hk8
        have HW8 := Hid.mk (hp8.toBelow HW7.out b1 HW7.out.size)
        clear hk8 hp8
        go_wp2_with fail
        refine (is_any 7 0 7 w8).mono ?_
        simp only [decide_true, Bool.and_self]
        rintro e w9 ⟨rfl, hb9⟩
        have HK9 := Hid.mk (HK8.out.below hb9)
        have HW9 := Hid.mk (HW8.out.trans (hb9.mono HW8.out.size))
        clear hb9
        go_wp2_with fail
        refine (lockBad HK9.out HSX.out 1 0 a (-a - 1) (by omega) (by omega) rfl (by omega) (by simp [badS]; omega) _).mono ?_
        rintro e w10 ⟨rfl, hk10, hp10⟩
        have HK10 := Hid.mk hk10
        have HW10 := Hid.mk (hp10.toBelow HW9.out b1 HW9.out.size)
        clear hk10 hp10
        go_wp2_with fail
        refine (is_any 7 0 7 w10).mono ?_
        simp only [decide_true, Bool.and_self]
        rintro e w11 ⟨rfl, hb11⟩
        have HW11 := Hid.mk (HW10.out.trans (hb11.mono HW10.out.size))
        clear hb11
        go_wp2
        go_ret
        exact ⟨rfl, HW11.out⟩
  · go_enter Try.func4, Try.ntmps4
    go_wp2_with fail
    refine (HS.out w).mono ?_
    rintro e w1 ⟨kb, tb, mb, s, rfl, hk1, hs1, hb1, b1, b2, b3⟩
    have HK1 := Hid.mk hk1
    have HS1 := Hid.mk (SpOk.mk hs1.l hs1.f (hs1.r 0))
    have HB1 := Hid.mk hb1
    clear hk1 hs1 hb1
    go_wp2_with fail
    refine (pick_any x 64 _ HX.out.1 HX.out.2 (by omega) (by omega)).mono ?_
    rintro e w2 ⟨a, rfl, ha0, ha1, hw⟩
    have hw2 := hw.symm; clear hw; subst hw2
    go_wp2_with fail
    refine (pick_any y (64 - a) _ HY.out.1 HY.out.2 (by omega) (by omega)).mono ?_
    rintro e w2 ⟨m, rfl, hm0, hm1, hw⟩
    have hw2 := hw.symm; clear hw; subst hw2
    go_wp2_with fail
    generalize hnn : (1 + m : Int) = n at *
    have hn1 : 1 ≤ n := by omega
    have hn3 : a + n ≤ 64 := by omega
    clear hnn hm1
    refine (lockS HK1.out HS1.out a n hn1 (Or.inl rfl) a n (bad1 ha0 hn1 hn3).1 (bad1 ha0 hn1 hn3).2.1 (bad1 ha0 hn1 hn3).2.2 _).mono ?_
    rintro e w2 ⟨s2, rfl, hk2, hs2, hp2⟩
    obtain ⟨rb, hrb⟩ : ∃ rb, rb = w2.heap.size := ⟨_, rfl⟩
    have HKX := Hid.mk (hk2.below ((Below.refl _ _).alloc (Nat.le_refl _) (.cells #[.int .i64 0, .int .i64 0, .slice none 0 0] 31)))
    have HSX := Hid.mk hs2
    have HRX : Hid (Res (w2.alloc (.cells #[.int .i64 0, .int .i64 0, .slice none 0 0] 31)) rb) := by rw [hrb]; exact heap_alloc_new w2 _
    have HWX := Hid.mk ((hp2.toBelow HB1.out b1 HB1.out.size).alloc (Nat.le_trans HB1.out.size hp2.size) (.cells #[.int .i64 0, .int .i64 0, .slice none 0 0] 31))
    have hrk : kb < rb := by rw [hrb]; exact hk2.lt
    have hrz : w.heap.size ≤ rb := by omega
    clear hk2 hs2 hp2
    go_wp2_with fail
    rw [← hrb]
    generalize hWX : w2.alloc (.cells #[.int .i64 0, .int .i64 0, .slice none 0 0] 31) = WX at *
    clear hWX hrb
    refine (lockS HKX.out HSX.out a n hn1 (Or.inr rfl) (a + n) (-n) (bad2 ha0 hn1 hn3).1 (bad2 ha0 hn1 hn3).2.1 (bad2 ha0 hn1 hn3).2.2 _).mono ?_
    rintro e w3 ⟨s2, rfl, hk3, hs3, hp3⟩
    have hr3 : Res w3 rb := (hp3.block rb (Array.getElem?_eq_some_iff.1 HRX.out).1 (by simp; omega)).trans HRX.out
    obtain ⟨q0, q1, q2, qz⟩ := hr3.cells
    have HKY := Hid.mk (hk3.replied hr3 (.int .i64 0) (.int .i64 0) (.slice none 0 0))
    have HRY := Hid.mk hr3.again
    have HWY := Hid.mk ((((hp3.toBelow HWX.out b1 HWX.out.size).setCell (p := ⟨rb, 0, none⟩) hrz (.int .i64 0)).setCell (p := ⟨rb, 1, none⟩) hrz (.int .i64 0)).setCell (p := ⟨rb, 2, none⟩) hrz (.slice none 0 0))
    clear HKX HSX HRX HWX
    have HSX := Hid.mk hs3
    clear hk3 hs3 hp3 hr3
    go_wp2_with fail
    generalize hWY : ((w3.setCell ⟨rb, 0, none⟩ (.int .i64 0)).setCell ⟨rb, 1, none⟩ (.int .i64 0)).setCell ⟨rb, 2, none⟩ (.slice none 0 0) = WY at *
    have HKX := HKY
    have HRX := HRY
    have HWX := HWY
    clear hWY q0 q1 q2 qz HKY HRY HWY
    refine (Runs_any HKX.out 0 (by omega)).mono ?_
    rintro e w4 ⟨v4, rfl, ho4, hk4, hp4⟩
    rw [HSX.out.r] at ho4
    obtain ⟨g4, c4, rfl⟩ : ∃ g4 c4, v4 = .slice (some ⟨g4, 0, none⟩) 1 c4 := by
      rcases ho4.2 with ⟨_, h⟩ | ⟨g4, c4, cur, h, _⟩
      · simp at h
      · exact ⟨g4, c4, h⟩
    have z0 : w4.cell? ⟨g4, 0, none⟩ = some (.int .i64 1) := ho4.cellAt 0 (by simp)
    have z1 : w4.cell? ⟨g4, 1, none⟩ = some (.int .i64 2) := ho4.cellAt 1 (by simp)
    have z2 : w4.cell? ⟨g4, 2, none⟩ = some (.int .i64 a) := ho4.cellAt 2 (by simp)
    have z3 : w4.cell? ⟨g4, 3, none⟩ = some (.int .i64 (a + n - 1)) := ho4.cellAt 3 (by simp)
    have hg4 : g4 < w4.heap.size := (ho4.lt g4 rfl).2
    have hr4 : Res w4 rb := (hp4.block rb (Array.getElem?_eq_some_iff.1 HRX.out).1 (by simp; omega)).trans HRX.out
    obtain ⟨q0, q1, q2, qz⟩ := hr4.cells
    have HK4 := Hid.mk hk4
    have HW4 := Hid.mk (hp4.toBelow HWX.out b1 HWX.out.size)
    clear ho4 hk4 hp4 hr4 HKX HRX HWX
    go_wp2_with (go_at_call 10; refine (ok_any 0 0 0 w4).mono ?_; simp only [decide_true, Bool.and_self]; rintro e w5 ⟨rfl, hb5⟩; have y0 : w5.cell? ⟨g4, 0, none⟩ = some (.int .i64 1) := ((bcell hb5).1 _ _ hg4).trans z0; have y1 : w5.cell? ⟨g4, 1, none⟩ = some (.int .i64 2) := ((bcell hb5).1 _ _ hg4).trans z1; have y2 : w5.cell? ⟨g4, 2, none⟩ = some (.int .i64 a) := ((bcell hb5).1 _ _ hg4).trans z2; have y3 : w5.cell? ⟨g4, 3, none⟩ = some (.int .i64 (a + n - 1)) := ((bcell hb5).1 _ _ hg4).trans z3; have HK5 := Hid.mk (HK4.out.below hb5); have HW5 := Hid.mk (HW4.out.trans (hb5.mono HW4.out.size)); clear hb5)
    clear y0 y1 y2 y3 z0 z1 z2 z3 q0 q1 q2 qz
    go_loopw [13] (fun s13 wr => ∃ i : Nat, s13 = .int .i64 i ∧ i ≤ 64 ∧ Hid (KInv wr kb tb mb 0 s2) ∧ Hid (Below w.heap.size w wr)) (fun s13 _ => 64 - (intOf s13).toNat)
    case atStart => exact ⟨0, rfl, Nat.zero_le _, HK5.out, HW5.out⟩
    case round =>
      clear HK5 HW5 HK4 HW4 HK1 HS1 HB1 HS HX HY
      obtain ⟨i, rfl, hi, HKR, HWR⟩ := hrel
      by_cases hlt : i < 64
      · have hi63 : (i : Int) ≤ 63 := by omega
        by_cases hA : a ≤ (i : Int)
        · by_cases hB : (i : Int) < a + n
          · go_wp2_with fail
            refine (testS HKR.out HSX.out (i : Int) (by omega) (by omega) 1 (by first | rw [if_pos (by omega)] | rw [if_neg (by omega)])).mono ?_
            rintro e w6 ⟨rfl, hk6, hp6⟩
            have HK6 := Hid.mk hk6
            have HW6 := Hid.mk (hp6.toBelow HWR.out b1 HWR.out.size)
            clear hk6 hp6
            go_wp2_with fail
            refine (ok_any 0 1 1 w6).mono ?_
            simp only [decide_true, Bool.and_self]
            rintro e w7 ⟨rfl, hb7⟩
            have HK7 := Hid.mk (HK6.out.below hb7)
            have HW7 := Hid.mk (HW6.out.trans (hb7.mono HW6.out.size))
            clear hb7
            go_wp2_with fail
            refine (testOwn HK7.out HSX.out (i : Int) (by omega) (by omega)).mono ?_
            rintro e w8 ⟨rfl, hk8, hp8⟩
            have HK8 := Hid.mk hk8
            have HW8 := Hid.mk (hp8.toBelow HW7.out b1 HW7.out.size)
            clear hk8 hp8
            go_wp2_with fail
            refine (ok_any 0 (-1) (-1) w8).mono ?_
            simp only [decide_true, Bool.and_self]
            rintro e w9 ⟨rfl, hb9⟩
            have HK9 := Hid.mk (HK8.out.below hb9)
            have HW9 := Hid.mk (HW8.out.trans (hb9.mono HW8.out.size))
            clear hb9
            go_wp2
            go_roundw
            case rel => exact ⟨i + 1, by go_num, by omega, HK9.out, HW9.out⟩
            case measure => simp [intOf]; omega
          · go_wp2_with fail
            refine (testS HKR.out HSX.out (i : Int) (by omega) (by omega) (-1) (by first | rw [if_pos (by omega)] | rw [if_neg (by omega)])).mono ?_
            rintro e w6 ⟨rfl, hk6, hp6⟩
            have HK6 := Hid.mk hk6
            have HW6 := Hid.mk (hp6.toBelow HWR.out b1 HWR.out.size)
            clear hk6 hp6
            go_wp2_with fail
            refine (ok_any 0 (-1) (-1) w6).mono ?_
            simp only [decide_true, Bool.and_self]
            rintro e w7 ⟨rfl, hb7⟩
            have HK7 := Hid.mk (HK6.out.below hb7)
            have HW7 := Hid.mk (HW6.out.trans (hb7.mono HW6.out.size))
            clear hb7
            go_wp2_with fail
            refine (testOwn HK7.out HSX.out (i : Int) (by omega) (by omega)).mono ?_
            rintro e w8 ⟨rfl, hk8, hp8⟩
            have HK8 := Hid.mk hk8
            have HW8 := Hid.mk (hp8.toBelow HW7.out b1 HW7.out.size)
            clear hk8 hp8
            go_wp2_with fail
            refine (ok_any 0 (-1) (-1) w8).mono ?_
            simp only [decide_true, Bool.and_self]
            rintro e w9 ⟨rfl, hb9⟩
            have HK9 := Hid.mk (HK8.out.below hb9)
            have HW9 := Hid.mk (HW8.out.trans (hb9.mono HW8.out.size))
            clear hb9
            go_wp2
            go_roundw
            case rel => exact ⟨i + 1, by go_num, by omega, HK9.out, HW9.out⟩
            case measure => simp [intOf]; omega
        · go_wp2_with fail
          refine (testS HKR.out HSX.out (i : Int) (by omega) (by omega) (-1) (by first | rw [if_pos (by omega)] | rw [if_neg (by omega)])).mono ?_
          rintro e w6 ⟨rfl, hk6, hp6⟩
          have HK6 := Hid.mk hk6
          have HW6 := Hid.mk (hp6.toBelow HWR.out b1 HWR.out.size)
          clear hk6 hp6
          go_wp2_with fail
          refine (ok_any 0 (-1) (-1) w6).mono ?_
          simp only [decide_true, Bool.and_self]
          rintro e w7 ⟨rfl, hb7⟩
          have HK7 := Hid.mk (HK6.out.below hb7)
          have HW7 := Hid.mk (HW6.out.trans (hb7.mono HW6.out.size))
          clear hb7
          go_wp2_with fail
          refine (testOwn HK7.out HSX.out (i : Int) (by omega) (by omega)).mono ?_
          rintro e w8 ⟨rfl, hk8, hp8⟩
          have HK8 := Hid.mk hk8
          have HW8 := Hid.mk (hp8.toBelow HW7.out b1 HW7.out.size)
          clear hk8 hp8
          go_wp2_with fail
          refine (ok_any 0 (-1) (-1) w8).mono ?_
          simp only [decide_true, Bool.and_self]
          rintro e w9 ⟨rfl, hb9⟩
          have HK9 := Hid.mk (HK8.out.below hb9)
          have HW9 := Hid.mk (HW8.out.trans (hb9.mono HW8.out.size))
          clear hb9
          go_wp2
          go_roundw
          case rel => exact ⟨i + 1, by go_num, by omega, HK9.out, HW9.out⟩
          case measure => simp [intOf]; omega
      · have hi64 : ¬ (i : Int) ≤ 63 := by omega
        go_wp2_with fail
        refine (lockBusy HKR.out HSX.out ha0 (by omega) hn1 _).mono ?_
        rintro e w6 ⟨rfl, hk6, hp6⟩
        have HK6 := Hid.mk hk6
        have HW6 := Hid.mk (hp6.toBelow HWR.out b1 HWR.out.size)
        clear hk6 hp6
        go_wp2_with fail
        refine (ok_any 8 0 0 w6).mono ?_
        simp only [show decide ((8 : Int) = 0) = false from rfl, Bool.false_and]
        rintro e w7 ⟨rfl, hb7⟩
        have HK7 := Hid.mk (HK6.out.below hb7)
        have HW7 := Hid.mk (HW6.out.trans (hb7.mono HW6.out.size))
        clear hb7
        go_wp2_with fail
        refine (lockBad HK7.out HSX.out 1 1 a (65 - a) (by omega) (by omega) rfl (by omega) (by simp [badS]; omega) _).mono ?_
        rintro e w8 ⟨rfl, hk8, hp8⟩
        have HK8 := Hid.mk hk8
        have HW8 := Hid.mk (hp8.toBelow HW7.out b1 HW7.out.size)
        clear hk8 hp8
        go_wp2_with fail
        refine (is_any 7 0 7 w8).mono ?_
        simp only [decide_true, Bool.and_self]
        rintro e w9 ⟨rfl, hb9⟩
        have HK9 := Hid.mk (HK8.out.below hb9)
        have HW9 := Hid.mk (HW8.out.trans (hb9.mono HW8.out.size))
        clear hb9
        go_wp2_with fail
        refine (lockBad HK9.out HSX.out 1 0 a (-a - 1) (by omega) (by omega) rfl (by omega) (by simp [badS]; omega) _).mono ?_
        rintro e w10 ⟨rfl, hk10, hp10⟩
        have HK10 := Hid.mk hk10
        have HW10 := Hid.mk (hp10.toBelow HW9.out b1 HW9.out.size)
        clear hk10 hp10
        go_wp2_with fail
        refine (is_any 7 0 7 w10).mono ?_
        simp only [decide_true, Bool.and_self]
        rintro e w11 ⟨rfl, hb11⟩
        have HW11 := Hid.mk (HW10.out.trans (hb11.mono HW10.out.size))
        clear hb11
        go_wp2
        go_ret
        exact ⟨rfl, HW11.out⟩
  · go_enter Try.func4, Try.ntmps4
    go_wp2_with fail
    refine (HS.out w).mono ?_
    rintro e w1 ⟨kb, tb, mb, s, rfl, hk1, hs1, hb1, b1, b2, b3⟩
    have HK1 := Hid.mk hk1
    have HS1 := Hid.mk (SpOk.mk hs1.l hs1.f (hs1.r 0))
    have HB1 := Hid.mk hb1
    clear hk1 hs1 hb1
    go_wp2_with fail
    refine (pick_any x 64 _ HX.out.1 HX.out.2 (by omega) (by omega)).mono ?_
    rintro e w2 ⟨a, rfl, ha0, ha1, hw⟩
    have hw2 := hw.symm; clear hw; subst hw2
    go_wp2_with fail
    refine (pick_any y (64 - a) _ HY.out.1 HY.out.2 (by omega) (by omega)).mono ?_
    rintro e w2 ⟨m, rfl, hm0, hm1, hw⟩
    have hw2 := hw.symm; clear hw; subst hw2
    go_wp2_with fail
    generalize hnn : (64 - a : Int) = n at *
    have hn1 : 1 ≤ n := by omega
    have hn3 : a + n ≤ 64 := by omega
    have HN : Hid (a + n = 64) := by show a + n = 64; omega
    clear hnn hm1
    refine (lockS HK1.out HS1.out a n hn1 (Or.inl rfl) a n (bad1 ha0 hn1 hn3).1 (bad1 ha0 hn1 hn3).2.1 (bad1 ha0 hn1 hn3).2.2 _).mono ?_
    rintro e w2 ⟨s2, rfl, hk2, hs2, hp2⟩
    obtain ⟨rb, hrb⟩ : ∃ rb, rb = w2.heap.size := ⟨_, rfl⟩
    have HKX := Hid.mk (hk2.below ((Below.refl _ _).alloc (Nat.le_refl _) (.cells #[.int .i64 0, .int .i64 0, .slice none 0 0] 31)))
    have HSX := Hid.mk hs2
    have HRX : Hid (Res (w2.alloc (.cells #[.int .i64 0, .int .i64 0, .slice none 0 0] 31)) rb) := by rw [hrb]; exact heap_alloc_new w2 _
    have HWX := Hid.mk ((hp2.toBelow HB1.out b1 HB1.out.size).alloc (Nat.le_trans HB1.out.size hp2.size) (.cells #[.int .i64 0, .int .i64 0, .slice none 0 0] 31))
    have hrk : kb < rb := by rw [hrb]; exact hk2.lt
    have hrz : w.heap.size ≤ rb := by omega
    clear hk2 hs2 hp2
    go_wp2_with fail
    rw [← hrb]
    generalize hWX : w2.alloc (.cells #[.int .i64 0, .int .i64 0, .slice none 0 0] 31) = WX at *
    clear hWX hrb
    refine (lockS HKX.out HSX.out a n hn1 (Or.inr rfl) a 0 (bad3 ha0 hn1 HN.out).1 (bad3 ha0 hn1 HN.out).2.1 (bad3 ha0 hn1 HN.out).2.2 _).mono ?_
    rintro e w3 ⟨s2, rfl, hk3, hs3, hp3⟩
    have hr3 : Res w3 rb := (hp3.block rb (Array.getElem?_eq_some_iff.1 HRX.out).1 (by simp; omega)).trans HRX.out
    obtain ⟨q0, q1, q2, qz⟩ := hr3.cells
    have HKY := Hid.mk (hk3.replied hr3 (.int .i64 0) (.int .i64 0) (.slice none 0 0))
    have HRY := Hid.mk hr3.again
    have HWY := Hid.mk ((((hp3.toBelow HWX.out b1 HWX.out.size).setCell (p := ⟨rb, 0, none⟩) hrz (.int .i64 0)).setCell (p := ⟨rb, 1, none⟩) hrz (.int .i64 0)).setCell (p := ⟨rb, 2, none⟩) hrz (.slice none 0 0))
    clear HKX HSX HRX HWX
    have HSX := Hid.mk hs3
    clear hk3 hs3 hp3 hr3
    go_wp2_with fail
    generalize hWY : ((w3.setCell ⟨rb, 0, none⟩ (.int .i64 0)).setCell ⟨rb, 1, none⟩ (.int .i64 0)).setCell ⟨rb, 2, none⟩ (.slice none 0 0) = WY at *
    have HKX := HKY
    have HRX := HRY
    have HWX := HWY
    clear hWY q0 q1 q2 qz HKY HRY HWY
    refine (Runs_any HKX.out 0 (by omega)).mono ?_
    rintro e w4 ⟨v4, rfl, ho4, hk4, hp4⟩
    rw [HSX.out.r] at ho4
    obtain ⟨g4, c4, rfl⟩ : ∃ g4 c4, v4 = .slice (some ⟨g4, 0, none⟩) 1 c4 := by
      rcases ho4.2 with ⟨_, h⟩ | ⟨g4, c4, cur, h, _⟩
      · simp at h
      · exact ⟨g4, c4, h⟩
    have z0 : w4.cell? ⟨g4, 0, none⟩ = some (.int .i64 1) := ho4.cellAt 0 (by simp)
    have z1 : w4.cell? ⟨g4, 1, none⟩ = some (.int .i64 2) := ho4.cellAt 1 (by simp)
    have z2 : w4.cell? ⟨g4, 2, none⟩ = some (.int .i64 a) := ho4.cellAt 2 (by simp)
    have z3 : w4.cell? ⟨g4, 3, none⟩ = some (.int .i64 (a + n - 1)) := ho4.cellAt 3 (by simp)
    have hg4 : g4 < w4.heap.size := (ho4.lt g4 rfl).2
    have hr4 : Res w4 rb := (hp4.block rb (Array.getElem?_eq_some_iff.1 HRX.out).1 (by simp; omega)).trans HRX.out
    obtain ⟨q0, q1, q2, qz⟩ := hr4.cells
    have HK4 := Hid.mk hk4
    have HW4 := Hid.mk (hp4.toBelow HWX.out b1 HWX.out.size)
    clear ho4 hk4 hp4 hr4 HKX HRX HWX
    go_wp2_with (go_at_call 10; refine (ok_any 0 0 0 w4).mono ?_; simp only [decide_true, Bool.and_self]; rintro e w5 ⟨rfl, hb5⟩; have y0 : w5.cell? ⟨g4, 0, none⟩ = some (.int .i64 1) := ((bcell hb5).1 _ _ hg4).trans z0; have y1 : w5.cell? ⟨g4, 1, none⟩ = some (.int .i64 2) := ((bcell hb5).1 _ _ hg4).trans z1; have y2 : w5.cell? ⟨g4, 2, none⟩ = some (.int .i64 a) := ((bcell hb5).1 _ _ hg4).trans z2; have y3 : w5.cell? ⟨g4, 3, none⟩ = some (.int .i64 (a + n - 1)) := ((bcell hb5).1 _ _ hg4).trans z3; have HK5 := Hid.mk (HK4.out.below hb5); have HW5 := Hid.mk (HW4.out.trans (hb5.mono HW4.out.size)); clear hb5)
    clear y0 y1 y2 y3 z0 z1 z2 z3 q0 q1 q2 qz
    go_loopw [13] (fun s13 wr => ∃ i : Nat, s13 = .int .i64 i ∧ i ≤ 64 ∧ Hid (KInv wr kb tb mb 0 s2) ∧ Hid (Below w.heap.size w wr)) (fun s13 _ => 64 - (intOf s13).toNat)
    case atStart => exact ⟨0, rfl, Nat.zero_le _, HK5.out, HW5.out⟩
    case round =>
      clear HK5 HW5 HK4 HW4 HK1 HS1 HB1 HS HX HY
      obtain ⟨i, rfl, hi, HKR, HWR⟩ := hrel
      by_cases hlt : i < 64
      · have hi63 : (i : Int) ≤ 63 := by omega
        by_cases hA : a ≤ (i : Int)
        · by_cases hB : (i : Int) < a + n
          · go_wp2_with fail
            refine (testS HKR.out HSX.out (i : Int) (by omega) (by omega) 1 (by first | rw [if_pos (by omega)] | rw [if_neg (by omega)])).mono ?_
            rintro e w6 ⟨rfl, hk6, hp6⟩
            have HK6 := Hid.mk hk6
            have HW6 := Hid.mk (hp6.toBelow HWR.out b1 HWR.out.size)
            clear hk6 hp6
            go_wp2_with fail
            refine (ok_any 0 1 1 w6).mono ?_
            simp only [decide_true, Bool.and_self]
            rintro e w7 ⟨rfl, hb7⟩
            have HK7 := Hid.mk (HK6.out.below hb7)
            have HW7 := Hid.mk (HW6.out.trans (hb7.mono HW6.out.size))
            clear hb7
            go_wp2_with fail
            refine (testOwn HK7.out HSX.out (i : Int) (by omega) (by omega)).mono ?_
            rintro e w8 ⟨rfl, hk8, hp8⟩
            have HK8 := Hid.mk hk8
            have HW8 := Hid.mk (hp8.toBelow HW7.out b1 HW7.out.size)
            clear hk8 hp8
            go_wp2_with fail
            refine (ok_any 0 (-1) (-1) w8).mono ?_
            simp only [decide_true, Bool.and_self]
            rintro e w9 ⟨rfl, hb9⟩
            have HK9 := Hid.mk (HK8.out.below hb9)
            have HW9 := Hid.mk (HW8.out.trans (hb9.mono HW8.out.size))
            clear hb9
            go_wp2
            go_roundw
            case rel => exact ⟨i + 1, by go_num, by omega, HK9.out, HW9.out⟩
            case measure => simp [intOf]; omega
          · go_wp2_with fail
            refine (testS HKR.out HSX.out (i : Int) (by omega) (by omega) (-1) (by first | rw [if_pos (by omega)] | rw [if_neg (by omega)])).mono ?_
            rintro e w6 ⟨rfl, hk6, hp6⟩
            have HK6 := Hid.mk hk6
            have HW6 := Hid.mk (hp6.toBelow HWR.out b1 HWR.out.size)
            clear hk6 hp6
            go_wp2_with fail
            refine (ok_any 0 (-1) (-1) w6).mono ?_
            simp only [decide_true, Bool.and_self]
            rintro e w7 ⟨rfl, hb7⟩
            have HK7 := Hid.mk (HK6.out.below hb7)
            have HW7 := Hid.mk (HW6.out.trans (hb7.mono HW6.out.size))
            clear hb7
            go_wp2_with fail
            refine (testOwn HK7.out HSX.out (i : Int) (by omega) (by omega)).mono ?_
            rintro e w8 ⟨rfl, hk8, hp8⟩
            have HK8 := Hid.mk hk8
            have HW8 := Hid.mk (hp8.toBelow HW7.out b1 HW7.out.size)
            clear hk8 hp8
            go_wp2_with fail
            refine (ok_any 0 (-1) (-1) w8).mono ?_
            simp only [decide_true, Bool.and_self]
            rintro e w9 ⟨rfl, hb9⟩
            have HK9 := Hid.mk (HK8.out.below hb9)
            have HW9 := Hid.mk (HW8.out.trans (hb9.mono HW8.out.size))
            clear hb9
            go_wp2
            go_roundw
            case rel => exact ⟨i + 1, by go_num, by omega, HK9.out, HW9.out⟩
            case measure => simp [intOf]; omega
        · go_wp2_with fail
          refine (testS HKR.out HSX.out (i : Int) (by omega) (by omega) (-1) (by first | rw [if_pos (by omega)] | rw [if_neg (by omega)])).mono ?_
          rintro e w6 ⟨rfl, hk6, hp6⟩
          have HK6 := Hid.mk hk6
          have HW6 := Hid.mk (hp6.toBelow HWR.out b1 HWR.out.size)
          clear hk6 hp6
          go_wp2_with fail
          refine (ok_any 0 (-1) (-1) w6).mono ?_
          simp only [decide_true, Bool.and_self]
          rintro e w7 ⟨rfl, hb7⟩
          have HK7 := Hid.mk (HK6.out.below hb7)
          have HW7 := Hid.mk (HW6.out.trans (hb7.mono HW6.out.size))
          clear hb7
          go_wp2_with fail
          refine (testOwn HK7.out HSX.out (i : Int) (by omega) (by omega)).mono ?_
          rintro e w8 ⟨rfl, hk8, hp8⟩
          have HK8 := Hid.mk hk8
          have HW8 := Hid.mk (hp8.toBelow HW7.out b1 HW7.out.size)
          clear hk8 hp8
          go_wp2_with fail
          refine (ok_any 0 (-1) (-1) w8).mono ?_
          simp only [decide_true, Bool.and_self]
          rintro e w9 ⟨rfl, hb9⟩
          have HK9 := Hid.mk (HK8.out.below hb9)
          have HW9 := Hid.mk (HW8.out.trans (hb9.mono HW8.out.size))
          clear hb9
          go_wp2
          go_roundw
          case rel => exact ⟨i + 1, by go_num, by omega, HK9.out, HW9.out⟩
          case measure => simp [intOf]; omega
      · have hi64 : ¬ (i : Int) ≤ 63 := by omega
        go_wp2_with fail
        refine (lockBusy HKR.out HSX.out ha0 (by omega) hn1 _).mono ?_
        rintro e w6 ⟨rfl, hk6, hp6⟩
        have HK6 := Hid.mk hk6
        have HW6 := Hid.mk (hp6.toBelow HWR.out b1 HWR.out.size)
        clear hk6 hp6
        go_wp2_with fail
        refine (ok_any 8 0 0 w6).mono ?_
        simp only [show decide ((8 : Int) = 0) = false from rfl, Bool.false_and]
        rintro e w7 ⟨rfl, hb7⟩
        have HK7 := Hid.mk (HK6.out.below hb7)
        have HW7 := Hid.mk (HW6.out.trans (hb7.mono HW6.out.size))
        clear hb7
        go_wp2_with fail
        refine (lockBad HK7.out HSX.out 1 1 a (65 - a) (by omega) (by omega) rfl (by omega) (by simp [badS]; omega) _).mono ?_
        rintro e w8 ⟨rfl, hk8, hp8⟩
        have HK8 := Hid.mk hk8
        have HW8 := Hid.mk (hp8.toBelow HW7.out b1 HW7.out.size)
        clear hk8 hp8
        go_wp2_with fail
        refine (is_any 7 0 7 w8).mono ?_
        simp only [decide_true, Bool.and_self]
        rintro e w9 ⟨rfl, hb9⟩
        have HK9 := Hid.mk (HK8.out.below hb9)
        have HW9 := Hid.mk (HW8.out.trans (hb9.mono HW8.out.size))
        clear hb9
        go_wp2_with fail
        refine (lockBad HK9.out HSX.out 1 0 a (-a - 1) (by omega) (by omega) rfl (by omega) (by simp [badS]; omega) _).mono ?_
        rintro e w10 ⟨rfl, hk10, hp10⟩
        have HK10 := Hid.mk hk10
        have HW10 := Hid.mk (hp10.toBelow HW9.out b1 HW9.out.size)
        clear hk10 hp10
        go_wp2_with fail
        refine (is_any 7 0 7 w10).mono ?_
        simp only [decide_true, Bool.and_self]
        rintro e w11 ⟨rfl, hb11⟩
        have HW11 := Hid.mk (HW10.out.trans (hb11.mono HW10.out.size))
        clear hb11
        go_wp2
        go_ret
        exact ⟨rfl, HW11.out⟩
  · go_enter Try.func4, Try.ntmps4
    go_wp2_with fail
    refine (HS.out w).mono ?_
    rintro e w1 ⟨kb, tb, mb, s, rfl, hk1, hs1, hb1, b1, b2, b3⟩
    have HK1 := Hid.mk hk1
    have HS1 := Hid.mk (SpOk.mk hs1.l hs1.f (hs1.r 0))
    have HB1 := Hid.mk hb1
    clear hk1 hs1 hb1
    go_wp2_with fail
    refine (pick_any x 64 _ HX.out.1 HX.out.2 (by omega) (by omega)).mono ?_
    rintro e w2 ⟨a, rfl, ha0, ha1, hw⟩
    have hw2 := hw.symm; clear hw; subst hw2
    go_wp2_with fail
    refine (pick_any y (64 - a) _ HY.out.1 HY.out.2 (by omega) (by omega)).mono ?_
    rintro e w2 ⟨m, rfl, hm0, hm1, hw⟩
    have hw2 := hw.symm; clear hw; subst hw2
    go_wp2_with fail
    generalize hnn : (64 - a : Int) = n at *
    have hn1 : 1 ≤ n := by omega
    have hn3 : a + n ≤ 64 := by omega
    have HN : Hid (a + n = 64) := by show a + n = 64; omega
    clear hnn hm1
    refine (lockS HK1.out HS1.out a n hn1 (Or.inl rfl) a n (bad1 ha0 hn1 hn3).1 (bad1 ha0 hn1 hn3).2.1 (bad1 ha0 hn1 hn3).2.2 _).mono ?_
    rintro e w2 ⟨s2, rfl, hk2, hs2, hp2⟩
    obtain ⟨rb, hrb⟩ : ∃ rb, rb = w2.heap.size := ⟨_, rfl⟩
    have HKX := Hid.mk (hk2.below ((Below.refl _ _).alloc (Nat.le_refl _) (.cells #[.int .i64 0, .int .i64 0, .slice none 0 0] 31)))
    have HSX := Hid.mk hs2
    have HRX : Hid (Res (w2.alloc (.cells #[.int .i64 0, .int .i64 0, .slice none 0 0] 31)) rb) := by rw [hrb]; exact heap_alloc_new w2 _
    have HWX := Hid.mk ((hp2.toBelow HB1.out b1 HB1.out.size).alloc (Nat.le_trans HB1.out.size hp2.size) (.cells #[.int .i64 0, .int .i64 0, .slice none 0 0] 31))
    have hrk : kb < rb := by rw [hrb]; exact hk2.lt
    have hrz : w.heap.size ≤ rb := by omega
    clear hk2 hs2 hp2
    go_wp2_with fail
    rw [← hrb]
    generalize hWX : w2.alloc (.cells #[.int .i64 0, .int .i64 0, .slice none 0 0] 31) = WX at *
    clear hWX hrb
    refine (lockS HKX.out HSX.out a n hn1 (Or.inr rfl) (a + n) (-n) (bad2 ha0 hn1 hn3).1 (bad2 ha0 hn1 hn3).2.1 (bad2 ha0 hn1 hn3).2.2 _).mono ?_
    rintro e w3 ⟨s2, rfl, hk3, hs3, hp3⟩
    have hr3 : Res w3 rb := (hp3.block rb (Array.getElem?_eq_some_iff.1 HRX.out).1 (by simp; omega)).trans HRX.out
    obtain ⟨q0, q1, q2, qz⟩ := hr3.cells
    have HKY := Hid.mk (hk3.replied hr3 (.int .i64 0) (.int .i64 0) (.slice none 0 0))
    have HRY := Hid.mk hr3.again
    have HWY := Hid.mk ((((hp3.toBelow HWX.out b1 HWX.out.size).setCell (p := ⟨rb, 0, none⟩) hrz (.int .i64 0)).setCell (p := ⟨rb, 1, none⟩) hrz (.int .i64 0)).setCell (p := ⟨rb, 2, none⟩) hrz (.slice none 0 0))
    clear HKX HSX HRX HWX
    have HSX := Hid.mk hs3
    clear hk3 hs3 hp3 hr3
    go_wp2_with fail
    generalize hWY : ((w3.setCell ⟨rb, 0, none⟩ (.int .i64 0)).setCell ⟨rb, 1, none⟩ (.int .i64 0)).setCell ⟨rb, 2, none⟩ (.slice none 0 0) = WY at *
    have HKX := HKY
    have HRX := HRY
    have HWX := HWY
    clear hWY q0 q1 q2 qz HKY HRY HWY
    refine (lockS HKX.out HSX.out a n hn1 (Or.inr rfl) a 0 (bad3 ha0 hn1 HN.out).1 (bad3 ha0 hn1 HN.out).2.1 (bad3 ha0 hn1 HN.out).2.2 _).mono ?_
    rintro e w3 ⟨s2, rfl, hk3, hs3, hp3⟩
    have hr3 : Res w3 rb := (hp3.block rb (Array.getElem?_eq_some_iff.1 HRX.out).1 (by simp; omega)).trans HRX.out
    obtain ⟨q0, q1, q2, qz⟩ := hr3.cells
    have HKY := Hid.mk (hk3.replied hr3 (.int .i64 0) (.int .i64 0) (.slice none 0 0))
    have HRY := Hid.mk hr3.again
    have HWY := Hid.mk ((((hp3.toBelow HWX.out b1 HWX.out.size).setCell (p := ⟨rb, 0, none⟩) hrz (.int .i64 0)).setCell (p := ⟨rb, 1, none⟩) hrz (.int .i64 0)).setCell (p := ⟨rb, 2, none⟩) hrz (.slice none 0 0))
    clear HKX HSX HRX HWX
    have HSX := Hid.mk hs3
    clear hk3 hs3 hp3 hr3
    go_wp2_with fail
    generalize hWY : ((w3.setCell ⟨rb, 0, none⟩ (.int .i64 0)).setCell ⟨rb, 1, none⟩ (.int .i64 0)).setCell ⟨rb, 2, none⟩ (.slice none 0 0) = WY at *
    have HKX := HKY
    have HRX := HRY
    have HWX := HWY
    clear hWY q0 q1 q2 qz HKY HRY HWY
    refine (Runs_any HKX.out 0 (by omega)).mono ?_
    rintro e w4 ⟨v4, rfl, ho4, hk4, hp4⟩
    rw [HSX.out.r] at ho4
    obtain ⟨g4, c4, rfl⟩ : ∃ g4 c4, v4 = .slice (some ⟨g4, 0, none⟩) 1 c4 := by
      rcases ho4.2 with ⟨_, h⟩ | ⟨g4, c4, cur, h, _⟩
      · simp at h
      · exact ⟨g4, c4, h⟩
    have z0 : w4.cell? ⟨g4, 0, none⟩ = some (.int .i64 1) := ho4.cellAt 0 (by simp)
    have z1 : w4.cell? ⟨g4, 1, none⟩ = some (.int .i64 2) := ho4.cellAt 1 (by simp)
    have z2 : w4.cell? ⟨g4, 2, none⟩ = some (.int .i64 a) := ho4.cellAt 2 (by simp)
    have z3 : w4.cell? ⟨g4, 3, none⟩ = some (.int .i64 (a + n - 1)) := ho4.cellAt 3 (by simp)
    have hg4 : g4 < w4.heap.size := (ho4.lt g4 rfl).2
    have hr4 : Res w4 rb := (hp4.block rb (Array.getElem?_eq_some_iff.1 HRX.out).1 (by simp; omega)).trans HRX.out
    obtain ⟨q0, q1, q2, qz⟩ := hr4.cells
    have HK4 := Hid.mk hk4
    have HW4 := Hid.mk (hp4.toBelow HWX.out b1 HWX.out.size)
    clear ho4 hk4 hp4 hr4 HKX HRX HWX
    go_wp2_with (go_at_call 10; refine (ok_any 0 0 0 w4).mono ?_; simp only [decide_true, Bool.and_self]; rintro e w5 ⟨rfl, hb5⟩; have y0 : w5.cell? ⟨g4, 0, none⟩ = some (.int .i64 1) := ((bcell hb5).1 _ _ hg4).trans z0; have y1 : w5.cell? ⟨g4, 1, none⟩ = some (.int .i64 2) := ((bcell hb5).1 _ _ hg4).trans z1; have y2 : w5.cell? ⟨g4, 2, none⟩ = some (.int .i64 a) := ((bcell hb5).1 _ _ hg4).trans z2; have y3 : w5.cell? ⟨g4, 3, none⟩ = some (.int .i64 (a + n - 1)) := ((bcell hb5).1 _ _ hg4).trans z3; have HK5 := Hid.mk (HK4.out.below hb5); have HW5 := Hid.mk (HW4.out.trans (hb5.mono HW4.out.size)); clear hb5)
    clear y0 y1 y2 y3 z0 z1 z2 z3 q0 q1 q2 qz
    go_loopw [13] (fun s13 wr => ∃ i : Nat, s13 = .int .i64 i ∧ i ≤ 64 ∧ Hid (KInv wr kb tb mb 0 s2) ∧ Hid (Below w.heap.size w wr)) (fun s13 _ => 64 - (intOf s13).toNat)
    case atStart => exact ⟨0, rfl, Nat.zero_le _, HK5.out, HW5.out⟩
    case round =>
      clear HK5 HW5 HK4 HW4 HK1 HS1 HB1 HS HX HY
      obtain ⟨i, rfl, hi, HKR, HWR⟩ := hrel
      by_cases hlt : i < 64
      · have hi63 : (i : Int) ≤ 63 := by omega
        by_cases hA : a ≤ (i : Int)
        · by_cases hB : (i : Int) < a + n
          · go_wp2_with fail
            refine (testS HKR.out HSX.out (i : Int) (by omega) (by omega) 1 (by first | rw [if_pos (by omega)] | rw [if_neg (by omega)])).mono ?_
            rintro e w6 ⟨rfl, hk6, hp6⟩
            have HK6 := Hid.mk hk6
            have HW6 := Hid.mk (hp6.toBelow HWR.out b1 HWR.out.size)
            clear hk6 hp6
            go_wp2_with fail
            refine (ok_any 0 1 1 w6).mono ?_
            simp only [decide_true, Bool.and_self]
            rintro e w7 ⟨rfl, hb7⟩
            have HK7 := Hid.mk (HK6.out.below hb7)
            have HW7 := Hid.mk (HW6.out.trans (hb7.mono HW6.out.size))
            clear hb7
            go_wp2_with fail
            refine (testOwn HK7.out HSX.out (i : Int) (by omega) (by omega)).mono ?_
            rintro e w8 ⟨rfl, hk8, hp8⟩
            have HK8 := Hid.mk hk8
            have HW8 := Hid.mk (hp8.toBelow HW7.out b1 HW7.out.size)
            clear hk8 hp8
            go_wp2_with fail
            refine (ok_any 0 (-1) (-1) w8).mono ?_
            simp only [decide_true, Bool.and_self]
            rintro e w9 ⟨rfl, hb9⟩
            have HK9 := Hid.mk (HK8.out.below hb9)
            have HW9 := Hid.mk (HW8.out.trans (hb9.mono HW8.out.size))
            clear hb9
            go_wp2
            go_roundw
            case rel => exact ⟨i + 1, by go_num, by omega, HK9.out, HW9.out⟩
            case measure => simp [intOf]; omega
          · go_wp2_with fail
            refine (testS HKR.out HSX.out (i : Int) (by omega) (by omega) (-1) (by first | rw [if_pos (by omega)] | rw [if_neg (by omega)])).mono ?_
            rintro e w6 ⟨rfl, hk6, hp6⟩
            have HK6 := Hid.mk hk6
            have HW6 := Hid.mk (hp6.toBelow HWR.out b1 HWR.out.size)
            clear hk6 hp6
            go_wp2_with fail
            refine (ok_any 0 (-1) (-1) w6).mono ?_
            simp only [decide_true, Bool.and_self]
            rintro e w7 ⟨rfl, hb7⟩
            have HK7 := Hid.mk (HK6.out.below hb7)
            have HW7 := Hid.mk (HW6.out.trans (hb7.mono HW6.out.size))
            clear hb7
            go_wp2_with fail
            refine (testOwn HK7.out HSX.out (i : Int) (by omega) (by omega)).mono ?_
            rintro e w8 ⟨rfl, hk8, hp8⟩
            have HK8 := Hid.mk hk8
            have HW8 := Hid.mk (hp8.toBelow HW7.out b1 HW7.out.size)
            clear hk8 hp8
            go_wp2_with fail
            refine (ok_any 0 (-1) (-1) w8).mono ?_
            simp only [decide_true, Bool.and_self]
            rintro e w9 ⟨rfl, hb9⟩
            have HK9 := Hid.mk (HK8.out.below hb9)
            have HW9 := Hid.mk (HW8.out.trans (hb9.mono HW8.out.size))
            clear hb9
            go_wp2
            go_roundw
            case rel => exact ⟨i + 1, by go_num, by omega, HK9.out, HW9.out⟩
            case measure => simp [intOf]; omega
        · go_wp2_with fail
          refine (testS HKR.out HSX.out (i : Int) (by omega) (by omega) (-1) (by first | rw [if_pos (by omega)] | rw [if_neg (by omega)])).mono ?_
          rintro e w6 ⟨rfl, hk6, hp6⟩
          have HK6 := Hid.mk hk6
          have HW6 := Hid.mk (hp6.toBelow HWR.out b1 HWR.out.size)
          clear hk6 hp6
          go_wp2_with fail
          refine (ok_any 0 (-1) (-1) w6).mono ?_
          simp only [decide_true, Bool.and_self]
          rintro e w7 ⟨rfl, hb7⟩
          have HK7 := Hid.mk (HK6.out.below hb7)
          have HW7 := Hid.mk (HW6.out.trans (hb7.mono HW6.out.size))
          clear hb7
          go_wp2_with fail
          refine (testOwn HK7.out HSX.out (i : Int) (by omega) (by omega)).mono ?_
          rintro e w8 ⟨rfl, hk8, hp8⟩
          have HK8 := Hid.mk hk8
          have HW8 := Hid.mk (hp8.toBelow HW7.out b1 HW7.out.size)
          clear hk8 hp8
          go_wp2_with fail
          refine (ok_any 0 (-1) (-1) w8).mono ?_
          simp only [decide_true, Bool.and_self]
          rintro e w9 ⟨rfl, hb9⟩
          have HK9 := Hid.mk (HK8.out.below hb9)
          have HW9 := Hid.mk (HW8.out.trans (hb9.mono HW8.out.size))
          clear hb9
          go_wp2
          go_roundw
          case rel => exact ⟨i + 1, by go_num, by omega, HK9.out, HW9.out⟩
          case measure => simp [intOf]; omega
      · have hi64 : ¬ (i : Int) ≤ 63 := by omega
        go_wp2_with fail
        refine (lockBusy HKR.out HSX.out ha0 (by omega) hn1 _).mono ?_
        rintro e w6 ⟨rfl, hk6, hp6⟩
        have HK6 := Hid.mk hk6
        have HW6 := Hid.mk (hp6.toBelow HWR.out b1 HWR.out.size)
        clear hk6 hp6
        go_wp2_with fail
        refine (ok_any 8 0 0 w6).mono ?_
        simp only [show decide ((8 : Int) = 0) = false from rfl, Bool.false_and]
        rintro e w7 ⟨rfl, hb7⟩
        have HK7 := Hid.mk (HK6.out.below hb7)
        have HW7 := Hid.mk (HW6.out.trans (hb7.mono HW6.out.size))
        clear hb7
        go_wp2_with fail
        refine (lockBad HK7.out HSX.out 1 1 a (65 - a) (by omega) (by omega) rfl (by omega) (by simp [badS]; omega) _).mono ?_
        rintro e w8 ⟨rfl, hk8, hp8⟩
        have HK8 := Hid.mk hk8
        have HW8 := Hid.mk (hp8.toBelow HW7.out b1 HW7.out.size)
        clear hk8 hp8
        go_wp2_with fail
        refine (is_any 7 0 7 w8).mono ?_
        simp only [decide_true, Bool.and_self]
        rintro e w9 ⟨rfl, hb9⟩
        have HK9 := Hid.mk (HK8.out.below hb9)
        have HW9 := Hid.mk (HW8.out.trans (hb9.mono HW8.out.size))
        clear hb9
        go_wp2_with fail
        refine (lockBad HK9.out HSX.out 1 0 a (-a - 1) (by omega) (by omega) rfl (by omega) (by simp [badS]; omega) _).mono ?_
        rintro e w10 ⟨rfl, hk10, hp10⟩
        have HK10 := Hid.mk hk10
        have HW10 := Hid.mk (hp10.toBelow HW9.out b1 HW9.out.size)
        clear hk10 hp10
        go_wp2_with fail
        refine (is_any 7 0 7 w10).mono ?_
        simp only [decide_true, Bool.and_self]
        rintro e w11 ⟨rfl, hb11⟩
        have HW11 := Hid.mk (HW10.out.trans (hb11.mono HW10.out.size))
        clear hb11
        go_wp2
        go_ret
        exact ⟨rfl, HW11.out⟩
end Go.Proofs.Ytafgecmenadhdaa
