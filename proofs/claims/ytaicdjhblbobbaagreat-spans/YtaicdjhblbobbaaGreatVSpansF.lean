/- Over any program that answers as the model: the statement Spans. -/
import Derived.Test.YtaicdjhblbobbaaGreatVSpanD
namespace Go.Proofs.YtaicdjhblbobbaaGreat
open Go.RowKit

/-- The reply that the law holds in its own variable. -/
def ResA (W : World) (rb : Nat) : Prop := ∃ a cp, W.heap[rb]? = some (.cells #[.int .i64 0, .int .i64 0, .slice a 0 cp] 34 (0, 0))
theorem ResA.cells {W : World} {rb : Nat} (h : ResA W rb) : ∃ a cp, W.cell? ⟨rb, 0, none⟩ = some (.int .i64 0) ∧ W.cell? ⟨rb, 1, none⟩ = some (.int .i64 0) ∧ W.cell? ⟨rb, 2, none⟩ = some (.slice a 0 cp) ∧ ∀ o, W.frozen? ⟨rb, o, none⟩ = false := by
  obtain ⟨a, cp, h⟩ := h
  refine ⟨a, cp, ?_, ?_, ?_, fun o => ?_⟩ <;> simp [World.cell?, World.frozen?, h]
theorem set_at {w : World} {b o : Nat} {c : Array Value} {t : TypeId} {fr : Nat × Nat} {v : Value} (h : w.heap[b]? = some (.cells c t fr)) : (w.setCell ⟨b, o, none⟩ v).heap[b]? = some (.cells (c.setIfInBounds o v) t fr) := by
  simp [World.setCell, Array.getElem?_modify, h]
theorem ResA.again {W : World} {rb : Nat} (h : ResA W rb) (a : Option Addr) (cp : Nat) : ResA (((W.setCell ⟨rb, 0, none⟩ (.int .i64 0)).setCell ⟨rb, 1, none⟩ (.int .i64 0)).setCell ⟨rb, 2, none⟩ (.slice a 0 cp)) rb := by
  obtain ⟨a0, cp0, h⟩ := h
  refine ⟨a, cp, ?_⟩
  rw [set_at (set_at (set_at h))]
  rfl
theorem ResA.upd {P P' : Nat → Prop} {w w' : World} {rb : Nat} (h : ResA w rb) (hn : ¬ P rb) (hu : Upd P P' w w') : ResA w' rb := by
  obtain ⟨a, cp, h⟩ := h
  exact ⟨a, cp, (hu.block rb (Array.getElem?_eq_some_iff.1 h).1 hn).trans h⟩
theorem ResA.lt {w : World} {rb : Nat} (h : ResA w rb) : rb < w.heap.size := by
  obtain ⟨a, cp, h⟩ := h
  exact (Array.getElem?_eq_some_iff.1 h).1

section
variable {rep : World → Nat → (Nat → Prop) → DS → Prop} (K : Face rep)
include K
set_option maxHeartbeats 32000000 in
set_option maxRecDepth 100000 in
theorem SpansF (x y z : Int) (w : World) (hx : i64 x) (hy : i64 y) :
    Calls Tryz.prog 5 #[.int .i64 x, .int .i64 y, .int .i64 z] w fun e w' => e = .returned (.bool true) ∧ Below w.heap.size w w' := by
  obtain ⟨a, ha⟩ : ∃ a : Int, pickI x 64 = a := ⟨_, rfl⟩
  have ha0 : 0 ≤ a := by have := pickI_bd x 64 (by omega); omega
  have ha1 : a < 64 := by have := pickI_bd x 64 (by omega); omega
  obtain ⟨m, hm⟩ : ∃ m : Int, pickI y (64 - a) = m := ⟨_, rfl⟩
  have hm0 : 0 ≤ m := by have := pickI_bd y (64 - a) (by omega); omega
  have hm1 : m < 64 - a := by have := pickI_bd y (64 - a) (by omega); omega
  have HA := Hid.mk (pick_eq x 64 · hx (by omega) (by omega))
  have HM := Hid.mk (pick_eq y (64 - a) · hy (by omega) (by omega))
  rw [ha] at HA
  rw [hm] at HM
  have HSM := Hid.mk (someF K 3 (by omega) (by omega))
  have HS1 := Hid.mk SpD.start
  clear ha hm hx hy
  cases h3 : (z.tmod 3 == 0) <;> cases h2 : (z.tmod 2 == 0)
  · go_enter Tryz.func5, Tryz.ntmps5
    go_wp2_with fail
    refine (HSM.out w).mono ?_
    rintro e w1 ⟨kb, P1, rfl, hk1⟩
    have HK1 := Hid.mk hk1
    clear hk1 HSM
    unfold kptr
    go_wp2_with fail
    refine (HA.out _).mono ?_
    rintro e w2 ⟨rfl, hw⟩
    have hw2 := hw.symm; clear hw; subst hw2
    go_wp2_with fail
    refine (HM.out _).mono ?_
    rintro e w2 ⟨rfl, hw⟩
    have hw2 := hw.symm; clear hw; subst hw2
    go_wp2_with fail
    generalize hnn : (1 + m : Int) = n at *
    have hn1 : 1 ≤ n := by omega
    have hn3 : a + n ≤ 64 := by omega
    clear hnn hm1
    obtain ⟨s2, hst, hs2⟩ := HS1.out.lock a n hn1 (Or.inl rfl) a n (bad1 ha0 hn1 hn3).1 (bad1 ha0 hn1 hn3).2.1 (bad1 ha0 hn1 hn3).2.2
    refine (HK1.out.at' K (.lock 1 0 2 a n false) (by simp only [Cl.rng, i64]; omega) hst).mono ?_
    rintro e w2 ⟨P2, a2, c2, rfl, hk2, hu2⟩
    obtain ⟨rb, hrb⟩ : ∃ rb, rb = w2.heap.size := ⟨_, rfl⟩
    have hnp : ¬ P2 rb := fun hp => by have := K.lt hk2.r rb hp; omega
    have HNP := Hid.mk hnp
    have HKX := Hid.mk (hk2.alloc K (.cells #[.int .i64 0, .int .i64 0, .slice a2 0 c2] 34))
    have HSX := Hid.mk hs2
    have HRX : Hid (ResA (w2.alloc (.cells #[.int .i64 0, .int .i64 0, .slice a2 0 c2] 34)) rb) := by rw [hrb]; exact ⟨a2, c2, heap_alloc_new w2 _⟩
    have hrz : w.heap.size ≤ rb := by have := hk2.b.size; omega
    clear hk2 hs2 hu2 hst hnp HK1 HS1
    go_wp2_with fail
    rw [← hrb]
    generalize hWX : w2.alloc (.cells #[.int .i64 0, .int .i64 0, .slice a2 0 c2] 34) = WX at *
    clear hWX hrb
    refine (HKX.out.runs K 0 (by simp [i64]) (l := [⟨1, 2, a, a + n - 1⟩]) (by unfold DS.runs; rw [if_pos (show fileB 0 = true from rfl)]; exact HSX.out.r)).mono ?_
    rintro e w4 ⟨P4, a4, c4, rfl, hr4, hm4, hk4, hu4⟩
    obtain ⟨g4, rfl, hg4, z0, z1, z2, z3⟩ := hr4 0 ⟨1, 2, a, a + n - 1⟩ rfl
    have hres := HRX.out.upd HNP.out hu4
    obtain ⟨ra, rcp, q0, q1, q2, qz⟩ := hres.cells
    have hrl := hres.lt
    have HK4 := Hid.mk hk4
    clear hr4 hm4 hk4 hu4 hres
    simp only [Nat.zero_mul, Nat.zero_add] at z0 z1 z2 z3
    go_wp2_with (go_at_call 20; refine (okF 0 0 0 ra 0 rcp w4).mono ?_; simp only [decide_true, Bool.and_self]; rintro e w5 ⟨rfl, hb5⟩; have y0 := (hb5.cell (p := ⟨g4, 0, none⟩) hg4).trans z0; have y1 := (hb5.cell (p := ⟨g4, 1, none⟩) hg4).trans z1; have y2 := (hb5.cell (p := ⟨g4, 2, none⟩) hg4).trans z2; have y3 := (hb5.cell (p := ⟨g4, 3, none⟩) hg4).trans z3; have HK5 := Hid.mk (HK4.out.below K hb5); clear hb5)
    clear y0 y1 y2 y3 z0 z1 z2 z3 q0 q1 q2 qz
    go_loopw [13] (fun s13 wr => ∃ (i : Nat) (PR : Nat → Prop), s13 = .int .i64 i ∧ i ≤ 64 ∧ Hid (KW rep w wr kb PR s2)) (fun s13 _ => 64 - (intOf s13).toNat)
    case atStart => exact ⟨0, P4, rfl, Nat.zero_le _, HK5.out⟩
    case round =>
      obtain ⟨i, PR, rfl, hi, HKR⟩ := hrel
      clear HK5 HK4 HKX HRX HNP
      by_cases hlt : i < 64
      · have hi63 : (i : Int) ≤ 63 := by omega
        by_cases hA : a ≤ (i : Int)
        · by_cases hB : (i : Int) < a + n
          · go_wp2_with fail
            refine (HKR.out.at' K (.test 0 0 1 (i : Int) 1) (by simp only [Cl.rng, i64]; omega) (HSX.out.test 0 1 (i : Int) (by omega) (by omega) (by omega) (1) (by first | rw [if_pos (by omega)] | rw [if_neg (by omega)]))).mono ?_
            rintro e w6 ⟨P6, a6, c6, rfl, hk6, _⟩
            have HK6 := Hid.mk hk6
            clear hk6
            go_wp2_with fail
            refine (okF 0 (1) (1) a6 0 c6 w6).mono ?_
            simp only [decide_true, Bool.and_self]
            rintro e w7 ⟨rfl, hb7⟩
            have HK7 := Hid.mk (HK6.out.below K hb7)
            clear hb7
            go_wp2_with fail
            refine (HK7.out.at' K (.test 1 0 2 (i : Int) 1) (by simp only [Cl.rng, i64]; omega) (HSX.out.test 1 2 (i : Int) (by omega) (by omega) (by omega) (-1) (by rw [if_neg (by omega)]))).mono ?_
            rintro e w8 ⟨P8, a8, c8, rfl, hk8, _⟩
            have HK8 := Hid.mk hk8
            clear hk8
            go_wp2_with fail
            refine (okF 0 (-1) (-1) a8 0 c8 w8).mono ?_
            simp only [decide_true, Bool.and_self]
            rintro e w9 ⟨rfl, hb9⟩
            have HK9 := Hid.mk (HK8.out.below K hb9)
            clear hb9
            go_wp2
            go_roundw
            case rel => exact ⟨i + 1, P8, by go_num, by omega, HK9.out⟩
            case measure => simp [intOf]; omega
          · go_wp2_with fail
            refine (HKR.out.at' K (.test 0 0 1 (i : Int) 1) (by simp only [Cl.rng, i64]; omega) (HSX.out.test 0 1 (i : Int) (by omega) (by omega) (by omega) (-1) (by first | rw [if_pos (by omega)] | rw [if_neg (by omega)]))).mono ?_
            rintro e w6 ⟨P6, a6, c6, rfl, hk6, _⟩
            have HK6 := Hid.mk hk6
            clear hk6
            go_wp2_with fail
            refine (okF 0 (-1) (-1) a6 0 c6 w6).mono ?_
            simp only [decide_true, Bool.and_self]
            rintro e w7 ⟨rfl, hb7⟩
            have HK7 := Hid.mk (HK6.out.below K hb7)
            clear hb7
            go_wp2_with fail
            refine (HK7.out.at' K (.test 1 0 2 (i : Int) 1) (by simp only [Cl.rng, i64]; omega) (HSX.out.test 1 2 (i : Int) (by omega) (by omega) (by omega) (-1) (by rw [if_neg (by omega)]))).mono ?_
            rintro e w8 ⟨P8, a8, c8, rfl, hk8, _⟩
            have HK8 := Hid.mk hk8
            clear hk8
            go_wp2_with fail
            refine (okF 0 (-1) (-1) a8 0 c8 w8).mono ?_
            simp only [decide_true, Bool.and_self]
            rintro e w9 ⟨rfl, hb9⟩
            have HK9 := Hid.mk (HK8.out.below K hb9)
            clear hb9
            go_wp2
            go_roundw
            case rel => exact ⟨i + 1, P8, by go_num, by omega, HK9.out⟩
            case measure => simp [intOf]; omega
        · go_wp2_with fail
          refine (HKR.out.at' K (.test 0 0 1 (i : Int) 1) (by simp only [Cl.rng, i64]; omega) (HSX.out.test 0 1 (i : Int) (by omega) (by omega) (by omega) (-1) (by first | rw [if_pos (by omega)] | rw [if_neg (by omega)]))).mono ?_
          rintro e w6 ⟨P6, a6, c6, rfl, hk6, _⟩
          have HK6 := Hid.mk hk6
          clear hk6
          go_wp2_with fail
          refine (okF 0 (-1) (-1) a6 0 c6 w6).mono ?_
          simp only [decide_true, Bool.and_self]
          rintro e w7 ⟨rfl, hb7⟩
          have HK7 := Hid.mk (HK6.out.below K hb7)
          clear hb7
          go_wp2_with fail
          refine (HK7.out.at' K (.test 1 0 2 (i : Int) 1) (by simp only [Cl.rng, i64]; omega) (HSX.out.test 1 2 (i : Int) (by omega) (by omega) (by omega) (-1) (by rw [if_neg (by omega)]))).mono ?_
          rintro e w8 ⟨P8, a8, c8, rfl, hk8, _⟩
          have HK8 := Hid.mk hk8
          clear hk8
          go_wp2_with fail
          refine (okF 0 (-1) (-1) a8 0 c8 w8).mono ?_
          simp only [decide_true, Bool.and_self]
          rintro e w9 ⟨rfl, hb9⟩
          have HK9 := Hid.mk (HK8.out.below K hb9)
          clear hb9
          go_wp2
          go_roundw
          case rel => exact ⟨i + 1, P8, by go_num, by omega, HK9.out⟩
          case measure => simp [intOf]; omega
      · have hi64 : ¬ (i : Int) ≤ 63 := by omega
        go_wp2_with fail
        refine (HKR.out.at' K (.lock 2 0 1 a 1 false) (by simp only [Cl.rng, i64]; omega) (HSX.out.busy ha0 (by omega) hn1)).mono ?_
        rintro e w6 ⟨P6, a6, c6, rfl, hk6, _⟩
        have HK6 := Hid.mk hk6
        clear hk6
        go_wp2_with fail
        refine (okF 8 0 0 a6 0 c6 w6).mono ?_
        simp only [show decide ((8 : Int) = 0) = false from rfl, Bool.false_and]
        rintro e w7 ⟨rfl, hb7⟩
        have HK7 := Hid.mk (HK6.out.below K hb7)
        clear hb7
        go_wp2_with fail
        refine (HK7.out.at' K (.lock 1 0 1 a (65 - a) false) (by simp only [Cl.rng, i64]; omega) (HSX.out.bad rfl (by simp [badS]; omega))).mono ?_
        rintro e w8 ⟨P8, a8, c8, rfl, hk8, _⟩
        have HK8 := Hid.mk hk8
        clear hk8
        go_wp2_with fail
        refine (isF 7 0 7 a8 0 c8 w8).mono ?_
        simp only [decide_true, Bool.and_self]
        rintro e w9 ⟨rfl, hb9⟩
        have HK9 := Hid.mk (HK8.out.below K hb9)
        clear hb9
        go_wp2_with fail
        refine (HK9.out.at' K (.lock 1 0 0 a (-a - 1) false) (by simp only [Cl.rng, i64]; omega) (HSX.out.bad rfl (by simp [badS]; omega))).mono ?_
        rintro e w10 ⟨P10, a10, c10, rfl, hk10, _⟩
        have HK10 := Hid.mk hk10
        clear hk10
        go_wp2_with fail
        refine (isF 7 0 7 a10 0 c10 w10).mono ?_
        simp only [decide_true, Bool.and_self]
        rintro e w11 ⟨rfl, hb11⟩
        have HK11 := Hid.mk (HK10.out.below K hb11)
        clear hb11
        go_wp2
        go_ret
        exact ⟨rfl, HK11.out.b⟩
  · go_enter Tryz.func5, Tryz.ntmps5
    go_wp2_with fail
    refine (HSM.out w).mono ?_
    rintro e w1 ⟨kb, P1, rfl, hk1⟩
    have HK1 := Hid.mk hk1
    clear hk1 HSM
    unfold kptr
    go_wp2_with fail
    refine (HA.out _).mono ?_
    rintro e w2 ⟨rfl, hw⟩
    have hw2 := hw.symm; clear hw; subst hw2
    go_wp2_with fail
    refine (HM.out _).mono ?_
    rintro e w2 ⟨rfl, hw⟩
    have hw2 := hw.symm; clear hw; subst hw2
    go_wp2_with fail
    generalize hnn : (1 + m : Int) = n at *
    have hn1 : 1 ≤ n := by omega
    have hn3 : a + n ≤ 64 := by omega
    clear hnn hm1
    obtain ⟨s2, hst, hs2⟩ := HS1.out.lock a n hn1 (Or.inl rfl) a n (bad1 ha0 hn1 hn3).1 (bad1 ha0 hn1 hn3).2.1 (bad1 ha0 hn1 hn3).2.2
    refine (HK1.out.at' K (.lock 1 0 2 a n false) (by simp only [Cl.rng, i64]; omega) hst).mono ?_
    rintro e w2 ⟨P2, a2, c2, rfl, hk2, hu2⟩
    obtain ⟨rb, hrb⟩ : ∃ rb, rb = w2.heap.size := ⟨_, rfl⟩
    have hnp : ¬ P2 rb := fun hp => by have := K.lt hk2.r rb hp; omega
    have HNP := Hid.mk hnp
    have HKX := Hid.mk (hk2.alloc K (.cells #[.int .i64 0, .int .i64 0, .slice a2 0 c2] 34))
    have HSX := Hid.mk hs2
    have HRX : Hid (ResA (w2.alloc (.cells #[.int .i64 0, .int .i64 0, .slice a2 0 c2] 34)) rb) := by rw [hrb]; exact ⟨a2, c2, heap_alloc_new w2 _⟩
    have hrz : w.heap.size ≤ rb := by have := hk2.b.size; omega
    clear hk2 hs2 hu2 hst hnp HK1 HS1
    go_wp2_with fail
    rw [← hrb]
    generalize hWX : w2.alloc (.cells #[.int .i64 0, .int .i64 0, .slice a2 0 c2] 34) = WX at *
    clear hWX hrb
    obtain ⟨s3, hst, hs3⟩ := HSX.out.lock a n hn1 (Or.inr rfl) (a + n) (-n) (bad2 ha0 hn1 hn3).1 (bad2 ha0 hn1 hn3).2.1 (bad2 ha0 hn1 hn3).2.2
    refine (HKX.out.at' K (.lock 1 0 2 (a + n) (-n) false) (by simp only [Cl.rng, i64]; omega) hst).mono ?_
    rintro e w3 ⟨P3, a3, c3, rfl, hk3, hu3⟩
    have hre := HRX.out.upd HNP.out hu3
    have hnp : ¬ P3 rb := hu3.still HRX.out.lt HNP.out
    obtain ⟨ra, rcp, q0, q1, q2, qz⟩ := hre.cells
    have qz0 := qz 0
    have qz1 := qz 1
    have qz2 := qz 2
    have hrl := hre.lt
    have HK3 := Hid.mk hk3
    have HRE := Hid.mk hre
    have HNQ := Hid.mk hnp
    have HS3 := Hid.mk hs3
    clear hk3 hu3 hst hre hnp qz hs3 HSX HKX HRX HNP
    go_wp2_with fail
    have HKX := Hid.mk (((HK3.out.set K (a := ⟨rb, 0, none⟩) HNQ.out hrz (.int .i64 0)).set K (a := ⟨rb, 1, none⟩) HNQ.out hrz (.int .i64 0)).set K (a := ⟨rb, 2, none⟩) HNQ.out hrz (.slice a3 0 c3))
    have HRX := Hid.mk (HRE.out.again a3 c3)
    have HNP := HNQ
    have HSX := HS3
    clear q0 q1 q2 qz0 qz1 qz2 hrl HK3 HRE HNQ HS3
    generalize ((w3.setCell ⟨rb, 0, none⟩ (.int .i64 0)).setCell ⟨rb, 1, none⟩ (.int .i64 0)).setCell ⟨rb, 2, none⟩ (.slice a3 0 c3) = WY at *
    refine (HKX.out.runs K 0 (by simp [i64]) (l := [⟨1, 2, a, a + n - 1⟩]) (by unfold DS.runs; rw [if_pos (show fileB 0 = true from rfl)]; exact HSX.out.r)).mono ?_
    rintro e w4 ⟨P4, a4, c4, rfl, hr4, hm4, hk4, hu4⟩
    obtain ⟨g4, rfl, hg4, z0, z1, z2, z3⟩ := hr4 0 ⟨1, 2, a, a + n - 1⟩ rfl
    have hres := HRX.out.upd HNP.out hu4
    obtain ⟨ra, rcp, q0, q1, q2, qz⟩ := hres.cells
    have hrl := hres.lt
    have HK4 := Hid.mk hk4
    clear hr4 hm4 hk4 hu4 hres
    simp only [Nat.zero_mul, Nat.zero_add] at z0 z1 z2 z3
    go_wp2_with (go_at_call 20; refine (okF 0 0 0 ra 0 rcp w4).mono ?_; simp only [decide_true, Bool.and_self]; rintro e w5 ⟨rfl, hb5⟩; have y0 := (hb5.cell (p := ⟨g4, 0, none⟩) hg4).trans z0; have y1 := (hb5.cell (p := ⟨g4, 1, none⟩) hg4).trans z1; have y2 := (hb5.cell (p := ⟨g4, 2, none⟩) hg4).trans z2; have y3 := (hb5.cell (p := ⟨g4, 3, none⟩) hg4).trans z3; have HK5 := Hid.mk (HK4.out.below K hb5); clear hb5)
    clear y0 y1 y2 y3 z0 z1 z2 z3 q0 q1 q2 qz
    go_loopw [13] (fun s13 wr => ∃ (i : Nat) (PR : Nat → Prop), s13 = .int .i64 i ∧ i ≤ 64 ∧ Hid (KW rep w wr kb PR s3)) (fun s13 _ => 64 - (intOf s13).toNat)
    case atStart => exact ⟨0, P4, rfl, Nat.zero_le _, HK5.out⟩
    case round =>
      obtain ⟨i, PR, rfl, hi, HKR⟩ := hrel
      clear HK5 HK4 HKX HRX HNP
      by_cases hlt : i < 64
      · have hi63 : (i : Int) ≤ 63 := by omega
        by_cases hA : a ≤ (i : Int)
        · by_cases hB : (i : Int) < a + n
          · go_wp2_with fail
            refine (HKR.out.at' K (.test 0 0 1 (i : Int) 1) (by simp only [Cl.rng, i64]; omega) (HSX.out.test 0 1 (i : Int) (by omega) (by omega) (by omega) (1) (by first | rw [if_pos (by omega)] | rw [if_neg (by omega)]))).mono ?_
            rintro e w6 ⟨P6, a6, c6, rfl, hk6, _⟩
            have HK6 := Hid.mk hk6
            clear hk6
            go_wp2_with fail
            refine (okF 0 (1) (1) a6 0 c6 w6).mono ?_
            simp only [decide_true, Bool.and_self]
            rintro e w7 ⟨rfl, hb7⟩
            have HK7 := Hid.mk (HK6.out.below K hb7)
            clear hb7
            go_wp2_with fail
            refine (HK7.out.at' K (.test 1 0 2 (i : Int) 1) (by simp only [Cl.rng, i64]; omega) (HSX.out.test 1 2 (i : Int) (by omega) (by omega) (by omega) (-1) (by rw [if_neg (by omega)]))).mono ?_
            rintro e w8 ⟨P8, a8, c8, rfl, hk8, _⟩
            have HK8 := Hid.mk hk8
            clear hk8
            go_wp2_with fail
            refine (okF 0 (-1) (-1) a8 0 c8 w8).mono ?_
            simp only [decide_true, Bool.and_self]
            rintro e w9 ⟨rfl, hb9⟩
            have HK9 := Hid.mk (HK8.out.below K hb9)
            clear hb9
            go_wp2
            go_roundw
            case rel => exact ⟨i + 1, P8, by go_num, by omega, HK9.out⟩
            case measure => simp [intOf]; omega
          · go_wp2_with fail
            refine (HKR.out.at' K (.test 0 0 1 (i : Int) 1) (by simp only [Cl.rng, i64]; omega) (HSX.out.test 0 1 (i : Int) (by omega) (by omega) (by omega) (-1) (by first | rw [if_pos (by omega)] | rw [if_neg (by omega)]))).mono ?_
            rintro e w6 ⟨P6, a6, c6, rfl, hk6, _⟩
            have HK6 := Hid.mk hk6
            clear hk6
            go_wp2_with fail
            refine (okF 0 (-1) (-1) a6 0 c6 w6).mono ?_
            simp only [decide_true, Bool.and_self]
            rintro e w7 ⟨rfl, hb7⟩
            have HK7 := Hid.mk (HK6.out.below K hb7)
            clear hb7
            go_wp2_with fail
            refine (HK7.out.at' K (.test 1 0 2 (i : Int) 1) (by simp only [Cl.rng, i64]; omega) (HSX.out.test 1 2 (i : Int) (by omega) (by omega) (by omega) (-1) (by rw [if_neg (by omega)]))).mono ?_
            rintro e w8 ⟨P8, a8, c8, rfl, hk8, _⟩
            have HK8 := Hid.mk hk8
            clear hk8
            go_wp2_with fail
            refine (okF 0 (-1) (-1) a8 0 c8 w8).mono ?_
            simp only [decide_true, Bool.and_self]
            rintro e w9 ⟨rfl, hb9⟩
            have HK9 := Hid.mk (HK8.out.below K hb9)
            clear hb9
            go_wp2
            go_roundw
            case rel => exact ⟨i + 1, P8, by go_num, by omega, HK9.out⟩
            case measure => simp [intOf]; omega
        · go_wp2_with fail
          refine (HKR.out.at' K (.test 0 0 1 (i : Int) 1) (by simp only [Cl.rng, i64]; omega) (HSX.out.test 0 1 (i : Int) (by omega) (by omega) (by omega) (-1) (by first | rw [if_pos (by omega)] | rw [if_neg (by omega)]))).mono ?_
          rintro e w6 ⟨P6, a6, c6, rfl, hk6, _⟩
          have HK6 := Hid.mk hk6
          clear hk6
          go_wp2_with fail
          refine (okF 0 (-1) (-1) a6 0 c6 w6).mono ?_
          simp only [decide_true, Bool.and_self]
          rintro e w7 ⟨rfl, hb7⟩
          have HK7 := Hid.mk (HK6.out.below K hb7)
          clear hb7
          go_wp2_with fail
          refine (HK7.out.at' K (.test 1 0 2 (i : Int) 1) (by simp only [Cl.rng, i64]; omega) (HSX.out.test 1 2 (i : Int) (by omega) (by omega) (by omega) (-1) (by rw [if_neg (by omega)]))).mono ?_
          rintro e w8 ⟨P8, a8, c8, rfl, hk8, _⟩
          have HK8 := Hid.mk hk8
          clear hk8
          go_wp2_with fail
          refine (okF 0 (-1) (-1) a8 0 c8 w8).mono ?_
          simp only [decide_true, Bool.and_self]
          rintro e w9 ⟨rfl, hb9⟩
          have HK9 := Hid.mk (HK8.out.below K hb9)
          clear hb9
          go_wp2
          go_roundw
          case rel => exact ⟨i + 1, P8, by go_num, by omega, HK9.out⟩
          case measure => simp [intOf]; omega
      · have hi64 : ¬ (i : Int) ≤ 63 := by omega
        go_wp2_with fail
        refine (HKR.out.at' K (.lock 2 0 1 a 1 false) (by simp only [Cl.rng, i64]; omega) (HSX.out.busy ha0 (by omega) hn1)).mono ?_
        rintro e w6 ⟨P6, a6, c6, rfl, hk6, _⟩
        have HK6 := Hid.mk hk6
        clear hk6
        go_wp2_with fail
        refine (okF 8 0 0 a6 0 c6 w6).mono ?_
        simp only [show decide ((8 : Int) = 0) = false from rfl, Bool.false_and]
        rintro e w7 ⟨rfl, hb7⟩
        have HK7 := Hid.mk (HK6.out.below K hb7)
        clear hb7
        go_wp2_with fail
        refine (HK7.out.at' K (.lock 1 0 1 a (65 - a) false) (by simp only [Cl.rng, i64]; omega) (HSX.out.bad rfl (by simp [badS]; omega))).mono ?_
        rintro e w8 ⟨P8, a8, c8, rfl, hk8, _⟩
        have HK8 := Hid.mk hk8
        clear hk8
        go_wp2_with fail
        refine (isF 7 0 7 a8 0 c8 w8).mono ?_
        simp only [decide_true, Bool.and_self]
        rintro e w9 ⟨rfl, hb9⟩
        have HK9 := Hid.mk (HK8.out.below K hb9)
        clear hb9
        go_wp2_with fail
        refine (HK9.out.at' K (.lock 1 0 0 a (-a - 1) false) (by simp only [Cl.rng, i64]; omega) (HSX.out.bad rfl (by simp [badS]; omega))).mono ?_
        rintro e w10 ⟨P10, a10, c10, rfl, hk10, _⟩
        have HK10 := Hid.mk hk10
        clear hk10
        go_wp2_with fail
        refine (isF 7 0 7 a10 0 c10 w10).mono ?_
        simp only [decide_true, Bool.and_self]
        rintro e w11 ⟨rfl, hb11⟩
        have HK11 := Hid.mk (HK10.out.below K hb11)
        clear hb11
        go_wp2
        go_ret
        exact ⟨rfl, HK11.out.b⟩
  · go_enter Tryz.func5, Tryz.ntmps5
    go_wp2_with fail
    refine (HSM.out w).mono ?_
    rintro e w1 ⟨kb, P1, rfl, hk1⟩
    have HK1 := Hid.mk hk1
    clear hk1 HSM
    unfold kptr
    go_wp2_with fail
    refine (HA.out _).mono ?_
    rintro e w2 ⟨rfl, hw⟩
    have hw2 := hw.symm; clear hw; subst hw2
    go_wp2_with fail
    refine (HM.out _).mono ?_
    rintro e w2 ⟨rfl, hw⟩
    have hw2 := hw.symm; clear hw; subst hw2
    go_wp2_with fail
    obtain ⟨n, hnn⟩ : ∃ n : Int, n = 64 - a := ⟨_, rfl⟩
    have hn1 : 1 ≤ n := by omega
    have hn3 : a + n ≤ 64 := by omega
    have hn4 : a + n = 64 := by omega
    rw [← hnn]
    have HN4 := Hid.mk hn4
    clear hnn hn4
    obtain ⟨s2, hst, hs2⟩ := HS1.out.lock a n hn1 (Or.inl rfl) a n (bad1 ha0 hn1 hn3).1 (bad1 ha0 hn1 hn3).2.1 (bad1 ha0 hn1 hn3).2.2
    refine (HK1.out.at' K (.lock 1 0 2 a n false) (by simp only [Cl.rng, i64]; omega) hst).mono ?_
    rintro e w2 ⟨P2, a2, c2, rfl, hk2, hu2⟩
    obtain ⟨rb, hrb⟩ : ∃ rb, rb = w2.heap.size := ⟨_, rfl⟩
    have hnp : ¬ P2 rb := fun hp => by have := K.lt hk2.r rb hp; omega
    have HNP := Hid.mk hnp
    have HKX := Hid.mk (hk2.alloc K (.cells #[.int .i64 0, .int .i64 0, .slice a2 0 c2] 34))
    have HSX := Hid.mk hs2
    have HRX : Hid (ResA (w2.alloc (.cells #[.int .i64 0, .int .i64 0, .slice a2 0 c2] 34)) rb) := by rw [hrb]; exact ⟨a2, c2, heap_alloc_new w2 _⟩
    have hrz : w.heap.size ≤ rb := by have := hk2.b.size; omega
    clear hk2 hs2 hu2 hst hnp HK1 HS1
    go_wp2_with fail
    rw [← hrb]
    generalize hWX : w2.alloc (.cells #[.int .i64 0, .int .i64 0, .slice a2 0 c2] 34) = WX at *
    clear hWX hrb
    obtain ⟨s5, hst, hs5⟩ := HSX.out.lock a n hn1 (Or.inr rfl) (a) (0) (bad3 ha0 hn1 HN4.out).1 (bad3 ha0 hn1 HN4.out).2.1 (bad3 ha0 hn1 HN4.out).2.2
    refine (HKX.out.at' K (.lock 1 0 2 (a) (0) false) (by simp only [Cl.rng, i64]; omega) hst).mono ?_
    rintro e w5 ⟨P5, a5, c5, rfl, hk5, hu5⟩
    have hre := HRX.out.upd HNP.out hu5
    have hnp : ¬ P5 rb := hu5.still HRX.out.lt HNP.out
    obtain ⟨ra, rcp, q0, q1, q2, qz⟩ := hre.cells
    have qz0 := qz 0
    have qz1 := qz 1
    have qz2 := qz 2
    have hrl := hre.lt
    have HK5 := Hid.mk hk5
    have HRE := Hid.mk hre
    have HNQ := Hid.mk hnp
    have HS5 := Hid.mk hs5
    clear hk5 hu5 hst hre hnp qz hs5 HSX HKX HRX HNP
    go_wp2_with fail
    have HKX := Hid.mk (((HK5.out.set K (a := ⟨rb, 0, none⟩) HNQ.out hrz (.int .i64 0)).set K (a := ⟨rb, 1, none⟩) HNQ.out hrz (.int .i64 0)).set K (a := ⟨rb, 2, none⟩) HNQ.out hrz (.slice a5 0 c5))
    have HRX := Hid.mk (HRE.out.again a5 c5)
    have HNP := HNQ
    have HSX := HS5
    clear q0 q1 q2 qz0 qz1 qz2 hrl HK5 HRE HNQ HS5
    generalize ((w5.setCell ⟨rb, 0, none⟩ (.int .i64 0)).setCell ⟨rb, 1, none⟩ (.int .i64 0)).setCell ⟨rb, 2, none⟩ (.slice a5 0 c5) = WY at *
    refine (HKX.out.runs K 0 (by simp [i64]) (l := [⟨1, 2, a, a + n - 1⟩]) (by unfold DS.runs; rw [if_pos (show fileB 0 = true from rfl)]; exact HSX.out.r)).mono ?_
    rintro e w4 ⟨P4, a4, c4, rfl, hr4, hm4, hk4, hu4⟩
    obtain ⟨g4, rfl, hg4, z0, z1, z2, z3⟩ := hr4 0 ⟨1, 2, a, a + n - 1⟩ rfl
    have hres := HRX.out.upd HNP.out hu4
    obtain ⟨ra, rcp, q0, q1, q2, qz⟩ := hres.cells
    have hrl := hres.lt
    have HK4 := Hid.mk hk4
    clear hr4 hm4 hk4 hu4 hres
    simp only [Nat.zero_mul, Nat.zero_add] at z0 z1 z2 z3
    go_wp2_with (go_at_call 20; refine (okF 0 0 0 ra 0 rcp w4).mono ?_; simp only [decide_true, Bool.and_self]; rintro e w5 ⟨rfl, hb5⟩; have y0 := (hb5.cell (p := ⟨g4, 0, none⟩) hg4).trans z0; have y1 := (hb5.cell (p := ⟨g4, 1, none⟩) hg4).trans z1; have y2 := (hb5.cell (p := ⟨g4, 2, none⟩) hg4).trans z2; have y3 := (hb5.cell (p := ⟨g4, 3, none⟩) hg4).trans z3; have HK5 := Hid.mk (HK4.out.below K hb5); clear hb5)
    clear y0 y1 y2 y3 z0 z1 z2 z3 q0 q1 q2 qz
    go_loopw [13] (fun s13 wr => ∃ (i : Nat) (PR : Nat → Prop), s13 = .int .i64 i ∧ i ≤ 64 ∧ Hid (KW rep w wr kb PR s5)) (fun s13 _ => 64 - (intOf s13).toNat)
    case atStart => exact ⟨0, P4, rfl, Nat.zero_le _, HK5.out⟩
    case round =>
      obtain ⟨i, PR, rfl, hi, HKR⟩ := hrel
      clear HK5 HK4 HKX HRX HNP
      by_cases hlt : i < 64
      · have hi63 : (i : Int) ≤ 63 := by omega
        by_cases hA : a ≤ (i : Int)
        · by_cases hB : (i : Int) < a + n
          · go_wp2_with fail
            refine (HKR.out.at' K (.test 0 0 1 (i : Int) 1) (by simp only [Cl.rng, i64]; omega) (HSX.out.test 0 1 (i : Int) (by omega) (by omega) (by omega) (1) (by first | rw [if_pos (by omega)] | rw [if_neg (by omega)]))).mono ?_
            rintro e w6 ⟨P6, a6, c6, rfl, hk6, _⟩
            have HK6 := Hid.mk hk6
            clear hk6
            go_wp2_with fail
            refine (okF 0 (1) (1) a6 0 c6 w6).mono ?_
            simp only [decide_true, Bool.and_self]
            rintro e w7 ⟨rfl, hb7⟩
            have HK7 := Hid.mk (HK6.out.below K hb7)
            clear hb7
            go_wp2_with fail
            refine (HK7.out.at' K (.test 1 0 2 (i : Int) 1) (by simp only [Cl.rng, i64]; omega) (HSX.out.test 1 2 (i : Int) (by omega) (by omega) (by omega) (-1) (by rw [if_neg (by omega)]))).mono ?_
            rintro e w8 ⟨P8, a8, c8, rfl, hk8, _⟩
            have HK8 := Hid.mk hk8
            clear hk8
            go_wp2_with fail
            refine (okF 0 (-1) (-1) a8 0 c8 w8).mono ?_
            simp only [decide_true, Bool.and_self]
            rintro e w9 ⟨rfl, hb9⟩
            have HK9 := Hid.mk (HK8.out.below K hb9)
            clear hb9
            go_wp2
            go_roundw
            case rel => exact ⟨i + 1, P8, by go_num, by omega, HK9.out⟩
            case measure => simp [intOf]; omega
          · exact absurd (show (i : Int) < a + n by have := HN4.out; omega) hB
        · go_wp2_with fail
          refine (HKR.out.at' K (.test 0 0 1 (i : Int) 1) (by simp only [Cl.rng, i64]; omega) (HSX.out.test 0 1 (i : Int) (by omega) (by omega) (by omega) (-1) (by first | rw [if_pos (by omega)] | rw [if_neg (by omega)]))).mono ?_
          rintro e w6 ⟨P6, a6, c6, rfl, hk6, _⟩
          have HK6 := Hid.mk hk6
          clear hk6
          go_wp2_with fail
          refine (okF 0 (-1) (-1) a6 0 c6 w6).mono ?_
          simp only [decide_true, Bool.and_self]
          rintro e w7 ⟨rfl, hb7⟩
          have HK7 := Hid.mk (HK6.out.below K hb7)
          clear hb7
          go_wp2_with fail
          refine (HK7.out.at' K (.test 1 0 2 (i : Int) 1) (by simp only [Cl.rng, i64]; omega) (HSX.out.test 1 2 (i : Int) (by omega) (by omega) (by omega) (-1) (by rw [if_neg (by omega)]))).mono ?_
          rintro e w8 ⟨P8, a8, c8, rfl, hk8, _⟩
          have HK8 := Hid.mk hk8
          clear hk8
          go_wp2_with fail
          refine (okF 0 (-1) (-1) a8 0 c8 w8).mono ?_
          simp only [decide_true, Bool.and_self]
          rintro e w9 ⟨rfl, hb9⟩
          have HK9 := Hid.mk (HK8.out.below K hb9)
          clear hb9
          go_wp2
          go_roundw
          case rel => exact ⟨i + 1, P8, by go_num, by omega, HK9.out⟩
          case measure => simp [intOf]; omega
      · have hi64 : ¬ (i : Int) ≤ 63 := by omega
        go_wp2_with fail
        refine (HKR.out.at' K (.lock 2 0 1 a 1 false) (by simp only [Cl.rng, i64]; omega) (HSX.out.busy ha0 (by omega) hn1)).mono ?_
        rintro e w6 ⟨P6, a6, c6, rfl, hk6, _⟩
        have HK6 := Hid.mk hk6
        clear hk6
        go_wp2_with fail
        refine (okF 8 0 0 a6 0 c6 w6).mono ?_
        simp only [show decide ((8 : Int) = 0) = false from rfl, Bool.false_and]
        rintro e w7 ⟨rfl, hb7⟩
        have HK7 := Hid.mk (HK6.out.below K hb7)
        clear hb7
        go_wp2_with fail
        refine (HK7.out.at' K (.lock 1 0 1 a (65 - a) false) (by simp only [Cl.rng, i64]; omega) (HSX.out.bad rfl (by simp [badS]; omega))).mono ?_
        rintro e w8 ⟨P8, a8, c8, rfl, hk8, _⟩
        have HK8 := Hid.mk hk8
        clear hk8
        go_wp2_with fail
        refine (isF 7 0 7 a8 0 c8 w8).mono ?_
        simp only [decide_true, Bool.and_self]
        rintro e w9 ⟨rfl, hb9⟩
        have HK9 := Hid.mk (HK8.out.below K hb9)
        clear hb9
        go_wp2_with fail
        refine (HK9.out.at' K (.lock 1 0 0 a (-a - 1) false) (by simp only [Cl.rng, i64]; omega) (HSX.out.bad rfl (by simp [badS]; omega))).mono ?_
        rintro e w10 ⟨P10, a10, c10, rfl, hk10, _⟩
        have HK10 := Hid.mk hk10
        clear hk10
        go_wp2_with fail
        refine (isF 7 0 7 a10 0 c10 w10).mono ?_
        simp only [decide_true, Bool.and_self]
        rintro e w11 ⟨rfl, hb11⟩
        have HK11 := Hid.mk (HK10.out.below K hb11)
        clear hb11
        go_wp2
        go_ret
        exact ⟨rfl, HK11.out.b⟩
  · go_enter Tryz.func5, Tryz.ntmps5
    go_wp2_with fail
    refine (HSM.out w).mono ?_
    rintro e w1 ⟨kb, P1, rfl, hk1⟩
    have HK1 := Hid.mk hk1
    clear hk1 HSM
    unfold kptr
    go_wp2_with fail
    refine (HA.out _).mono ?_
    rintro e w2 ⟨rfl, hw⟩
    have hw2 := hw.symm; clear hw; subst hw2
    go_wp2_with fail
    refine (HM.out _).mono ?_
    rintro e w2 ⟨rfl, hw⟩
    have hw2 := hw.symm; clear hw; subst hw2
    go_wp2_with fail
    obtain ⟨n, hnn⟩ : ∃ n : Int, n = 64 - a := ⟨_, rfl⟩
    have hn1 : 1 ≤ n := by omega
    have hn3 : a + n ≤ 64 := by omega
    have hn4 : a + n = 64 := by omega
    rw [← hnn]
    have HN4 := Hid.mk hn4
    clear hnn hn4
    obtain ⟨s2, hst, hs2⟩ := HS1.out.lock a n hn1 (Or.inl rfl) a n (bad1 ha0 hn1 hn3).1 (bad1 ha0 hn1 hn3).2.1 (bad1 ha0 hn1 hn3).2.2
    refine (HK1.out.at' K (.lock 1 0 2 a n false) (by simp only [Cl.rng, i64]; omega) hst).mono ?_
    rintro e w2 ⟨P2, a2, c2, rfl, hk2, hu2⟩
    obtain ⟨rb, hrb⟩ : ∃ rb, rb = w2.heap.size := ⟨_, rfl⟩
    have hnp : ¬ P2 rb := fun hp => by have := K.lt hk2.r rb hp; omega
    have HNP := Hid.mk hnp
    have HKX := Hid.mk (hk2.alloc K (.cells #[.int .i64 0, .int .i64 0, .slice a2 0 c2] 34))
    have HSX := Hid.mk hs2
    have HRX : Hid (ResA (w2.alloc (.cells #[.int .i64 0, .int .i64 0, .slice a2 0 c2] 34)) rb) := by rw [hrb]; exact ⟨a2, c2, heap_alloc_new w2 _⟩
    have hrz : w.heap.size ≤ rb := by have := hk2.b.size; omega
    clear hk2 hs2 hu2 hst hnp HK1 HS1
    go_wp2_with fail
    rw [← hrb]
    generalize hWX : w2.alloc (.cells #[.int .i64 0, .int .i64 0, .slice a2 0 c2] 34) = WX at *
    clear hWX hrb
    obtain ⟨s3, hst, hs3⟩ := HSX.out.lock a n hn1 (Or.inr rfl) (a + n) (-n) (bad2 ha0 hn1 hn3).1 (bad2 ha0 hn1 hn3).2.1 (bad2 ha0 hn1 hn3).2.2
    refine (HKX.out.at' K (.lock 1 0 2 (a + n) (-n) false) (by simp only [Cl.rng, i64]; omega) hst).mono ?_
    rintro e w3 ⟨P3, a3, c3, rfl, hk3, hu3⟩
    have hre := HRX.out.upd HNP.out hu3
    have hnp : ¬ P3 rb := hu3.still HRX.out.lt HNP.out
    obtain ⟨ra, rcp, q0, q1, q2, qz⟩ := hre.cells
    have qz0 := qz 0
    have qz1 := qz 1
    have qz2 := qz 2
    have hrl := hre.lt
    have HK3 := Hid.mk hk3
    have HRE := Hid.mk hre
    have HNQ := Hid.mk hnp
    have HS3 := Hid.mk hs3
    clear hk3 hu3 hst hre hnp qz hs3 HSX HKX HRX HNP
    go_wp2_with fail
    have HKX := Hid.mk (((HK3.out.set K (a := ⟨rb, 0, none⟩) HNQ.out hrz (.int .i64 0)).set K (a := ⟨rb, 1, none⟩) HNQ.out hrz (.int .i64 0)).set K (a := ⟨rb, 2, none⟩) HNQ.out hrz (.slice a3 0 c3))
    have HRX := Hid.mk (HRE.out.again a3 c3)
    have HNP := HNQ
    have HSX := HS3
    clear q0 q1 q2 qz0 qz1 qz2 hrl HK3 HRE HNQ HS3
    generalize ((w3.setCell ⟨rb, 0, none⟩ (.int .i64 0)).setCell ⟨rb, 1, none⟩ (.int .i64 0)).setCell ⟨rb, 2, none⟩ (.slice a3 0 c3) = WY at *
    obtain ⟨s5, hst, hs5⟩ := HSX.out.lock a n hn1 (Or.inr rfl) (a) (0) (bad3 ha0 hn1 HN4.out).1 (bad3 ha0 hn1 HN4.out).2.1 (bad3 ha0 hn1 HN4.out).2.2
    refine (HKX.out.at' K (.lock 1 0 2 (a) (0) false) (by simp only [Cl.rng, i64]; omega) hst).mono ?_
    rintro e w5 ⟨P5, a5, c5, rfl, hk5, hu5⟩
    have hre := HRX.out.upd HNP.out hu5
    have hnp : ¬ P5 rb := hu5.still HRX.out.lt HNP.out
    obtain ⟨ra, rcp, q0, q1, q2, qz⟩ := hre.cells
    have qz0 := qz 0
    have qz1 := qz 1
    have qz2 := qz 2
    have hrl := hre.lt
    have HK5 := Hid.mk hk5
    have HRE := Hid.mk hre
    have HNQ := Hid.mk hnp
    have HS5 := Hid.mk hs5
    clear hk5 hu5 hst hre hnp qz hs5 HSX HKX HRX HNP
    go_wp2_with fail
    have HKX := Hid.mk (((HK5.out.set K (a := ⟨rb, 0, none⟩) HNQ.out hrz (.int .i64 0)).set K (a := ⟨rb, 1, none⟩) HNQ.out hrz (.int .i64 0)).set K (a := ⟨rb, 2, none⟩) HNQ.out hrz (.slice a5 0 c5))
    have HRX := Hid.mk (HRE.out.again a5 c5)
    have HNP := HNQ
    have HSX := HS5
    clear q0 q1 q2 qz0 qz1 qz2 hrl HK5 HRE HNQ HS5
    generalize ((w5.setCell ⟨rb, 0, none⟩ (.int .i64 0)).setCell ⟨rb, 1, none⟩ (.int .i64 0)).setCell ⟨rb, 2, none⟩ (.slice a5 0 c5) = WY at *
    refine (HKX.out.runs K 0 (by simp [i64]) (l := [⟨1, 2, a, a + n - 1⟩]) (by unfold DS.runs; rw [if_pos (show fileB 0 = true from rfl)]; exact HSX.out.r)).mono ?_
    rintro e w4 ⟨P4, a4, c4, rfl, hr4, hm4, hk4, hu4⟩
    obtain ⟨g4, rfl, hg4, z0, z1, z2, z3⟩ := hr4 0 ⟨1, 2, a, a + n - 1⟩ rfl
    have hres := HRX.out.upd HNP.out hu4
    obtain ⟨ra, rcp, q0, q1, q2, qz⟩ := hres.cells
    have hrl := hres.lt
    have HK4 := Hid.mk hk4
    clear hr4 hm4 hk4 hu4 hres
    simp only [Nat.zero_mul, Nat.zero_add] at z0 z1 z2 z3
    go_wp2_with (go_at_call 20; refine (okF 0 0 0 ra 0 rcp w4).mono ?_; simp only [decide_true, Bool.and_self]; rintro e w5 ⟨rfl, hb5⟩; have y0 := (hb5.cell (p := ⟨g4, 0, none⟩) hg4).trans z0; have y1 := (hb5.cell (p := ⟨g4, 1, none⟩) hg4).trans z1; have y2 := (hb5.cell (p := ⟨g4, 2, none⟩) hg4).trans z2; have y3 := (hb5.cell (p := ⟨g4, 3, none⟩) hg4).trans z3; have HK5 := Hid.mk (HK4.out.below K hb5); clear hb5)
    clear y0 y1 y2 y3 z0 z1 z2 z3 q0 q1 q2 qz
    go_loopw [13] (fun s13 wr => ∃ (i : Nat) (PR : Nat → Prop), s13 = .int .i64 i ∧ i ≤ 64 ∧ Hid (KW rep w wr kb PR s5)) (fun s13 _ => 64 - (intOf s13).toNat)
    case atStart => exact ⟨0, P4, rfl, Nat.zero_le _, HK5.out⟩
    case round =>
      obtain ⟨i, PR, rfl, hi, HKR⟩ := hrel
      clear HK5 HK4 HKX HRX HNP
      by_cases hlt : i < 64
      · have hi63 : (i : Int) ≤ 63 := by omega
        by_cases hA : a ≤ (i : Int)
        · by_cases hB : (i : Int) < a + n
          · go_wp2_with fail
            refine (HKR.out.at' K (.test 0 0 1 (i : Int) 1) (by simp only [Cl.rng, i64]; omega) (HSX.out.test 0 1 (i : Int) (by omega) (by omega) (by omega) (1) (by first | rw [if_pos (by omega)] | rw [if_neg (by omega)]))).mono ?_
            rintro e w6 ⟨P6, a6, c6, rfl, hk6, _⟩
            have HK6 := Hid.mk hk6
            clear hk6
            go_wp2_with fail
            refine (okF 0 (1) (1) a6 0 c6 w6).mono ?_
            simp only [decide_true, Bool.and_self]
            rintro e w7 ⟨rfl, hb7⟩
            have HK7 := Hid.mk (HK6.out.below K hb7)
            clear hb7
            go_wp2_with fail
            refine (HK7.out.at' K (.test 1 0 2 (i : Int) 1) (by simp only [Cl.rng, i64]; omega) (HSX.out.test 1 2 (i : Int) (by omega) (by omega) (by omega) (-1) (by rw [if_neg (by omega)]))).mono ?_
            rintro e w8 ⟨P8, a8, c8, rfl, hk8, _⟩
            have HK8 := Hid.mk hk8
            clear hk8
            go_wp2_with fail
            refine (okF 0 (-1) (-1) a8 0 c8 w8).mono ?_
            simp only [decide_true, Bool.and_self]
            rintro e w9 ⟨rfl, hb9⟩
            have HK9 := Hid.mk (HK8.out.below K hb9)
            clear hb9
            go_wp2
            go_roundw
            case rel => exact ⟨i + 1, P8, by go_num, by omega, HK9.out⟩
            case measure => simp [intOf]; omega
          · exact absurd (show (i : Int) < a + n by have := HN4.out; omega) hB
        · go_wp2_with fail
          refine (HKR.out.at' K (.test 0 0 1 (i : Int) 1) (by simp only [Cl.rng, i64]; omega) (HSX.out.test 0 1 (i : Int) (by omega) (by omega) (by omega) (-1) (by first | rw [if_pos (by omega)] | rw [if_neg (by omega)]))).mono ?_
          rintro e w6 ⟨P6, a6, c6, rfl, hk6, _⟩
          have HK6 := Hid.mk hk6
          clear hk6
          go_wp2_with fail
          refine (okF 0 (-1) (-1) a6 0 c6 w6).mono ?_
          simp only [decide_true, Bool.and_self]
          rintro e w7 ⟨rfl, hb7⟩
          have HK7 := Hid.mk (HK6.out.below K hb7)
          clear hb7
          go_wp2_with fail
          refine (HK7.out.at' K (.test 1 0 2 (i : Int) 1) (by simp only [Cl.rng, i64]; omega) (HSX.out.test 1 2 (i : Int) (by omega) (by omega) (by omega) (-1) (by rw [if_neg (by omega)]))).mono ?_
          rintro e w8 ⟨P8, a8, c8, rfl, hk8, _⟩
          have HK8 := Hid.mk hk8
          clear hk8
          go_wp2_with fail
          refine (okF 0 (-1) (-1) a8 0 c8 w8).mono ?_
          simp only [decide_true, Bool.and_self]
          rintro e w9 ⟨rfl, hb9⟩
          have HK9 := Hid.mk (HK8.out.below K hb9)
          clear hb9
          go_wp2
          go_roundw
          case rel => exact ⟨i + 1, P8, by go_num, by omega, HK9.out⟩
          case measure => simp [intOf]; omega
      · have hi64 : ¬ (i : Int) ≤ 63 := by omega
        go_wp2_with fail
        refine (HKR.out.at' K (.lock 2 0 1 a 1 false) (by simp only [Cl.rng, i64]; omega) (HSX.out.busy ha0 (by omega) hn1)).mono ?_
        rintro e w6 ⟨P6, a6, c6, rfl, hk6, _⟩
        have HK6 := Hid.mk hk6
        clear hk6
        go_wp2_with fail
        refine (okF 8 0 0 a6 0 c6 w6).mono ?_
        simp only [show decide ((8 : Int) = 0) = false from rfl, Bool.false_and]
        rintro e w7 ⟨rfl, hb7⟩
        have HK7 := Hid.mk (HK6.out.below K hb7)
        clear hb7
        go_wp2_with fail
        refine (HK7.out.at' K (.lock 1 0 1 a (65 - a) false) (by simp only [Cl.rng, i64]; omega) (HSX.out.bad rfl (by simp [badS]; omega))).mono ?_
        rintro e w8 ⟨P8, a8, c8, rfl, hk8, _⟩
        have HK8 := Hid.mk hk8
        clear hk8
        go_wp2_with fail
        refine (isF 7 0 7 a8 0 c8 w8).mono ?_
        simp only [decide_true, Bool.and_self]
        rintro e w9 ⟨rfl, hb9⟩
        have HK9 := Hid.mk (HK8.out.below K hb9)
        clear hb9
        go_wp2_with fail
        refine (HK9.out.at' K (.lock 1 0 0 a (-a - 1) false) (by simp only [Cl.rng, i64]; omega) (HSX.out.bad rfl (by simp [badS]; omega))).mono ?_
        rintro e w10 ⟨P10, a10, c10, rfl, hk10, _⟩
        have HK10 := Hid.mk hk10
        clear hk10
        go_wp2_with fail
        refine (isF 7 0 7 a10 0 c10 w10).mono ?_
        simp only [decide_true, Bool.and_self]
        rintro e w11 ⟨rfl, hb11⟩
        have HK11 := Hid.mk (HK10.out.below K hb11)
        clear hb11
        go_wp2
        go_ret
        exact ⟨rfl, HK11.out.b⟩
end
end Go.Proofs.YtaicdjhblbobbaaGreat
