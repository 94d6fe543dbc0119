/- Over any program that answers as the model: the statement Ring. -/
import Derived.Test.YtaicdjhblbobbaaGreatGKeep
import Derived.Test.YtaicdjhblbobbaaGreatGScene
namespace Go.Proofs.YtaicdjhblbobbaaGreat
open Go.RowKit

section
variable {rep : World → Nat → (Nat → Prop) → DS → Prop} (K : Face rep)
include K
set_option maxHeartbeats 16000000 in
set_option maxRecDepth 100000 in
theorem RingF (x y : Int) (w : World) (hx : i64 x) (hy : i64 y) :
    Calls Tryz.prog 10 #[.int .i64 x, .int .i64 y] w fun e w' => e = .returned (.bool true) ∧ Below w.heap.size w w' := by
  have HX := Hid.mk hx
  have HY := Hid.mk hy
  clear hx hy
  obtain ⟨n0, hn0⟩ : ∃ n0 : Nat, pickI x 5 = n0 := ⟨(pickI x 5).toNat, by have := pickI_bd x 5 (by omega); omega⟩
  have hn1 : n0 < 5 := by have := pickI_bd x 5 (by omega); omega
  have HP := Hid.mk (pick_eq x 5 · HX.out (by omega) (by omega))
  have HQ := Hid.mk (pick_eq y 2 · HY.out (by omega) (by omega))
  rw [hn0] at HP
  obtain ⟨sh, hsh⟩ : ∃ sh : Bool, (pickI y 2 == 1) = sh := ⟨_, rfl⟩
  have HSM := Hid.mk (someF K (2 + n0) (by omega) (by omega))
  generalize pickI y 2 = y2 at *
  clear hn0
  go_enter Tryz.func10, Tryz.ntmps10
  go_wp2_with fail
  refine (HP.out w).mono ?_
  rintro e w' ⟨rfl, hw⟩
  subst w'
  go_wp2_with fail
  obtain ⟨n, hn⟩ : ∃ n : Nat, n = 2 + n0 := ⟨_, rfl⟩
  rw [← hn] at HSM
  rw [show (2 + (n0 : Int)) = (n : Int) by omega]
  refine (HSM.out w).mono ?_
  rintro e w1 ⟨kb, P, rfl, hk1⟩
  have HK := Hid.mk hk1
  have hn2 : 2 ≤ n := by omega
  have hn6 : n ≤ 6 := by omega
  clear hk1 hn hn1 HSM HP
  go_wp2_with fail
  go_loopg [8] 10 (fun g s8 wr => ∃ (i : Nat) (P : Nat → Prop), s8 = .int .i64 i ∧ i ≤ n ∧ g = 10 - i ∧ Hid (KW rep w wr kb P (stC (ringA n i))))
  case atStart => exact ⟨0, P, rfl, by omega, by omega, by simpa [ringA, range'] using HK⟩
  case round =>
    clear HK P
    obtain ⟨i, P, rfl, hi, rfl, HK⟩ := hrel
    by_cases hlt : i < n
    · have HC := Hid.mk (HK.out.num K (ringOwn i) (by simp [ringOwn, Cl.rng, i64]; omega) (ring_own ⟨n, by omega⟩ hn2 ⟨i, by omega⟩ hlt))
      go_wp2_with fail
      refine HC.out.mono ?_
      rintro e w2 ⟨P2, a, cp, rfl, hk2, _⟩
      have HK2 := Hid.mk hk2
      clear hk2
      go_wp2_with fail
      refine (okF _ _ _ _ _ _ _).mono ?_
      simp only [decide_true, Bool.and_self]
      rintro e w3 ⟨rfl, hb3⟩
      have HK3 := Hid.mk (HK2.out.below K hb3)
      clear hb3
      go_wp2
      go_roundg (10 - (i + 1))
      case measure => omega
      case rel => exact ⟨i + 1, P2, by go_num, by omega, rfl, by rw [ringA, range'_succ, ← List.append_assoc]; exact HK3.out⟩
    · obtain rfl : i = n := by omega
      go_wp2_with fail
      refine (HQ.out wr).mono ?_
      rintro e w' ⟨rfl, hw⟩
      subst w'
      have HKB : Hid (KW rep w wr kb P (stC (ringB i sh 0))) := by simpa [ringB, range'] using HK
      clear HK HQ HX HY hlt hi
      cases sh
      all_goals
        go_wp2_with fail
        go_loopg [11] 10 (fun g s11 wr => ∃ (j : Nat) (P : Nat → Prop), s11 = .int .i64 j ∧ j + 1 ≤ i ∧ g = 10 - j ∧ Hid (KW rep w wr kb P (stC (ringB i _ j))))
        case atStart => exact ⟨0, P, rfl, by omega, by omega, HKB.out⟩
        case round =>
          clear HKB P
          obtain ⟨j, P, rfl, hj, rfl, HK⟩ := hrel
          by_cases hlt : j + 1 < i
          · have HC := Hid.mk (HK.out.num K (ringAsk _ j) (by simp [ringAsk, Cl.rng, i64, kindS]; omega) (ring_ask ⟨i, by omega⟩ hn2 _ ⟨j, by omega⟩ hlt))
            go_wp2_with fail
            refine HC.out.mono ?_
            rintro e w2 ⟨P2, a, cp, rfl, hk2, _⟩
            have HK2 := Hid.mk hk2
            clear hk2
            go_wp2_with fail
            refine (isF _ _ _ _ _ _ _).mono ?_
            simp only [decide_true, Bool.and_self]
            rintro e w3 ⟨rfl, hb3⟩
            have HK3 := Hid.mk (HK2.out.below K hb3)
            clear hb3
            go_wp2
            go_roundg (10 - (j + 1))
            case measure => omega
            case rel => exact ⟨j + 1, P2, by go_num, by omega, rfl, by rw [ringB, range'_succ, ← List.append_assoc]; exact HK3.out⟩
          · obtain rfl : j = i - 1 := by omega
            clear hj hlt
            have HKC : Hid (KW rep w wr kb P (stC (ringC i _))) := HK
            have HC := Hid.mk (HKC.out.err K _ (by simp [Cl.rng, i64, kindS]; omega) (ring_last1 ⟨i, by omega⟩ hn2 _) (by decide) (by decide))
            clear HK
            go_wp2_with fail
            refine HC.out.mono ?_
            rintro e w2 ⟨P2, a, cp, rfl, hk2, _⟩
            have HK2 := Hid.mk hk2
            clear hk2 HC
            go_wp2_with fail
            refine (isF _ _ _ _ _ _ _).mono ?_
            simp only [decide_true, Bool.and_self]
            rintro e w3 ⟨rfl, hb3⟩
            have HK3 := Hid.mk (HK2.out.below K hb3)
            clear hb3 HK2 HKC
            have HC := Hid.mk (HK3.out.err K _ (by simp [Cl.rng, i64, kindS]; omega) (ring_last2 ⟨i, by omega⟩ hn2 _) (by decide) (by decide))
            go_wp2_with fail
            refine HC.out.mono ?_
            rintro e w4 ⟨P4, a4, cp4, rfl, hk4, _⟩
            have HK4 := Hid.mk hk4
            clear hk4 HC HK3
            go_wp2_with fail
            refine (isF _ _ _ _ _ _ _).mono ?_
            simp only [decide_true, Bool.and_self]
            rintro e w5 ⟨rfl, hb5⟩
            have HK5 := Hid.mk (HK4.out.below K hb5)
            clear hb5 HK4
            have HC := Hid.mk (HK5.out.err K _ (by simp [freeP, Cl.rng, i64]) (ring_last3 ⟨i, by omega⟩ hn2 _) (by decide) (by decide))
            go_wp2_with fail
            refine HC.out.mono ?_
            rintro e w6 ⟨P6, a6, cp6, rfl, hk6, _⟩
            have HK6 := Hid.mk hk6
            clear hk6 HC HK5
            go_wp2_with fail
            refine (isF _ _ _ _ _ _ _).mono ?_
            simp only [decide_true, Bool.and_self]
            rintro e w7 ⟨rfl, hb7⟩
            have HK7 := Hid.mk (HK6.out.below K hb7)
            clear hb7 HK6
            go_wp2_with fail
            go_loopg [16] 10 (fun g s16 wr => ∃ (j : Nat) (P : Nat → Prop), s16 = .int .i64 ((i : Int) - 1 - j) ∧ j + 1 ≤ i ∧ g = 10 - j ∧ Hid (KW rep w wr kb P (stC (ringD i _ j))))
            case atStart => exact ⟨0, P6, by go_num, by omega, by omega, by simpa [ringD, range'] using HK7⟩
            case round =>
              clear HK7
              obtain ⟨j, Q, rfl, hj, rfl, HK⟩ := hrel
              by_cases hlt : j + 1 < i
              · have HC := Hid.mk (HK.out.call K (freeP ((i : Int) - 1 - j)) (by simp [freeP, Cl.rng, i64]; omega) (ring_free ⟨i, by omega⟩ hn2 _ ⟨j, by omega⟩ hlt))
                go_wp2_with fail
                refine HC.out.mono ?_
                rintro e w8 ⟨P8, a8, cp8, rfl, ht8, hk8, _⟩
                have HK8 := Hid.mk hk8
                have HT8 := Hid.mk ht8
                clear hk8 ht8 HC
                unfold rpV
                go_wp2_with fail
                have e8 : (i : Int) - 1 - j - 1 = (i : Int) - 2 - j := by omega
                rw [e8]
                refine (freesF [(i : Int) - 2 - j] a8 _ cp8 1 _ (by simp) ((DRow.own HT8.out.own).below ((Below.refl _ _).alloc (Nat.le_refl _) _)) (IRow.lit1 _ _ _)).mono ?_
                rintro e w9 ⟨rfl, hb9⟩
                have HK9 := Hid.mk ((HK8.out.alloc K _).below K hb9)
                clear hb9 HK8 HT8
                go_wp2
                go_roundg (10 - (j + 1))
                case measure => omega
                case rel => exact ⟨j + 1, P8, by go_num, by omega, rfl, by rw [ringD, range'_succ, ← List.append_assoc]; exact HK9.out⟩
              · obtain rfl : j = i - 1 := by omega
                go_wp2_with fail
                refine (waitingF K HK.out [] none 0 (ring_end ⟨i, by omega⟩ hn2 _) (by simp) (IRow.nil _ _) (fun _ _ h => by cases h)).mono ?_
                rintro e w8 ⟨P8, rfl, hk8, _⟩
                go_wp2
                go_ret
                exact ⟨rfl, hk8.b⟩
end
end Go.Proofs.YtaicdjhblbobbaaGreat
