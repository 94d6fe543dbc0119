/- Over any program that answers as the model: the statement Firm. -/
import Derived.Test.YtaicdjhblbobbaaGreatGPlay
import Derived.Test.YtaicdjhblbobbaaGreatVFirmPure
namespace Go.Proofs.YtaicdjhblbobbaaGreat
open Go.RowKit

section
variable {rep : World → Nat → (Nat → Prop) → DS → Prop} (K : Face rep)
include K
set_option maxHeartbeats 64000000 in
set_option maxRecDepth 100000 in
theorem FirmF (x : Int) (v : Value) (w : World) (hx : i64 x) :
    Calls Tryz.prog 14 #[.int .i64 x, v] w fun e w' => e = .returned (.bool true) ∧ Below w.heap.size w w' := by
  obtain ⟨F, hF⟩ : ∃ F : Int, pickI x 1099511627776 = F := ⟨_, rfl⟩
  have hF0 : 0 ≤ F := by have := pickI_bd x 1099511627776 (by omega); omega
  have hF1 : F < 1099511627776 := by have := pickI_bd x 1099511627776 (by omega); omega
  have HP := Hid.mk (pick_eq x 1099511627776 · hx (by omega) (by omega))
  rw [hF] at HP
  clear hF hx
  have HSM := Hid.mk (someF K 2 (by omega) (by omega))
  have HA := Hid.mk firm_a2
  go_enter Tryz.func14, Tryz.ntmps14
  go_wp2_with fail
  refine (HP.out w).mono ?_
  rintro e w' ⟨rfl, hw⟩
  subst w'
  go_wp2_with fail
  refine (HSM.out w).mono ?_
  rintro e w1 ⟨kb, P, rfl, hk1⟩
  have HK := Hid.mk hk1
  clear hk1 HSM HP
  have HC := Hid.mk (HK.out.num K (.lock 0 0 2 10 5 false) (by simp [Cl.rng, i64]) HA.out.1)
  go_wp2_with fail
  refine HC.out.mono ?_
  rintro e w2 ⟨P2, a2, cp2, rfl, hk2, hu2⟩
  have HK2 := Hid.mk hk2
  clear hk2 hu2 HC HK
  go_wp2_with fail
  refine (okF _ _ _ _ _ _ _).mono ?_
  simp only [decide_true, Bool.and_self]
  rintro e w3 ⟨rfl, hb3⟩
  have HK := Hid.mk (HK2.out.below K hb3)
  clear hb3 HK2
  have HC := Hid.mk (HK.out.num K (.whole 0 0 2 false) (by simp [Cl.rng, i64]) HA.out.2.1)
  go_wp2_with fail
  refine HC.out.mono ?_
  rintro e w2 ⟨P2, a2, cp2, rfl, hk2, hu2⟩
  have HK2 := Hid.mk hk2
  clear hk2 hu2 HC HK
  go_wp2_with fail
  refine (okF _ _ _ _ _ _ _).mono ?_
  simp only [decide_true, Bool.and_self]
  rintro e w3 ⟨rfl, hb3⟩
  have HK := Hid.mk (HK2.out.below K hb3)
  clear hb3 HK2
  have HC := Hid.mk (HK.out.num K (.lock 1 0 1 12 1 true) (by simp [Cl.rng, i64]) HA.out.2.2)
  go_wp2_with fail
  refine HC.out.mono ?_
  rintro e w2 ⟨P2, a2, cp2, rfl, hk2, hu2⟩
  have HK2 := Hid.mk hk2
  clear hk2 hu2 HC HK
  go_wp2_with fail
  refine (isF _ _ _ _ _ _ _).mono ?_
  simp only [decide_true, Bool.and_self]
  rintro e w3 ⟨rfl, hb3⟩
  have HK := Hid.mk (HK2.out.below K hb3)
  clear hb3 HK2
  have HKF : Hid (KW rep w w3 kb P2 (stC firmC)) := HK
  clear HK HA
  go_wp2_with fail
  have HL := Hid.mk (LL.lit (w0 := w) (w := w3) (P := P2) [-1 - F, 2, 6 + F] HKF.out.b.size (K.lt HKF.out.r) (by simp))
  have HK := Hid.mk (HKF.out.alloc K (.cells (ints [-1 - F, 2, 6 + F]).toArray 3))
  clear HKF
  obtain ⟨lv, hlv⟩ : ∃ lv : Option Addr, lv = some ⟨w3.heap.size, 0, none⟩ := ⟨_, rfl⟩
  have e3 : ints [-1 - F, 2, 6 + F] = [.int .i64 (-1 - F), .int .i64 2, .int .i64 (6 + F)] := rfl
  have e4 : [-1 - F, 2, 6 + F].length = 3 := rfl
  rw [e3, e4, ← hlv] at HL
  rw [e3] at HK
  rw [← hlv]
  generalize hW : w3.alloc (.cells #[.int .i64 (-1 - F), .int .i64 2, .int .i64 (6 + F)] 3) = W at *
  have HL' : Hid (LL w W P2 (.slice lv 3 3) [-1 - F, 2, 6 + F]) := HL
  have HK' : Hid (KW rep w W kb P2 (stC firmC)) := HK
  clear HL HK e3 e4 hlv hW
  go_loopg [8] 10 (fun g s8 wr => ∃ (i : Nat) (P : Nat → Prop), s8 = .int .i64 i ∧ i ≤ 3 ∧ g = 10 - i ∧ Hid (KW rep w wr kb P (stC firmC)) ∧ Hid (LL w wr P (.slice lv 3 3) [-1 - F, 2, 6 + F]))
  case atStart => exact ⟨0, P2, rfl, by omega, by omega, HK'.out, HL'.out⟩
  case round =>
    clear HK' HL'
    obtain ⟨i, P, rfl, hi, rfl, HK, HL⟩ := hrel
    by_cases hlt : i < 3
    · obtain ⟨p, hp, hpd, hpr⟩ : ∃ p : Int, [-1 - F, 2, 6 + F][i]? = some p ∧ (p < 0 ∨ 6 ≤ p ∨ p = 2) ∧ i64 p := by
        have : i = 0 ∨ i = 1 ∨ i = 2 := by omega
        rcases this with rfl | rfl | rfl
        · exact ⟨_, rfl, by omega, by unfold i64; omega⟩
        · exact ⟨_, rfl, by omega, by unfold i64; omega⟩
        · exact ⟨_, rfl, by omega, by unfold i64; omega⟩
      obtain ⟨la, lcp, hls, hir, hmi⟩ := HL.out.slice
      cases hls
      obtain ⟨lb, lo, hlv, hlb, hlc⟩ := hir i p hp
      subst hlv
      have HM := Hid.mk (DS.step_may (DS.may_dead (firm_dead hpd)) (by decide))
      have HKL := Hid.mk (DS.kill_dead (firm_dead hpd))
      have HPR := Hid.mk hpr
      clear hir hmi hp hpd hpr hlb
      go_wp2_with fail
      have hmark := True.intro
      have HC := Hid.mk (HK.out.err K (.fork p) (by have := HPR.out; simp [Cl.rng, i64] at this ⊢; omega) (HM.out.1) (by decide) (by decide))
      refine HC.out.mono ?_
      rintro e w2 ⟨P2, a2, cp2, rfl, hk2, hu2⟩
      have HK2 := Hid.mk hk2
      have HL0 := Hid.mk (HL.out.upd hu2)
      clear HL
      clear hk2 hu2 HC HK
      go_wp2_with fail
      refine (isF _ _ _ _ _ _ _).mono ?_
      simp only [decide_true, Bool.and_self]
      rintro e w3 ⟨rfl, hb3⟩
      have HK := Hid.mk (HK2.out.below K hb3)
      have HL := Hid.mk (HL0.out.below hb3)
      clear HL0
      clear hb3 HK2
      have HC := Hid.mk (HK.out.err K (.kill p) (by have := HPR.out; simp [Cl.rng, i64] at this ⊢; omega) (HKL.out) (by decide) (by decide))
      go_wp2_with fail
      refine HC.out.mono ?_
      rintro e w2 ⟨P2, a2, cp2, rfl, hk2, hu2⟩
      have HK2 := Hid.mk hk2
      have HL0 := Hid.mk (HL.out.upd hu2)
      clear HL
      clear hk2 hu2 HC HK
      go_wp2_with fail
      refine (isF _ _ _ _ _ _ _).mono ?_
      simp only [decide_true, Bool.and_self]
      rintro e w3 ⟨rfl, hb3⟩
      have HK := Hid.mk (HK2.out.below K hb3)
      have HL := Hid.mk (HL0.out.below hb3)
      clear HL0
      clear hb3 HK2
      have HC := Hid.mk (HK.out.err K (.opn p (-1)) (by have := HPR.out; simp [Cl.rng, i64] at this ⊢; omega) (HM.out.2.1 (-1)) (by decide) (by decide))
      go_wp2_with fail
      refine HC.out.mono ?_
      rintro e w2 ⟨P2, a2, cp2, rfl, hk2, hu2⟩
      have HK2 := Hid.mk hk2
      have HL0 := Hid.mk (HL.out.upd hu2)
      clear HL
      clear hk2 hu2 HC HK
      go_wp2_with fail
      refine (isF _ _ _ _ _ _ _).mono ?_
      simp only [decide_true, Bool.and_self]
      rintro e w3 ⟨rfl, hb3⟩
      have HK := Hid.mk (HK2.out.below K hb3)
      have HL := Hid.mk (HL0.out.below hb3)
      clear HL0
      clear hb3 HK2
      have HC := Hid.mk (HK.out.err K (.dup p (-1)) (by have := HPR.out; simp [Cl.rng, i64] at this ⊢; omega) (HM.out.2.2.1 (-1)) (by decide) (by decide))
      go_wp2_with fail
      refine HC.out.mono ?_
      rintro e w2 ⟨P2, a2, cp2, rfl, hk2, hu2⟩
      have HK2 := Hid.mk hk2
      have HL0 := Hid.mk (HL.out.upd hu2)
      clear HL
      clear hk2 hu2 HC HK
      go_wp2_with fail
      refine (isF _ _ _ _ _ _ _).mono ?_
      simp only [decide_true, Bool.and_self]
      rintro e w3 ⟨rfl, hb3⟩
      have HK := Hid.mk (HK2.out.below K hb3)
      have HL := Hid.mk (HL0.out.below hb3)
      clear HL0
      clear hb3 HK2
      have HC := Hid.mk (HK.out.err K (.close p (-1)) (by have := HPR.out; simp [Cl.rng, i64] at this ⊢; omega) (HM.out.2.2.2.1 (-1)) (by decide) (by decide))
      go_wp2_with fail
      refine HC.out.mono ?_
      rintro e w2 ⟨P2, a2, cp2, rfl, hk2, hu2⟩
      have HK2 := Hid.mk hk2
      have HL0 := Hid.mk (HL.out.upd hu2)
      clear HL
      clear hk2 hu2 HC HK
      go_wp2_with fail
      refine (isF _ _ _ _ _ _ _).mono ?_
      simp only [decide_true, Bool.and_self]
      rintro e w3 ⟨rfl, hb3⟩
      have HK := Hid.mk (HK2.out.below K hb3)
      have HL := Hid.mk (HL0.out.below hb3)
      clear HL0
      clear hb3 HK2
      have HC := Hid.mk (HK.out.err K (.lock p (-1) 9 (-1) 0 true) (by have := HPR.out; simp [Cl.rng, i64] at this ⊢; omega) (HM.out.2.2.2.2.1 (-1) 9 (-1) 0 true) (by decide) (by decide))
      go_wp2_with fail
      refine HC.out.mono ?_
      rintro e w2 ⟨P2, a2, cp2, rfl, hk2, hu2⟩
      have HK2 := Hid.mk hk2
      have HL0 := Hid.mk (HL.out.upd hu2)
      clear HL
      clear hk2 hu2 HC HK
      go_wp2_with fail
      refine (isF _ _ _ _ _ _ _).mono ?_
      simp only [decide_true, Bool.and_self]
      rintro e w3 ⟨rfl, hb3⟩
      have HK := Hid.mk (HK2.out.below K hb3)
      have HL := Hid.mk (HL0.out.below hb3)
      clear HL0
      clear hb3 HK2
      have HC := Hid.mk (HK.out.err K (.test p (-1) 9 (-1) 0) (by have := HPR.out; simp [Cl.rng, i64] at this ⊢; omega) (HM.out.2.2.2.2.2.1 (-1) 9 (-1) 0) (by decide) (by decide))
      go_wp2_with fail
      refine HC.out.mono ?_
      rintro e w2 ⟨P2, a2, cp2, rfl, hk2, hu2⟩
      have HK2 := Hid.mk hk2
      have HL0 := Hid.mk (HL.out.upd hu2)
      clear HL
      clear hk2 hu2 HC HK
      go_wp2_with fail
      refine (isF _ _ _ _ _ _ _).mono ?_
      simp only [decide_true, Bool.and_self]
      rintro e w3 ⟨rfl, hb3⟩
      have HK := Hid.mk (HK2.out.below K hb3)
      have HL := Hid.mk (HL0.out.below hb3)
      clear HL0
      clear hb3 HK2
      have HC := Hid.mk (HK.out.err K (.whole p (-1) 9 true) (by have := HPR.out; simp [Cl.rng, i64] at this ⊢; omega) (HM.out.2.2.2.2.2.2 (-1) 9 true) (by decide) (by decide))
      go_wp2_with fail
      refine HC.out.mono ?_
      rintro e w2 ⟨P2, a2, cp2, rfl, hk2, hu2⟩
      have HK2 := Hid.mk hk2
      have HL0 := Hid.mk (HL.out.upd hu2)
      clear HL
      clear hk2 hu2 HC HK
      go_wp2_with fail
      refine (isF _ _ _ _ _ _ _).mono ?_
      simp only [decide_true, Bool.and_self]
      rintro e w3 ⟨rfl, hb3⟩
      have HK := Hid.mk (HK2.out.below K hb3)
      have HL := Hid.mk (HL0.out.below hb3)
      clear HL0
      clear hb3 HK2
      go_wp2
      go_roundg (10 - (i + 1))
      case measure => omega
      case rel => exact ⟨i + 1, P2, by go_num, by omega, rfl, HK.out, HL.out⟩
    · obtain rfl : i = 3 := by omega
      clear HL hlt hi
      have HB := Hid.mk (DS.step_may firm_st.2.1 (by decide))
      have HC := Hid.mk (HK.out.err K (.fork 1) (by simp [Cl.rng, i64]) (HB.out.1) (by decide) (by decide))
      go_wp2_with fail
      refine HC.out.mono ?_
      rintro e w2 ⟨P2, a2, cp2, rfl, hk2, hu2⟩
      have HK2 := Hid.mk hk2
      clear hk2 hu2 HC HK
      go_wp2_with fail
      refine (isF _ _ _ _ _ _ _).mono ?_
      simp only [decide_true, Bool.and_self]
      rintro e w3 ⟨rfl, hb3⟩
      have HK := Hid.mk (HK2.out.below K hb3)
      clear hb3 HK2
      have HC := Hid.mk (HK.out.err K (.opn 1 (-1)) (by simp [Cl.rng, i64]) (HB.out.2.1 (-1)) (by decide) (by decide))
      go_wp2_with fail
      refine HC.out.mono ?_
      rintro e w2 ⟨P2, a2, cp2, rfl, hk2, hu2⟩
      have HK2 := Hid.mk hk2
      clear hk2 hu2 HC HK
      go_wp2_with fail
      refine (isF _ _ _ _ _ _ _).mono ?_
      simp only [decide_true, Bool.and_self]
      rintro e w3 ⟨rfl, hb3⟩
      have HK := Hid.mk (HK2.out.below K hb3)
      clear hb3 HK2
      have HC := Hid.mk (HK.out.err K (.dup 1 (-1)) (by simp [Cl.rng, i64]) (HB.out.2.2.1 (-1)) (by decide) (by decide))
      go_wp2_with fail
      refine HC.out.mono ?_
      rintro e w2 ⟨P2, a2, cp2, rfl, hk2, hu2⟩
      have HK2 := Hid.mk hk2
      clear hk2 hu2 HC HK
      go_wp2_with fail
      refine (isF _ _ _ _ _ _ _).mono ?_
      simp only [decide_true, Bool.and_self]
      rintro e w3 ⟨rfl, hb3⟩
      have HK := Hid.mk (HK2.out.below K hb3)
      clear hb3 HK2
      have HC := Hid.mk (HK.out.err K (.close 1 0) (by simp [Cl.rng, i64]) (HB.out.2.2.2.1 0) (by decide) (by decide))
      go_wp2_with fail
      refine HC.out.mono ?_
      rintro e w2 ⟨P2, a2, cp2, rfl, hk2, hu2⟩
      have HK2 := Hid.mk hk2
      clear hk2 hu2 HC HK
      go_wp2_with fail
      refine (isF _ _ _ _ _ _ _).mono ?_
      simp only [decide_true, Bool.and_self]
      rintro e w3 ⟨rfl, hb3⟩
      have HK := Hid.mk (HK2.out.below K hb3)
      clear hb3 HK2
      have HC := Hid.mk (HK.out.err K (.lock 1 0 0 0 0 false) (by simp [Cl.rng, i64]) (HB.out.2.2.2.2.1 0 0 0 0 false) (by decide) (by decide))
      go_wp2_with fail
      refine HC.out.mono ?_
      rintro e w2 ⟨P2, a2, cp2, rfl, hk2, hu2⟩
      have HK2 := Hid.mk hk2
      clear hk2 hu2 HC HK
      go_wp2_with fail
      refine (isF _ _ _ _ _ _ _).mono ?_
      simp only [decide_true, Bool.and_self]
      rintro e w3 ⟨rfl, hb3⟩
      have HK := Hid.mk (HK2.out.below K hb3)
      clear hb3 HK2
      have HC := Hid.mk (HK.out.err K (.test 1 9 9 0 0) (by simp [Cl.rng, i64]) (HB.out.2.2.2.2.2.1 9 9 0 0) (by decide) (by decide))
      go_wp2_with fail
      refine HC.out.mono ?_
      rintro e w2 ⟨P2, a2, cp2, rfl, hk2, hu2⟩
      have HK2 := Hid.mk hk2
      clear hk2 hu2 HC HK
      go_wp2_with fail
      refine (isF _ _ _ _ _ _ _).mono ?_
      simp only [decide_true, Bool.and_self]
      rintro e w3 ⟨rfl, hb3⟩
      have HK := Hid.mk (HK2.out.below K hb3)
      clear hb3 HK2
      have HC := Hid.mk (HK.out.err K (.whole 1 0 0 false) (by simp [Cl.rng, i64]) (HB.out.2.2.2.2.2.2 0 0 false) (by decide) (by decide))
      go_wp2_with fail
      refine HC.out.mono ?_
      rintro e w2 ⟨P2, a2, cp2, rfl, hk2, hu2⟩
      have HK2 := Hid.mk hk2
      clear hk2 hu2 HC HK
      go_wp2_with fail
      refine (isF _ _ _ _ _ _ _).mono ?_
      simp only [decide_true, Bool.and_self]
      rintro e w3 ⟨rfl, hb3⟩
      have HK := Hid.mk (HK2.out.below K hb3)
      clear hb3 HK2
      clear HB
      have HC := Hid.mk (HK.out.err K (.dup 0 1) (by simp [Cl.rng, i64]) ((DS.step_fd (firm_nofd (d := 1) (by omega))).1) (by decide) (by decide))
      go_wp2_with fail
      refine HC.out.mono ?_
      rintro e w2 ⟨P2, a2, cp2, rfl, hk2, hu2⟩
      have HK2 := Hid.mk hk2
      clear hk2 hu2 HC HK
      go_wp2_with fail
      refine (isF _ _ _ _ _ _ _).mono ?_
      simp only [decide_true, Bool.and_self]
      rintro e w3 ⟨rfl, hb3⟩
      have HK := Hid.mk (HK2.out.below K hb3)
      clear hb3 HK2
      have HC := Hid.mk (HK.out.err K (.close 0 (-1 - F)) (by simp [Cl.rng, i64]; omega) ((DS.step_fd (firm_nofd (d := -1 - F) (by omega))).2.1) (by decide) (by decide))
      go_wp2_with fail
      refine HC.out.mono ?_
      rintro e w2 ⟨P2, a2, cp2, rfl, hk2, hu2⟩
      have HK2 := Hid.mk hk2
      clear hk2 hu2 HC HK
      go_wp2_with fail
      refine (isF _ _ _ _ _ _ _).mono ?_
      simp only [decide_true, Bool.and_self]
      rintro e w3 ⟨rfl, hb3⟩
      have HK := Hid.mk (HK2.out.below K hb3)
      clear hb3 HK2
      have HC := Hid.mk (HK.out.err K (.lock 0 (5 + F) 9 (-1) 0 true) (by simp [Cl.rng, i64]; omega) ((DS.step_fd (firm_nofd (d := 5 + F) (by omega))).2.2.1 9 (-1) 0 true) (by decide) (by decide))
      go_wp2_with fail
      refine HC.out.mono ?_
      rintro e w2 ⟨P2, a2, cp2, rfl, hk2, hu2⟩
      have HK2 := Hid.mk hk2
      clear hk2 hu2 HC HK
      go_wp2_with fail
      refine (isF _ _ _ _ _ _ _).mono ?_
      simp only [decide_true, Bool.and_self]
      rintro e w3 ⟨rfl, hb3⟩
      have HK := Hid.mk (HK2.out.below K hb3)
      clear hb3 HK2
      have HC := Hid.mk (HK.out.err K (.test 0 1 9 (-1) 0) (by simp [Cl.rng, i64]) ((DS.step_fd (firm_nofd (d := 1) (by omega))).2.2.2.1 9 (-1) 0) (by decide) (by decide))
      go_wp2_with fail
      refine HC.out.mono ?_
      rintro e w2 ⟨P2, a2, cp2, rfl, hk2, hu2⟩
      have HK2 := Hid.mk hk2
      clear hk2 hu2 HC HK
      go_wp2_with fail
      refine (isF _ _ _ _ _ _ _).mono ?_
      simp only [decide_true, Bool.and_self]
      rintro e w3 ⟨rfl, hb3⟩
      have HK := Hid.mk (HK2.out.below K hb3)
      clear hb3 HK2
      have HC := Hid.mk (HK.out.err K (.whole 0 4 9 true) (by simp [Cl.rng, i64]) ((DS.step_fd (firm_nofd (d := 4) (by omega))).2.2.2.2 9 true) (by decide) (by decide))
      go_wp2_with fail
      refine HC.out.mono ?_
      rintro e w2 ⟨P2, a2, cp2, rfl, hk2, hu2⟩
      have HK2 := Hid.mk hk2
      clear hk2 hu2 HC HK
      go_wp2_with fail
      refine (isF _ _ _ _ _ _ _).mono ?_
      simp only [decide_true, Bool.and_self]
      rintro e w3 ⟨rfl, hb3⟩
      have HK := Hid.mk (HK2.out.below K hb3)
      clear hb3 HK2
      have HC := Hid.mk (HK.out.err K (.lock 0 0 (3 + F) (-1) 0 true) (by simp [Cl.rng, i64]; omega) ((DS.step_kind firm_find (k := 3 + F) (by simp [kindB]; omega)).1 (-1) 0 true) (by decide) (by decide))
      go_wp2_with fail
      refine HC.out.mono ?_
      rintro e w2 ⟨P2, a2, cp2, rfl, hk2, hu2⟩
      have HK2 := Hid.mk hk2
      clear hk2 hu2 HC HK
      go_wp2_with fail
      refine (isF _ _ _ _ _ _ _).mono ?_
      simp only [decide_true, Bool.and_self]
      rintro e w3 ⟨rfl, hb3⟩
      have HK := Hid.mk (HK2.out.below K hb3)
      clear hb3 HK2
      have HC := Hid.mk (HK.out.err K (.lock 0 0 (-1 - F) (-1) 0 true) (by simp [Cl.rng, i64]; omega) ((DS.step_kind firm_find (k := -1 - F) (by simp [kindB]; omega)).1 (-1) 0 true) (by decide) (by decide))
      go_wp2_with fail
      refine HC.out.mono ?_
      rintro e w2 ⟨P2, a2, cp2, rfl, hk2, hu2⟩
      have HK2 := Hid.mk hk2
      clear hk2 hu2 HC HK
      go_wp2_with fail
      refine (isF _ _ _ _ _ _ _).mono ?_
      simp only [decide_true, Bool.and_self]
      rintro e w3 ⟨rfl, hb3⟩
      have HK := Hid.mk (HK2.out.below K hb3)
      clear hb3 HK2
      have HC := Hid.mk (HK.out.err K (.test 0 0 0 (-1) 0) (by simp [Cl.rng, i64]) (firm_test0) (by decide) (by decide))
      go_wp2_with fail
      refine HC.out.mono ?_
      rintro e w2 ⟨P2, a2, cp2, rfl, hk2, hu2⟩
      have HK2 := Hid.mk hk2
      clear hk2 hu2 HC HK
      go_wp2_with fail
      refine (isF _ _ _ _ _ _ _).mono ?_
      simp only [decide_true, Bool.and_self]
      rintro e w3 ⟨rfl, hb3⟩
      have HK := Hid.mk (HK2.out.below K hb3)
      clear hb3 HK2
      have HC := Hid.mk (HK.out.err K (.test 0 0 (3 + F) 0 0) (by simp [Cl.rng, i64]; omega) ((DS.step_kind firm_find (k := 3 + F) (by simp [kindB]; omega)).2.1 0 0) (by decide) (by decide))
      go_wp2_with fail
      refine HC.out.mono ?_
      rintro e w2 ⟨P2, a2, cp2, rfl, hk2, hu2⟩
      have HK2 := Hid.mk hk2
      clear hk2 hu2 HC HK
      go_wp2_with fail
      refine (isF _ _ _ _ _ _ _).mono ?_
      simp only [decide_true, Bool.and_self]
      rintro e w3 ⟨rfl, hb3⟩
      have HK := Hid.mk (HK2.out.below K hb3)
      clear hb3 HK2
      have HC := Hid.mk (HK.out.err K (.whole 0 0 (3 + F) true) (by simp [Cl.rng, i64]; omega) ((DS.step_kind firm_find (k := 3 + F) (by simp [kindB]; omega)).2.2 true) (by decide) (by decide))
      go_wp2_with fail
      refine HC.out.mono ?_
      rintro e w2 ⟨P2, a2, cp2, rfl, hk2, hu2⟩
      have HK2 := Hid.mk hk2
      clear hk2 hu2 HC HK
      go_wp2_with fail
      refine (isF _ _ _ _ _ _ _).mono ?_
      simp only [decide_true, Bool.and_self]
      rintro e w3 ⟨rfl, hb3⟩
      have HK := Hid.mk (HK2.out.below K hb3)
      clear hb3 HK2
      have HC := Hid.mk (HK.out.err K (.whole 0 0 (-1 - F) true) (by simp [Cl.rng, i64]; omega) ((DS.step_kind firm_find (k := -1 - F) (by simp [kindB]; omega)).2.2 true) (by decide) (by decide))
      go_wp2_with fail
      refine HC.out.mono ?_
      rintro e w2 ⟨P2, a2, cp2, rfl, hk2, hu2⟩
      have HK2 := Hid.mk hk2
      clear hk2 hu2 HC HK
      go_wp2_with fail
      refine (isF _ _ _ _ _ _ _).mono ?_
      simp only [decide_true, Bool.and_self]
      rintro e w3 ⟨rfl, hb3⟩
      have HK := Hid.mk (HK2.out.below K hb3)
      clear hb3 HK2
      have HC := Hid.mk (HK.out.err K (.lock 0 0 0 (-1 - F) (5 + F) false) (by simp [Cl.rng, i64]; omega) ((DS.step_range firm_find (k := 0) (f := -1 - F) (l := 5 + F) (by decide) (by simp [badS]; omega)).1 false) (by decide) (by decide))
      go_wp2_with fail
      refine HC.out.mono ?_
      rintro e w2 ⟨P2, a2, cp2, rfl, hk2, hu2⟩
      have HK2 := Hid.mk hk2
      clear hk2 hu2 HC HK
      go_wp2_with fail
      refine (isF _ _ _ _ _ _ _).mono ?_
      simp only [decide_true, Bool.and_self]
      rintro e w3 ⟨rfl, hb3⟩
      have HK := Hid.mk (HK2.out.below K hb3)
      clear hb3 HK2
      have HC := Hid.mk (HK.out.err K (.lock 0 0 2 60 (5 + F) true) (by simp [Cl.rng, i64]; omega) ((DS.step_range firm_find (k := 2) (f := 60) (l := 5 + F) (by decide) (by simp [badS]; omega)).1 true) (by decide) (by decide))
      go_wp2_with fail
      refine HC.out.mono ?_
      rintro e w2 ⟨P2, a2, cp2, rfl, hk2, hu2⟩
      have HK2 := Hid.mk hk2
      clear hk2 hu2 HC HK
      go_wp2_with fail
      refine (isF _ _ _ _ _ _ _).mono ?_
      simp only [decide_true, Bool.and_self]
      rintro e w3 ⟨rfl, hb3⟩
      have HK := Hid.mk (HK2.out.below K hb3)
      clear hb3 HK2
      have HC := Hid.mk (HK.out.err K (.lock 0 0 2 64 0 true) (by simp [Cl.rng, i64]) ((DS.step_range firm_find (k := 2) (f := 64) (l := 0) (by decide) (by decide)).1 true) (by decide) (by decide))
      go_wp2_with fail
      refine HC.out.mono ?_
      rintro e w2 ⟨P2, a2, cp2, rfl, hk2, hu2⟩
      have HK2 := Hid.mk hk2
      clear hk2 hu2 HC HK
      go_wp2_with fail
      refine (isF _ _ _ _ _ _ _).mono ?_
      simp only [decide_true, Bool.and_self]
      rintro e w3 ⟨rfl, hb3⟩
      have HK := Hid.mk (HK2.out.below K hb3)
      clear hb3 HK2
      have HC := Hid.mk (HK.out.err K (.lock 0 0 2 5 (-6 - F) true) (by simp [Cl.rng, i64]; omega) ((DS.step_range firm_find (k := 2) (f := 5) (l := -6 - F) (by decide) (by simp [badS]; omega)).1 true) (by decide) (by decide))
      go_wp2_with fail
      refine HC.out.mono ?_
      rintro e w2 ⟨P2, a2, cp2, rfl, hk2, hu2⟩
      have HK2 := Hid.mk hk2
      clear hk2 hu2 HC HK
      go_wp2_with fail
      refine (isF _ _ _ _ _ _ _).mono ?_
      simp only [decide_true, Bool.and_self]
      rintro e w3 ⟨rfl, hb3⟩
      have HK := Hid.mk (HK2.out.below K hb3)
      clear hb3 HK2
      have HC := Hid.mk (HK.out.err K (.test 0 0 2 (64 + F) 1) (by simp [Cl.rng, i64]; omega) ((DS.step_range firm_find (k := 2) (f := 64 + F) (l := 1) (by decide) (by simp [badS]; omega)).2 (by decide)) (by decide) (by decide))
      go_wp2_with fail
      refine HC.out.mono ?_
      rintro e w2 ⟨P2, a2, cp2, rfl, hk2, hu2⟩
      have HK2 := Hid.mk hk2
      clear hk2 hu2 HC HK
      go_wp2_with fail
      refine (isF _ _ _ _ _ _ _).mono ?_
      simp only [decide_true, Bool.and_self]
      rintro e w3 ⟨rfl, hb3⟩
      have HK := Hid.mk (HK2.out.below K hb3)
      clear hb3 HK2
      have HC := Hid.mk (HK.out.err K (.lock 0 0 1 4611686018427387904 4611686018427387904 false) (by simp [Cl.rng, i64]) ((DS.step_range firm_find (k := 1) (f := 4611686018427387904) (l := 4611686018427387904) (by decide) (by decide)).1 false) (by decide) (by decide))
      go_wp2_with fail
      refine HC.out.mono ?_
      rintro e w2 ⟨P2, a2, cp2, rfl, hk2, hu2⟩
      have HK2 := Hid.mk hk2
      clear hk2 hu2 HC HK
      go_wp2_with fail
      refine (isF _ _ _ _ _ _ _).mono ?_
      simp only [decide_true, Bool.and_self]
      rintro e w3 ⟨rfl, hb3⟩
      have HK := Hid.mk (HK2.out.below K hb3)
      clear hb3 HK2
      have HC := Hid.mk (HK.out.err K (.lock 0 0 1 3 (-9223372036854775808) false) (by simp [Cl.rng, i64]) ((DS.step_range firm_find (k := 1) (f := 3) (l := -9223372036854775808) (by decide) (by decide)).1 false) (by decide) (by decide))
      go_wp2_with fail
      refine HC.out.mono ?_
      rintro e w2 ⟨P2, a2, cp2, rfl, hk2, hu2⟩
      have HK2 := Hid.mk hk2
      clear hk2 hu2 HC HK
      go_wp2_with fail
      refine (isF _ _ _ _ _ _ _).mono ?_
      simp only [decide_true, Bool.and_self]
      rintro e w3 ⟨rfl, hb3⟩
      have HK := Hid.mk (HK2.out.below K hb3)
      clear hb3 HK2
      have HC := Hid.mk (HK.out.err K (.opn 0 (3 + F)) (by simp [Cl.rng, i64]; omega) (firm_opn (f := 3 + F) (by omega)) (by decide) (by decide))
      go_wp2_with fail
      refine HC.out.mono ?_
      rintro e w2 ⟨P2, a2, cp2, rfl, hk2, hu2⟩
      have HK2 := Hid.mk hk2
      clear hk2 hu2 HC HK
      go_wp2_with fail
      refine (isF _ _ _ _ _ _ _).mono ?_
      simp only [decide_true, Bool.and_self]
      rintro e w3 ⟨rfl, hb3⟩
      have HK := Hid.mk (HK2.out.below K hb3)
      clear hb3 HK2
      have HC := Hid.mk (HK.out.err K (.opn 0 (-1 - F)) (by simp [Cl.rng, i64]; omega) (firm_opn (f := -1 - F) (by omega)) (by decide) (by decide))
      go_wp2_with fail
      refine HC.out.mono ?_
      rintro e w2 ⟨P2, a2, cp2, rfl, hk2, hu2⟩
      have HK2 := Hid.mk hk2
      clear hk2 hu2 HC HK
      go_wp2_with fail
      refine (isF _ _ _ _ _ _ _).mono ?_
      simp only [decide_true, Bool.and_self]
      rintro e w3 ⟨rfl, hb3⟩
      have HK := Hid.mk (HK2.out.below K hb3)
      clear hb3 HK2
      have HKD : Hid (KW rep w w3 kb P2 (stC (firmD 0))) := by simpa [firmD, range'] using HK
      clear HK
      go_wp2_with fail
      go_loopg [16] 10 (fun g s16 wr => ∃ (i : Nat) (P : Nat → Prop), s16 = .int .i64 ((i : Int) + 1) ∧ i ≤ 4 ∧ g = 10 - i ∧ Hid (KW rep w wr kb P (stC (firmD i))))
      case atStart => exact ⟨0, P2, by go_num, by omega, by omega, HKD.out⟩
      case round =>
        clear HKD
        obtain ⟨i, P, rfl, hi, rfl, HK⟩ := hrel
        by_cases hlt : i < 4
        ·
          have HC := Hid.mk (HK.out.num K (.dup 0 0) (by simp [Cl.rng, i64]) (firm_b ⟨i, by omega⟩))
          go_wp2_with fail
          refine HC.out.mono ?_
          rintro e w2 ⟨P2, a2, cp2, rfl, hk2, hu2⟩
          have HK2 := Hid.mk hk2
          clear hk2 hu2 HC HK
          go_wp2_with fail
          refine (okF _ _ _ _ _ _ _).mono ?_
          simp only [decide_true, Bool.and_self]
          rintro e w3 ⟨rfl, hb3⟩
          have HK := Hid.mk (HK2.out.below K hb3)
          clear hb3 HK2
          go_wp2
          go_roundg (10 - (i + 1))
          case measure => omega
          case rel => exact ⟨i + 1, P2, by go_num, by omega, rfl, by rw [firmD, range'_succ, ← List.append_assoc]; exact HK.out⟩
        · obtain rfl : i = 4 := by omega
          clear hlt hi
          have HC := Hid.mk (HK.out.err K (.dup 0 0) (by simp [Cl.rng, i64]) (firm_c.1) (by decide) (by decide))
          go_wp2_with fail
          refine HC.out.mono ?_
          rintro e w2 ⟨P2, a2, cp2, rfl, hk2, hu2⟩
          have HK2 := Hid.mk hk2
          clear hk2 hu2 HC HK
          go_wp2_with fail
          refine (isF _ _ _ _ _ _ _).mono ?_
          simp only [decide_true, Bool.and_self]
          rintro e w3 ⟨rfl, hb3⟩
          have HK := Hid.mk (HK2.out.below K hb3)
          clear hb3 HK2
          have HC := Hid.mk (HK.out.err K (.opn 0 0) (by simp [Cl.rng, i64]) (firm_c.2.1) (by decide) (by decide))
          go_wp2_with fail
          refine HC.out.mono ?_
          rintro e w2 ⟨P2, a2, cp2, rfl, hk2, hu2⟩
          have HK2 := Hid.mk hk2
          clear hk2 hu2 HC HK
          go_wp2_with fail
          refine (isF _ _ _ _ _ _ _).mono ?_
          simp only [decide_true, Bool.and_self]
          rintro e w3 ⟨rfl, hb3⟩
          have HK := Hid.mk (HK2.out.below K hb3)
          clear hb3 HK2
          have HC := Hid.mk (HK.out.err K (.opn 0 9) (by simp [Cl.rng, i64]) (firm_c.2.2) (by decide) (by decide))
          go_wp2_with fail
          refine HC.out.mono ?_
          rintro e w2 ⟨P2, a2, cp2, rfl, hk2, hu2⟩
          have HK2 := Hid.mk hk2
          clear hk2 hu2 HC HK
          go_wp2_with fail
          refine (isF _ _ _ _ _ _ _).mono ?_
          simp only [decide_true, Bool.and_self]
          rintro e w3 ⟨rfl, hb3⟩
          have HK := Hid.mk (HK2.out.below K hb3)
          clear hb3 HK2
          have HKD : Hid (KW rep w w3 kb P2 (stC (firmF 0))) := by simpa [firmF, range'] using HK
          clear HK
          go_wp2_with fail
          go_loopg [19] 10 (fun g s19 wr => ∃ (i : Nat) (P : Nat → Prop), s19 = .int .i64 ((i : Int) + 2) ∧ i ≤ 4 ∧ g = 10 - i ∧ Hid (KW rep w wr kb P (stC (firmF i))))
          case atStart => exact ⟨0, P2, by go_num, by omega, by omega, HKD.out⟩
          case round =>
            clear HKD
            obtain ⟨i, P, rfl, hi, rfl, HK⟩ := hrel
            by_cases hlt : i < 4
            ·
              have HC := Hid.mk (HK.out.num K (.fork 0) (by simp [Cl.rng, i64]) (firm_d ⟨i, by omega⟩))
              go_wp2_with fail
              refine HC.out.mono ?_
              rintro e w2 ⟨P2, a2, cp2, rfl, hk2, hu2⟩
              have HK2 := Hid.mk hk2
              clear hk2 hu2 HC HK
              go_wp2_with fail
              refine (okF _ _ _ _ _ _ _).mono ?_
              simp only [decide_true, Bool.and_self]
              rintro e w3 ⟨rfl, hb3⟩
              have HK := Hid.mk (HK2.out.below K hb3)
              clear hb3 HK2
              go_wp2
              go_roundg (10 - (i + 1))
              case measure => omega
              case rel => exact ⟨i + 1, P2, by go_num, by omega, rfl, by rw [firmF, range'_succ, ← List.append_assoc]; exact HK.out⟩
            · obtain rfl : i = 4 := by omega
              clear hlt hi
              have HC := Hid.mk (HK.out.err K (.fork 0) (by simp [Cl.rng, i64]) (firm_e.1) (by decide) (by decide))
              go_wp2_with fail
              refine HC.out.mono ?_
              rintro e w2 ⟨P2, a2, cp2, rfl, hk2, hu2⟩
              have HK2 := Hid.mk hk2
              clear hk2 hu2 HC HK
              go_wp2_with fail
              refine (isF _ _ _ _ _ _ _).mono ?_
              simp only [decide_true, Bool.and_self]
              rintro e w3 ⟨rfl, hb3⟩
              have HK := Hid.mk (HK2.out.below K hb3)
              clear hb3 HK2
              obtain ⟨hh, hhe, hhl⟩ := firm_h
              have HHE := Hid.mk hhe
              clear hhe
              have HC := Hid.mk (HK.out.runs K 0 (by simp [i64]) firm_e.2.1)
              go_wp2_with fail
              refine HC.out.mono ?_
              rintro e w5 ⟨P5, a5, cp5, rfl, hr5, hm5, hk5, _⟩
              have HK5 := Hid.mk hk5
              clear hk5 HC HK
              have HC := Hid.mk (HK5.out.holds K 0 (by simp [i64]) HHE.out)
              go_wp2_with fail
              refine HC.out.mono ?_
              rintro e w6 ⟨P6, a6, cp6, rfl, hr6, hm6, hk6, hu6⟩
              have HK6 := Hid.mk hk6
              obtain ⟨b5, rfl, _, c0, c1, c2, c3⟩ := (hr5.upd hm5 hu6) 0 _ rfl
              obtain ⟨hb, hu, hcp, rfl, _, hb1, hb2, _⟩ := hr6 0 _ rfl
              rw [hhl] at hb2
              simp only [Nat.zero_mul, Nat.zero_add] at c0 c1 c2 c3 hb1 hb2
              clear hk6 hu6 HC HK5 hr5 hm5 hr6 hm6
              go_wp2_with fail
              refine (waitingF K (HK6.out.alloc K _) [1] _ 1 firm_e.2.2.2 (by simp) (IRow.lit1 _ _ _) (fun b o e hp => by cases e; exact Nat.lt_irrefl _ (K.lt HK6.out.r _ hp))).mono ?_
              rintro e w7 ⟨P7, rfl, hk7, _⟩
              have HK := Hid.mk hk7
              clear hk7 HK6 c0 c1 c2 c3 hb1 hb2
              have HC := Hid.mk (HK.out.runs K (-1 - F) (by simp [i64]; omega) (firm_tell _ (by omega)).1)
              go_wp2_with fail
              refine HC.out.mono ?_
              rintro e w5 ⟨P5, a5, cp5, rfl, _, _, hk5, _⟩
              have HK5 := Hid.mk hk5
              clear hk5 HC HK
              have HC := Hid.mk (HK5.out.runs K (3 + F) (by simp [i64]; omega) (firm_tell _ (by omega)).1)
              go_wp2_with fail
              refine HC.out.mono ?_
              rintro e w6 ⟨P6, a6, cp6, rfl, _, _, hk6, _⟩
              have HK := Hid.mk hk6
              clear hk6 HC HK5
              have HC := Hid.mk (HK.out.holds K (3 + F) (by simp [i64]; omega) (firm_tell _ (by omega)).2)
              go_wp2_with fail
              refine HC.out.mono ?_
              rintro e w5 ⟨P5, a5, cp5, rfl, _, _, hk5, _⟩
              have HK5 := Hid.mk hk5
              clear hk5 HC HK
              have HC := Hid.mk (HK5.out.holds K (-1 - F) (by simp [i64]; omega) (firm_tell _ (by omega)).2)
              go_wp2_with fail
              refine HC.out.mono ?_
              rintro e w6 ⟨P6, a6, cp6, rfl, _, _, hk6, _⟩
              have HK := Hid.mk hk6
              clear hk6 HC HK5
              go_wp2
              go_ret
              exact ⟨rfl, HK.out.b⟩
end
end Go.Proofs.YtaicdjhblbobbaaGreat
