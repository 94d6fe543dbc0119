/- Over any program that answers as the model: the statement Closed. -/
import Derived.Test.YtaicdjhblbobbaaGreatGKeep
import Derived.Test.YtaicdjhblbobbaaGreatGScene
namespace Go.Proofs.YtaicdjhblbobbaaGreat
open Go.RowKit

section
variable {rep : World → Nat → (Nat → Prop) → DS → Prop} (K : Face rep)
include K
set_option maxHeartbeats 16000000 in
set_option maxRecDepth 100000 in
theorem ClosedF (x y : Int) (w : World) (hx : i64 x) (hy : i64 y) :
    Calls Tryz.prog 7 #[.int .i64 x, .int .i64 y] w fun e w' => e = .returned (.bool true) ∧ Below w.heap.size w w' := by
  have HX := Hid.mk hx
  have HY := Hid.mk hy
  clear hx hy
  obtain ⟨a, ha⟩ : ∃ a : Nat, pickI y 50 = a := ⟨(pickI y 50).toNat, by have := pickI_bd y 50 (by omega); omega⟩
  have ha1 : a < 50 := by have := pickI_bd y 50 (by omega); omega
  obtain ⟨d, hd⟩ : ∃ d : Nat, pickI x 3 = d := ⟨(pickI x 3).toNat, by have := pickI_bd x 3 (by omega); omega⟩
  have hd1 : d < 3 := by have := pickI_bd x 3 (by omega); omega
  have HA := Hid.mk (pick_eq y 50 · HY.out (by omega) (by omega))
  have HD := Hid.mk (pick_eq x 3 · HX.out (by omega) (by omega))
  rw [ha] at HA
  rw [hd] at HD
  have HSM := Hid.mk (someF K 2 (by omega) (by omega))
  clear ha hd
  have hR := closed_rep ⟨a, ha1⟩
  simp only [closedR, Bool.and_eq_true, decide_eq_true_eq] at hR
  obtain ⟨⟨⟨⟨⟨⟨⟨r1, r2⟩, r3⟩, r4⟩, r5⟩, r6⟩, r7⟩, r8⟩ := hR
  have R1 := Hid.mk r1; have R2 := Hid.mk r2; have R3 := Hid.mk r3; have R4 := Hid.mk r4; have R5 := Hid.mk r5; have R6 := Hid.mk r6; have R7 := Hid.mk r7; have R8 := Hid.mk r8
  clear r1 r2 r3 r4 r5 r6 r7 r8
  have hO := closed_all ⟨a, ha1⟩ ⟨d, hd1⟩
  simp only [closedOk, Bool.and_eq_true, decide_eq_true_eq] at hO
  obtain ⟨⟨⟨⟨q1, ⟨q2, q3⟩, q4⟩, q5⟩, q6⟩, ⟨q7, q8⟩, q9⟩ := hO
  obtain ⟨ra, hra, hrp⟩ := map_one q2
  obtain ⟨rb, hrb, hrq⟩ := map_one q3
  obtain ⟨hh, q4⟩ := List.length_eq_one_iff.1 q4
  obtain ⟨rc, q7⟩ := List.length_eq_one_iff.1 q7
  have q8 := List.eq_nil_of_length_eq_zero q8
  have q9 := List.eq_nil_of_length_eq_zero q9
  have Q1 := Hid.mk q1; have Q4 := Hid.mk q4; have Q5 := Hid.mk q5; have Q6 := Hid.mk q6; have Q7 := Hid.mk q7; have Q8 := Hid.mk q8; have Q9 := Hid.mk q9; have HRA := Hid.mk hra; have HRB := Hid.mk hrb
  clear q1 q2 q3 q4 q5 q6 q7 q8 q9 hra hrb
  go_enter Tryz.func7, Tryz.ntmps7
  go_wp2_with fail
  refine (HSM.out w).mono ?_
  rintro e w1 ⟨kb, P, rfl, hk1⟩
  have HK := Hid.mk hk1
  clear hk1 HSM
  go_wp2_with fail
  refine (HA.out _).mono ?_
  rintro e w' ⟨rfl, hw⟩
  subst w'
  have HC := Hid.mk (HK.out.num K (.opn 0 0) (by simp [Cl.rng, i64]) R1.out)
  go_wp2_with fail
  refine HC.out.mono ?_
  rintro e w2 ⟨P2, a2, cp2, rfl, hk2, hu2⟩
  have HK2 := Hid.mk hk2
  clear hk2 hu2 HC HK
  go_wp2_with fail
  refine (okF _ _ _ _ _ _ _).mono ?_
  simp only [decide_true, Bool.and_self]
  rintro e w3 ⟨rfl, hb3⟩
  have HK := Hid.mk (HK2.out.below K hb3)
  clear hb3 HK2
  have HC := Hid.mk (HK.out.num K (.dup 0 0) (by simp [Cl.rng, i64]) R2.out)
  go_wp2_with fail
  refine HC.out.mono ?_
  rintro e w2 ⟨P2, a2, cp2, rfl, hk2, hu2⟩
  have HK2 := Hid.mk hk2
  clear hk2 hu2 HC HK
  go_wp2_with fail
  refine (okF _ _ _ _ _ _ _).mono ?_
  simp only [decide_true, Bool.and_self]
  rintro e w3 ⟨rfl, hb3⟩
  have HK := Hid.mk (HK2.out.below K hb3)
  clear hb3 HK2
  have HC := Hid.mk (HK.out.num K (.opn 0 2) (by simp [Cl.rng, i64]) R3.out)
  go_wp2_with fail
  refine HC.out.mono ?_
  rintro e w2 ⟨P2, a2, cp2, rfl, hk2, hu2⟩
  have HK2 := Hid.mk hk2
  clear hk2 hu2 HC HK
  go_wp2_with fail
  refine (okF _ _ _ _ _ _ _).mono ?_
  simp only [decide_true, Bool.and_self]
  rintro e w3 ⟨rfl, hb3⟩
  have HK := Hid.mk (HK2.out.below K hb3)
  clear hb3 HK2
  have HC := Hid.mk (HK.out.num K (.lock 0 0 2 a 2 false) (by simp [Cl.rng, i64]; omega) R4.out)
  go_wp2_with fail
  refine HC.out.mono ?_
  rintro e w2 ⟨P2, a2, cp2, rfl, hk2, hu2⟩
  have HK2 := Hid.mk hk2
  clear hk2 hu2 HC HK
  go_wp2_with fail
  refine (okF _ _ _ _ _ _ _).mono ?_
  simp only [decide_true, Bool.and_self]
  rintro e w3 ⟨rfl, hb3⟩
  have HK := Hid.mk (HK2.out.below K hb3)
  clear hb3 HK2
  have HC := Hid.mk (HK.out.num K (.lock 0 1 1 (a + 4) 2 false) (by simp [Cl.rng, i64]; omega) R5.out)
  go_wp2_with fail
  refine HC.out.mono ?_
  rintro e w2 ⟨P2, a2, cp2, rfl, hk2, hu2⟩
  have HK2 := Hid.mk hk2
  clear hk2 hu2 HC HK
  go_wp2_with fail
  refine (okF _ _ _ _ _ _ _).mono ?_
  simp only [decide_true, Bool.and_self]
  rintro e w3 ⟨rfl, hb3⟩
  have HK := Hid.mk (HK2.out.below K hb3)
  clear hb3 HK2
  have HC := Hid.mk (HK.out.num K (.lock 0 3 2 a 2 false) (by simp [Cl.rng, i64]; omega) R6.out)
  go_wp2_with fail
  refine HC.out.mono ?_
  rintro e w2 ⟨P2, a2, cp2, rfl, hk2, hu2⟩
  have HK2 := Hid.mk hk2
  clear hk2 hu2 HC HK
  go_wp2_with fail
  refine (okF _ _ _ _ _ _ _).mono ?_
  simp only [decide_true, Bool.and_self]
  rintro e w3 ⟨rfl, hb3⟩
  have HK := Hid.mk (HK2.out.below K hb3)
  clear hb3 HK2
  have HC := Hid.mk (HK.out.num K (.lock 1 0 1 (a + 4) 1 false) (by simp [Cl.rng, i64]; omega) R7.out)
  go_wp2_with fail
  refine HC.out.mono ?_
  rintro e w2 ⟨P2, a2, cp2, rfl, hk2, hu2⟩
  have HK2 := Hid.mk hk2
  clear hk2 hu2 HC HK
  go_wp2_with fail
  refine (okF _ _ _ _ _ _ _).mono ?_
  simp only [decide_true, Bool.and_self]
  rintro e w3 ⟨rfl, hb3⟩
  have HK := Hid.mk (HK2.out.below K hb3)
  clear hb3 HK2
  have HC := Hid.mk (HK.out.num K (.whole 0 0 1 false) (by simp [Cl.rng, i64]) R8.out)
  go_wp2_with fail
  refine HC.out.mono ?_
  rintro e w2 ⟨P2, a2, cp2, rfl, hk2, hu2⟩
  have HK2 := Hid.mk hk2
  clear hk2 hu2 HC HK
  go_wp2_with fail
  refine (okF _ _ _ _ _ _ _).mono ?_
  simp only [decide_true, Bool.and_self]
  rintro e w3 ⟨rfl, hb3⟩
  have HK := Hid.mk (HK2.out.below K hb3)
  clear hb3 HK2
  go_wp2_with fail
  refine (HD.out _).mono ?_
  rintro e w' ⟨rfl, hw⟩
  subst w'
  have HC := Hid.mk (HK.out.num K (.close 0 d) (by simp [Cl.rng, i64]; omega) Q1.out)
  go_wp2_with fail
  refine HC.out.mono ?_
  rintro e w2 ⟨P2, a2, cp2, rfl, hk2, hu2⟩
  have HK2 := Hid.mk hk2
  clear hk2 hu2 HC HK
  go_wp2_with fail
  refine (okF _ _ _ _ _ _ _).mono ?_
  simp only [decide_true, Bool.and_self]
  rintro e w3 ⟨rfl, hb3⟩
  have HK := Hid.mk (HK2.out.below K hb3)
  clear hb3 HK2
  have HC := Hid.mk (HK.out.runs K 0 (by simp [i64]) HRA.out)
  go_wp2_with fail
  refine HC.out.mono ?_
  rintro e w2 ⟨P2, a2, cp2, rfl, hr2, hm2, hk2, hu2⟩
  have HK2 := Hid.mk hk2; have HR2 := Hid.mk hr2; have HM2 := Hid.mk hm2
  clear hk2 hu2 HC HK hr2 hm2
  have HC := Hid.mk (HK2.out.runs K 2 (by simp [i64]) HRB.out)
  go_wp2_with fail
  refine HC.out.mono ?_
  rintro e w3 ⟨P3, a3, cp3, rfl, hr3, hm3, hk3, hu3⟩
  have HK3 := Hid.mk hk3; have HR3 := Hid.mk hr3; have HM3 := Hid.mk hm3
  have HR2' := Hid.mk (HR2.out.upd HM2.out hu3); have HM2' := Hid.mk (HM2.out.upd hu3)
  clear hk3 hu3 HC HK2 hr3 hm3 HR2 HM2
  have HC := Hid.mk (HK3.out.holds K 0 (by simp [i64]) Q4.out)
  go_wp2_with fail
  refine HC.out.mono ?_
  rintro e w4 ⟨P4, a4, cp4, rfl, hr4, hm4, hk4, hu4⟩
  have HK4 := Hid.mk hk4
  have HR2 := Hid.mk (HR2'.out.upd HM2'.out hu4); have HM2 := Hid.mk (HM2'.out.upd hu4)
  have HR3' := Hid.mk (HR3.out.upd HM3.out hu4); have HM3' := Hid.mk (HM3.out.upd hu4)
  clear hk4 hu4 HC HK3 hr4 hm4 HR2' HM2' HR3 HM3
  have HC := Hid.mk (HK4.out.err K (.close 0 d) (by simp [Cl.rng, i64]; omega) Q5.out (by decide) (by decide))
  go_wp2_with fail
  refine HC.out.mono ?_
  rintro e w5 ⟨P5, a5, cp5, rfl, hk5, hu5⟩
  have HK5 := Hid.mk hk5
  have HR2' := Hid.mk (HR2.out.upd HM2.out hu5); have HM2' := Hid.mk (HM2.out.upd hu5)
  have HR3 := Hid.mk (HR3'.out.upd HM3'.out hu5); have HM3 := Hid.mk (HM3'.out.upd hu5)
  clear hk5 hu5 HC HK4 HR2 HM2 HR3' HM3'
  go_wp2_with fail
  refine (isF _ _ _ _ _ _ _).mono ?_
  simp only [decide_true, Bool.and_self]
  rintro e w6 ⟨rfl, hb6⟩
  have HK := Hid.mk (HK5.out.below K hb6)
  obtain ⟨b2, rfl, _, c2, _⟩ := (HR2'.out.below hb6) 0 ra rfl
  obtain ⟨b3, rfl, _, c3, _⟩ := (HR3.out.below hb6) 0 rb rfl
  rw [hrp] at c2
  rw [hrq] at c3
  clear hb6 HK5 HR2' HR3 HM2' HM3
  have HC := Hid.mk (HK.out.num K (.kill 0) (by simp [Cl.rng, i64]) Q6.out)
  go_wp2_with fail
  refine HC.out.mono ?_
  rintro e w2 ⟨P2, a2, cp2, rfl, hk2, hu2⟩
  have HK2 := Hid.mk hk2
  clear hk2 hu2 HC HK c2 c3
  go_wp2_with fail
  refine (okF _ _ _ _ _ _ _).mono ?_
  simp only [decide_true, Bool.and_self]
  rintro e w3 ⟨rfl, hb3⟩
  have HK := Hid.mk (HK2.out.below K hb3)
  clear hb3 HK2
  have HC := Hid.mk (HK.out.runs K 0 (by simp [i64]) Q7.out)
  go_wp2_with fail
  refine HC.out.mono ?_
  rintro e w2 ⟨P2, a2, cp2, rfl, hr2, hm2, hk2, hu2⟩
  have HK2 := Hid.mk hk2
  clear hk2 hu2 HC HK hr2 hm2
  have HC := Hid.mk (HK2.out.runs K 2 (by simp [i64]) Q8.out)
  go_wp2_with fail
  refine HC.out.mono ?_
  rintro e w3 ⟨P3, a3, cp3, rfl, hr3, hm3, hk3, hu3⟩
  have HK3 := Hid.mk hk3
  clear hk3 hu3 HC HK2 hr3 hm3
  have HC := Hid.mk (HK3.out.holds K 0 (by simp [i64]) Q9.out)
  go_wp2_with fail
  refine HC.out.mono ?_
  rintro e w4 ⟨P4, a4, cp4, rfl, hr4, hm4, hk4, hu4⟩
  have HK4 := Hid.mk hk4
  clear hk4 hu4 HC HK3 hr4 hm4
  go_wp2
  go_ret
  exact ⟨rfl, HK4.out.b⟩
end
end Go.Proofs.YtaicdjhblbobbaaGreat
