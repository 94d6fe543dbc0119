/- Over any program that answers as the model: the statement Openings. -/
import Derived.Test.YtaicdjhblbobbaaGreatGPlay
import Derived.Test.YtaicdjhblbobbaaGreatGScene
namespace Go.Proofs.YtaicdjhblbobbaaGreat
open Go.RowKit

section
variable {rep : World → Nat → (Nat → Prop) → DS → Prop} (K : Face rep)
include K
set_option maxHeartbeats 16000000 in
set_option maxRecDepth 100000 in
theorem OpeningsF (x y z : Int) (w : World) (hx : i64 x) (hy : i64 y) (hz : i64 z) :
    Calls Tryz.prog 11 #[.int .i64 x, .int .i64 y, .int .i64 z] w fun e w' => e = .returned (.bool true) ∧ Below w.heap.size w w' := by
  have HX := Hid.mk hx
  have HY := Hid.mk hy
  have HZ := Hid.mk hz
  clear hx hy hz
  obtain ⟨n0, hn0⟩ : ∃ n0 : Nat, pickI x 4 = n0 := ⟨(pickI x 4).toNat, by have := pickI_bd x 4 (by omega); omega⟩
  have hn1 : n0 < 4 := by have := pickI_bd x 4 (by omega); omega
  have HP := Hid.mk (pick_eq x 4 · HX.out (by omega) (by omega))
  have HQ := Hid.mk (pick_eq y 2 · HY.out (by omega) (by omega))
  have HW := Hid.mk (pick_eq z 2 · HZ.out (by omega) (by omega))
  rw [hn0] at HP
  obtain ⟨dup, hdup⟩ : ∃ b : Bool, (pickI y 2 == 1) = b := ⟨_, rfl⟩
  obtain ⟨wh, hwh⟩ : ∃ b : Bool, (pickI z 2 == 0) = b := ⟨_, rfl⟩
  generalize pickI y 2 = y2 at *
  generalize pickI z 2 = z2 at *
  clear hn0
  have HNEW := Hid.mk (K.new w)
  go_enter Tryz.func11, Tryz.ntmps11
  go_wp2_with fail
  refine (HP.out w).mono ?_
  rintro e w' ⟨rfl, hw⟩
  subst w'
  obtain ⟨n, hn⟩ : ∃ n : Nat, n = 1 + n0 := ⟨_, rfl⟩
  go_wp2_with fail
  rw [show (1 + (n0 : Int)) = (n : Int) by omega]
  refine HNEW.out.mono ?_
  rintro e w1 ⟨kb, P, rfl, hk, hu⟩
  have HK : Hid (KW rep w w1 kb P (stC [])) := ⟨hk, hu.below (fun _ h => h.elim) (Nat.le_refl _), hu.above (fun _ h => h.elim) (Nat.le_refl _)⟩
  have hn2 : 1 ≤ n := by omega
  have hn6 : n ≤ 4 := by omega
  clear hk hu HNEW hn hn1 HP
  unfold kptr
  have HC := Hid.mk (HK.out.num K (.opn 0 1) (by simp [Cl.rng, i64]) open_a.1)
  go_wp2_with fail
  refine HC.out.mono ?_
  rintro e w2 ⟨P2, a2, cp2, rfl, hk2, hu2⟩
  have HK2 := Hid.mk hk2
  clear hk2 hu2 HC HK
  go_wp2_with fail
  refine (okF _ _ _ _ _ _ _).mono ?_
  simp only [decide_true, Bool.and_self]
  rintro e w3 ⟨rfl, hb3⟩
  have HK := Hid.mk (HK2.out.below K hb3)
  clear hb3 HK2
  have HC := Hid.mk (HK.out.num K (.opn 0 1) (by simp [Cl.rng, i64]) open_a.2.1)
  go_wp2_with fail
  refine HC.out.mono ?_
  rintro e w2 ⟨P2, a2, cp2, rfl, hk2, hu2⟩
  have HK2 := Hid.mk hk2
  clear hk2 hu2 HC HK
  go_wp2_with fail
  refine (okF _ _ _ _ _ _ _).mono ?_
  simp only [decide_true, Bool.and_self]
  rintro e w3 ⟨rfl, hb3⟩
  have HK := Hid.mk (HK2.out.below K hb3)
  clear hb3 HK2
  have HC := Hid.mk (HK.out.num K (.whole 0 0 2 false) (by simp [Cl.rng, i64]) open_a.2.2.1)
  go_wp2_with fail
  refine HC.out.mono ?_
  rintro e w2 ⟨P2, a2, cp2, rfl, hk2, hu2⟩
  have HK2 := Hid.mk hk2
  clear hk2 hu2 HC HK
  go_wp2_with fail
  refine (okF _ _ _ _ _ _ _).mono ?_
  simp only [decide_true, Bool.and_self]
  rintro e w3 ⟨rfl, hb3⟩
  have HK := Hid.mk (HK2.out.below K hb3)
  clear hb3 HK2
  go_wp2_with fail
  refine (HQ.out _).mono ?_
  rintro e w' ⟨rfl, hw⟩
  subst w'
  cases dup
  · clear HQ HX HY
    have HC := Hid.mk (HK.out.err K (.whole 0 1 1 true) (by simp [Cl.rng, i64]) (open_b false) (by decide) (by decide))
    go_wp2_with fail
    refine HC.out.mono ?_
    rintro e w2 ⟨P2, a2, cp2, rfl, hk2, hu2⟩
    have HK2 := Hid.mk hk2
    clear hk2 hu2 HC HK
    go_wp2_with fail
    refine (isF _ _ _ _ _ _ _).mono ?_
    simp only [decide_true, Bool.and_self]
    rintro e w3 ⟨rfl, hb3⟩
    have HK := Hid.mk (HK2.out.below K hb3)
    clear hb3 HK2
    have HL := Hid.mk (LL.nil w w3 P2)
    go_wp2_with (at_builtin; refine wpList_app1 rfl _ _ rfl w _ _ [] _ rfl HL.out 0 rfl (by simp) HK.out.b.size (K.lt HK.out.r) ?_; intro v4 w4 hl4 hp4 hs4 hb4 _ _; have HK4 := Hid.mk (HK.out.grown K hp4 hs4 hb4); have HL4 : Hid (LL w w4 P2 v4 (procsFrom 0 1)) := hl4; clear hl4 hp4 hs4 hb4 HK HL)
    go_loopg [11, 12] 10 (fun g s11 s12 wr => ∃ (i : Nat) (P : Nat → Prop), s12 = .int .i64 ((i : Int) + 1) ∧ i ≤ n ∧ g = 10 - i ∧ Hid (KW rep w wr kb P (stC (openF false i))) ∧ Hid (LL w wr P s11 (procsFrom 0 (i + 1))))
    case atStart => exact ⟨0, P2, by go_num, by omega, by omega, by simpa [openF, openD, range'] using HK4, HL4⟩
    case round =>
      clear HK4 HL4
      obtain ⟨i, P, rfl, hi, rfl, HK, HL⟩ := hrel
      by_cases hlt : i < n
      ·
        have HC := Hid.mk (HK.out.num K (.fork 0) (by simp [Cl.rng, i64]) (open_c false ⟨i, by omega⟩))
        go_wp2_with fail
        refine HC.out.mono ?_
        rintro e w2 ⟨P2, a2, cp2, rfl, hk2, hu2⟩
        have HK2 := Hid.mk hk2
        have HL0 := Hid.mk (HL.out.upd hu2)
        clear HL
        clear hk2 hu2 HC HK
        go_wp2_with fail
        refine (okF _ _ _ _ _ _ _).mono ?_
        simp only [decide_true, Bool.and_self]
        rintro e w3 ⟨rfl, hb3⟩
        have HK := Hid.mk (HK2.out.below K hb3)
        have HL := Hid.mk (HL0.out.below hb3)
        clear HL0
        clear hb3 HK2
        go_wp2_with (at_builtin; refine wpList_app1 rfl _ _ rfl w _ _ (procsFrom 0 (i + 1)) _ rfl HL.out ((i : Int) + 1) rfl (by simp [procsFrom]; omega) HK.out.b.size (K.lt HK.out.r) ?_; intro v4 w4 hl4 hp4 hs4 hb4 _ _; have HK4 := Hid.mk (HK.out.grown K hp4 hs4 hb4); have HL4 := Hid.mk hl4; clear hl4 hp4 hs4 hb4 HK HL)
        go_roundg (10 - (i + 1))
        case measure => omega
        case rel => exact ⟨i + 1, P2, by go_num, by omega, rfl, by rw [openF, range'_succ, ← List.append_assoc]; exact HK4.out, by rw [procsFrom_succ]; exact HL4.out⟩
      · obtain rfl : i = n := by omega
        have hlen5 : (procsFrom 0 (i + 1)).length = i + 1 := by simp [procsFrom]
        have HC := Hid.mk (HK.out.holds K 1 (by simp [i64]) (open_d false ⟨i, by omega⟩ hn2).1)
        go_wp2_with fail
        refine HC.out.mono ?_
        rintro e w5 ⟨P5, a5, cp5, rfl, hr5, hm5, hk5, hu5⟩
        have HK5 := Hid.mk hk5
        obtain ⟨la, lcp, rfl, hir, hmi⟩ := (HL.out.upd hu5).slice
        obtain ⟨hb, hu, hcp, rfl, hb0, hb1, hb2, hb3, hb4, _⟩ := hr5 0 _ rfl
        rw [hlen5] at hb2 ⊢
        simp only [Nat.zero_mul, Nat.zero_add] at hb1 hb2
        have HIR := Hid.mk hir; have HMI := Hid.mk hmi; have HPS := Hid.mk hb3
        clear hk5 hu5 HC HK hr5 hm5 hir hmi hb3 hb4 HL
        go_wp2_with fail
        go_loopg [15] 10 (fun g s15 wr => ∃ (j : Nat), s15 = .int .i64 j ∧ j ≤ i + 1 ∧ g = 10 - j ∧ Hid (∃ N, wr = w5.drewN N))
        case atStart => exact ⟨0, rfl, by omega, by omega, ⟨0, rfl⟩⟩
        case round =>
          obtain ⟨j, rfl, hj, rfl, HWR⟩ := hrel
          by_cases hjl : j < i + 1
          · have hget : (procsFrom 0 (i + 1))[j]? = some (j : Int) := by rw [procsFrom_get (by omega), Nat.zero_add]
            obtain ⟨qb, qo, rfl, _, q1⟩ := HPS.out j j hget
            obtain ⟨tb, tq, rfl, _, t1⟩ := HIR.out j j hget
            obtain ⟨N, hwr⟩ := HWR.out
            have y0 : wr.cell? ⟨hb, 1, none⟩ = some (.slice (some ⟨qb, qo, none⟩) (i + 1) hcp) := by rw [hwr]; exact hb2
            have y1 : wr.cell? ⟨qb, qo + j, none⟩ = some (.int .i64 j) := by rw [hwr]; exact q1
            have y2' : wr.cell? ⟨tb, tq + j, none⟩ = some (.int .i64 j) := by rw [hwr]; exact t1
            have HWR2 := Hid.mk hwr
            clear hwr q1 t1 HWR
            go_upto_region 25 with fail
            go_quiet (fail)
            go_wp2
            go_roundg (10 - (j + 1))
            case measure => omega
            case rel => exact ⟨j + 1, by go_num, by omega, rfl, ⟨N + _, by rw [HWR2.out]; simp [World.drewN, Nat.add_assoc]; rfl⟩⟩
          · obtain rfl : j = i + 1 := by omega
            have HK : Hid (KW rep w wr kb P5 (stC (openF false i))) := by obtain ⟨N, hwr⟩ := HWR.out; rw [hwr]; exact HK5.out.drew K N
            clear HK5 HWR HIR HMI HPS
            have HC := Hid.mk (HK.out.num K (.whole 0 1 1 true) (by simp [Cl.rng, i64]) (open_d false ⟨i, by omega⟩ hn2).2)
            go_wp2_with fail
            refine HC.out.mono ?_
            rintro e w2 ⟨P2, a2, cp2, rfl, hk2, hu2⟩
            have HK2 := Hid.mk hk2
            clear hk2 hu2 HC HK
            go_wp2_with fail
            refine (isF _ _ _ _ _ _ _).mono ?_
            simp only [decide_true, Bool.and_self]
            rintro e w3 ⟨rfl, hb3⟩
            have HK := Hid.mk (HK2.out.below K hb3)
            clear hb3 HK2
            go_wp2_with fail
            refine (HW.out _).mono ?_
            rintro e w' ⟨rfl, hw⟩
            subst w'
            clear hb1 hb2
            cases wh
            · go_wp2_with fail
              go_loopg [19] 10 (fun g s19 wr => ∃ (j : Nat) (P : Nat → Prop), s19 = .int .i64 ((j : Int) + 1) ∧ j + 1 ≤ i ∧ g = 10 - j ∧ Hid (KW rep w wr kb P (stC (openK false i j))))
              case atStart => exact ⟨0, P2, by go_num, by omega, by omega, by simpa [openK, openW, range'] using HK⟩
              case round =>
                clear HK
                obtain ⟨j, Q, rfl, hj, rfl, HK⟩ := hrel
                by_cases hlt : j + 1 < i
                ·
                  have HC := Hid.mk (HK.out.num K (.kill ((j : Int) + 1)) (by simp [Cl.rng, i64]; omega) (open_f false ⟨i, by omega⟩ hn2 ⟨j, by omega⟩ hlt))
                  go_wp2_with fail
                  refine HC.out.mono ?_
                  rintro e w2 ⟨P2, a2, cp2, rfl, hk2, hu2⟩
                  have HK2 := Hid.mk hk2
                  clear hk2 hu2 HC HK
                  go_wp2_with fail
                  refine (okF _ _ _ _ _ _ _).mono ?_
                  simp only [decide_true, Bool.and_self]
                  rintro e w3 ⟨rfl, hb3⟩
                  have HK := Hid.mk (HK2.out.below K hb3)
                  clear hb3 HK2
                  go_wp2
                  go_roundg (10 - (j + 1))
                  case measure => omega
                  case rel => exact ⟨j + 1, P2, by go_num, by omega, rfl, by rw [openK, range'_succ, ← List.append_assoc]; exact HK.out⟩
                · obtain rfl : j = i - 1 := by omega
                  have HC := Hid.mk (HK.out.call K (.kill i) (by simp [Cl.rng, i64]; omega) (open_g false ⟨i, by omega⟩ hn2).1)
                  clear hlt hj
                  go_wp2_with fail
                  refine HC.out.mono ?_
                  rintro e w6 ⟨P6, a6, cp6, rfl, ht6, hk6, _⟩
                  have HK6 := Hid.mk hk6
                  obtain ⟨b6, rfl, hbl, c1, c2⟩ := ((DRow.own ht6.own)) 0 _ rfl
                  simp only [Nat.zero_mul, Nat.zero_add] at c1 c2
                  clear hk6 ht6 HC HK
                  unfold rpV
                  go_wp2_with fail
                  refine (waitingF K (HK6.out.alloc K _) [] none 0 (open_g false ⟨i, by omega⟩ hn2).2 (by simp) (IRow.nil _ _) (fun _ _ h => by cases h)).mono ?_
                  rintro e w9 ⟨P9, rfl, hk9, _⟩
                  go_wp2
                  go_ret
                  exact ⟨rfl, hk9.b⟩

            · go_wp2_with fail
              refine (pick_eq _ (i : Int) _ (i64_wrap _) (by omega) (by omega)).mono ?_
              rintro e w' ⟨rfl, hw⟩
              subst w'
              obtain ⟨o, ho⟩ : ∃ o : Nat, pickI (wrap64 (z.tdiv 2)) i = o := ⟨(pickI (wrap64 (z.tdiv 2)) i).toNat, by have := pickI_bd (wrap64 (z.tdiv 2)) i (by omega); omega⟩
              have ho1 : o < i := by have := pickI_bd (wrap64 (z.tdiv 2)) i (by omega); omega
              rw [ho]
              clear ho
              have hE := open_e false ⟨i, by omega⟩ hn2 ⟨1 + o, by omega⟩ (by simp) (by simp; omega)
              have HC := Hid.mk (HK.out.call K (.whole (1 + (o : Int)) 0 0 false) (by simp [Cl.rng, i64]; omega) (by simpa [openW] using hE.1))
              have HE := Hid.mk hE
              clear hE
              go_wp2_with fail
              refine HC.out.mono ?_
              rintro e w6 ⟨P6, a6, cp6, rfl, ht6, hk6, _⟩
              have HK6 := Hid.mk hk6
              have HT6 := Hid.mk ht6
              clear hk6 ht6 HC HK
              unfold rpV
              go_wp2_with fail
              refine (freesF [0] a6 _ cp6 1 _ (by simp) ((DRow.own HT6.out.own).below ((Below.refl _ _).alloc (Nat.le_refl _) _)) (IRow.lit1 _ _ _)).mono ?_
              rintro e w7 ⟨rfl, hb7⟩
              have HK7 := Hid.mk ((HK6.out.alloc K _).below K hb7)
              clear hb7 HK6 HT6
              have HC := Hid.mk (HK7.out.holds K 1 (by simp [i64]) (by simpa [openW] using HE.out.2.1))
              go_wp2_with fail
              refine HC.out.mono ?_
              rintro e w8 ⟨P8, a8, cp8, rfl, hr8, hm8, hk8, hu8⟩
              have HK8 := Hid.mk hk8
              obtain ⟨hb', hu', hcp', rfl, hb0', hb1', _⟩ := hr8 0 _ rfl
              simp only [Nat.zero_mul] at hb1'
              clear hk8 hu8 HC HK7 hr8 hm8
              have HC := Hid.mk (waitingF K HK8.out [] none 0 (by simpa [openW] using HE.out.2.2) (by simp) (IRow.nil _ _) (fun _ _ h => by cases h))
              go_wp2_with fail
              refine HC.out.mono ?_
              rintro e w9 ⟨P9, rfl, hk9, _⟩
              go_wp2
              go_ret
              exact ⟨rfl, hk9.b⟩


  · clear HQ HX HY
    have HC := Hid.mk (HK.out.num K (.dup 0 0) (by simp [Cl.rng, i64]) open_a.2.2.2)
    go_wp2_with fail
    refine HC.out.mono ?_
    rintro e w2 ⟨P2, a2, cp2, rfl, hk2, hu2⟩
    have HK2 := Hid.mk hk2
    clear hk2 hu2 HC HK
    go_wp2_with fail
    refine (okF _ _ _ _ _ _ _).mono ?_
    simp only [decide_true, Bool.and_self]
    rintro e w3 ⟨rfl, hb3⟩
    have HK := Hid.mk (HK2.out.below K hb3)
    clear hb3 HK2
    have HC := Hid.mk (HK.out.err K (.whole 0 1 1 true) (by simp [Cl.rng, i64]) (open_b true) (by decide) (by decide))
    go_wp2_with fail
    refine HC.out.mono ?_
    rintro e w2 ⟨P2, a2, cp2, rfl, hk2, hu2⟩
    have HK2 := Hid.mk hk2
    clear hk2 hu2 HC HK
    go_wp2_with fail
    refine (isF _ _ _ _ _ _ _).mono ?_
    simp only [decide_true, Bool.and_self]
    rintro e w3 ⟨rfl, hb3⟩
    have HK := Hid.mk (HK2.out.below K hb3)
    clear hb3 HK2
    have HL := Hid.mk (LL.nil w w3 P2)
    go_wp2_with (at_builtin; refine wpList_app1 rfl _ _ rfl w _ _ [] _ rfl HL.out 0 rfl (by simp) HK.out.b.size (K.lt HK.out.r) ?_; intro v4 w4 hl4 hp4 hs4 hb4 _ _; have HK4 := Hid.mk (HK.out.grown K hp4 hs4 hb4); have HL4 : Hid (LL w w4 P2 v4 (procsFrom 0 1)) := hl4; clear hl4 hp4 hs4 hb4 HK HL)
    go_loopg [11, 12] 10 (fun g s11 s12 wr => ∃ (i : Nat) (P : Nat → Prop), s12 = .int .i64 ((i : Int) + 1) ∧ i ≤ n ∧ g = 10 - i ∧ Hid (KW rep w wr kb P (stC (openF true i))) ∧ Hid (LL w wr P s11 (procsFrom 0 (i + 1))))
    case atStart => exact ⟨0, P2, by go_num, by omega, by omega, by simpa [openF, openD, range'] using HK4, HL4⟩
    case round =>
      clear HK4 HL4
      obtain ⟨i, P, rfl, hi, rfl, HK, HL⟩ := hrel
      by_cases hlt : i < n
      ·
        have HC := Hid.mk (HK.out.num K (.fork 0) (by simp [Cl.rng, i64]) (open_c true ⟨i, by omega⟩))
        go_wp2_with fail
        refine HC.out.mono ?_
        rintro e w2 ⟨P2, a2, cp2, rfl, hk2, hu2⟩
        have HK2 := Hid.mk hk2
        have HL0 := Hid.mk (HL.out.upd hu2)
        clear HL
        clear hk2 hu2 HC HK
        go_wp2_with fail
        refine (okF _ _ _ _ _ _ _).mono ?_
        simp only [decide_true, Bool.and_self]
        rintro e w3 ⟨rfl, hb3⟩
        have HK := Hid.mk (HK2.out.below K hb3)
        have HL := Hid.mk (HL0.out.below hb3)
        clear HL0
        clear hb3 HK2
        go_wp2_with (at_builtin; refine wpList_app1 rfl _ _ rfl w _ _ (procsFrom 0 (i + 1)) _ rfl HL.out ((i : Int) + 1) rfl (by simp [procsFrom]; omega) HK.out.b.size (K.lt HK.out.r) ?_; intro v4 w4 hl4 hp4 hs4 hb4 _ _; have HK4 := Hid.mk (HK.out.grown K hp4 hs4 hb4); have HL4 := Hid.mk hl4; clear hl4 hp4 hs4 hb4 HK HL)
        go_roundg (10 - (i + 1))
        case measure => omega
        case rel => exact ⟨i + 1, P2, by go_num, by omega, rfl, by rw [openF, range'_succ, ← List.append_assoc]; exact HK4.out, by rw [procsFrom_succ]; exact HL4.out⟩
      · obtain rfl : i = n := by omega
        have hlen5 : (procsFrom 0 (i + 1)).length = i + 1 := by simp [procsFrom]
        have HC := Hid.mk (HK.out.holds K 1 (by simp [i64]) (open_d true ⟨i, by omega⟩ hn2).1)
        go_wp2_with fail
        refine HC.out.mono ?_
        rintro e w5 ⟨P5, a5, cp5, rfl, hr5, hm5, hk5, hu5⟩
        have HK5 := Hid.mk hk5
        obtain ⟨la, lcp, rfl, hir, hmi⟩ := (HL.out.upd hu5).slice
        obtain ⟨hb, hu, hcp, rfl, hb0, hb1, hb2, hb3, hb4, _⟩ := hr5 0 _ rfl
        rw [hlen5] at hb2 ⊢
        simp only [Nat.zero_mul, Nat.zero_add] at hb1 hb2
        have HIR := Hid.mk hir; have HMI := Hid.mk hmi; have HPS := Hid.mk hb3
        clear hk5 hu5 HC HK hr5 hm5 hir hmi hb3 hb4 HL
        go_wp2_with fail
        go_loopg [15] 10 (fun g s15 wr => ∃ (j : Nat), s15 = .int .i64 j ∧ j ≤ i + 1 ∧ g = 10 - j ∧ Hid (∃ N, wr = w5.drewN N))
        case atStart => exact ⟨0, rfl, by omega, by omega, ⟨0, rfl⟩⟩
        case round =>
          obtain ⟨j, rfl, hj, rfl, HWR⟩ := hrel
          by_cases hjl : j < i + 1
          · have hget : (procsFrom 0 (i + 1))[j]? = some (j : Int) := by rw [procsFrom_get (by omega), Nat.zero_add]
            obtain ⟨qb, qo, rfl, _, q1⟩ := HPS.out j j hget
            obtain ⟨tb, tq, rfl, _, t1⟩ := HIR.out j j hget
            obtain ⟨N, hwr⟩ := HWR.out
            have y0 : wr.cell? ⟨hb, 1, none⟩ = some (.slice (some ⟨qb, qo, none⟩) (i + 1) hcp) := by rw [hwr]; exact hb2
            have y1 : wr.cell? ⟨qb, qo + j, none⟩ = some (.int .i64 j) := by rw [hwr]; exact q1
            have y2' : wr.cell? ⟨tb, tq + j, none⟩ = some (.int .i64 j) := by rw [hwr]; exact t1
            have HWR2 := Hid.mk hwr
            clear hwr q1 t1 HWR
            go_upto_region 25 with fail
            go_quiet (fail)
            go_wp2
            go_roundg (10 - (j + 1))
            case measure => omega
            case rel => exact ⟨j + 1, by go_num, by omega, rfl, ⟨N + _, by rw [HWR2.out]; simp [World.drewN, Nat.add_assoc]; rfl⟩⟩
          · obtain rfl : j = i + 1 := by omega
            have HK : Hid (KW rep w wr kb P5 (stC (openF true i))) := by obtain ⟨N, hwr⟩ := HWR.out; rw [hwr]; exact HK5.out.drew K N
            clear HK5 HWR HIR HMI HPS
            have HC := Hid.mk (HK.out.num K (.whole 0 1 1 true) (by simp [Cl.rng, i64]) (open_d true ⟨i, by omega⟩ hn2).2)
            go_wp2_with fail
            refine HC.out.mono ?_
            rintro e w2 ⟨P2, a2, cp2, rfl, hk2, hu2⟩
            have HK2 := Hid.mk hk2
            clear hk2 hu2 HC HK
            go_wp2_with fail
            refine (isF _ _ _ _ _ _ _).mono ?_
            simp only [decide_true, Bool.and_self]
            rintro e w3 ⟨rfl, hb3⟩
            have HK := Hid.mk (HK2.out.below K hb3)
            clear hb3 HK2
            go_wp2_with fail
            refine (HW.out _).mono ?_
            rintro e w' ⟨rfl, hw⟩
            subst w'
            clear hb1 hb2
            cases wh
            · go_wp2_with fail
              go_loopg [19] 10 (fun g s19 wr => ∃ (j : Nat) (P : Nat → Prop), s19 = .int .i64 ((j : Int) + 1) ∧ j + 1 ≤ i ∧ g = 10 - j ∧ Hid (KW rep w wr kb P (stC (openK true i j))))
              case atStart => exact ⟨0, P2, by go_num, by omega, by omega, by simpa [openK, openW, range'] using HK⟩
              case round =>
                clear HK
                obtain ⟨j, Q, rfl, hj, rfl, HK⟩ := hrel
                by_cases hlt : j + 1 < i
                ·
                  have HC := Hid.mk (HK.out.num K (.kill ((j : Int) + 1)) (by simp [Cl.rng, i64]; omega) (open_f true ⟨i, by omega⟩ hn2 ⟨j, by omega⟩ hlt))
                  go_wp2_with fail
                  refine HC.out.mono ?_
                  rintro e w2 ⟨P2, a2, cp2, rfl, hk2, hu2⟩
                  have HK2 := Hid.mk hk2
                  clear hk2 hu2 HC HK
                  go_wp2_with fail
                  refine (okF _ _ _ _ _ _ _).mono ?_
                  simp only [decide_true, Bool.and_self]
                  rintro e w3 ⟨rfl, hb3⟩
                  have HK := Hid.mk (HK2.out.below K hb3)
                  clear hb3 HK2
                  go_wp2
                  go_roundg (10 - (j + 1))
                  case measure => omega
                  case rel => exact ⟨j + 1, P2, by go_num, by omega, rfl, by rw [openK, range'_succ, ← List.append_assoc]; exact HK.out⟩
                · obtain rfl : j = i - 1 := by omega
                  have HC := Hid.mk (HK.out.call K (.kill i) (by simp [Cl.rng, i64]; omega) (open_g true ⟨i, by omega⟩ hn2).1)
                  clear hlt hj
                  go_wp2_with fail
                  refine HC.out.mono ?_
                  rintro e w6 ⟨P6, a6, cp6, rfl, ht6, hk6, _⟩
                  have HK6 := Hid.mk hk6
                  obtain ⟨b6, rfl, hbl, c1, c2⟩ := ((DRow.own ht6.own)) 0 _ rfl
                  simp only [Nat.zero_mul, Nat.zero_add] at c1 c2
                  clear hk6 ht6 HC HK
                  unfold rpV
                  go_wp2_with fail
                  refine (waitingF K (HK6.out.alloc K _) [] none 0 (open_g true ⟨i, by omega⟩ hn2).2 (by simp) (IRow.nil _ _) (fun _ _ h => by cases h)).mono ?_
                  rintro e w9 ⟨P9, rfl, hk9, _⟩
                  go_wp2
                  go_ret
                  exact ⟨rfl, hk9.b⟩

            · go_wp2_with fail
              refine (pick_eq _ (i : Int) _ (i64_wrap _) (by omega) (by omega)).mono ?_
              rintro e w' ⟨rfl, hw⟩
              subst w'
              obtain ⟨o, ho⟩ : ∃ o : Nat, pickI (wrap64 (z.tdiv 2)) i = o := ⟨(pickI (wrap64 (z.tdiv 2)) i).toNat, by have := pickI_bd (wrap64 (z.tdiv 2)) i (by omega); omega⟩
              have ho1 : o < i := by have := pickI_bd (wrap64 (z.tdiv 2)) i (by omega); omega
              rw [ho]
              clear ho
              have hE := open_e true ⟨i, by omega⟩ hn2 ⟨1 + o, by omega⟩ (by simp) (by simp; omega)
              have HC := Hid.mk (HK.out.call K (.whole (1 + (o : Int)) 0 0 false) (by simp [Cl.rng, i64]; omega) (by simpa [openW] using hE.1))
              have HE := Hid.mk hE
              clear hE
              go_wp2_with fail
              refine HC.out.mono ?_
              rintro e w6 ⟨P6, a6, cp6, rfl, ht6, hk6, _⟩
              have HK6 := Hid.mk hk6
              have HT6 := Hid.mk ht6
              clear hk6 ht6 HC HK
              unfold rpV
              go_wp2_with fail
              refine (freesF [0] a6 _ cp6 1 _ (by simp) ((DRow.own HT6.out.own).below ((Below.refl _ _).alloc (Nat.le_refl _) _)) (IRow.lit1 _ _ _)).mono ?_
              rintro e w7 ⟨rfl, hb7⟩
              have HK7 := Hid.mk ((HK6.out.alloc K _).below K hb7)
              clear hb7 HK6 HT6
              have HC := Hid.mk (HK7.out.holds K 1 (by simp [i64]) (by simpa [openW] using HE.out.2.1))
              go_wp2_with fail
              refine HC.out.mono ?_
              rintro e w8 ⟨P8, a8, cp8, rfl, hr8, hm8, hk8, hu8⟩
              have HK8 := Hid.mk hk8
              obtain ⟨hb', hu', hcp', rfl, hb0', hb1', _⟩ := hr8 0 _ rfl
              simp only [Nat.zero_mul] at hb1'
              clear hk8 hu8 HC HK7 hr8 hm8
              have HC := Hid.mk (waitingF K HK8.out [] none 0 (by simpa [openW] using HE.out.2.2) (by simp) (IRow.nil _ _) (fun _ _ h => by cases h))
              go_wp2_with fail
              refine HC.out.mono ?_
              rintro e w9 ⟨P9, rfl, hk9, _⟩
              go_wp2
              go_ret
              exact ⟨rfl, hk9.b⟩


end
end Go.Proofs.YtaicdjhblbobbaaGreat
