/- Over any program that answers as the model: the statement Turns. -/
import Derived.Test.YtaicdjhblbobbaaGreatGPlay
import Derived.Test.YtaicdjhblbobbaaGreatVTurnsPure
namespace Go.Proofs.YtaicdjhblbobbaaGreat
open Go.RowKit

theorem IRow.old {w w' : World} {a : Option Addr} {l : List Int} (h : IRow w a l) (hb : Below w.heap.size w w') : IRow w' a l := h.below hb
/-- Two lists lie apart. -/
def Two (u v : Value) : Prop := ∀ b, u.ownBlock = some b → v.ownBlock ≠ some b
section
variable {rep : World → Nat → (Nat → Prop) → DS → Prop} (K : Face rep)
include K
set_option maxHeartbeats 64000000 in
set_option maxRecDepth 100000 in
theorem TurnsF (raw : List Int) (ra : Option Addr) (cap : Nat) (w : World) (hraw : IRow w ra raw) (hlen : raw.length ≤ 9223372036854775807) :
    Calls Tryz.prog 9 #[.slice ra raw.length cap] w fun e w' => e = .returned (.bool true) ∧ Below w.heap.size w w' := by
  obtain ⟨n0, hn0⟩ : ∃ n0 : Nat, pickI (raw.length : Int) 5 = n0 := ⟨(pickI (raw.length : Int) 5).toNat, by have := pickI_bd (raw.length : Int) 5 (by omega); omega⟩
  have hn1 : n0 < 5 := by have := pickI_bd (raw.length : Int) 5 (by omega); omega
  have HP := Hid.mk (pick_eq (raw.length : Int) 5 · (by unfold i64; omega) (by omega) (by omega))
  rw [hn0] at HP
  have HSM := Hid.mk (someF K (2 + n0) (by omega) (by omega))
  have HR := Hid.mk hraw
  clear hn0 hraw
  go_enter Tryz.func9, Tryz.ntmps9
  go_wp2_with fail
  refine (HP.out w).mono ?_
  rintro e w' ⟨rfl, hw⟩
  subst w'
  go_wp2_with fail
  obtain ⟨n, hn⟩ : ∃ n : Nat, n = 2 + n0 := ⟨_, rfl⟩
  rw [← hn] at HSM
  rw [show (2 + (n0 : Int)) = (n : Int) by omega]
  refine (HSM.out w).mono ?_
  rintro e w1 ⟨kb, P, rfl, hk1⟩
  have hn2 : 2 ≤ n := by omega
  have hn6 : n ≤ 6 := by omega
  clear hn hn1 HSM HP
  obtain ⟨ks, hks⟩ : ∃ ks, ks = turnKs raw n := ⟨_, rfl⟩
  have hkl : ks.length = n - 1 := by rw [hks]; exact turnKs_len raw n
  have HT := Hid.mk (turns_ok (ks := ks) (by omega) (by omega))
  have HK : Hid (KW rep w w1 kb P (stC (someC (ks.length + 1)))) := by rw [show ks.length + 1 = n by omega]; exact hk1
  have HKS := Hid.mk hks
  clear hk1 hks
  have HC := Hid.mk (HK.out.num K (.lock 0 0 2 7 1 false) (by simp [Cl.rng, i64]) HT.out.own)
  go_wp2_with fail
  refine HC.out.mono ?_
  rintro e w2 ⟨P2, a2, cp2, rfl, hk2, hu2⟩
  have HK2 := Hid.mk hk2
  clear hk2 hu2 HC HK
  go_wp2_with fail
  refine (okF _ _ _ _ _ _ _).mono ?_
  simp only [decide_true, Bool.and_self]
  rintro e w3 ⟨rfl, hb3⟩
  have HK := Hid.mk (HK2.out.below K hb3)
  clear hb3 HK2
  have HKA : Hid (KW rep w w3 kb P2 (stC (turnsA ks 0))) := by simpa [turnsA, range'] using HK
  clear HK
  go_wp2_with fail
  go_loopg [6, 7, 8] 10 (fun g s6 s7 s8 wr => ∃ (m : Nat) (P : Nat → Prop), s8 = .int .i64 ((m : Int) + 1) ∧ m + 1 ≤ n ∧ g = 10 - m ∧ Hid (KW rep w wr kb P (stC (turnsA ks m))) ∧ Hid (LL w wr P s6 (kindsL ks m)) ∧ Hid (LL w wr P s7 (procsFrom 1 (m + 1))) ∧ Hid (Two s6 s7))
  case atStart => exact ⟨0, P2, by go_num, by omega, by omega, HKA.out, LL.nil _ _ _, LL.nil _ _ _, fun b h => by cases h⟩
  case round =>
    clear HKA
    obtain ⟨m, P, hm8, hm, rfl, HK, HL6, HL7, HTW⟩ := hrel
    subst hm8
    by_cases hlt : m + 1 < n
    · obtain ⟨bd, hbd⟩ : ∃ bd, bd = ks.getD m false := ⟨_, rfl⟩
      obtain ⟨kd, hkd⟩ : ∃ kd, kd = kindS bd := ⟨_, rfl⟩
      have hk : bd = turnK raw (m + 1) := by rw [hbd, HKS.out]; exact turnKs_get (by omega)
      have HBD := Hid.mk hbd
      clear hbd
      go_upto_region 11 with fail
      go_cut [52] from 36 to 67 (fun s52 wx => s52 = .bool bd ∧ wx = wr)
      case first =>
        by_cases hr : m + 1 < raw.length
        · obtain ⟨rb, ro, rfl, hrb, hrc⟩ := HR.out (m + 1) raw[m + 1] (by simp [hr])
          have c0 : wr.cell? ⟨rb, ro + (m + 1), none⟩ = some (.int .i64 raw[m + 1]) := (HK.out.b.cell (p := ⟨rb, ro + (m + 1), none⟩) hrb).trans hrc
          have htk : turnK raw (m + 1) = (raw[m + 1].tmod 3 != 0) := by simp [turnK, hr]
          generalize raw[m + 1] = z at *
          cases hz : (z.tmod 3 != 0)
          · go_wp2
            go_meet
            case rel => exact ⟨by rw [hk, htk, hz], rfl⟩
          · go_wp2
            go_meet
            case rel => exact ⟨by rw [hk, htk, hz], rfl⟩
        · have htk : turnK raw (m + 1) = false := by simp [turnK, List.getElem?_eq_none (Nat.le_of_not_lt hr)]
          go_wp2
          go_meet
          case rel => exact ⟨by rw [hk, htk], rfl⟩
      case rest =>
        obtain ⟨rfl, hw⟩ := hcut
        subst wc
        go_upto_if 52 with fail
        go_cut [9] from 36 to 67 (fun s9 wx => s9 = .int .i64 kd ∧ wx = wr)
        case first =>
          clear hk HBD
          cases bd
          · go_wp2
            go_meet
            case rel => exact ⟨by rw [hkd]; rfl, rfl⟩
          · go_wp2
            go_meet
            case rel => exact ⟨by rw [hkd]; rfl, rfl⟩
        case rest =>
        obtain ⟨rfl, hw⟩ := hcut
        subst wc
        have HKN := Hid.mk (show kindsL ks (m + 1) = kindsL ks m ++ [kd] by rw [kindsL_succ, hkd, HBD.out])
        have HKC : Hid (turnAsk ks m = .lock ((m : Int) + 1) 0 kd 5 5 true) := by unfold turnAsk; rw [hkd, HBD.out]; exact Hid.mk rfl
        have hkr : i64 kd := by rw [hkd]; unfold kindS i64; split <;> omega
        have HKR := Hid.mk hkr
        clear hkd hk HBD hkr
        go_wp2_with (first
          | (at_builtin; refine wpList_app1 rfl _ _ rfl w _ _ (kindsL ks m) _ rfl HL6.out kd rfl (by simp [kindsL_len]; omega) HK.out.b.size (K.lt HK.out.r) ?_; intro v4 w4 hl4 hp4 hs4 hb4 ho4 hn4; have HK4 := Hid.mk (HK.out.grown K hp4 hs4 hb4); have HL64 := Hid.mk hl4; have HL74 := Hid.mk (HL7.out.blk (w' := w4) (P' := P) (fun b e => ⟨ho4 b (HL7.out.own.lt b e).2 (fun h => HTW.out b h e), HL7.out.far b e⟩)); have HTW4 : Hid (Two v4 u7) := (fun b h e => (hn4 b h).elim (fun h' => HTW.out b h' e) (fun h' => by have := (HL7.out.own.lt b e).2; omega)); clear hl4 hp4 hs4 hb4 ho4 hn4 HK HL6 HL7 HTW)
          | (at_builtin; refine wpList_app1 rfl _ _ rfl w _ _ (procsFrom 1 (m + 1)) _ rfl HL74.out ((m : Int) + 1) rfl (by simp [procsFrom_len]; omega) HK4.out.b.size (K.lt HK4.out.r) ?_; intro v5 w5 hl5 hp5 hs5 hb5 ho5 hn5; have HK := Hid.mk (HK4.out.grown K hp5 hs5 hb5); have HL7 := Hid.mk hl5; have HL6 := Hid.mk (HL64.out.blk (w' := w5) (P' := P) (fun b e => ⟨ho5 b (HL64.out.own.lt b e).2 (fun h => HTW4.out b e h), HL64.out.far b e⟩)); have HTW : Hid (Two v4 v5) := (fun b h e => (hn5 b e).elim (fun h' => HTW4.out b h h') (fun h' => by have := (HL64.out.own.lt b h).2; omega)); clear hl5 hp5 hs5 hb5 ho5 hn5 HK4 HL64 HL74 HTW4)
          | fail)
        have HC := Hid.mk (HK.out.num K (turnAsk ks m) (by rw [HKC.out]; have := HKR.out; simp [Cl.rng, i64] at this ⊢; omega) (HT.out.ask m (by omega)))
        rw [HKC.out] at HC
        refine HC.out.mono ?_
        rintro e w2 ⟨P2, a2, cp2, rfl, hk2, hu2⟩
        have HK2 := Hid.mk hk2
        have HA0 := Hid.mk (HL6.out.upd hu2); have HB0 := Hid.mk (HL7.out.upd hu2)
        clear HL6 HL7
        clear hk2 hu2 HC HK
        go_wp2_with fail
        refine (isF _ _ _ _ _ _ _).mono ?_
        simp only [decide_true, Bool.and_self]
        rintro e w3 ⟨rfl, hb3⟩
        have HK := Hid.mk (HK2.out.below K hb3)
        have HL6 := Hid.mk (HA0.out.below hb3); have HL7 := Hid.mk (HB0.out.below hb3)
        clear HA0 HB0
        clear hb3 HK2
        go_wp2
        go_roundg (10 - (m + 1))
        case measure => omega
        case rel => exact ⟨m + 1, P2, by go_num, by omega, rfl, by rw [turnsA, range'_succ, ← List.append_assoc, HKC.out]; exact HK.out, by rw [HKN.out]; exact HL6.out, by rw [procsFrom_snoc (by omega)]; exact HL7.out, HTW.out⟩
    · obtain rfl : n = m + 1 := by omega
      have hml : ks.length = m := by omega
      obtain ⟨g6, c6, rfl, hc6, hi6, hm6⟩ := HL6.out.block (by simp [kindsL_len]; omega)
      obtain ⟨g7, c7, rfl, hc7, hi7, hm7⟩ := HL7.out.block (by simp [procsFrom_len]; omega)
      rw [kindsL_len] at hc6
      rw [procsFrom_len, Nat.add_sub_cancel] at hc7
      have e6 : (kindsL ks m).length = m := kindsL_len ks m
      have e7 : (procsFrom 1 (m + 1)).length = m := by rw [procsFrom_len, Nat.add_sub_cancel]
      rw [e6, e7]
      have HI6 := Hid.mk hi6; have HM6 := Hid.mk hm6; have HI7 := Hid.mk hi7; have HM7 := Hid.mk hm7
      clear hi6 hm6 hi7 hm7 HL6 HL7 HTW HR hlen
      have HWT := Hid.mk (waitingF K HK.out (procsFrom 1 (m + 1)) (some ⟨g7, 0, none⟩) c7 (by have := HT.out.wait; rw [hml] at this; exact this) (by rw [e7]; omega) HI7.out (fun b o e => (HM7.out ⟨b, o, none⟩ e).2))
      rw [e7] at HWT
      clear e6 e7
      go_wp2_with fail
      refine HWT.out.mono ?_
      rintro e w5 ⟨P5, rfl, hk5, hu5⟩
      have HK5 := Hid.mk (hk5.alloc K (.cells #[.int .i64 0] 3))
      have hab := (Below.refl w5.heap.size w5).alloc (Nat.le_refl _) (.cells #[.int .i64 0] 3)
      have HI65 := Hid.mk ((HI6.out.upd HM6.out hu5).below hab); have HM65 := Hid.mk ((HM6.out.upd hu5).below hab); have HI75 := Hid.mk ((HI7.out.upd HM7.out hu5).below hab); have HM75 := Hid.mk ((HM7.out.upd hu5).below hab)
      have HIH : Hid (IRow (w5.alloc (.cells #[.int .i64 0] 3)) (some ⟨w5.heap.size, 0, none⟩) (procsFrom 0 1)) := Hid.mk (IRow.lit1 w5 0 3)
      have HMH : Hid (Mine P5 (w5.alloc (.cells #[.int .i64 0] 3)) (some ⟨w5.heap.size, 0, none⟩)) := Hid.mk (fun x hx => by cases hx; exact ⟨by simp, fun hp => Nat.lt_irrefl _ (K.lt hk5.r _ hp)⟩)
      clear hk5 hu5 hab HK HI6 HM6 HI7 HM7 HWT
      go_wp2_with fail
      go_loopg [12, 13] 10 (fun g s12 s13 wr => ∃ (lo a : Nat) (P : Nat → Prop) (gh oh ch : Nat), s12 = .slice (some ⟨gh, oh, none⟩) (a + 1 - lo) ch ∧ s13 = .int .i64 a ∧ (lo, a) ∈ phases ks ∧ g = 10 - a ∧ Hid (KW rep w wr kb P (stC (turnsF ks lo))) ∧ Hid (IRow wr (some ⟨g6, 0, none⟩) (kindsL ks m)) ∧ Hid (Mine P wr (some ⟨g6, 0, none⟩)) ∧ Hid (IRow wr (some ⟨g7, 0, none⟩) (procsFrom 1 (m + 1))) ∧ Hid (Mine P wr (some ⟨g7, 0, none⟩)) ∧ Hid (IRow wr (some ⟨gh, oh, none⟩) (procsFrom lo (a + 1))) ∧ Hid (Mine P wr (some ⟨gh, oh, none⟩)))
      case atStart => exact ⟨0, 0, P5, _, _, _, rfl, rfl, phases_start ks, rfl, by rw [turnsF, hml]; simpa [range'] using HK5, HI65, HM65, HI75, HM75, HIH, HMH⟩
      case round =>
        clear HK5 HI65 HM65 HI75 HM75 HIH HMH
        obtain ⟨lo, a, P, gh, oh, ch, rfl, rfl, hph, rfl, HK, HI6, HM6, HI7, HM7, HIH, HMH⟩ := hrel
        obtain ⟨ha1, ha2, hph2⟩ := HT.out.ph lo a hph
        rw [hml] at ha1
        by_cases halt : a < m
        · have HPH := Hid.mk (hph2 (by omega))
          have hnx := nxt_spec (ks := ks) (a := a) (by omega) (by omega)
          obtain ⟨nx, hnxe⟩ : ∃ nx, nx = nxt ks a := ⟨_, rfl⟩
          rw [← hnxe] at hnx HPH
          have hn0 : a < nx := hnx.1
          have hn1 : nx ≤ m := by have := hnx.2.1; omega
          have HNX := Hid.mk hnx.2.2
          clear hnx hph2 hnxe
          go_wp2_with fail
          go_loopg [14] (10 - (a + 1)) (fun g s14 wq => ∃ (j : Nat), s14 = .int .i64 j ∧ a < j ∧ j ≤ nx ∧ g = 10 - j ∧ wq = wr)
          case atStart => exact ⟨a + 1, by go_num, by omega, by omega, rfl, rfl⟩
          case round =>
            obtain ⟨j, rfl, hj0, hj1, rfl, hwq⟩ := hrel
            subst hwq
            obtain ⟨b6, o6, e6, _, c6a⟩ := HI6.out a _ (kindsL_get halt)
            cases e6
            simp only [Nat.zero_add] at c6a
            by_cases hka : ks.getD a false = true
            · rw [hka] at c6a
              have hk1 : kindS true = 1 := rfl
              rw [hk1] at c6a
              by_cases hjm : j < m
              · obtain ⟨b6', o6', e6, _, c6j⟩ := HI6.out j _ (kindsL_get hjm)
                cases e6
                simp only [Nat.zero_add] at c6j
                by_cases hjn : j < nx
                · rw [(HNX.out.2 hka).1 j (by omega) hjn, hk1] at c6j
                  go_wp2
                  go_roundg (10 - (j + 1))
                  case measure => omega
                  case rel => exact ⟨j + 1, by go_num, by omega, by omega, rfl, rfl⟩
                · obtain rfl : nx = j := by omega
                  rw [(HNX.out.2 hka).2 (by omega)] at c6j
                  have hk2 : kindS false = 2 := rfl
                  rw [hk2] at c6j
                  go_wp2_with fail
                  clear hjm hjn
                  go_loopg [15] 10 (fun g s15 wq => ∃ (i : Nat) (Q : Nat → Prop), s15 = .int .i64 i ∧ i ≤ a + 1 - lo ∧ g = 10 - i ∧ Hid (KW rep w wq kb Q (stC (turnsF ks (lo + i)))) ∧ Hid (IRow wq (some ⟨g6, 0, none⟩) (kindsL ks m)) ∧ Hid (Mine Q wq (some ⟨g6, 0, none⟩)) ∧ Hid (IRow wq (some ⟨g7, 0, none⟩) (procsFrom 1 (m + 1))) ∧ Hid (Mine Q wq (some ⟨g7, 0, none⟩)) ∧ Hid (IRow wq (some ⟨gh, oh, none⟩) (procsFrom lo (a + 1))) ∧ Hid (Mine Q wq (some ⟨gh, oh, none⟩)))
                  case atStart => exact ⟨0, P, rfl, by omega, by omega, HK.out, HI6, HM6, HI7, HM7, HIH, HMH⟩
                  case round =>
                    clear c6a c6j hka HK HI6 HM6 HI7 HM7 HIH HMH
                    obtain ⟨i, Q, rfl, hi, rfl, HK, HI6, HM6, HI7, HM7, HIH, HMH⟩ := hrel
                    by_cases hil : i < a + 1 - lo
                    · obtain ⟨bh, oh', eh, _, ch0⟩ := HIH.out i _ (procsFrom_get hil)
                      cases eh
                      obtain ⟨p, hp⟩ : ∃ p, p = lo + i := ⟨_, rfl⟩
                      rw [← hp] at ch0 HK
                      have hpa' : p ≤ a := by omega
                      have hpl : lo ≤ p := by omega
                      have HPI := Hid.mk hp
                      clear hp
                      by_cases hpa : p < a
                      · have HC := Hid.mk (HK.out.call K (freeP ((p : Nat) : Int)) (by simp [freeP, Cl.rng, i64]; omega) (HPH.out.1 p hpl hpa))
                        have hne : ((i : Int) == ((a + 1 - lo : Nat) : Int) - 1) = false := by have := HPI.out; simp; omega
                        go_wp2_with fail
                        refine HC.out.mono ?_
                        rintro e w8 ⟨P8, a8, cp8, rfl, ht8, hk8, hu8⟩
                        have HK8 := Hid.mk hk8
                        have HI62 := Hid.mk (HI6.out.upd HM6.out hu8); have HM62 := Hid.mk (HM6.out.upd hu8); have HI72 := Hid.mk (HI7.out.upd HM7.out hu8); have HM72 := Hid.mk (HM7.out.upd hu8); have HIH2 := Hid.mk (HIH.out.upd HMH.out hu8); have HMH2 := Hid.mk (HMH.out.upd hu8)
                        clear hk8 ht8 hu8 HC HK HI6 HM6 HI7 HM7 HIH HMH
                        unfold rpV rnum
                        go_wp2_with fail
                        refine (freesF [] a8 none cp8 0 _ (by simp) (DRow.nil _ _) (IRow.nil _ _)).mono ?_
                        rintro e w9 ⟨rfl, hb9⟩
                        have HK9 := Hid.mk (HK8.out.below K hb9)
                        have HI6 := Hid.mk (HI62.out.below hb9); have HM6 := Hid.mk (HM62.out.below hb9); have HI7 := Hid.mk (HI72.out.below hb9); have HM7 := Hid.mk (HM72.out.below hb9); have HIH := Hid.mk (HIH2.out.below hb9); have HMH := Hid.mk (HMH2.out.below hb9)
                        clear hb9 HK8 HI62 HM62 HI72 HM72 HIH2 HMH2
                        go_wp2
                        go_roundg (10 - (i + 1))
                        case measure => omega
                        case rel => exact ⟨i + 1, P8, by go_num, by omega, rfl, by rw [← Nat.add_assoc, ← HPI.out, turnsF, range'_succ, ← List.append_assoc]; exact HK9.out, HI6, HM6, HI7, HM7, HIH, HMH⟩
                      · obtain rfl : a = p := by omega
                        have HC := Hid.mk (HK.out.call K (freeP ((a : Nat) : Int)) (by simp [freeP, Cl.rng, i64]; omega) HPH.out.2.1)
                        have hne : ((i : Int) == ((a + 1 - lo : Nat) : Int) - 1) = true := by have := HPI.out; simp; omega
                        go_wp2_with fail
                        refine HC.out.mono ?_
                        rintro e w8 ⟨P8, a8, cp8, rfl, ht8, hk8, hu8⟩
                        have HK8 := Hid.mk hk8
                        have hld : (procsFrom (a + 1) (nx + 1)).length = nx - a := by rw [procsFrom_len]; omega
                        have HD8 := Hid.mk (DRow.own ht8.own)
                        simp only [List.length_map, hld]
                        have HI62 := Hid.mk (HI6.out.upd HM6.out hu8); have HM62 := Hid.mk (HM6.out.upd hu8); have HI72 := Hid.mk (HI7.out.upd HM7.out hu8); have HM72 := Hid.mk (HM7.out.upd hu8); have HIH2 := Hid.mk (HIH.out.upd HMH.out hu8); have HMH2 := Hid.mk (HMH.out.upd hu8)
                        clear hk8 ht8 hu8 HC HK HI6 HM6 HI7 HM7 HIH HMH
                        unfold rpV
                        dsimp only
                        go_wp2_with fail
                        have HFR := Hid.mk (fun (v1 v2 : Nat) => freesF (procsFrom (a + 1) (nx + 1)) a8 (some ⟨g7, 0 + a, none⟩) v1 v2 w8 (by omega) HD8.out (HI72.out.part (fun i x hx => by
                          have hi : i < nx - a := by rw [← hld]; exact (List.getElem?_eq_some_iff.1 hx).1
                          rw [procsFrom_get (by omega)] at hx ⊢
                          rw [← hx]
                          congr 2
                          omega)))
                        rw [hld] at HFR
                        simp only [Nat.zero_add] at HFR
                        refine (HFR.out _ _).mono ?_
                        rintro e w9 ⟨rfl, hb9⟩
                        have HK9 := Hid.mk (HK8.out.below K hb9)
                        have HI6 := Hid.mk (HI62.out.below hb9); have HM6 := Hid.mk (HM62.out.below hb9); have HI7 := Hid.mk (HI72.out.below hb9); have HM7 := Hid.mk (HM72.out.below hb9); have HIH := Hid.mk (HIH2.out.below hb9); have HMH := Hid.mk (HMH2.out.below hb9)
                        clear hb9 HK8 HI62 HM62 HI72 HM72 HIH2 HMH2 HFR HD8
                        go_wp2
                        go_roundg (10 - (i + 1))
                        case measure => omega
                        case rel => exact ⟨i + 1, P8, by go_num, by omega, rfl, by rw [← Nat.add_assoc, ← HPI.out, turnsF, range'_succ, ← List.append_assoc]; exact HK9.out, HI6, HM6, HI7, HM7, HIH, HMH⟩
                    · obtain rfl : i = a + 1 - lo := by omega
                      have hlo : lo + (a + 1 - lo) = a + 1 := by omega
                      rw [hlo] at HK
                      clear hil hi HIH HMH
                      by_cases hcx : c7 = nx
                      · obtain rfl : nx = m := by omega
                        obtain rfl : nx = c7 := hcx.symm
                        go_wp2_with fail
                        refine (waitingF K HK.out [] _ _ (by have := HPH.out.2.2.1; rw [hml] at this; simpa [procsFrom] using this) (by simp) (IRow.nil _ _) (fun b o e => (HM7.out.move ⟨b, o, none⟩ e).2)).mono ?_
                        rintro e w8 ⟨P8, rfl, hk8, hu8⟩
                        have HK8 := Hid.mk hk8
                        have HI62 := Hid.mk (HI6.out.upd HM6.out hu8); have HM62 := Hid.mk (HM6.out.upd hu8); have HI72 := Hid.mk (HI7.out.upd HM7.out hu8); have HM72 := Hid.mk (HM7.out.upd hu8)
                        clear hk8 hu8 HK HI6 HM6 HI7 HM7
                        go_wp2
                        go_roundg (10 - nx)
                        case measure => omega
                        case rel =>
                          refine ⟨a + 1, nx, P8, g7, a, nx - a, ?_, rfl, HPH.out.2.2.2, rfl, HK8.out, HI62, HM62, HI72, HM72, ?_, HM72.out.move⟩
                          · rw [show nx + 1 - (a + 1) = nx - a by omega]
                          · have := HI72.out.part (k := a) (m := procsFrom (a + 1) (nx + 1)) (fun i x hx => by
                              have hi : i < nx + 1 - (a + 1) := by rw [← procsFrom_len]; exact (List.getElem?_eq_some_iff.1 hx).1
                              rw [procsFrom_get (by omega)] at hx ⊢
                              rw [← hx]
                              congr 2
                              omega)
                            rw [Nat.zero_add] at this
                            exact this
                      · have hcx' : ¬ nx = c7 := fun e => hcx e.symm
                        go_wp2_with fail
                        have hlw : (procsFrom (nx + 1) (m + 1)).length = m - nx := by rw [procsFrom_len]; omega
                        have HWT := Hid.mk (fun (v1 : Nat) => waitingF K HK.out (procsFrom (nx + 1) (m + 1)) (some ⟨g7, 0 + nx, none⟩) v1 (by have := HPH.out.2.2.1; rw [hml] at this; exact this) (by omega) (HI7.out.part (fun i x hx => by
                          have hi : i < m - nx := by rw [← hlw]; exact (List.getElem?_eq_some_iff.1 hx).1
                          rw [procsFrom_get (by omega)] at hx ⊢
                          rw [← hx]
                          congr 2
                          omega)) (fun b o e => (HM7.out.move (o' := 0 + nx) ⟨b, o, none⟩ e).2))
                        rw [hlw] at HWT
                        simp only [Nat.zero_add] at HWT
                        refine (HWT.out _).mono ?_
                        rintro e w8 ⟨P8, rfl, hk8, hu8⟩
                        have HK8 := Hid.mk hk8
                        have HI62 := Hid.mk (HI6.out.upd HM6.out hu8); have HM62 := Hid.mk (HM6.out.upd hu8); have HI72 := Hid.mk (HI7.out.upd HM7.out hu8); have HM72 := Hid.mk (HM7.out.upd hu8)
                        clear hk8 hu8 HWT HK HI6 HM6 HI7 HM7
                        go_wp2
                        go_roundg (10 - nx)
                        case measure => omega
                        case rel =>
                          refine ⟨a + 1, nx, P8, g7, a, c7 - a, ?_, rfl, HPH.out.2.2.2, rfl, HK8.out, HI62, HM62, HI72, HM72, ?_, HM72.out.move⟩
                          · rw [show nx + 1 - (a + 1) = nx - a by omega]
                          · have := HI72.out.part (k := a) (m := procsFrom (a + 1) (nx + 1)) (fun i x hx => by
                              have hi : i < nx + 1 - (a + 1) := by rw [← procsFrom_len]; exact (List.getElem?_eq_some_iff.1 hx).1
                              rw [procsFrom_get (by omega)] at hx ⊢
                              rw [← hx]
                              congr 2
                              omega)
                            rw [Nat.zero_add] at this
                            exact this
              · obtain rfl : nx = j := by omega
                go_wp2_with fail
                clear hjm
                go_loopg [15] 10 (fun g s15 wq => ∃ (i : Nat) (Q : Nat → Prop), s15 = .int .i64 i ∧ i ≤ a + 1 - lo ∧ g = 10 - i ∧ Hid (KW rep w wq kb Q (stC (turnsF ks (lo + i)))) ∧ Hid (IRow wq (some ⟨g6, 0, none⟩) (kindsL ks m)) ∧ Hid (Mine Q wq (some ⟨g6, 0, none⟩)) ∧ Hid (IRow wq (some ⟨g7, 0, none⟩) (procsFrom 1 (m + 1))) ∧ Hid (Mine Q wq (some ⟨g7, 0, none⟩)) ∧ Hid (IRow wq (some ⟨gh, oh, none⟩) (procsFrom lo (a + 1))) ∧ Hid (Mine Q wq (some ⟨gh, oh, none⟩)))
                case atStart => exact ⟨0, P, rfl, by omega, by omega, HK.out, HI6, HM6, HI7, HM7, HIH, HMH⟩
                case round =>
                  clear c6a hka HK HI6 HM6 HI7 HM7 HIH HMH
                  obtain ⟨i, Q, rfl, hi, rfl, HK, HI6, HM6, HI7, HM7, HIH, HMH⟩ := hrel
                  by_cases hil : i < a + 1 - lo
                  · obtain ⟨bh, oh', eh, _, ch0⟩ := HIH.out i _ (procsFrom_get hil)
                    cases eh
                    obtain ⟨p, hp⟩ : ∃ p, p = lo + i := ⟨_, rfl⟩
                    rw [← hp] at ch0 HK
                    have hpa' : p ≤ a := by omega
                    have hpl : lo ≤ p := by omega
                    have HPI := Hid.mk hp
                    clear hp
                    by_cases hpa : p < a
                    · have HC := Hid.mk (HK.out.call K (freeP ((p : Nat) : Int)) (by simp [freeP, Cl.rng, i64]; omega) (HPH.out.1 p hpl hpa))
                      have hne : ((i : Int) == ((a + 1 - lo : Nat) : Int) - 1) = false := by have := HPI.out; simp; omega
                      go_wp2_with fail
                      refine HC.out.mono ?_
                      rintro e w8 ⟨P8, a8, cp8, rfl, ht8, hk8, hu8⟩
                      have HK8 := Hid.mk hk8
                      have HI62 := Hid.mk (HI6.out.upd HM6.out hu8); have HM62 := Hid.mk (HM6.out.upd hu8); have HI72 := Hid.mk (HI7.out.upd HM7.out hu8); have HM72 := Hid.mk (HM7.out.upd hu8); have HIH2 := Hid.mk (HIH.out.upd HMH.out hu8); have HMH2 := Hid.mk (HMH.out.upd hu8)
                      clear hk8 ht8 hu8 HC HK HI6 HM6 HI7 HM7 HIH HMH
                      unfold rpV rnum
                      go_wp2_with fail
                      refine (freesF [] a8 none cp8 0 _ (by simp) (DRow.nil _ _) (IRow.nil _ _)).mono ?_
                      rintro e w9 ⟨rfl, hb9⟩
                      have HK9 := Hid.mk (HK8.out.below K hb9)
                      have HI6 := Hid.mk (HI62.out.below hb9); have HM6 := Hid.mk (HM62.out.below hb9); have HI7 := Hid.mk (HI72.out.below hb9); have HM7 := Hid.mk (HM72.out.below hb9); have HIH := Hid.mk (HIH2.out.below hb9); have HMH := Hid.mk (HMH2.out.below hb9)
                      clear hb9 HK8 HI62 HM62 HI72 HM72 HIH2 HMH2
                      go_wp2
                      go_roundg (10 - (i + 1))
                      case measure => omega
                      case rel => exact ⟨i + 1, P8, by go_num, by omega, rfl, by rw [← Nat.add_assoc, ← HPI.out, turnsF, range'_succ, ← List.append_assoc]; exact HK9.out, HI6, HM6, HI7, HM7, HIH, HMH⟩
                    · obtain rfl : a = p := by omega
                      have HC := Hid.mk (HK.out.call K (freeP ((a : Nat) : Int)) (by simp [freeP, Cl.rng, i64]; omega) HPH.out.2.1)
                      have hne : ((i : Int) == ((a + 1 - lo : Nat) : Int) - 1) = true := by have := HPI.out; simp; omega
                      go_wp2_with fail
                      refine HC.out.mono ?_
                      rintro e w8 ⟨P8, a8, cp8, rfl, ht8, hk8, hu8⟩
                      have HK8 := Hid.mk hk8
                      have hld : (procsFrom (a + 1) (nx + 1)).length = nx - a := by rw [procsFrom_len]; omega
                      have HD8 := Hid.mk (DRow.own ht8.own)
                      simp only [List.length_map, hld]
                      have HI62 := Hid.mk (HI6.out.upd HM6.out hu8); have HM62 := Hid.mk (HM6.out.upd hu8); have HI72 := Hid.mk (HI7.out.upd HM7.out hu8); have HM72 := Hid.mk (HM7.out.upd hu8); have HIH2 := Hid.mk (HIH.out.upd HMH.out hu8); have HMH2 := Hid.mk (HMH.out.upd hu8)
                      clear hk8 ht8 hu8 HC HK HI6 HM6 HI7 HM7 HIH HMH
                      unfold rpV
                      dsimp only
                      go_wp2_with fail
                      have HFR := Hid.mk (fun (v1 v2 : Nat) => freesF (procsFrom (a + 1) (nx + 1)) a8 (some ⟨g7, 0 + a, none⟩) v1 v2 w8 (by omega) HD8.out (HI72.out.part (fun i x hx => by
                        have hi : i < nx - a := by rw [← hld]; exact (List.getElem?_eq_some_iff.1 hx).1
                        rw [procsFrom_get (by omega)] at hx ⊢
                        rw [← hx]
                        congr 2
                        omega)))
                      rw [hld] at HFR
                      simp only [Nat.zero_add] at HFR
                      refine (HFR.out _ _).mono ?_
                      rintro e w9 ⟨rfl, hb9⟩
                      have HK9 := Hid.mk (HK8.out.below K hb9)
                      have HI6 := Hid.mk (HI62.out.below hb9); have HM6 := Hid.mk (HM62.out.below hb9); have HI7 := Hid.mk (HI72.out.below hb9); have HM7 := Hid.mk (HM72.out.below hb9); have HIH := Hid.mk (HIH2.out.below hb9); have HMH := Hid.mk (HMH2.out.below hb9)
                      clear hb9 HK8 HI62 HM62 HI72 HM72 HIH2 HMH2 HFR HD8
                      go_wp2
                      go_roundg (10 - (i + 1))
                      case measure => omega
                      case rel => exact ⟨i + 1, P8, by go_num, by omega, rfl, by rw [← Nat.add_assoc, ← HPI.out, turnsF, range'_succ, ← List.append_assoc]; exact HK9.out, HI6, HM6, HI7, HM7, HIH, HMH⟩
                  · obtain rfl : i = a + 1 - lo := by omega
                    have hlo : lo + (a + 1 - lo) = a + 1 := by omega
                    rw [hlo] at HK
                    clear hil hi HIH HMH
                    by_cases hcx : c7 = nx
                    · obtain rfl : nx = m := by omega
                      obtain rfl : nx = c7 := hcx.symm
                      go_wp2_with fail
                      refine (waitingF K HK.out [] _ _ (by have := HPH.out.2.2.1; rw [hml] at this; simpa [procsFrom] using this) (by simp) (IRow.nil _ _) (fun b o e => (HM7.out.move ⟨b, o, none⟩ e).2)).mono ?_
                      rintro e w8 ⟨P8, rfl, hk8, hu8⟩
                      have HK8 := Hid.mk hk8
                      have HI62 := Hid.mk (HI6.out.upd HM6.out hu8); have HM62 := Hid.mk (HM6.out.upd hu8); have HI72 := Hid.mk (HI7.out.upd HM7.out hu8); have HM72 := Hid.mk (HM7.out.upd hu8)
                      clear hk8 hu8 HK HI6 HM6 HI7 HM7
                      go_wp2
                      go_roundg (10 - nx)
                      case measure => omega
                      case rel =>
                        refine ⟨a + 1, nx, P8, g7, a, nx - a, ?_, rfl, HPH.out.2.2.2, rfl, HK8.out, HI62, HM62, HI72, HM72, ?_, HM72.out.move⟩
                        · rw [show nx + 1 - (a + 1) = nx - a by omega]
                        · have := HI72.out.part (k := a) (m := procsFrom (a + 1) (nx + 1)) (fun i x hx => by
                            have hi : i < nx + 1 - (a + 1) := by rw [← procsFrom_len]; exact (List.getElem?_eq_some_iff.1 hx).1
                            rw [procsFrom_get (by omega)] at hx ⊢
                            rw [← hx]
                            congr 2
                            omega)
                          rw [Nat.zero_add] at this
                          exact this
                    · have hcx' : ¬ nx = c7 := fun e => hcx e.symm
                      go_wp2_with fail
                      have hlw : (procsFrom (nx + 1) (m + 1)).length = m - nx := by rw [procsFrom_len]; omega
                      have HWT := Hid.mk (fun (v1 : Nat) => waitingF K HK.out (procsFrom (nx + 1) (m + 1)) (some ⟨g7, 0 + nx, none⟩) v1 (by have := HPH.out.2.2.1; rw [hml] at this; exact this) (by omega) (HI7.out.part (fun i x hx => by
                        have hi : i < m - nx := by rw [← hlw]; exact (List.getElem?_eq_some_iff.1 hx).1
                        rw [procsFrom_get (by omega)] at hx ⊢
                        rw [← hx]
                        congr 2
                        omega)) (fun b o e => (HM7.out.move (o' := 0 + nx) ⟨b, o, none⟩ e).2))
                      rw [hlw] at HWT
                      simp only [Nat.zero_add] at HWT
                      refine (HWT.out _).mono ?_
                      rintro e w8 ⟨P8, rfl, hk8, hu8⟩
                      have HK8 := Hid.mk hk8
                      have HI62 := Hid.mk (HI6.out.upd HM6.out hu8); have HM62 := Hid.mk (HM6.out.upd hu8); have HI72 := Hid.mk (HI7.out.upd HM7.out hu8); have HM72 := Hid.mk (HM7.out.upd hu8)
                      clear hk8 hu8 HWT HK HI6 HM6 HI7 HM7
                      go_wp2
                      go_roundg (10 - nx)
                      case measure => omega
                      case rel =>
                        refine ⟨a + 1, nx, P8, g7, a, c7 - a, ?_, rfl, HPH.out.2.2.2, rfl, HK8.out, HI62, HM62, HI72, HM72, ?_, HM72.out.move⟩
                        · rw [show nx + 1 - (a + 1) = nx - a by omega]
                        · have := HI72.out.part (k := a) (m := procsFrom (a + 1) (nx + 1)) (fun i x hx => by
                            have hi : i < nx + 1 - (a + 1) := by rw [← procsFrom_len]; exact (List.getElem?_eq_some_iff.1 hx).1
                            rw [procsFrom_get (by omega)] at hx ⊢
                            rw [← hx]
                            congr 2
                            omega)
                          rw [Nat.zero_add] at this
                          exact this
            · have hka' : ks.getD a false = false := by simpa using hka
              rw [hka'] at c6a
              have hk2 : kindS false = 2 := rfl
              rw [hk2] at c6a
              have := HNX.out.1 hka'
              obtain rfl : nx = j := by omega
              go_wp2_with fail
              clear this hka hka'
              go_loopg [15] 10 (fun g s15 wq => ∃ (i : Nat) (Q : Nat → Prop), s15 = .int .i64 i ∧ i ≤ a + 1 - lo ∧ g = 10 - i ∧ Hid (KW rep w wq kb Q (stC (turnsF ks (lo + i)))) ∧ Hid (IRow wq (some ⟨g6, 0, none⟩) (kindsL ks m)) ∧ Hid (Mine Q wq (some ⟨g6, 0, none⟩)) ∧ Hid (IRow wq (some ⟨g7, 0, none⟩) (procsFrom 1 (m + 1))) ∧ Hid (Mine Q wq (some ⟨g7, 0, none⟩)) ∧ Hid (IRow wq (some ⟨gh, oh, none⟩) (procsFrom lo (a + 1))) ∧ Hid (Mine Q wq (some ⟨gh, oh, none⟩)))
              case atStart => exact ⟨0, P, rfl, by omega, by omega, HK.out, HI6, HM6, HI7, HM7, HIH, HMH⟩
              case round =>
                clear c6a HK HI6 HM6 HI7 HM7 HIH HMH
                obtain ⟨i, Q, rfl, hi, rfl, HK, HI6, HM6, HI7, HM7, HIH, HMH⟩ := hrel
                by_cases hil : i < a + 1 - lo
                · obtain ⟨bh, oh', eh, _, ch0⟩ := HIH.out i _ (procsFrom_get hil)
                  cases eh
                  obtain ⟨p, hp⟩ : ∃ p, p = lo + i := ⟨_, rfl⟩
                  rw [← hp] at ch0 HK
                  have hpa' : p ≤ a := by omega
                  have hpl : lo ≤ p := by omega
                  have HPI := Hid.mk hp
                  clear hp
                  by_cases hpa : p < a
                  · have HC := Hid.mk (HK.out.call K (freeP ((p : Nat) : Int)) (by simp [freeP, Cl.rng, i64]; omega) (HPH.out.1 p hpl hpa))
                    have hne : ((i : Int) == ((a + 1 - lo : Nat) : Int) - 1) = false := by have := HPI.out; simp; omega
                    go_wp2_with fail
                    refine HC.out.mono ?_
                    rintro e w8 ⟨P8, a8, cp8, rfl, ht8, hk8, hu8⟩
                    have HK8 := Hid.mk hk8
                    have HI62 := Hid.mk (HI6.out.upd HM6.out hu8); have HM62 := Hid.mk (HM6.out.upd hu8); have HI72 := Hid.mk (HI7.out.upd HM7.out hu8); have HM72 := Hid.mk (HM7.out.upd hu8); have HIH2 := Hid.mk (HIH.out.upd HMH.out hu8); have HMH2 := Hid.mk (HMH.out.upd hu8)
                    clear hk8 ht8 hu8 HC HK HI6 HM6 HI7 HM7 HIH HMH
                    unfold rpV rnum
                    go_wp2_with fail
                    refine (freesF [] a8 none cp8 0 _ (by simp) (DRow.nil _ _) (IRow.nil _ _)).mono ?_
                    rintro e w9 ⟨rfl, hb9⟩
                    have HK9 := Hid.mk (HK8.out.below K hb9)
                    have HI6 := Hid.mk (HI62.out.below hb9); have HM6 := Hid.mk (HM62.out.below hb9); have HI7 := Hid.mk (HI72.out.below hb9); have HM7 := Hid.mk (HM72.out.below hb9); have HIH := Hid.mk (HIH2.out.below hb9); have HMH := Hid.mk (HMH2.out.below hb9)
                    clear hb9 HK8 HI62 HM62 HI72 HM72 HIH2 HMH2
                    go_wp2
                    go_roundg (10 - (i + 1))
                    case measure => omega
                    case rel => exact ⟨i + 1, P8, by go_num, by omega, rfl, by rw [← Nat.add_assoc, ← HPI.out, turnsF, range'_succ, ← List.append_assoc]; exact HK9.out, HI6, HM6, HI7, HM7, HIH, HMH⟩
                  · obtain rfl : a = p := by omega
                    have HC := Hid.mk (HK.out.call K (freeP ((a : Nat) : Int)) (by simp [freeP, Cl.rng, i64]; omega) HPH.out.2.1)
                    have hne : ((i : Int) == ((a + 1 - lo : Nat) : Int) - 1) = true := by have := HPI.out; simp; omega
                    go_wp2_with fail
                    refine HC.out.mono ?_
                    rintro e w8 ⟨P8, a8, cp8, rfl, ht8, hk8, hu8⟩
                    have HK8 := Hid.mk hk8
                    have hld : (procsFrom (a + 1) (nx + 1)).length = nx - a := by rw [procsFrom_len]; omega
                    have HD8 := Hid.mk (DRow.own ht8.own)
                    simp only [List.length_map, hld]
                    have HI62 := Hid.mk (HI6.out.upd HM6.out hu8); have HM62 := Hid.mk (HM6.out.upd hu8); have HI72 := Hid.mk (HI7.out.upd HM7.out hu8); have HM72 := Hid.mk (HM7.out.upd hu8); have HIH2 := Hid.mk (HIH.out.upd HMH.out hu8); have HMH2 := Hid.mk (HMH.out.upd hu8)
                    clear hk8 ht8 hu8 HC HK HI6 HM6 HI7 HM7 HIH HMH
                    unfold rpV
                    dsimp only
                    go_wp2_with fail
                    have HFR := Hid.mk (fun (v1 v2 : Nat) => freesF (procsFrom (a + 1) (nx + 1)) a8 (some ⟨g7, 0 + a, none⟩) v1 v2 w8 (by omega) HD8.out (HI72.out.part (fun i x hx => by
                      have hi : i < nx - a := by rw [← hld]; exact (List.getElem?_eq_some_iff.1 hx).1
                      rw [procsFrom_get (by omega)] at hx ⊢
                      rw [← hx]
                      congr 2
                      omega)))
                    rw [hld] at HFR
                    simp only [Nat.zero_add] at HFR
                    refine (HFR.out _ _).mono ?_
                    rintro e w9 ⟨rfl, hb9⟩
                    have HK9 := Hid.mk (HK8.out.below K hb9)
                    have HI6 := Hid.mk (HI62.out.below hb9); have HM6 := Hid.mk (HM62.out.below hb9); have HI7 := Hid.mk (HI72.out.below hb9); have HM7 := Hid.mk (HM72.out.below hb9); have HIH := Hid.mk (HIH2.out.below hb9); have HMH := Hid.mk (HMH2.out.below hb9)
                    clear hb9 HK8 HI62 HM62 HI72 HM72 HIH2 HMH2 HFR HD8
                    go_wp2
                    go_roundg (10 - (i + 1))
                    case measure => omega
                    case rel => exact ⟨i + 1, P8, by go_num, by omega, rfl, by rw [← Nat.add_assoc, ← HPI.out, turnsF, range'_succ, ← List.append_assoc]; exact HK9.out, HI6, HM6, HI7, HM7, HIH, HMH⟩
                · obtain rfl : i = a + 1 - lo := by omega
                  have hlo : lo + (a + 1 - lo) = a + 1 := by omega
                  rw [hlo] at HK
                  clear hil hi HIH HMH
                  by_cases hcx : c7 = nx
                  · obtain rfl : nx = m := by omega
                    obtain rfl : nx = c7 := hcx.symm
                    go_wp2_with fail
                    refine (waitingF K HK.out [] _ _ (by have := HPH.out.2.2.1; rw [hml] at this; simpa [procsFrom] using this) (by simp) (IRow.nil _ _) (fun b o e => (HM7.out.move ⟨b, o, none⟩ e).2)).mono ?_
                    rintro e w8 ⟨P8, rfl, hk8, hu8⟩
                    have HK8 := Hid.mk hk8
                    have HI62 := Hid.mk (HI6.out.upd HM6.out hu8); have HM62 := Hid.mk (HM6.out.upd hu8); have HI72 := Hid.mk (HI7.out.upd HM7.out hu8); have HM72 := Hid.mk (HM7.out.upd hu8)
                    clear hk8 hu8 HK HI6 HM6 HI7 HM7
                    go_wp2
                    go_roundg (10 - nx)
                    case measure => omega
                    case rel =>
                      refine ⟨a + 1, nx, P8, g7, a, nx - a, ?_, rfl, HPH.out.2.2.2, rfl, HK8.out, HI62, HM62, HI72, HM72, ?_, HM72.out.move⟩
                      · rw [show nx + 1 - (a + 1) = nx - a by omega]
                      · have := HI72.out.part (k := a) (m := procsFrom (a + 1) (nx + 1)) (fun i x hx => by
                          have hi : i < nx + 1 - (a + 1) := by rw [← procsFrom_len]; exact (List.getElem?_eq_some_iff.1 hx).1
                          rw [procsFrom_get (by omega)] at hx ⊢
                          rw [← hx]
                          congr 2
                          omega)
                        rw [Nat.zero_add] at this
                        exact this
                  · have hcx' : ¬ nx = c7 := fun e => hcx e.symm
                    go_wp2_with fail
                    have hlw : (procsFrom (nx + 1) (m + 1)).length = m - nx := by rw [procsFrom_len]; omega
                    have HWT := Hid.mk (fun (v1 : Nat) => waitingF K HK.out (procsFrom (nx + 1) (m + 1)) (some ⟨g7, 0 + nx, none⟩) v1 (by have := HPH.out.2.2.1; rw [hml] at this; exact this) (by omega) (HI7.out.part (fun i x hx => by
                      have hi : i < m - nx := by rw [← hlw]; exact (List.getElem?_eq_some_iff.1 hx).1
                      rw [procsFrom_get (by omega)] at hx ⊢
                      rw [← hx]
                      congr 2
                      omega)) (fun b o e => (HM7.out.move (o' := 0 + nx) ⟨b, o, none⟩ e).2))
                    rw [hlw] at HWT
                    simp only [Nat.zero_add] at HWT
                    refine (HWT.out _).mono ?_
                    rintro e w8 ⟨P8, rfl, hk8, hu8⟩
                    have HK8 := Hid.mk hk8
                    have HI62 := Hid.mk (HI6.out.upd HM6.out hu8); have HM62 := Hid.mk (HM6.out.upd hu8); have HI72 := Hid.mk (HI7.out.upd HM7.out hu8); have HM72 := Hid.mk (HM7.out.upd hu8)
                    clear hk8 hu8 HWT HK HI6 HM6 HI7 HM7
                    go_wp2
                    go_roundg (10 - nx)
                    case measure => omega
                    case rel =>
                      refine ⟨a + 1, nx, P8, g7, a, c7 - a, ?_, rfl, HPH.out.2.2.2, rfl, HK8.out, HI62, HM62, HI72, HM72, ?_, HM72.out.move⟩
                      · rw [show nx + 1 - (a + 1) = nx - a by omega]
                      · have := HI72.out.part (k := a) (m := procsFrom (a + 1) (nx + 1)) (fun i x hx => by
                          have hi : i < nx + 1 - (a + 1) := by rw [← procsFrom_len]; exact (List.getElem?_eq_some_iff.1 hx).1
                          rw [procsFrom_get (by omega)] at hx ⊢
                          rw [← hx]
                          congr 2
                          omega)
                        rw [Nat.zero_add] at this
                        exact this
        · obtain rfl : a = m := by omega
          go_wp2
          go_ret
          exact ⟨rfl, HK.out.b⟩
end
end Go.Proofs.YtaicdjhblbobbaaGreat
