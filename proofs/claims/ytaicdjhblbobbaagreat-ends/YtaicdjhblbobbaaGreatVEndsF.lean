/- Over any program that answers as the model: the statement Ends. -/
import Derived.Test.YtaicdjhblbobbaaGreatGPlay
import Derived.Test.YtaicdjhblbobbaaGreatVEndsPure
namespace Go.Proofs.YtaicdjhblbobbaaGreat
open Go.RowKit

section
variable {rep : World → Nat → (Nat → Prop) → DS → Prop} (K : Face rep)
include K
set_option maxHeartbeats 64000000 in
set_option maxRecDepth 100000 in
theorem EndsF (raw : List Int) (ra : Option Addr) (cap : Nat) (w : World) (hraw : IRow w ra raw) (hi64 : ∀ x, x ∈ raw → i64 x) (hlen : raw.length ≤ cap) (_hcap : cap ≤ 9223372036854775807) :
    Calls Tryz.prog 13 #[.slice ra raw.length cap] w fun e w' => e = .returned (.bool true) ∧ Below w.heap.size w w' := by
  have HR := Hid.mk hraw
  have HI := Hid.mk hi64
  have HSM := Hid.mk (someF K 3 (by omega) (by omega))
  clear hraw hi64
  go_enter Tryz.func13, Tryz.ntmps13
  go_wp2_with fail
  refine (HSM.out w).mono ?_
  rintro e w1 ⟨kb, P, rfl, hk1⟩
  have HK := Hid.mk hk1
  clear hk1 HSM
  have HC := Hid.mk (HK.out.num K (.lock 0 0 2 3 4 false) (by simp [Cl.rng, i64]) ends_a.1)
  go_wp2_with fail
  refine HC.out.mono ?_
  rintro e w2 ⟨P2, a2, cp2, rfl, hk2, hu2⟩
  have HK2 := Hid.mk hk2
  clear hk2 hu2 HC HK
  go_wp2_with fail
  refine (okF _ _ _ _ _ _ _).mono ?_
  simp only [decide_true, Bool.and_self]
  rintro e w3 ⟨rfl, hb3⟩
  have HK := Hid.mk (HK2.out.below K hb3)
  clear hb3 HK2
  have HC := Hid.mk (HK.out.num K (.lock 1 0 2 3 1 true) (by simp [Cl.rng, i64]) ends_a.2.1)
  go_wp2_with fail
  refine HC.out.mono ?_
  rintro e w2 ⟨P2, a2, cp2, rfl, hk2, hu2⟩
  have HK2 := Hid.mk hk2
  clear hk2 hu2 HC HK
  go_wp2_with fail
  refine (isF _ _ _ _ _ _ _).mono ?_
  simp only [decide_true, Bool.and_self]
  rintro e w3 ⟨rfl, hb3⟩
  have HK := Hid.mk (HK2.out.below K hb3)
  clear hb3 HK2
  go_wp2_with fail
  go_loopg [5] 400 (fun g s5 wr => ∃ (i : Nat) (P : Nat → Prop) (s : DS), s5 = .int .i64 i ∧ i ≤ 310 ∧ g = 400 - i ∧ Hid (KW rep w wr kb P s))
  case atStart => exact ⟨0, P2, _, rfl, by omega, by omega, HK.out⟩
  case round =>
    clear HK
    obtain ⟨i, P, s, rfl, hi, rfl, HK⟩ := hrel
    go_upto_region 5 with fail
    go_cut [44] from 36 to 53 (fun s44 wx => s44 = .bool (decide (i + 4 < raw.length ∧ i < 300)) ∧ wx = wr)
    case first =>
      by_cases h1 : i + 4 < raw.length
      · by_cases h2 : i < 300
        · go_wp2
          go_meet
          case rel => exact ⟨by simp [h1, h2]; omega, rfl⟩
        · go_wp2
          go_meet
          case rel => exact ⟨by simp [h1, h2]; omega, rfl⟩
      · go_wp2
        go_meet
        case rel => exact ⟨by simp [h1], rfl⟩
    case rest =>
    obtain ⟨rfl, hw⟩ := hcut
    subst wc
    by_cases hlt : i + 4 < raw.length ∧ i < 300
    · rw [show decide (i + 4 < raw.length ∧ i < 300) = true from decide_eq_true hlt]
      obtain ⟨hl1, hl2⟩ := hlt
      obtain ⟨rb, ro, rfl, hrb, _⟩ := HR.out i raw[i] (by simp)
      have hrow : IRow wr (some ⟨rb, ro + i, none⟩) [raw[i], raw[i + 1], raw[i + 2], raw[i + 3], raw[i + 4]] := (HR.out.below HK.out.b).part (fun j x hx => by
        match j, hx with
        | 0, hx => simp at hx; subst hx; simp
        | 1, hx => simp at hx; subst hx; simp
        | 2, hx => simp at hx; subst hx; simp
        | 3, hx => simp at hx; subst hx; simp
        | 4, hx => simp at hx; subst hx; simp)
      have HPL := Hid.mk (fun (c : Nat) => playF K HK.out raw[i] raw[i + 1] raw[i + 2] raw[i + 3] raw[i + 4] rb (ro + i) c (HI.out _ (by simp)) (HI.out _ (by simp)) (HI.out _ (by simp)) (HI.out _ (by simp)) (HI.out _ (by simp)) hrow)
      have hne : ¬ cap = i := by omega
      clear hrow
      go_wp2_with fail
      refine (HPL.out _).mono ?_
      rintro e w2 ⟨P2, s2, rfl, hk2, _⟩
      have HK2 := Hid.mk hk2
      clear hk2 HPL HK
      go_wp2
      go_roundg (400 - (i + 5))
      case measure => omega
      case rel => exact ⟨i + 5, P2, s2, by go_num, by omega, rfl, HK2.out⟩
    · rw [show decide (i + 4 < raw.length ∧ i < 300) = false from decide_eq_false hlt]
      clear hlt HR HI hlen _hcap
      go_wp2_with fail
      go_loopg [6] 10 (fun g s6 wr => ∃ (n : Nat) (P : Nat → Prop) (s : DS), s6 = .int .i64 n ∧ n ≤ 6 ∧ g = 10 - n ∧ Hid (KW rep w wr kb P s) ∧ Hid (s.cnt + n ≤ 6))
      case atStart => exact ⟨0, P, s, rfl, by omega, by omega, HK.out, s.cnt_le⟩
      case round =>
        clear HK
        obtain ⟨n, P, s, rfl, hn, rfl, HK, HCN⟩ := hrel
        by_cases hnl : n < 6
        · have HS0 := Hid.mk (K.inv HK.out.r)
          go_wp2_with fail
          rw [show decide ((n : Int) < 6) = true from decide_eq_true (by omega)]
          go_loopg [7] 10 (fun g s7 wr => ∃ (p : Nat) (Q : Nat → Prop) (t : DS), s7 = .int .i64 p ∧ p ≤ 6 ∧ g = 10 - p ∧ Hid (KW rep w wr kb Q t) ∧ Hid (Round s p t))
          case atStart => exact ⟨0, P, s, rfl, by omega, by omega, HK.out, Round.start HS0.out⟩
          case round =>
            clear HK
            obtain ⟨p, Q, t, rfl, hp, rfl, HK, HRD⟩ := hrel
            by_cases hpl : p < 6
            · have HST := Hid.mk (stateF K HK.out (p : Int) (by unfold i64; omega))
              by_cases hm : t.may p = 0
              · have hse : t.stateE p = 5 := by unfold DS.stateE; rw [if_neg (by omega)]
                rw [hse] at HST
                have HKD := Hid.mk (killed (K.inv HK.out.r) (DS.may_ok hm).1 (DS.may_ok hm).2)
                have HW6 := Hid.mk (wait_le (K.inv HK.out.r))
                clear hm hse
                go_wp2_with fail
                refine HST.out.mono ?_
                rintro e w2 ⟨P2, rfl, hk2, _⟩
                have HC := Hid.mk (hk2.waitingT K rfl)
                clear hk2 HST HK
                go_wp2_with fail
                refine HC.out.mono ?_
                rintro e w3 ⟨P3, a3, c3, rfl, hi3, hm3, _, hk3, _⟩
                have HC := Hid.mk (hk3.any K (.kill p) (by simp [Cl.rng, i64]; omega))
                have HI3 := Hid.mk hi3; have HM3 := Hid.mk hm3
                clear hk3 hi3 hm3
                go_wp2_with fail
                refine HC.out.mono ?_
                rintro e w4 ⟨P4, a4, c4, rfl, ht4, hk4, hu4⟩
                obtain ⟨u, r, hur⟩ : ∃ u r, t.step (.kill p) = (u, r) := ⟨_, _, rfl⟩
                rw [hur] at HKD ht4 hk4
                simp only at HKD ht4 hk4
                obtain ⟨re, rn, rd⟩ := r
                obtain rfl : re = 0 := HKD.out.e
                obtain rfl : rn = 0 := HKD.out.n
                have HI4 := Hid.mk (HI3.out.upd HM3.out hu4); have HM4 := Hid.mk (HM3.out.upd hu4)
                have HD4 := Hid.mk (DRow.own ht4.own); have HE4 := Hid.mk ht4.mine
                have HK4 := Hid.mk hk4
                rw [hur]
                clear ht4 hk4 hu4 HC HI3 HM3 hur
                unfold rpV
                go_wp2_with fail
                have hwl : t.waiting.length = u.waiting.length + rd.length := HKD.out.len
                have hw6 : t.waiting.length ≤ 6 := HW6.out
                have HC := Hid.mk ((HK4.out.alloc K (.cells #[.int .i64 0, .int .i64 0, .slice a4 rd.length c4] 34)).waitingT K rfl)
                refine HC.out.mono ?_
                rintro e w5 ⟨P5, a5, c5, rfl, hi5, hm5, _, hk5, hu5⟩
                have hab := (Below.refl w4.heap.size w4).alloc (Nat.le_refl _) (.cells #[.int .i64 0, .int .i64 0, .slice a4 rd.length c4] 34)
                have hnb : ¬ P4 w4.heap.size := fun hp => Nat.lt_irrefl _ (K.lt HK4.out.r _ hp)
                have hblk : w5.heap[w4.heap.size]? = some (.cells #[.int .i64 0, .int .i64 0, .slice a4 rd.length c4] 34 (0, 0)) := by
                  rw [hu5.block w4.heap.size (by simp) hnb]
                  exact heap_alloc_new w4 _
                have q0 : w5.cell? ⟨w4.heap.size, 0, none⟩ = some (.int .i64 0) := by simp [World.cell?, hblk]
                have q1 : w5.cell? ⟨w4.heap.size, 1, none⟩ = some (.int .i64 0) := by simp [World.cell?, hblk]
                have q2 : w5.cell? ⟨w4.heap.size, 2, none⟩ = some (.slice a4 rd.length c4) := by simp [World.cell?, hblk]
                have HI5 := Hid.mk ((HI4.out.below hab).upd (HM4.out.below hab) hu5)
                have HD5 := Hid.mk ((HD4.out.below hab).upd (HE4.out.below hab) hu5)
                have HK5 := Hid.mk hk5
                clear hi5 hm5 hk5 hu5 hab hnb hblk HC HK4 HI4 HM4 HD4 HE4
                generalize w4.heap.size = bb at *
                have hneq : ((t.waiting.length : Int) != (u.waiting.length : Int) + (rd.length : Int)) = false := by simp; omega
                go_wp2_with fail
                have hr6 : rd.length ≤ 6 := by omega
                go_loopg [12] 10 (fun g s12 wq => ∃ (k : Nat), s12 = .int .i64 k ∧ k ≤ rd.length ∧ g = 10 - k ∧ Hid (∃ N, wq = w5.drewN N))
                case atStart => exact ⟨0, rfl, by omega, by omega, ⟨0, rfl⟩⟩
                case round =>
                  obtain ⟨k, rfl, hk, rfl, HWQ⟩ := hrel
                  have z2 : wr.cell? ⟨bb, 2, none⟩ = some (.slice a4 rd.length c4) := by obtain ⟨N, hN⟩ := HWQ.out; rw [hN]; exact q2
                  by_cases hkl : k < rd.length
                  · obtain ⟨bd, rfl, _, d1, _⟩ := HD5.out k rd[k] (by simp [hkl])
                    have HIN := Hid.mk (HKD.out.was k rd[k] (by simp [hkl]))
                    generalize hdp : rd[k].p = dp at *
                    clear hdp
                    go_wp2_with fail
                    try rw [show decide ((k : Int) < (rd.length : Int)) = true from decide_eq_true (by omega)]
                    go_loopg [13, 14] 10 (fun g s13 s14 wq => ∃ (j : Nat), s13 = .bool (decide (dp ∈ t.waiting.take j)) ∧ s14 = .int .i64 j ∧ j ≤ t.waiting.length ∧ g = 10 - j ∧ Hid (∃ N, wq = w5.drewN N))
                    case atStart => exact ⟨0, by simp, rfl, by omega, by omega, HWQ.out⟩
                    case round =>
                      clear HWQ z2
                      obtain ⟨j, rfl, rfl, hj, rfl, HWQ⟩ := hrel
                      by_cases hjl : j < t.waiting.length
                      · obtain ⟨bw, ow, rfl, _, x1⟩ := HI5.out j t.waiting[j] (by simp [hjl])
                        have HTK := Hid.mk (show t.waiting.take (j + 1) = t.waiting.take j ++ [t.waiting[j]] by rw [List.take_add_one]; simp [hjl])
                        generalize hx : t.waiting[j] = x at *
                        have y1 : wr.cell? ⟨bw, ow + j, none⟩ = some (.int .i64 x) := by obtain ⟨N, hN⟩ := HWQ.out; rw [hN]; exact x1
                        have y2 : wr.cell? ⟨bd, k * 2, none⟩ = some (.int .i64 dp) := by obtain ⟨N, hN⟩ := HWQ.out; rw [hN]; exact d1
                        have y3 : wr.cell? ⟨bb, 2, none⟩ = some (.slice (some ⟨bd, 0, none⟩) rd.length c4) := by obtain ⟨N, hN⟩ := HWQ.out; rw [hN]; exact q2
                        clear x1 hx
                        by_cases hth : dp ∈ t.waiting.take j
                        · rw [show decide (dp ∈ t.waiting.take j) = true from decide_eq_true hth]
                          go_upto_region 28 with fail
                          go_quiet (fail)
                          go_wp2
                          go_roundg (10 - (j + 1))
                          case measure => omega
                          case rel => exact ⟨j + 1, by rw [HTK.out, decide_eq_true (List.mem_append_left _ hth)], by go_num, by omega, rfl, by obtain ⟨N, hN⟩ := HWQ.out; exact ⟨N + _, by rw [hN]; simp [World.drewN, Nat.add_assoc]; rfl⟩⟩
                        · rw [show decide (dp ∈ t.waiting.take j) = false from decide_eq_false hth]
                          cases hxe : (x == dp)
                          · go_upto_region 28 with fail
                            go_quiet (fail)
                            go_wp2
                            go_roundg (10 - (j + 1))
                            case measure => omega
                            case rel =>
                              refine ⟨j + 1, ?_, by go_num, by omega, rfl, by obtain ⟨N, hN⟩ := HWQ.out; exact ⟨N + _, by rw [hN]; simp [World.drewN, Nat.add_assoc]; rfl⟩⟩
                              have hxn : ¬ dp = x := fun e => by rw [e] at hxe; simp at hxe
                              rw [HTK.out, decide_eq_false (by rw [List.mem_append]; simp [hth, hxn])]
                          · go_upto_region 28 with fail
                            go_quiet (fail)
                            go_wp2
                            go_roundg (10 - (j + 1))
                            case measure => omega
                            case rel =>
                              refine ⟨j + 1, ?_, by go_num, by omega, rfl, by obtain ⟨N, hN⟩ := HWQ.out; exact ⟨N + _, by rw [hN]; simp [World.drewN, Nat.add_assoc]; rfl⟩⟩
                              have hxn : x = dp := by simpa using hxe
                              rw [HTK.out, decide_eq_true (by rw [List.mem_append]; simp [hxn])]
                      · obtain rfl : j = t.waiting.length := by omega
                        rw [show decide (dp ∈ t.waiting.take t.waiting.length) = true from decide_eq_true (by rw [List.take_length]; exact HIN.out)]
                        go_wp2
                        go_roundg (10 - (k + 1))
                        case measure => omega
                        case rel => exact ⟨k + 1, by go_num, by omega, rfl, HWQ.out⟩
                  · obtain rfl : k = rd.length := by omega
                    have HKW : Hid (KW rep w wr kb P5 u) := by obtain ⟨N, hN⟩ := HWQ.out; rw [hN]; exact HK5.out.drew K N
                    have HRD2 := Hid.mk (HRD.out.kill HKD.out)
                    go_wp2
                    go_roundg (10 - (p + 1))
                    case measure => omega
                    case rel => exact ⟨p + 1, P5, u, by go_num, by omega, rfl, HKW.out, by simpa using HRD2⟩
              · have hse : (t.stateE p != 5) = true := by
                  have : t.stateE p = t.may p := by unfold DS.stateE; rw [if_pos hm]
                  rw [this]
                  unfold DS.may
                  split
                  · rfl
                  · split
                    · rfl
                    · rename_i h1 h2; exact absurd (by unfold DS.may; rw [if_neg h1, if_neg h2]) hm
                have hsk : liveB t.L p = false ∨ t.waits p = true := by
                  unfold DS.may at hm
                  cases hl : liveB t.L p with
                  | false => exact Or.inl rfl
                  | true =>
                    rw [if_neg (by simp [hl])] at hm
                    cases hw : t.waits p with
                    | true => exact Or.inr rfl
                    | false => rw [hw] at hm; exact absurd rfl hm
                have HSK := Hid.mk hsk
                generalize t.stateE p = se at *
                clear hm hsk
                go_wp2_with fail
                refine HST.out.mono ?_
                rintro e w2 ⟨P2, rfl, hk2, _⟩
                have HK2 := Hid.mk hk2
                clear hk2 HST HK
                go_wp2
                go_roundg (10 - (p + 1))
                case measure => omega
                case rel => exact ⟨p + 1, P2, t, by go_num, by omega, rfl, HK2.out, by have := HRD.out.skip HSK.out; simpa using Hid.mk this⟩
            · obtain rfl : p = 6 := by omega
              have HC6 := Hid.mk (show t.cnt + (n + 1) ≤ 6 by have h0 := HCN.out; rcases HRD.out.cnt HS0.out with h | h <;> omega)
              go_wp2
              go_roundg (10 - (n + 1))
              case measure => omega
              case rel => exact ⟨n + 1, Q, t, by go_num, by omega, rfl, HK.out, HC6.out⟩
        · obtain rfl : n = 6 := by omega
          have hz := cnt_zero (K.inv HK.out.r) (by have := HCN.out; omega)
          have HZ := Hid.mk hz
          clear hz HCN hnl hn
          go_wp2_with fail
          go_loopg [15] 10 (fun g s15 wr => ∃ (p : Nat) (Q : Nat → Prop), s15 = .int .i64 p ∧ p ≤ 6 ∧ g = 10 - p ∧ Hid (KW rep w wr kb Q s))
          case atStart => exact ⟨0, P, rfl, by omega, by omega, HK.out⟩
          case round =>
            clear HK
            obtain ⟨p, Q, rfl, hp, rfl, HK⟩ := hrel
            by_cases hpl : p < 6
            · have HST := Hid.mk (stateF K HK.out (p : Int) (by unfold i64; omega))
              have hse : s.stateE p = 1 := by unfold DS.stateE DS.may; rw [if_pos (HZ.out.1 p)]; rfl
              rw [hse] at HST
              go_wp2_with fail
              refine HST.out.mono ?_
              rintro e w2 ⟨P2, rfl, hk2, _⟩
              have HK2 := Hid.mk hk2
              clear hk2 HST HK
              go_wp2
              go_roundg (10 - (p + 1))
              case measure => omega
              case rel => exact ⟨p + 1, P2, by go_num, by omega, rfl, HK2.out⟩
            · obtain rfl : p = 6 := by omega
              have HC := Hid.mk (HK.out.runs K 0 (by simp [i64]) (show s.runs 0 = [] by simp [DS.runs, fileB, HZ.out.2.2]))
              go_wp2_with fail
              refine HC.out.mono ?_
              rintro e w5 ⟨P5, a5, cp5, rfl, _, _, hk5, _⟩
              have HC := Hid.mk (waitingF K hk5 [] none 0 HZ.out.2.1 (by simp) (IRow.nil _ _) (fun _ _ h => by cases h))
              clear hk5 HK
              go_wp2_with fail
              refine HC.out.mono ?_
              rintro e w8 ⟨P8, rfl, hk8, _⟩
              go_wp2
              go_ret
              exact ⟨rfl, hk8.b⟩
end
end Go.Proofs.YtaicdjhblbobbaaGreat
