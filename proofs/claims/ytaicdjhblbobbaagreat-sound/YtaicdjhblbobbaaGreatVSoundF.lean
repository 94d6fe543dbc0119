/- Over any program that answers as the model: the function sound. -/
import Derived.Test.YtaicdjhblbobbaaGreatGPlay
import Derived.Test.YtaicdjhblbobbaaGreatVSoundPure
namespace Go.Proofs.YtaicdjhblbobbaaGreat
open Go.RowKit

theorem cellBelow {w w' : World} {B b o : Nat} (h : Below B w w') (hb : b < B) : w'.cell? ⟨b, o, none⟩ = w.cell? ⟨b, o, none⟩ := h.cell (p := ⟨b, o, none⟩) hb
section
variable {rep : World → Nat → (Nat → Prop) → DS → Prop} (K : Face rep) {w0 w : World} {kb : Nat} {P : Nat → Prop} {s : DS}
include K
set_option maxHeartbeats 64000000 in
set_option maxRecDepth 100000 in
theorem soundF (h : KW rep w0 w kb P s) :
    Calls Tryz.prog 34 #[kptr kb] w fun e w' => ∃ P', e = .returned (.bool true) ∧ KW rep w0 w' kb P' s := by
  have HV := Hid.mk (K.inv h.r)
  have HK := Hid.mk h
  clear h
  go_enter Tryz.func34, Tryz.ntmps34
  go_wp2_with fail
  go_loopg [3] 10 (fun g s3 wr => ∃ (f : Nat) (P : Nat → Prop), s3 = .int .i64 f ∧ f ≤ 3 ∧ g = 10 - f ∧ Hid (KW rep w0 wr kb P s))
  case atStart => exact ⟨0, P, rfl, by omega, by omega, HK.out⟩
  case round =>
    clear HK
    obtain ⟨f, P, rfl, hf, rfl, HK⟩ := hrel
    by_cases hfl : f < 3
    · have HC := Hid.mk (HK.out.runs K (f : Int) (by unfold i64; omega) rfl)
      have HSR := Hid.mk (sound_runs HV.out (f : Int))
      have hl12 := HSR.out.1
      go_wp2_with fail
      refine HC.out.mono ?_
      rintro e w4 ⟨P4, a4, c4, rfl, hr4, hm4, hk4, _⟩
      have HR4 := Hid.mk hr4; have HK4 := Hid.mk hk4
      generalize s.runs (f : Int) = l at *
      clear hr4 hm4 hk4 HC HK
      go_wp2_with fail
      try rw [show decide ((f : Int) < 3) = true from decide_eq_true (by omega)]
      try rw [show decide ((12 : Int) < (l.length : Int)) = false from decide_eq_false (by omega)]
      go_loopg [5] 20 (fun g s5 wq => ∃ (i : Nat), s5 = .int .i64 i ∧ i ≤ l.length ∧ g = 20 - i ∧ Hid (Below w4.heap.size w4 wq))
      case atStart => exact ⟨0, rfl, by omega, by omega, Below.refl _ _⟩
      case round =>
        obtain ⟨i, rfl, hi, rfl, HB⟩ := hrel
        by_cases hil : i < l.length
        · obtain ⟨b4, rfl, hb4, x0, x1, x2, x3⟩ := HR4.out i l[i] (by simp [hil])
          obtain ⟨y1, y2, y3, y4, _, _⟩ := HSR.out.2.1 i l[i] (by simp [hil])
          have HPA := Hid.mk (fun (j : Nat) (b : Rn) (hb : l[j]? = some b) (hj : j < i) => HSR.out.2.2 i j l[i] b (by simp [hil]) hb hj)
          generalize l[i] = A at *
          obtain ⟨Ap, Ak, Af, At⟩ := A
          simp only at x0 x1 x2 x3 y1 y2 y3 y4
          have c0 : wr.cell? ⟨b4, i * 4, none⟩ = some (.int .i64 Ap) := (cellBelow HB.out hb4).trans x0
          have c1 : wr.cell? ⟨b4, i * 4 + 1, none⟩ = some (.int .i64 Ak) := (cellBelow HB.out hb4).trans x1
          have c2 : wr.cell? ⟨b4, i * 4 + 2, none⟩ = some (.int .i64 Af) := (cellBelow HB.out hb4).trans x2
          have c3 : wr.cell? ⟨b4, i * 4 + 3, none⟩ = some (.int .i64 At) := (cellBelow HB.out hb4).trans x3
          clear x0 x1 x2 x3
          have hz := HB.out.size
          have k1 : (Af < 0) = False := by simp; omega
          have k2 : (At < Af) = False := by simp; omega
          have k3 : (63 < At) = False := by simp; omega
          go_upto_region 11 with fail
          go_cut [63] from 29 to 145 (fun s63 wx => s63 = .bool false ∧ wx = wr.alloc (.cells #[.int .i64 Ap, .int .i64 Ak, .int .i64 Af, .int .i64 At] 41))
          case first =>
            rcases y4 with rfl | rfl
            · go_wp2
              go_meet
              case rel => exact ⟨rfl, rfl⟩
            · go_wp2
              go_meet
              case rel => exact ⟨rfl, rfl⟩
          case rest =>
          obtain ⟨rfl, hw⟩ := hcut
          subst wc
          clear k1 k2 k3 c0 c1 c2 c3
          go_wp2_with fail
          have hbx := heap_alloc_new wr (.cells #[.int .i64 Ap, .int .i64 Ak, .int .i64 Af, .int .i64 At] 41)
          have HB1 := Hid.mk (HB.out.alloc HB.out.size (.cells #[.int .i64 Ap, .int .i64 Ak, .int .i64 Af, .int .i64 At] 41))
          generalize hWA : wr.alloc (.cells #[.int .i64 Ap, .int .i64 Ak, .int .i64 Af, .int .i64 At] 41) = WA at *
          generalize hbbe : wr.heap.size = bb at *
          have hbb4 : w4.heap.size ≤ bb := by omega
          have HBX : Hid (WA.heap[bb]? = some (.cells #[.int .i64 Ap, .int .i64 Ak, .int .i64 Af, .int .i64 At] 41 (0, 0))) := hbx
          clear hbx hWA HB
          go_loopg [7] 20 (fun g s7 wz => ∃ (j : Nat), s7 = .int .i64 j ∧ j ≤ i ∧ g = 20 - j ∧ Hid (Below w4.heap.size w4 wz) ∧ Hid (wz.heap[bb]? = some (.cells #[.int .i64 Ap, .int .i64 Ak, .int .i64 Af, .int .i64 At] 41 (0, 0))))
          case atStart => exact ⟨0, rfl, by omega, by omega, HB1.out, HBX.out⟩
          case round =>
            clear HB1 HBX hbbe hz
            obtain ⟨j, rfl, hj, rfl, HB, HBX⟩ := hrel
            by_cases hjl : j < i
            · as_aux_lemma =>
                obtain ⟨b4', e4, _, x0, x1, x2, x3⟩ := HR4.out j l[j] (by simp)
                cases e4
                have hpk := HPA.out j l[j] (by simp) hjl
                obtain ⟨z1, z2, z3, _⟩ := HSR.out.2.1 j l[j] (by simp)
                generalize l[j] = B at *
                obtain ⟨Bp, Bk, Bf, Bt⟩ := B
                simp only at x0 x1 x2 x3 z1 z2 z3
                have hB0 : 0 ≤ Bt := by omega
                obtain ⟨p1, p2, p3, p4⟩ := hpk
                simp only at p1 p2 p3 p4
                have c0 : wr.cell? ⟨b4, j * 4, none⟩ = some (.int .i64 Bp) := (cellBelow HB.out hb4).trans x0
                have c1 : wr.cell? ⟨b4, j * 4 + 1, none⟩ = some (.int .i64 Bk) := (cellBelow HB.out hb4).trans x1
                have c2 : wr.cell? ⟨b4, j * 4 + 2, none⟩ = some (.int .i64 Bf) := (cellBelow HB.out hb4).trans x2
                have c3 : wr.cell? ⟨b4, j * 4 + 3, none⟩ = some (.int .i64 Bt) := (cellBelow HB.out hb4).trans x3
                have hbl : bb < wr.heap.size := (Array.getElem?_eq_some_iff.1 HBX.out).1
                have q0 : wr.cell? ⟨bb, 0, none⟩ = some (.int .i64 Ap) := by simp [World.cell?, HBX.out]
                have q1 : wr.cell? ⟨bb, 1, none⟩ = some (.int .i64 Ak) := by simp [World.cell?, HBX.out]
                have q2 : wr.cell? ⟨bb, 2, none⟩ = some (.int .i64 Af) := by simp [World.cell?, HBX.out]
                have q3 : wr.cell? ⟨bb, 3, none⟩ = some (.int .i64 At) := by simp [World.cell?, HBX.out]
                clear x0 x1 x2 x3
                have HPP := Hid.mk (And.intro p1 (And.intro p2 (And.intro p3 p4)))
                clear p1 p2 p3 p4
                obtain ⟨bs, hbs⟩ : ∃ bs, bs = decide (Af ≤ Bt ∧ Bf ≤ At) := ⟨_, rfl⟩
                have HBS := Hid.mk hbs
                clear hbs
                go_upto_region 17 with fail
                go_cut [9] from 64 to 145 (fun s9 wx => s9 = .bool bs ∧ wx = wr.alloc (.cells #[.int .i64 Bp, .int .i64 Bk, .int .i64 Bf, .int .i64 Bt] 41))
                case first =>
                  by_cases h1 : Af ≤ Bt
                  · by_cases h2 : Bf ≤ At
                    · go_wp2
                      go_meet
                      case rel => exact ⟨by rw [HBS.out, decide_eq_true (And.intro h1 h2)], rfl⟩
                    · go_wp2
                      go_meet
                      case rel => exact ⟨by rw [HBS.out, decide_eq_false (fun h => by omega)], rfl⟩
                  · go_wp2
                    go_meet
                    case rel => exact ⟨by rw [HBS.out, decide_eq_false (fun h => by omega)], rfl⟩
                case rest =>
                obtain ⟨rfl, hw⟩ := hcut
                subst wc
                go_upto_region 18 with fail
                go_cut [145] from 64 to 145 (fun s145 wx => s145 = .bool false ∧ wx = wr.alloc (.cells #[.int .i64 Bp, .int .i64 Bk, .int .i64 Bf, .int .i64 Bt] 41))
                case first =>
                  have g1 : (Af < Bf) = False := by have := HPP.out.1; simp; omega
                  cases bs
                  · have hbs := of_decide_eq_false HBS.out.symm
                    clear hbs
                    by_cases e1 : Bf = Af
                    · have g2 : (Bf == Af) = true := by simp [e1]
                      have g3 : (Ap ≤ Bp) = False := by have := HPP.out.2.1 e1; simp; omega
                      clear e1
                      by_cases e2 : Ap = Bp
                      · have g4 : (Ap == Bp) = true := by simp [e2]
                        by_cases e3 : Ak = Bk
                        · have g5 : (Ak == Bk) = true := by simp [e3]
                          have g6 : (Bt + 1 == Af) = false := by have := HPP.out.2.2.2; simp; omega
                          clear e2 e3
                          go_wp2
                          go_meet
                          case rel => exact ⟨rfl, rfl⟩
                        · have g5 : (Ak == Bk) = false := by simp [e3]
                          clear e2 e3
                          go_wp2
                          go_meet
                          case rel => exact ⟨rfl, rfl⟩
                      · have g4 : (Ap == Bp) = false := by simp [e2]
                        clear e2
                        go_wp2
                        go_meet
                        case rel => exact ⟨rfl, rfl⟩
                    · have g2 : (Bf == Af) = false := by simp [e1]
                      clear e1
                      by_cases e2 : Ap = Bp
                      · have g4 : (Ap == Bp) = true := by simp [e2]
                        by_cases e3 : Ak = Bk
                        · have g5 : (Ak == Bk) = true := by simp [e3]
                          have g6 : (Bt + 1 == Af) = false := by have := HPP.out.2.2.2; simp; omega
                          clear e2 e3
                          go_wp2
                          go_meet
                          case rel => exact ⟨rfl, rfl⟩
                        · have g5 : (Ak == Bk) = false := by simp [e3]
                          clear e2 e3
                          go_wp2
                          go_meet
                          case rel => exact ⟨rfl, rfl⟩
                      · have g4 : (Ap == Bp) = false := by simp [e2]
                        clear e2
                        go_wp2
                        go_meet
                        case rel => exact ⟨rfl, rfl⟩
                  · have hbs := of_decide_eq_true HBS.out.symm
                    by_cases e1 : Bf = Af
                    · have g2 : (Bf == Af) = true := by simp [e1]
                      have g3 : (Ap ≤ Bp) = False := by have := HPP.out.2.1 e1; simp; omega
                      clear e1
                      have g4 : (Ap == Bp) = false := by have := HPP.out.2.2.1; simp; omega
                      have g5 : (Ak == 2) = false := by have := HPP.out.2.2.1; simp; omega
                      have g6 : (Bk == 2) = false := by have := HPP.out.2.2.1; simp; omega
                      clear hbs
                      go_wp2
                      go_meet
                      case rel => exact ⟨rfl, rfl⟩
                    · have g2 : (Bf == Af) = false := by simp [e1]
                      clear e1
                      have g4 : (Ap == Bp) = false := by have := HPP.out.2.2.1; simp; omega
                      have g5 : (Ak == 2) = false := by have := HPP.out.2.2.1; simp; omega
                      have g6 : (Bk == 2) = false := by have := HPP.out.2.2.1; simp; omega
                      clear hbs
                      go_wp2
                      go_meet
                      case rel => exact ⟨rfl, rfl⟩
                case rest =>
                obtain ⟨rfl, hw⟩ := hcut
                subst wc
                have HB2 := Hid.mk (HB.out.alloc HB.out.size (.cells #[.int .i64 Bp, .int .i64 Bk, .int .i64 Bf, .int .i64 Bt] 41))
                have HBX2 : Hid ((wr.alloc (.cells #[.int .i64 Bp, .int .i64 Bk, .int .i64 Bf, .int .i64 Bt] 41)).heap[bb]? = wr.heap[bb]?) := ((Below.refl wr.heap.size wr).alloc (Nat.le_refl _) _).block bb hbl
                clear c0 c1 c2 c3 q0 q1 q2 q3
                go_wp2
                go_roundg (20 - (j + 1))
                case measure => omega
                case rel => exact ⟨j + 1, by go_num, by omega, rfl, HB2.out, HBX2.out.trans HBX.out⟩
            · obtain rfl : j = i := by omega
              go_wp2
              go_roundg (20 - (j + 1))
              case measure => omega
              case rel => exact ⟨j + 1, by go_num, by omega, rfl, HB.out⟩
        · as_aux_lemma =>
            obtain rfl : i = l.length := by omega
            have HKB := Hid.mk (HK4.out.below K HB.out)
            have HC := Hid.mk (HKB.out.holds K (f : Int) (by unfold i64; omega) rfl)
            have HSH := Hid.mk (sound_holds HV.out (f : Int))
            have hlm := hold_le HV.out (f : Int)
            go_wp2_with fail
            refine HC.out.mono ?_
            rintro e w5 ⟨P5, a5, c5, rfl, hh5, hm5, hk5, _⟩
            have HH5 := Hid.mk hh5; have HK5 := Hid.mk hk5
            generalize s.holds (f : Int) = hl at *
            clear hh5 hm5 hk5 HC HKB HB HK4 HR4 HSR
            go_wp2_with fail
            go_loopg [11] 40 (fun g s11 wq => ∃ (k : Nat), s11 = .int .i64 k ∧ k ≤ hl.length ∧ g = 40 - k ∧ wq = w5)
            case atStart => exact ⟨0, rfl, by omega, by omega, rfl⟩
            case round =>
              obtain ⟨k, rfl, hk, rfl, hwq⟩ := hrel
              subst hwq
              by_cases hkl : k < hl.length
              · obtain ⟨bh, u, cu, rfl, _, k0, k1, _⟩ := HH5.out k hl[k] (by simp)
                obtain ⟨n1, n2, n3⟩ := HSH.out k hl[k] (by simp)
                generalize hl[k] = H at *
                obtain ⟨Hk, Hps⟩ := H
                simp only at k0 k1 n1 n2 n3
                have g1 : ((Hps.length : Int) == 0) = false := by rw [beq_eq_false_iff_ne]; omega
                rcases n2 with rfl | rfl
                · go_wp2
                  go_roundg (40 - (k + 1))
                  case measure => omega
                  case rel => exact ⟨k + 1, by go_num, by omega, rfl, rfl⟩
                · have g2 : hl.length = 1 := n3 rfl
                  have g3 : ((1 : Int) < (hl.length : Int)) = False := by simp; omega
                  clear n3 g2
                  go_wp2
                  go_roundg (40 - (k + 1))
                  case measure => omega
                  case rel => exact ⟨k + 1, by go_num, by omega, rfl, rfl⟩
              · obtain rfl : k = hl.length := by omega
                go_wp2
                go_roundg (10 - (f + 1))
                case measure => omega
                case rel => exact ⟨f + 1, P5, by go_num, by omega, rfl, HK5.out⟩
    · as_aux_lemma =>
        obtain rfl : f = 3 := by omega
        have hw6 := wait_le HV.out
        have HC := Hid.mk (HK.out.waitingT K rfl)
        go_wp2_with fail
        refine HC.out.mono ?_
        rintro e w5 ⟨P5, a5, c5, rfl, hi5, hm5, _, hk5, _⟩
        have HI5 := Hid.mk hi5; have HM5 := Hid.mk hm5; have HK5 := Hid.mk hk5
        clear hi5 hm5 hk5 HC HK
        go_wp2_with fail
        go_loopg [13, 14, 15] 10 (fun g s13 s14 s15 wr => ∃ (p : Nat) (Q : Nat → Prop), s13 = .int .i64 (s.blockedN p) ∧ s14 = .int .i64 (s.freeN p) ∧ s15 = .int .i64 p ∧ p ≤ 6 ∧ g = 10 - p ∧ Hid (KW rep w0 wr kb Q s) ∧ Hid (IRow wr a5 s.waiting) ∧ Hid (Mine Q wr a5))
        case atStart => exact ⟨0, P5, rfl, rfl, rfl, by omega, by omega, HK5.out, HI5, HM5⟩
        case round =>
          clear HI5 HM5 HK5
          obtain ⟨p, Q, rfl, rfl, rfl, hp, rfl, HK, HI, HM⟩ := hrel
          have hbn : s.blockedN p ≤ p := s.blockedN_le p
          have hfn : s.freeN p ≤ p := s.freeN_le p
          by_cases hpl : p < 6
          · have HST := Hid.mk (stateF K HK.out (p : Int) (by unfold i64; omega))
            have HB1 := Hid.mk (s.blockedN_succ p); have HF1 := Hid.mk (s.freeN_succ p)
            have HTA := Hid.mk (times_all HV.out (p : Int))
            have HMT := Hid.mk (may_two HV.out (p := (p : Int)))
            have HM01 := Hid.mk (may_cases s (p : Int))
            go_wp2_with fail
            refine HST.out.mono ?_
            rintro e w6 ⟨P6, rfl, hk6, hu6⟩
            have HK6 := Hid.mk hk6; have HI6 := Hid.mk (HI.out.upd HM.out hu6); have HM6 := Hid.mk (HM.out.upd hu6)
            clear hk6 hu6 HST HK HI HM
            go_wp2_with fail
            try rw [show decide ((p : Int) < 6) = true from decide_eq_true (by omega)]
            go_loopg [17, 18] 10 (fun g s17 s18 wq => ∃ (j : Nat), s17 = .int .i64 (s.times p j) ∧ s18 = .int .i64 j ∧ j ≤ s.waiting.length ∧ g = 10 - j ∧ wq = w6)
            case atStart => exact ⟨0, rfl, rfl, by omega, by omega, rfl⟩
            case round =>
              obtain ⟨j, rfl, rfl, hj, rfl, hwq⟩ := hrel
              subst hwq
              have htl : s.times p j ≤ j := s.times_le p j
              by_cases hjl : j < s.waiting.length
              · obtain ⟨bw, ow, rfl, _, x1⟩ := HI6.out j s.waiting[j] (by simp)
                have HTS := Hid.mk (s.times_succ p j hjl)
                generalize hx : s.waiting[j] = X at *
                clear hx
                by_cases hxp : X = p
                · have g1 : (X == (p : Int)) = true := by simp [hxp]
                  have HE := Hid.mk hxp
                  clear hxp
                  go_wp2
                  go_roundg (10 - (j + 1))
                  case measure => omega
                  case rel => exact ⟨j + 1, by rw [HTS.out, if_pos HE.out]; go_num, by go_num, by omega, rfl, rfl⟩
                · have g1 : (X == (p : Int)) = false := by simp [hxp]
                  have HE := Hid.mk hxp
                  clear hxp
                  go_wp2
                  go_roundg (10 - (j + 1))
                  case measure => omega
                  case rel => exact ⟨j + 1, by rw [HTS.out, if_neg HE.out]; rfl, by go_num, by omega, rfl, rfl⟩
              · obtain rfl : j = s.waiting.length := by omega
                rw [HTA.out]
                rcases HM01.out with ⟨m0, m1⟩ | ⟨m0, m1⟩ | ⟨m0, m1⟩
                · have hw : ¬ (p : Int) ∈ s.waiting := fun h => by have := HMT.out.2 h; omega
                  rw [if_neg (fun h => hw (DS.waits_mem.1 h)), m1]
                  have HX1 := Hid.mk HB1.out; have HX2 := Hid.mk HF1.out
                  rw [m0] at HX1 HX2
                  clear HMT HM01 m0 m1 hw
                  go_wp2
                  go_roundg (10 - (p + 1))
                  case measure => omega
                  case rel => exact ⟨p + 1, P6, by first | (rw [HX1.out, if_neg (by omega)]; rfl) | (rw [HX1.out]; simp), by first | (rw [HX2.out, if_pos rfl]; go_num) | (rw [HX2.out, if_pos trivial]; go_num) | (rw [HX2.out]; simp), by go_num, by omega, rfl, HK6.out, HI6, HM6⟩
                · have hw : ¬ (p : Int) ∈ s.waiting := fun h => by have := HMT.out.2 h; omega
                  rw [if_neg (fun h => hw (DS.waits_mem.1 h)), m1]
                  have HX1 := Hid.mk HB1.out; have HX2 := Hid.mk HF1.out
                  rw [m0] at HX1 HX2
                  clear HMT HM01 m0 m1 hw
                  go_wp2
                  go_roundg (10 - (p + 1))
                  case measure => omega
                  case rel => exact ⟨p + 1, P6, by first | (rw [HX1.out, if_neg (by omega)]; rfl) | (rw [HX1.out]; simp), by first | (rw [HX2.out, if_neg (by omega)]; rfl) | (rw [HX2.out]; simp), by go_num, by omega, rfl, HK6.out, HI6, HM6⟩
                · have hw := HMT.out.1 m0
                  rw [if_pos (DS.waits_mem.2 hw), m1]
                  have HX1 := Hid.mk HB1.out; have HX2 := Hid.mk HF1.out
                  rw [m0] at HX1 HX2
                  clear HMT HM01 m0 m1 hw
                  go_wp2
                  go_roundg (10 - (p + 1))
                  case measure => omega
                  case rel => exact ⟨p + 1, P6, by first | (rw [HX1.out, if_pos rfl]; go_num) | (rw [HX1.out, if_pos trivial]; go_num) | (rw [HX1.out]; simp), by first | (rw [HX2.out, if_neg (by omega)]; rfl) | (rw [HX2.out]; simp), by go_num, by omega, rfl, HK6.out, HI6, HM6⟩
          · obtain rfl : p = 6 := by omega
            obtain ⟨t1, t2⟩ := sound_end HV.out
            rw [t1] at t2 ⊢
            rcases t2 with t2 | t2
            · rw [t2]
              go_wp2
              go_ret
              exact ⟨Q, rfl, HK.out⟩
            · by_cases t3 : s.waiting.length = 0
              · rw [t3]
                go_wp2
                go_ret
                exact ⟨Q, rfl, HK.out⟩
              · have t4 : ((s.waiting.length : Int) == 0) = false := by rw [beq_eq_false_iff_ne]; omega
                have t5 : ((0 : Int) < (s.freeN 6 : Int)) = True := by simp only [eq_iff_iff, iff_true]; omega
                go_wp2
                go_ret
                exact ⟨Q, rfl, HK.out⟩
end
end Go.Proofs.YtaicdjhblbobbaaGreat
