/- Over any program that answers as the model: the statement Sound. -/
import Derived.Test.YtaicdjhblbobbaaGreatVSoundF
namespace Go.Proofs.YtaicdjhblbobbaaGreat
open Go.RowKit

section
variable {rep : World → Nat → (Nat → Prop) → DS → Prop} (K : Face rep)
include K
set_option maxHeartbeats 64000000 in
set_option maxRecDepth 100000 in
theorem SoundLF (raw : List Int) (ra : Option Addr) (cap : Nat) (w : World) (hraw : IRow w ra raw) (hi64 : ∀ x, x ∈ raw → i64 x) (hlen : raw.length ≤ cap) (_hcap : cap ≤ 9223372036854775807) :
    Calls Tryz.prog 12 #[.slice ra raw.length cap] w fun e w' => e = .returned (.bool true) ∧ Below w.heap.size w w' := by
  have HR := Hid.mk hraw
  have HI := Hid.mk hi64
  have HSM := Hid.mk (someF K 3 (by omega) (by omega))
  clear hraw hi64
  go_enter Tryz.func12, Tryz.ntmps12
  go_wp2_with fail
  refine (HSM.out w).mono ?_
  rintro e w1 ⟨kb, P, rfl, hk1⟩
  have HK := Hid.mk hk1
  clear hk1 HSM
  have HC := Hid.mk (HK.out.num K (.lock 0 0 2 3 4 false) (by simp [Cl.rng, i64]) ends_a.1)
  go_wp2_with fail
  refine HC.out.mono ?_
  rintro e w2 ⟨P2, a2, cp2, rfl, hk2, hu2⟩
  have HK2 := Hid.mk hk2
  clear hk2 hu2 HC HK
  go_wp2_with fail
  refine (okF _ _ _ _ _ _ _).mono ?_
  simp only [decide_true, Bool.and_self]
  rintro e w3 ⟨rfl, hb3⟩
  have HK := Hid.mk (HK2.out.below K hb3)
  clear hb3 HK2
  obtain ⟨rr, hrr⟩ := List.length_eq_one_iff.1 ends_a.2.2
  have HC := Hid.mk (HK.out.runs K 0 (by simp [i64]) hrr)
  clear hrr
  go_wp2_with fail
  refine HC.out.mono ?_
  rintro e w5 ⟨P5, a5, c5, rfl, _, _, hk5, _⟩
  have HK := Hid.mk hk5
  clear hk5 HC
  go_wp2_with fail
  go_loopg [5] 400 (fun g s5 wr => ∃ (i : Nat) (P : Nat → Prop) (s : DS), s5 = .int .i64 i ∧ i ≤ 310 ∧ g = 400 - i ∧ Hid (KW rep w wr kb P s))
  case atStart => exact ⟨0, P5, _, rfl, by omega, by omega, HK.out⟩
  case round =>
    clear HK
    obtain ⟨i, P, s, rfl, hi, rfl, HK⟩ := hrel
    go_upto_region 5 with fail
    go_cut [33] from 25 to 46 (fun s33 wx => s33 = .bool (decide (i + 4 < raw.length ∧ i < 300)) ∧ wx = wr)
    case first =>
      by_cases h1 : i + 4 < raw.length
      · by_cases h2 : i < 300
        · go_wp2
          go_meet
          case rel => exact ⟨by simp [h1, h2]; omega, rfl⟩
        · go_wp2
          go_meet
          case rel => exact ⟨by simp [h1, h2]; omega, rfl⟩
      · go_wp2
        go_meet
        case rel => exact ⟨by simp [h1], rfl⟩
    case rest =>
    obtain ⟨rfl, hw⟩ := hcut
    subst wc
    by_cases hlt : i + 4 < raw.length ∧ i < 300
    · rw [show decide (i + 4 < raw.length ∧ i < 300) = true from decide_eq_true hlt]
      obtain ⟨hl1, hl2⟩ := hlt
      obtain ⟨rb, ro, rfl, hrb, _⟩ := HR.out i raw[i] (by simp)
      have hrow : IRow wr (some ⟨rb, ro + i, none⟩) [raw[i], raw[i + 1], raw[i + 2], raw[i + 3], raw[i + 4]] := (HR.out.below HK.out.b).part (fun j x hx => by
        match j, hx with
        | 0, hx => simp at hx; subst hx; simp
        | 1, hx => simp at hx; subst hx; simp
        | 2, hx => simp at hx; subst hx; simp
        | 3, hx => simp at hx; subst hx; simp
        | 4, hx => simp at hx; subst hx; simp)
      have HPL := Hid.mk (fun (c : Nat) => playF K HK.out raw[i] raw[i + 1] raw[i + 2] raw[i + 3] raw[i + 4] rb (ro + i) c (HI.out _ (by simp)) (HI.out _ (by simp)) (HI.out _ (by simp)) (HI.out _ (by simp)) (HI.out _ (by simp)) hrow)
      have hne : ¬ cap = i := by omega
      clear hrow
      go_wp2_with fail
      refine (HPL.out _).mono ?_
      rintro e w2 ⟨P2, s2, rfl, hk2, _⟩
      have HK2 := Hid.mk hk2
      clear hk2 HPL HK
      have HSN := Hid.mk (soundF K HK2.out)
      clear HK2
      go_wp2_with fail
      refine HSN.out.mono ?_
      rintro e w3 ⟨P3, rfl, hk3⟩
      have HK3 := Hid.mk hk3
      clear hk3 HSN
      go_wp2
      go_roundg (400 - (i + 5))
      case measure => omega
      case rel => exact ⟨i + 5, P3, s2, by go_num, by omega, rfl, HK3.out⟩
    · rw [show decide (i + 4 < raw.length ∧ i < 300) = false from decide_eq_false hlt]
      clear hlt HR HI hlen _hcap
      go_wp2
      go_ret
      exact ⟨rfl, HK.out.b⟩
end
end Go.Proofs.YtaicdjhblbobbaaGreat
