/- Over any program that answers as the model: the statement Apart. -/
import Derived.Test.YtaicdjhblbobbabGreatGPlay
import Derived.Test.YtaicdjhblbobbabGreatGScene
namespace Go.Proofs.YtaicdjhblbobbabGreat
open Go.RowKit

/-- A row that was told stays as it is. -/
theorem Told.keep {P P' : Nat → Prop} {w w' w2 : World} {t : TypeId} {sz n : Nat} {v : Value} {xs : List Value} (h : Told w w' P t sz v n xs) (hu : Upd P P' w' w2) : w2.ownsRow w.heap.size t sz v n xs :=
  own_blk h.own fun b e => hu.block b (h.own.lt b e).2 (h.far b e)
theorem own_is {w : World} {base : Nat} {t : TypeId} {sz n : Nat} {v : Value} {xs : List Value} (h : w.ownsRow base t sz v n xs) (hn : 0 < n) : ∃ g cap cur, v = .slice (some ⟨g, 0, none⟩) n cap ∧ base ≤ g ∧ w.heap[g]? = some (.cells cur t (0, 0)) ∧ n ≤ cap := by
  rcases h.2 with ⟨_, h0⟩ | ⟨g, cap, cur, hv, hb, hg, hc, _⟩
  · omega
  · exact ⟨g, cap, cur, hv, hb, hg, hc⟩
section
variable {rep : World → Nat → (Nat → Prop) → DS → Prop} (K : Face rep)
include K
/-- What is called of one Kernel is nothing to another. -/
theorem KW.other {w0 w w' : World} {kb : Nat} {P P' G : Nat → Prop} {s : DS} (h : KW rep w0 w kb G s) (hd : ∀ b, G b → ¬ P b) (hu : Upd P P' w w') (hP : ∀ b, P b → w0.heap.size ≤ b) : KW rep w0 w' kb G s ∧ ∀ b, G b → ¬ P' b :=
  ⟨⟨K.frame h.r hu.size (fun b hb => hu.block b (K.lt h.r b hb) (hd b hb)), h.b.trans (hu.below hP h.b.size), h.p⟩, fun b hb => hu.still (K.lt h.r b hb) (hd b hb)⟩
set_option maxHeartbeats 64000000 in
set_option maxRecDepth 100000 in
theorem ApartF (raw : List Int) (ra : Option Addr) (cap : Nat) (x : Int) (w : World) (hraw : IRow w ra raw) (hi64 : ∀ x, x ∈ raw → i64 x) (hlen : raw.length ≤ cap) (_hcap : cap ≤ 9223372036854775807) (hx : i64 x) :
    Calls Tryz.prog 3 #[.slice ra raw.length cap, .int .i64 x] w fun e w' => e = .returned (.bool true) ∧ Below w.heap.size w w' := by
  have HR := Hid.mk hraw
  have HI := Hid.mk hi64
  obtain ⟨a, ha⟩ : ∃ a : Nat, pickI x 40 = a := ⟨(pickI x 40).toNat, by have := pickI_bd x 40 (by omega); omega⟩
  have ha1 : a < 40 := by have := pickI_bd x 40 (by omega); omega
  have HA := Hid.mk (pick_eq x 40 · hx (by omega) (by omega))
  rw [ha] at HA
  have HSM := Hid.mk (someF K 3 (by omega) (by omega))
  have HAP := Hid.mk (apart_rep ⟨a, ha1⟩)
  clear hraw hi64 ha hx
  go_enter Tryz.func3, Tryz.ntmps3
  go_wp2_with fail
  refine (HSM.out w).mono ?_
  rintro e w1 ⟨kb, P, rfl, hk1⟩
  have HK0 := Hid.mk hk1
  clear hk1
  go_wp2_with fail
  refine (HSM.out w1).mono ?_
  rintro e w2 ⟨gb, G, rfl, hg2⟩
  have HK : Hid (KW rep w w2 kb P (stC (someC 3))) := HK0.out.below K hg2.b
  have HG : Hid (KW rep w w2 gb G (stC (someC 3))) := ⟨hg2.r, HK0.out.b.trans (hg2.b.mono HK0.out.b.size), fun b hb => Nat.le_trans HK0.out.b.size (hg2.p b hb)⟩
  have HDS : Hid (∀ b, G b → ¬ P b) := fun b hb hp => by have := hg2.p b hb; have := K.lt HK0.out.r b hp; omega
  clear hg2 HK0 HSM
  go_wp2_with fail
  refine (HA.out _).mono ?_
  rintro e w' ⟨rfl, hw⟩
  subst w'
  clear HA
  have HC := Hid.mk (HK.out.num K (.lock 0 0 2 a 3 false) (by simp [Cl.rng, i64]; omega) HAP.out.1)
  go_wp2_with fail
  refine HC.out.mono ?_
  rintro e w2 ⟨P2, a2, cp2, rfl, hk2, hu2⟩
  have HK2 := Hid.mk hk2
  have HO := Hid.mk (HG.out.other K HDS.out hu2 HK.out.p)
  clear HG HDS
  clear hk2 hu2 HC HK
  go_wp2_with fail
  refine (okF _ _ _ _ _ _ _).mono ?_
  simp only [decide_true, Bool.and_self]
  rintro e w3 ⟨rfl, hb3⟩
  have HK := Hid.mk (HK2.out.below K hb3)
  have HG := Hid.mk (HO.out.1.below K hb3); have HDS := Hid.mk HO.out.2
  clear HO
  clear hb3 HK2
  have HC := Hid.mk (HK.out.num K (.lock 1 0 2 a 1 true) (by simp [Cl.rng, i64]; omega) HAP.out.2.1)
  go_wp2_with fail
  refine HC.out.mono ?_
  rintro e w2 ⟨P2, a2, cp2, rfl, hk2, hu2⟩
  have HK2 := Hid.mk hk2
  have HO := Hid.mk (HG.out.other K HDS.out hu2 HK.out.p)
  clear HG HDS
  clear hk2 hu2 HC HK
  go_wp2_with fail
  refine (isF _ _ _ _ _ _ _).mono ?_
  simp only [decide_true, Bool.and_self]
  rintro e w3 ⟨rfl, hb3⟩
  have HK := Hid.mk (HK2.out.below K hb3)
  have HG := Hid.mk (HO.out.1.below K hb3); have HDS := Hid.mk HO.out.2
  clear HO
  clear hb3 HK2
  have HC := Hid.mk (HK.out.num K (.lock 2 0 2 (a + 1) 1 true) (by simp [Cl.rng, i64]; omega) HAP.out.2.2.1)
  go_wp2_with fail
  refine HC.out.mono ?_
  rintro e w2 ⟨P2, a2, cp2, rfl, hk2, hu2⟩
  have HK2 := Hid.mk hk2
  have HO := Hid.mk (HG.out.other K HDS.out hu2 HK.out.p)
  clear HG HDS
  clear hk2 hu2 HC HK
  go_wp2_with fail
  refine (isF _ _ _ _ _ _ _).mono ?_
  simp only [decide_true, Bool.and_self]
  rintro e w3 ⟨rfl, hb3⟩
  have HK := Hid.mk (HK2.out.below K hb3)
  have HG := Hid.mk (HO.out.1.below K hb3); have HDS := Hid.mk HO.out.2
  clear HO
  clear hb3 HK2
  have HC := Hid.mk (HK.out.num K (.opn 0 1) (by simp [Cl.rng, i64]) HAP.out.2.2.2.1)
  go_wp2_with fail
  refine HC.out.mono ?_
  rintro e w2 ⟨P2, a2, cp2, rfl, hk2, hu2⟩
  have HK2 := Hid.mk hk2
  have HO := Hid.mk (HG.out.other K HDS.out hu2 HK.out.p)
  clear HG HDS
  clear hk2 hu2 HC HK
  go_wp2_with fail
  refine (okF _ _ _ _ _ _ _).mono ?_
  simp only [decide_true, Bool.and_self]
  rintro e w3 ⟨rfl, hb3⟩
  have HK := Hid.mk (HK2.out.below K hb3)
  have HG := Hid.mk (HO.out.1.below K hb3); have HDS := Hid.mk HO.out.2
  clear HO
  clear hb3 HK2
  have HC := Hid.mk (HK.out.num K (.whole 0 1 1 false) (by simp [Cl.rng, i64]) HAP.out.2.2.2.2.1)
  go_wp2_with fail
  refine HC.out.mono ?_
  rintro e w2 ⟨P2, a2, cp2, rfl, hk2, hu2⟩
  have HK2 := Hid.mk hk2
  have HO := Hid.mk (HG.out.other K HDS.out hu2 HK.out.p)
  clear HG HDS
  clear hk2 hu2 HC HK
  go_wp2_with fail
  refine (okF _ _ _ _ _ _ _).mono ?_
  simp only [decide_true, Bool.and_self]
  rintro e w3 ⟨rfl, hb3⟩
  have HK := Hid.mk (HK2.out.below K hb3)
  have HG := Hid.mk (HO.out.1.below K hb3); have HDS := Hid.mk HO.out.2
  clear HO
  clear hb3 HK2
  have HKA : Hid (KW rep w w3 kb P2 (stC (apartC a))) := by have := HK.out; rw [show someC 3 ++ [Cl.lock 0 0 2 (a : Int) 3 false] ++ [Cl.lock 1 0 2 (a : Int) 1 true] ++ [Cl.lock 2 0 2 ((a : Int) + 1) 1 true] ++ [Cl.opn 0 1] ++ [Cl.whole 0 1 1 false] = apartC a from HAP.out.2.2.2.2.2] at this; exact this
  clear HK
  go_wp2_with fail
  go_loopg [10] 400 (fun g s5 wr => ∃ (i : Nat) (G : Nat → Prop) (t : DS), s5 = .int .i64 i ∧ i ≤ 310 ∧ g = 400 - i ∧ Hid (KW rep w wr kb P2 (stC (apartC a))) ∧ Hid (KW rep w wr gb G t) ∧ Hid (∀ b, G b → ¬ P2 b))
  case atStart => exact ⟨0, G, _, rfl, by omega, by omega, HKA.out, HG.out, HDS.out⟩
  case round =>
    clear HKA HG HDS G
    obtain ⟨i, G, t, rfl, hi, rfl, HK, HG, HDS⟩ := hrel
    go_upto_region 7 with fail
    go_cut [75] from 67 to 84 (fun s75 wx => s75 = .bool (decide (i + 4 < raw.length ∧ i < 200)) ∧ wx = wr)
    case first =>
      by_cases h1 : i + 4 < raw.length
      · by_cases h2 : i < 200
        · go_wp2
          go_meet
          case rel => exact ⟨by simp [h1, h2]; omega, rfl⟩
        · go_wp2
          go_meet
          case rel => exact ⟨by simp [h1, h2]; omega, rfl⟩
      · go_wp2
        go_meet
        case rel => exact ⟨by simp [h1], rfl⟩
    case rest =>
    obtain ⟨rfl, hw⟩ := hcut
    subst wc
    by_cases hlt : i + 4 < raw.length ∧ i < 200
    · rw [show decide (i + 4 < raw.length ∧ i < 200) = true from decide_eq_true hlt]
      obtain ⟨hl1, hl2⟩ := hlt
      obtain ⟨rb, ro, rfl, hrb, _⟩ := HR.out i raw[i] (by simp)
      have hrow : IRow wr (some ⟨rb, ro + i, none⟩) [raw[i], raw[i + 1], raw[i + 2], raw[i + 3], raw[i + 4]] := (HR.out.below HG.out.b).part (fun j x hx => by
        match j, hx with
        | 0, hx => simp at hx; subst hx; simp
        | 1, hx => simp at hx; subst hx; simp
        | 2, hx => simp at hx; subst hx; simp
        | 3, hx => simp at hx; subst hx; simp
        | 4, hx => simp at hx; subst hx; simp)
      have HPL := Hid.mk (fun (c : Nat) => playF K HG.out raw[i] raw[i + 1] raw[i + 2] raw[i + 3] raw[i + 4] rb (ro + i) c (HI.out _ (by simp)) (HI.out _ (by simp)) (HI.out _ (by simp)) (HI.out _ (by simp)) (HI.out _ (by simp)) hrow)
      have hne : ¬ cap = i := by omega
      clear hrow
      go_wp2_with fail
      refine (HPL.out _).mono ?_
      rintro e w2 ⟨G2, t2, rfl, hg2, hu2⟩
      have HG2 := Hid.mk hg2
      have HO := Hid.mk (HK.out.other K (fun b hp hg => HDS.out b hg hp) hu2 HG.out.p)
      clear hg2 hu2 HPL HK HG
      go_wp2
      go_roundg (400 - (i + 5))
      case measure => omega
      case rel => exact ⟨i + 5, G2, t2, by go_num, by omega, rfl, HO.out.1, HG2.out, fun b hg hp => HO.out.2 b hp hg⟩
    · rw [show decide (i + 4 < raw.length ∧ i < 200) = false from decide_eq_false hlt]
      have hwr : w.heap.size ≤ wr.heap.size := HK.out.b.size
      clear hlt HR HI hlen _hcap HG HDS
      have HAQ := Hid.mk (apart_end ⟨a, ha1⟩)
      obtain ⟨rr, hrr⟩ := List.length_eq_one_iff.1 HAQ.out.1
      have HC := Hid.mk (K.runs 0 (by simp [i64]) HK.out.r)
      rw [hrr] at HC
      clear hrr
      go_wp2_with fail
      refine HC.out.mono ?_
      rintro e w4 ⟨P4, v4, rfl, ht4, hr4, hu4⟩
      have HK4 := Hid.mk (HK.out.upd K hr4 hu4)
      have HT4 := Hid.mk ht4
      have HC := Hid.mk (K.waiting hr4)
      rw [HAQ.out.2.1] at HC
      have hz4 := hu4.size
      clear ht4 hr4 hu4 HK
      go_wp2_with fail
      refine HC.out.mono ?_
      rintro e w5 ⟨P5, v5, rfl, ht5, hr5, hu5⟩
      have HK5 := Hid.mk (HK4.out.upd K hr5 hu5)
      have HT5 := Hid.mk ht5
      have HO45 : Hid (w5.ownsRow wr.heap.size 45 4 v4 1 (flatR [rr])) := HT4.out.keep hu5
      have HF45 : Hid (∀ b, v4.ownBlock = some b → ¬ P5 b) := fun b e => hu5.still (HT4.out.own.lt b e).2 (HT4.out.far b e)
      have HC := Hid.mk (K.holds 1 (by simp [i64]) hr5)
      rw [HAQ.out.2.2.1] at HC
      have hz5 := hu5.size
      clear ht5 hr5 hu5 HK4
      go_wp2_with fail
      refine HC.out.mono ?_
      rintro e w6 ⟨P6, v6, vs6, rfl, hvl, ht6, hps6, hpw6, hr6, hu6⟩
      obtain ⟨u6, rfl⟩ := List.length_eq_one_iff.1 hvl
      have htu := hps6 0 _ u6 rfl rfl
      have ho4 : w6.ownsRow wr.heap.size 45 4 v4 1 (flatR [rr]) := own_blk HO45.out fun b e => hu6.block b (HO45.out.lt b e).2 (HF45.out b e)
      have ho5 : w6.ownsRow w4.heap.size 3 1 v5 2 (ints [1, 2]) := HT5.out.keep hu6
      obtain ⟨b4, c4, cu4, rfl, hb4, hB4, _⟩ := own_is ho4 (by omega)
      obtain ⟨b5, c5, cu5, rfl, hb5, hB5, _⟩ := own_is ho5 (by omega)
      obtain ⟨b6, c6, cu6, rfl, hb6, hB6, _⟩ := own_is ht6.own (by simp)
      obtain ⟨b7, c7, cu7, rfl, hb7, hB7, _⟩ := own_is htu.own (by simp)
      have l4 := (HT4.out.own.lt b4 rfl).2
      have l5 := (HT5.out.own.lt b5 rfl).2
      have n4 : ¬ P6 b4 := hu6.still (HO45.out.lt b4 rfl).2 (HF45.out b4 rfl)
      have n5 : ¬ P6 b5 := hu6.still l5 (HT5.out.far b5 rfl)
      have n6 : ¬ P6 b6 := ht6.far b6 rfl
      have n7 : ¬ P6 b7 := htu.far b7 rfl
      have e45 : b4 ≠ b5 := by omega
      have e46 : b4 ≠ b6 := by omega
      have e47 : b4 ≠ b7 := by omega
      have e56 : b5 ≠ b6 := by omega
      have e57 : b5 ≠ b7 := by omega
      have e67 : b6 ≠ b7 := fun e => (List.pairwise_cons.1 hpw6).1 _ (List.mem_singleton.2 rfl) b6 rfl (by rw [e]; rfl)
      have x4 : w6.cell? ⟨b4, 0, none⟩ = some (.int .i64 rr.p) := ho4.cellAt 0 (by omega)
      have x5 : w6.cell? ⟨b5, 0, none⟩ = some (.int .i64 1) := ho5.cellAt 0 (by omega)
      have x6 : w6.cell? ⟨b6, 0, none⟩ = some (.int .i64 1) := ht6.own.cellAt 0 (by simp)
      have x6b : w6.cell? ⟨b6, 1, none⟩ = some (.slice (some ⟨b7, 0, none⟩) 1 c7) := ht6.own.cellAt 1 (by simp)
      have x7 : w6.cell? ⟨b7, 0, none⟩ = some (.int .i64 0) := htu.own.cellAt 0 (by simp)
      have f4 := ho4.frozenAt 0
      have f5 := ho5.frozenAt 0
      have f6 := ht6.own.frozenAt 0
      have f7 := htu.own.frozenAt 0
      have hc4 := (ho4.lt b4 rfl).2
      have hc5 := (ho5.lt b5 rfl).2
      have hc6 := (ht6.own.lt b6 rfl).2
      have hc7 := (htu.own.lt b7 rfl).2
      have hg6 := HK5.out.upd K hr6 hu6
      have hz6 := hu6.size
      have HK7 := Hid.mk ((((hg6.set K (a := ⟨b4, 0, none⟩) n4 (by show _ ≤ b4; omega) (.int .i64 77)).set K (a := ⟨b5, 0, none⟩) n5 (by show _ ≤ b5; omega) (.int .i64 77)).set K (a := ⟨b7, 0, none⟩) n7 (by show _ ≤ b7; omega) (.int .i64 77)).set K (a := ⟨b6, 0, none⟩) n6 (by show _ ≤ b6; omega) (.int .i64 77))
      clear ht6 hps6 hpw6 hr6 hu6 htu ho4 ho5 hg6 n4 n5 n6 n7 hB4 hB5 hB6 hB7 HC HO45 HF45 HT4 HT5 HK5
      simp only [List.length_cons, List.length_nil, Nat.zero_add] at *
      have HC := Hid.mk (HK7.out.holds K 1 (by simp [i64]) HAQ.out.2.2.1)
      go_wp2_with fail
      refine HC.out.mono ?_
      rintro e w8 ⟨P8, a8, c8, rfl, hh8, hm8, hk8, _⟩
      have HC := Hid.mk (hk8.call K (freeP 0) (by simp [freeP, Cl.rng, i64]) HAQ.out.2.2.2.1)
      have HH8 := Hid.mk hh8
      have HM8 := Hid.mk hm8
      clear hh8 hm8 hk8 HK7 x4 x5 x6 x6b x7 f4 f5 f6 f7 hc4 hc5 hc6 hc7 e45 e46 e47 e56 e57 e67
      unfold rpV at HC
      go_wp2_with fail
      refine HC.out.mono ?_
      rintro e w9 ⟨P9, a9, c9, rfl, ht9, hk9, hu9⟩
      have hd9 : DRow w9 a9 ([1, 2].map fun q => (⟨q, 0⟩ : Dn)) := DRow.own ht9.own
      have HD9 := Hid.mk hd9
      have HH9 := Hid.mk (HH8.out.upd HM8.out hu9)
      have HK9 := Hid.mk hk9
      clear hd9 ht9 hk9 hu9 HC HH8 HM8
      simp only [List.length_cons, List.length_nil, Nat.zero_add]
      have hb9 : Below w9.heap.size w9 ((w9.alloc (.cells #[.int .i64 0, .int .i64 0, .slice a9 2 c9] 31)).alloc (.cells #[.int .i64 1, .int .i64 2] 3)) := ((Below.refl _ _).alloc (Nat.le_refl _) _).alloc (by simp) _
      have HFR := Hid.mk (freesF [1, 2] a9 (some ⟨w9.heap.size + 1, 0, none⟩) c9 2 ((w9.alloc (.cells #[.int .i64 0, .int .i64 0, .slice a9 2 c9] 31)).alloc (.cells #[.int .i64 1, .int .i64 2] 3)) (by simp) (HD9.out.below hb9) (fun i x hx => by
        match i, hx with
        | 0, hx => simp at hx; subst hx; exact ⟨_, _, rfl, by simp, by simp⟩
        | 1, hx => simp at hx; subst hx; exact ⟨_, _, rfl, by simp, by simp⟩))
      have HK10 := Hid.mk (HK9.out.below K hb9)
      have HH10 := Hid.mk (HH9.out.below hb9)
      clear hb9 HD9 HK9 HH9
      simp only [List.length_cons, List.length_nil, Nat.zero_add] at HFR
      go_wp2_with fail
      refine HFR.out.mono ?_
      rintro e w10 ⟨rfl, hb10⟩
      have HK11 := Hid.mk (HK10.out.below K hb10)
      have hh11 := HH10.out.below hb10
      clear hb10 HK10 HH10 HFR
      obtain ⟨b8, u8, cu8, rfl, hb8, y0, y1, hi8, hmu8, hoff8⟩ := hh11 0 _ rfl
      obtain ⟨b11, o11, rfl, hb11, i11⟩ := hi8 0 _ rfl
      simp only [Nat.zero_mul, Nat.zero_add, Nat.add_zero, List.length_cons, List.length_nil] at y0 y1 i11
      clear hh11 hi8 hmu8 hoff8
      have HC := Hid.mk (HK11.out.runs K 0 (by simp [i64]) (l := (stC (apartC a ++ [freeP 0])).runs 0) rfl)
      rw [HAQ.out.2.2.2.2.1] at HC
      have HC2 := Hid.mk (fun (W : World) (P : Nat → Prop) (h : KW rep w W kb P (stC (apartC a ++ [freeP 0]))) => waitingF K h [] none 0 HAQ.out.2.2.2.2.2 (by simp) (IRow.nil _ _) (fun b o e => by cases e))
      go_wp2_with (first
        | (go_at_call 12; refine HC.out.mono ?_; rintro e w12 ⟨P12, a12, c12, rfl, _, _, hk12, _⟩; have HK12 := Hid.mk hk12; clear hk12)
        | (go_at_call 16; refine (HC2.out _ _ HK12.out).mono ?_; rintro e w13 ⟨P13, rfl, hk13, _⟩; have HK13 := Hid.mk hk13; clear hk13))
      go_ret
      exact ⟨rfl, HK13.out.b⟩
end
end Go.Proofs.YtaicdjhblbobbabGreat
