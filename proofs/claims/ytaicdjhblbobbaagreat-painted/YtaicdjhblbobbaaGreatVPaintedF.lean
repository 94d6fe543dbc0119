/- The statement Painted: the walk of the law. -/
import Derived.Test.YtaicdjhblbobbaaGreatVPaintAF
import Derived.BigQuiet
import Derived.Deep.Cut
import Derived.Deep.CutRange
import Derived.Deep.LoopGhost
namespace Go.Proofs.YtaicdjhblbobbaaGreat
open Go.RowKit Go.Lib

/-- What stands in the law's first loop: the Kernel, the array, what both say. -/
structure PInv (rep : World → Nat → (Nat → Prop) → DS → Prop) (w wr : World) (kb cb : Nat) (c : Nat → Int) (s : DS) (l : List Rn) : Prop where
  k : ∃ P, KW rep w wr kb P s ∧ ¬ P cb
  s : POk s l
  p : Pts l c
  a : Arr wr cb c
theorem PInv.b {rep : World → Nat → (Nat → Prop) → DS → Prop} {w wr : World} {kb cb : Nat} {c : Nat → Int} {s : DS} {l : List Rn} (h : PInv rep w wr kb cb c s l) : Below w.heap.size w wr := by
  obtain ⟨P, hk, _⟩ := h.k
  exact hk.b

/-- In a round: the array c', what it was (in a block of its own), the Kernel. -/
structure QInv (rep : World → Nat → (Nat → Prop) → DS → Prop) (w wr : World) (kb cb wb : Nat) (c c' : Nat → Int) (s : DS) : Prop where
  k : ∃ P, KW rep w wr kb P s ∧ ¬ P cb ∧ ¬ P wb
  a : Arr wr cb c'
  o : Arr wr wb c
section
variable {rep : World → Nat → (Nat → Prop) → DS → Prop} (K : Face rep)
include K
theorem QInv.of {w wr W1 : World} {kb cb : Nat} {c : Nat → Int} {s : DS} {l : List Rn} (h : PInv rep w wr kb cb c s l) {x : Obj} (ha : Arr W1 wr.heap.size c) (hk : Kp [wr.heap.size] (wr.alloc x) W1) : QInv rep w W1 kb cb wr.heap.size c c s := by
  have hb : Below wr.heap.size wr W1 := ((Below.refl _ _).alloc (Nat.le_refl _) x).trans ⟨hk.os, hk.tape, hk.output, hk.size, fun j hj => hk.block j (by simp; omega) (by simp; omega)⟩
  obtain ⟨P, hkw, hn⟩ := h.k
  exact ⟨⟨P, hkw.below K hb, hn, fun hp => by have := K.lt hkw.r _ hp; omega⟩, h.a.of_block (hb.block _ h.a.lt), ha⟩
theorem QInv.set {w wr : World} {kb cb wb : Nat} {c c' : Nat → Int} {s : DS} (h : QInv rep w wr kb cb wb c c' s) (hc : w.heap.size ≤ cb) (hne : wb ≠ cb) (i : Nat) (hi : i < 64) (v : Int) :
    QInv rep w (wr.setCell ⟨cb, i, none⟩ (.int .i64 v)) kb cb wb c (fun j => if j = i then v else c' j) s := by
  obtain ⟨P, hkw, hn, hm⟩ := h.k
  exact ⟨⟨P, hkw.set K hn hc _, hn, hm⟩, h.a.set i hi v, h.o.of_block (Below.heap_setCell _ _ _ _ hne)⟩
theorem QInv.drew {w wr : World} {kb cb wb : Nat} {c c' : Nat → Int} {s : DS} (h : QInv rep w wr kb cb wb c c' s) (n : Nat) : QInv rep w (wr.drewN n) kb cb wb c c' s := by
  obtain ⟨P, hkw, hn, hm⟩ := h.k
  exact ⟨⟨P, hkw.drew K n, hn, hm⟩, h.a.of_block rfl, h.o.of_block rfl⟩
theorem QInv.upd {w wr w2 : World} {kb cb wb : Nat} {c c' : Nat → Int} {s s2 : DS} {P P' : Nat → Prop} (h : QInv rep w wr kb cb wb c c' s) (hn : ¬ P cb) (hm : ¬ P wb) (hk : KW rep w w2 kb P' s2) (hu : Upd P P' wr w2) : QInv rep w w2 kb cb wb c c' s2 := by
  have _ := K
  exact ⟨⟨P', hk, hu.still h.a.lt hn, hu.still h.o.lt hm⟩, h.a.of_block (hu.block _ h.a.lt hn), h.o.of_block (hu.block _ h.o.lt hm)⟩
theorem QInv.below {w wr w2 : World} {kb cb wb : Nat} {c c' : Nat → Int} {s : DS} (h : QInv rep w wr kb cb wb c c' s) (hp : Below wr.heap.size wr w2) : QInv rep w w2 kb cb wb c c' s := by
  obtain ⟨P, hkw, hn, hm⟩ := h.k
  exact ⟨⟨P, hkw.below K hp, hn, hm⟩, h.a.of_block (hp.block _ h.a.lt), h.o.of_block (hp.block _ h.o.lt)⟩
theorem QInv.back {w wr W4 : World} {kb cb wb : Nat} {c c' : Nat → Int} {s : DS} (h : QInv rep w wr kb cb wb c c' s) (hc : w.heap.size ≤ cb) (hne : wb ≠ cb) (ha : Arr W4 cb c) (hk : Kp [cb] wr W4) (hz : W4.heap.size = wr.heap.size) : QInv rep w W4 kb cb wb c c s := by
  have he : ∀ k, k ≠ cb → W4.heap[k]? = wr.heap[k]? := fun k hn => by
    by_cases hl : k < wr.heap.size
    · exact hk.block k hl (by simpa using hn)
    · rw [Array.getElem?_eq_none (by omega), Array.getElem?_eq_none (by omega)]
  obtain ⟨P, hkw, hn, hm⟩ := h.k
  exact ⟨⟨P, ⟨K.frame hkw.r (by omega) (fun b hp => he b (fun e => hn (e ▸ hp))), hkw.b.trans ⟨hk.os, hk.tape, hk.output, hk.size, fun k hk => he k (by omega)⟩, hkw.p⟩, hn, hm⟩, ha, h.o.of_block (he _ hne)⟩
end
theorem pick_any {c n : Int} {w : World} (h0 : -9223372036854775808 ≤ c) (h1 : c ≤ 9223372036854775807) (hn : 0 < n) (hn1 : n ≤ 1099511627776) :
    Calls Tryz.prog 17 #[.int .i64 c, .int .i64 n] w fun e w' => ∃ k, e = .returned (.int .i64 k) ∧ 0 ≤ k ∧ k < n ∧ w' = w := by
  refine (pick_eq c n w ⟨h0, h1⟩ hn hn1).mono ?_
  rintro e w' ⟨rfl, hw⟩
  exact ⟨_, rfl, (pickI_bd c n hn).1, (pickI_bd c n hn).2, hw⟩
theorem start_no {c : Nat → Int} {m : Nat} (h : ¬ (c m ≠ 0 ∧ (m = 0 ∨ c (m - 1) ≠ c m))) : cntB c (m + 1) = cntB c m := by
  rw [cntB_succ, if_neg]
  · rfl
  · unfold startB
    rw [Bool.and_eq_true, Bool.or_eq_true, decide_eq_true_eq, decide_eq_true_eq, decide_eq_true_eq]
    exact h
theorem start_yes {c : Nat → Int} {m : Nat} (h : c m ≠ 0 ∧ (m = 0 ∨ c (m - 1) ≠ c m)) : cntB c (m + 1) = cntB c m + 1 := by
  rw [cntB_succ, if_pos]
  unfold startB
  rw [Bool.and_eq_true, Bool.or_eq_true, decide_eq_true_eq, decide_eq_true_eq, decide_eq_true_eq]
  exact h
/-- Behind Runs: the array, and the row of runs that was told. -/
structure TInv (w wr : World) (cb : Nat) (c : Nat → Int) (ga : Option Addr) (l : List Rn) : Prop where
  a : Arr wr cb c
  r : ∀ g, ga = some ⟨g, 0, none⟩ → RowAt wr g l
  b : Below w.heap.size w wr
theorem TInv.drew {w wr : World} {cb : Nat} {c : Nat → Int} {ga : Option Addr} {l : List Rn} (h : TInv w wr cb c ga l) (n : Nat) : TInv w (wr.drewN n) cb c ga l :=
  ⟨h.a.of_block rfl, fun g hg i r hr => h.r g hg i r hr, below_drewN h.b n⟩
theorem rrow_row {w : World} {ga : Option Addr} {l : List Rn} (h : RRow w ga l) : (0 < l.length → ∃ g, ga = some ⟨g, 0, none⟩) ∧ ∀ g, ga = some ⟨g, 0, none⟩ → RowAt w g l := by
  refine ⟨fun hl => ?_, fun g hg i r hr => ?_⟩
  · obtain ⟨g, e, _⟩ := h 0 l[0] (by simp [hl])
    exact ⟨g, e⟩
  · obtain ⟨b, e, _, c0, c1, c2, c3⟩ := h i r hr
    rw [hg] at e
    cases e
    exact ⟨c0, c1, c2, c3⟩
theorem zeros_arr (W : World) : Arr (W.alloc (.cells (arrV fun _ => 0).toArray 29)) W.heap.size (fun _ => 0) :=
  ⟨_, heap_alloc_new W _, arr_toArray _, fun j hj => by simpa using arrV_get (fun _ => 0) j hj⟩

section
variable {rep : World → Nat → (Nat → Prop) → DS → Prop} (K : Face rep)
include K
set_option maxHeartbeats 16000000 in
set_option maxRecDepth 100000 in
theorem PaintedF (ra : Option Addr) (len cap : Nat) (w : World) (hraw : RawAt w ra len) (_hlen : len ≤ 9223372036854775807) :
    Calls Tryz.prog 4 #[.slice ra len cap] w fun e w' => e = .returned (.bool true) ∧ Below w.heap.size w w' := by
  have HS := Hid.mk (someF K 2 (by omega) (by omega))
  have HR := Hid.mk hraw
  clear hraw
  go_enter Tryz.func4, Tryz.ntmps4
  go_wp2_with fail
  refine (HS.out w).mono ?_
  rintro e w1 ⟨kb, P1, rfl, hk1⟩
  have HP : Hid (PInv rep w (w1.alloc (.cells (arrV fun _ => 0).toArray 29)) kb w1.heap.size (fun _ => 0) (stC (someC 2)) []) :=
    ⟨⟨P1, hk1.alloc K _, fun hp => by have := K.lt hk1.r _ hp; omega⟩, POk.start, Pts.nil, zeros_arr w1⟩
  have hcbw := hk1.b.size
  clear hk1
  unfold kptr
  go_wp2_with fail
  obtain ⟨cb, hcb⟩ : ∃ cb, cb = w1.heap.size := ⟨_, rfl⟩
  rw [← hcb] at HP ⊢
  have hz64 : (w1.alloc (.cells (arrV fun _ => 0).toArray 29)) = (w1.alloc (.cells (arrV fun _ => 0).toArray 29)) := rfl
  conv at hz64 => rhs; simp [arrV, List.range, List.range.loop]
  rw [← hz64]
  generalize hW0 : w1.alloc (.cells (arrV fun _ => 0).toArray 29) = W0 at *
  clear hz64 hW0
  have hcw : w.heap.size ≤ cb := by omega
  clear hcb hcbw
  generalize stC (someC 2) = s at *
  go_loopg [6] 200 (fun g s6 wr => ∃ (i : Nat) (c : Nat → Int) (s : DS) (l : List Rn), s6 = .int .i64 i ∧ i ≤ 130 ∧ g = 200 - i ∧ Hid (PInv rep w wr kb cb c s l))
  case atStart => exact ⟨0, fun _ => 0, s, [], rfl, by omega, rfl, HP.out⟩
  case round =>
    clear HP HS
    obtain ⟨i, c, s, l, rfl, hi, rfl, HP⟩ := hrel
    go_upto_region 6 with fail
    go_cut [34] from 26 to 122 (fun s34 wx => s34 = .bool (decide (i + 2 < len ∧ i < 120)) ∧ wx = wr)
    case first =>
      by_cases h1 : i + 2 < len
      · by_cases h2 : i < 120
        · go_wp2
          go_meet
          case rel => exact ⟨by simp [h1, h2]; omega, rfl⟩
        · go_wp2
          go_meet
          case rel => exact ⟨by simp [h1, h2]; omega, rfl⟩
      · go_wp2
        go_meet
        case rel => exact ⟨by simp [h1], rfl⟩
    case rest =>
    obtain ⟨rfl, hw⟩ := hcut
    subst wc
    by_cases hlt : i + 2 < len ∧ i < 120
    · rw [show decide (i + 2 < len ∧ i < 120) = true from decide_eq_true hlt]
      obtain ⟨hl1, hl2⟩ := hlt
      obtain ⟨rb, ro, z0, rfl, hrb, hz0, hz0a, hz0b⟩ := HR.out i (by omega)
      obtain ⟨rb', ro', z1, e1, _, hz1, hz1a, hz1b⟩ := HR.out (i + 1) (by omega)
      cases e1
      obtain ⟨rb', ro', z2, e1, _, hz2, hz2a, hz2b⟩ := HR.out (i + 2) (by omega)
      cases e1
      have bz := HP.out.b.size
      have c0 : wr.cell? ⟨rb, ro + i, none⟩ = some (.int .i64 z0) := (HP.out.b.cell (p := ⟨rb, ro + i, none⟩) hrb).trans hz0
      have c1 : wr.cell? ⟨rb, ro + (i + 1), none⟩ = some (.int .i64 z1) := (HP.out.b.cell (p := ⟨rb, ro + (i + 1), none⟩) hrb).trans hz1
      have c2 : wr.cell? ⟨rb, ro + (i + 2), none⟩ = some (.int .i64 z2) := (HP.out.b.cell (p := ⟨rb, ro + (i + 2), none⟩) hrb).trans hz2
      have HZ := Hid.mk (And.intro (And.intro hz0a hz0b) (And.intro (And.intro hz1a hz1b) (And.intro hz2a hz2b)))
      clear hz0 hz1 hz2 hz0a hz0b hz1a hz1b hz2a hz2b
      go_wp2_with fail
      refine (pick_any (c := z0) (n := 3) (w := wr) HZ.out.1.1 HZ.out.1.2 (by omega) (by omega)).mono ?_
      rintro e w' ⟨k, rfl, hk0, hk1, hw'⟩
      subst w'
      go_wp2_with fail
      refine (pick_any (c := z1) (n := 64) (w := wr) HZ.out.2.1.1 HZ.out.2.1.2 (by omega) (by omega)).mono ?_
      rintro e w' ⟨f, rfl, hf0, hf1, hw'⟩
      subst w'
      obtain ⟨f, rfl⟩ : ∃ m : Nat, f = m := ⟨f.toNat, by omega⟩
      go_wp2_with fail
      refine (pick_any (c := z2) (n := 12) (w := wr) HZ.out.2.2.1 HZ.out.2.2.2 (by omega) (by omega)).mono ?_
      rintro e w' ⟨p, rfl, hp0, hp1, hw'⟩
      subst w'
      obtain ⟨p, rfl⟩ : ∃ m : Nat, p = m := ⟨p.toNat, by omega⟩
      go_upto_if 61 with fail
      go_cut [9] from 26 to 122 (fun s9 wx => ∃ n : Nat, s9 = .int .i64 n ∧ 1 ≤ n ∧ n ≤ 12 ∧ wx = wr)
      case first =>
        by_cases hz : z2.tmod 4 = 0
        · go_wp2
          go_meet
          case rel => exact ⟨1, rfl, by omega, by omega, rfl⟩
        · go_wp2
          go_meet
          case rel => exact ⟨1 + p, by go_num, by omega, by omega, rfl⟩
      case rest =>
        obtain ⟨n0, rfl, hn1, hn2, hw⟩ := hcut
        subst wc
        clear c0 c1 c2 HZ
        go_upto_if 65 with fail
        go_cut [9] from 26 to 122 (fun s9 wx => ∃ n : Nat, s9 = .int .i64 n ∧ 1 ≤ n ∧ f + n ≤ 64 ∧ wx = wr)
        case first =>
          by_cases hz : f + n0 ≤ 64
          · go_wp2
            go_meet
            case rel => exact ⟨n0, rfl, by omega, by omega, rfl⟩
          · go_wp2
            go_meet
            case rel => exact ⟨64 - f, by go_num, by omega, by omega, rfl⟩
        case rest =>
          obtain ⟨n, rfl, hn3, hn4, hw⟩ := hcut
          subst wc
          clear hn1 hn2 n0
          have hA := HP.out.a
          go_upto_region 15 with fail
          refine wp_region_lit ?_
          refine wpList_load_arr rfl _ rfl cb rfl hA ?_
          go_wp2_with (refine wpList_store_arr rfl _ _ rfl wr.heap.size c rfl rfl (heap_alloc_new wr _) rfl ?_)
          intro W1 hW1 hK1 hS1
          have HQ := Hid.mk (QInv.of K HP.out hW1 hK1)
          have hwb : wr.heap.size ≠ cb := by have := hA.lt; omega
          have hpt := HP.out.p
          have hsp := HP.out.s
          have HPT := Hid.mk hpt
          have HSP := Hid.mk hsp
          clear hpt hsp hA hW1 hK1 hS1 HP
          generalize wr.heap.size = wb at *
          go_wp2_with fail
          go_loopg [11] (70 - f) (fun g s11 wq => ∃ q : Nat, s11 = .int .i64 q ∧ f ≤ q ∧ q ≤ f + n ∧ g = 70 - q ∧ Hid (QInv rep w wq kb cb wb c (paintN c f q k) s))
          case atStart => exact ⟨f, rfl, by omega, by omega, rfl, by rw [paintN_start]; exact HQ.out⟩
          case round =>
            clear HQ
            obtain ⟨q, rfl, hq1, hq2, rfl, HQ⟩ := hrel
            by_cases hlt : q < f + n
            · have x1 := HQ.out.a.cell (j := q) (by omega)
              have x2 := HQ.out.a.frozen q
              go_wp2
              go_roundg (70 - (q + 1))
              case measure => omega
              case rel => exact ⟨q + 1, by go_num, by omega, by omega, rfl, by rw [← paintN_step _ _ _ _ hq1]; exact HQ.out.set K hcw hwb q (by omega) k⟩
            · obtain rfl : q = f + n := by omega
              go_wp2
              have hcp := HPT.out.set (f := f) (n := n) (k := k) (by omega) (by omega) (by omega) (by omega)
              have hcq := paint_eq c f n k
              obtain ⟨c', hc'⟩ : ∃ c', c' = paint c f n k := ⟨_, rfl⟩
              rw [← hc'] at hcp hcq
              rw [← hcq] at HQ
              have HPC := Hid.mk hcp
              have HCE := Hid.mk hc'
              clear hcp hcq hc'
              go_loopg [12, 13] 70 (fun g s12 s13 wq => ∃ m : Nat, s12 = .int .i64 (cntB c' m) ∧ s13 = .int .i64 m ∧ m ≤ 64 ∧ g = 70 - m ∧ Hid (QInv rep w wq kb cb wb c c' s))
              case atStart => exact ⟨0, rfl, rfl, by omega, rfl, HQ.out⟩
              case round =>
                clear HQ
                obtain ⟨m, rfl, rfl, hm, rfl, HQ⟩ := hrel
                by_cases hlt : m < 64
                · have hle := cntB_le c' m
                  have x1 := HQ.out.a.cell (j := m) hlt
                  by_cases h0 : c' m = 0
                  · rw [h0] at x1
                    have hN := start_no (c := c') (m := m) (fun h => h.1 h0)
                    clear h0
                    go_upto_region 24 with fail
                    go_quiet (fail)
                    go_wp2
                    go_roundg (70 - (m + 1))
                    case measure => omega
                    case rel => exact ⟨m + 1, by rw [hN], by go_num, by omega, rfl, HQ.out.drew K _⟩
                  · have h0' : (c' m != 0) = true := by simpa using h0
                    by_cases hm0 : m = 0
                    · have hN := start_yes (c := c') (m := m) ⟨h0, Or.inl hm0⟩
                      subst hm0
                      go_upto_region 24 with fail
                      go_quiet (fail)
                      go_wp2
                      go_roundg (70 - (0 + 1))
                      case measure => omega
                      case rel => exact ⟨0 + 1, by rw [hN]; go_num, by go_num, by omega, rfl, HQ.out.drew K _⟩
                    · have x2 := HQ.out.a.cell (j := m - 1) (by omega)
                      have x3 : ((m : Int) == 0) = false := by simp; omega
                      have x4 : 1 ≤ m := by omega
                      by_cases he : c' (m - 1) = c' m
                      · have hN := start_no (c := c') (m := m) (fun h => h.2.elim hm0 (fun x => x he))
                        have he' : (c' (m - 1) != c' m) = false := by simpa using he
                        go_upto_region 24 with fail
                        go_quiet (fail)
                        go_wp2
                        go_roundg (70 - (m + 1))
                        case measure => omega
                        case rel => exact ⟨m + 1, by rw [hN], by go_num, by omega, rfl, HQ.out.drew K _⟩
                      · have hN := start_yes (c := c') (m := m) ⟨h0, Or.inr he⟩
                        have he' : (c' (m - 1) != c' m) = true := by simpa using he
                        go_upto_region 24 with fail
                        go_quiet (fail)
                        go_wp2
                        go_roundg (70 - (m + 1))
                        case measure => omega
                        case rel => exact ⟨m + 1, by rw [hN]; go_num, by go_num, by omega, rfl, HQ.out.drew K _⟩
                · obtain rfl : m = 64 := by omega
                  have hle := cntB_le c' 64
                  go_wp2_with fail
                  obtain ⟨PQ, hkq, hnq, hmq⟩ := HQ.out.k
                  obtain ⟨E, s2, hst, hor⟩ := HSP.out.lock HPT.out k f n (by omega) (by omega) (by omega) (by omega)
                  refine (hkq.at' K (.lock 0 0 k f n _) (by simp only [Cl.rng, i64]; omega) (hst _)).mono ?_
                  rintro e w2 ⟨P2, a2, cp2, rfl, hk2, hu2⟩
                  have HQ2 := Hid.mk (HQ.out.upd K hnq hmq hk2 hu2)
                  rw [← HCE.out] at hor
                  clear HQ hk2 hu2 hkq hnq hmq hst
                  rcases hor with ⟨hN, rfl, hs2⟩ | ⟨hN, rfl, hs2⟩
                  · have HS2 := Hid.mk hs2
                    clear hs2
                    go_wp2_with fail
                    refine (isF 9 0 9 a2 0 cp2 _).mono ?_
                    simp only [decide_true, Bool.and_self]
                    rintro e w3 ⟨rfl, hb3⟩
                    have HQ3 := Hid.mk (HQ2.out.below K (((Below.refl _ _).alloc (Nat.le_refl _) _).trans (hb3.mono (by simp))))
                    clear hb3 HQ2
                    have hO := HQ3.out.o
                    obtain ⟨C, hC, hCs⟩ := HQ3.out.a.block
                    go_wp2_with (first | refine wpList_load_arr rfl _ rfl wb rfl hO ?_ | refine wpList_store_arr rfl _ _ rfl cb c rfl rfl hC hCs ?_)
                    intro W4 hW4 hK4 hS4
                    have HQ4 := Hid.mk (HQ3.out.back K hcw hwb hW4 hK4 hS4)
                    clear hW4 hK4 hS4 hO hC hCs
                    go_wp2
                    go_roundg (200 - (i + 3))
                    case measure => omega
                    case rel => exact ⟨i + 3, c, s2, l, by go_num, by omega, rfl, ⟨by obtain ⟨P, h1, h2, _⟩ := HQ4.out.k; exact ⟨P, h1, h2⟩, HS2.out, HPT.out, HQ4.out.a⟩⟩
                  · have HS2 := Hid.mk hs2
                    clear hs2
                    go_wp2_with fail
                    refine (okF 0 0 0 a2 0 cp2 _).mono ?_
                    simp only [decide_true, Bool.and_self]
                    rintro e w3 ⟨rfl, hb3⟩
                    have HQ3 := Hid.mk (HQ2.out.below K (((Below.refl _ _).alloc (Nat.le_refl _) _).trans (hb3.mono (by simp))))
                    clear hb3 HQ2
                    go_wp2
                    go_roundg (200 - (i + 3))
                    case measure => omega
                    case rel => exact ⟨i + 3, c', s2, _, by go_num, by omega, rfl, ⟨by obtain ⟨P, h1, h2, _⟩ := HQ3.out.k; exact ⟨P, h1, h2⟩, HS2.out, HPC.out, HQ3.out.a⟩⟩
    · rw [show decide (i + 2 < len ∧ i < 120) = false from decide_eq_false hlt]
      clear hlt
      go_wp2_with fail
      obtain ⟨PQ, hkq, hnq⟩ := HP.out.k
      refine (hkq.runs K 0 (by simp [i64]) (l := l) (by unfold DS.runs; rw [if_pos (show fileB 0 = true from rfl)]; exact HP.out.s.r)).mono ?_
      rintro e w4 ⟨P4, ga, cp, rfl, hr4, _, hk4, hu4⟩
      obtain ⟨hga, hrw⟩ := rrow_row hr4
      have HT : Hid (TInv w w4 cb c ga l) := Hid.mk ⟨HP.out.a.of_block (hu4.block _ HP.out.a.lt hnq), hrw, hk4.b⟩
      clear hrw
      have HPT := Hid.mk HP.out.p
      have hll : l.length ≤ 64 := by rw [← HPT.out.count]; exact cntB_le _ _
      clear hr4 hk4 hu4 hkq hnq HP HR
      go_wp2
      go_loopg [17, 19] 100 (fun g s17 s19 wq => ∃ (i a : Nat), s17 = .int .i64 a ∧ s19 = .int .i64 i ∧ (a : Int) = behind l i ∧ i ≤ l.length ∧ g = 100 - i ∧ Hid (TInv w wq cb c ga l))
      case atStart => exact ⟨0, 0, rfl, rfl, rfl, by omega, rfl, HT.out⟩
      case round =>
        clear HT
        obtain ⟨i, a, rfl, rfl, ha, hi, rfl, HT⟩ := hrel
        by_cases hlt : i < l.length
        · obtain ⟨x, hx⟩ : ∃ x, l[i]? = some x := ⟨l[i], List.getElem?_eq_getElem hlt⟩
          obtain ⟨gb, rfl⟩ := hga (by omega)
          obtain ⟨x0, x1, x2, x3⟩ := HT.out.r gb rfl i x hx
          have hfine := HPT.out.wf.ok x (List.mem_of_getElem? hx)
          unfold Rn.fine at hfine
          have hxp := HPT.out.proc (List.mem_of_getElem? hx)
          rw [hxp] at x0
          have hbl := HPT.out.behind_le hx
          rw [← ha] at hbl
          have y1 : decide (x.t < x.f) = false := decide_eq_false (by omega)
          have y2 : decide (x.f < (a : Int)) = false := decide_eq_false (by omega)
          have y3 : decide (63 < x.t) = false := decide_eq_false (by omega)
          have HX := Hid.mk (And.intro hx (And.intro hfine (And.intro hbl ha)))
          clear hxp hbl ha
          go_upto_region 40 with fail
          go_cut [199] from 125 to 236 (fun s199 wx => s199 = .bool false ∧ ∃ N, wx = wr.drewN N)
          case first =>
            simp only [List.append]
            by_cases hi0 : i = 0
            · subst hi0
              as_aux_lemma =>
                go_big_quiet (fail)
                go_wp2
                go_meet
                case rel => exact ⟨rfl, _, rfl⟩
            · have i1 : decide ((0 : Int) < (i : Int)) = true := decide_eq_true (by omega)
              have i2 : 1 ≤ i := by omega
              have i5 : decide (0 < i) = true := decide_eq_true (by omega)
              have i6 : 0 < i := by omega
              obtain ⟨y, hy⟩ : ∃ y, l[i - 1]? = some y := ⟨l[i - 1], List.getElem?_eq_getElem (by omega)⟩
              obtain ⟨w0, w1, w2, w3⟩ := HT.out.r gb rfl (i - 1) y hy
              have hyf := HPT.out.wf.ok y (List.mem_of_getElem? hy)
              unfold Rn.fine at hyf
              have hord := HPT.out.order (a := i - 1) (b := i) (by omega) hy HX.out.1
              have HO := Hid.mk hord
              clear hord hy
              by_cases he : y.t + 1 = x.f
              · have i3 : (y.t + 1 == x.f) = true := by simpa using he
                have i4 : (y.k == x.k) = false := by simpa using HO.out.2 he
                as_aux_lemma =>
                  go_big_quiet (fail)
                  go_wp2
                  go_meet
                  case rel => exact ⟨rfl, _, rfl⟩
              · have i3 : (y.t + 1 == x.f) = false := by simpa using he
                as_aux_lemma =>
                  go_big_quiet (fail)
                  go_wp2
                  go_meet
                  case rel => exact ⟨rfl, _, rfl⟩
          case rest =>
            obtain ⟨rfl, N, hw⟩ := hcut
            have HT2 : Hid (TInv w wc cb c (some ⟨gb, 0, none⟩) l) := by rw [hw]; exact HT.out.drew N
            clear hw HT x0 x1 x2 x3 y1 y2 y3
            go_wp2
            go_loopg [17] (100 - a) (fun g s17 wq => ∃ b : Nat, s17 = .int .i64 b ∧ a ≤ b ∧ (b : Int) ≤ x.f ∧ g = 100 - b ∧ wq = wc)
            case atStart => exact ⟨a, rfl, Nat.le_refl _, HX.out.2.2.1.1, rfl, rfl⟩
            case round =>
              obtain ⟨b, rfl, hb1, hb2, rfl, hw⟩ := hrel
              subst hw
              obtain ⟨x0, x1, x2, x3⟩ := HT2.out.r gb rfl i x HX.out.1
              by_cases hbf : (b : Int) < x.f
              · have hz : c b = 0 := by
                  have hh := HX.out.2.2
                  exact HPT.out.gap (i := i) (by omega) (by omega) (fun x' hx' => by rw [HX.out.1] at hx'; cases hx'; exact hbf) hi
                have q1 := HT2.out.a.cell (j := b) (by omega)
                rw [hz] at q1
                go_wp2
                go_roundg (100 - (b + 1))
                case measure => omega
                case rel => exact ⟨b + 1, by go_num, by omega, by omega, rfl, rfl⟩
              · have hbe : (b : Int) = x.f := by omega
                clear x0 x1 x2 x3 hbf hb1 hb2
                have hbe' : (x.f : Int) ≤ b ∧ (b : Int) ≤ x.t + 1 := by omega
                clear hbe
                obtain ⟨x0, x1, x2, x3⟩ := HT2.out.r gb rfl i x HX.out.1
                have hnl : decide ((b : Int) < x.f) = false := decide_eq_false (by omega)
                go_wp2
                clear hnl x0 x1 x2 x3
                go_loopg [17] (100 - b) (fun g s17 wq => ∃ d : Nat, s17 = .int .i64 d ∧ x.f ≤ (d : Int) ∧ (d : Int) ≤ x.t + 1 ∧ g = 100 - d ∧ Hid (TInv w wq cb c (some ⟨gb, 0, none⟩) l))
                case atStart => exact ⟨b, rfl, hbe'.1, hbe'.2, rfl, HT2.out⟩
                case round =>
                  clear HT2
                  obtain ⟨d, rfl, hd1, hd2, rfl, HT⟩ := hrel
                  obtain ⟨x0, x1, x2, x3⟩ := HT.out.r gb rfl i x HX.out.1
                  by_cases hdt : (d : Int) ≤ x.t
                  · have hz : c d = x.k := HPT.out.at (List.mem_of_getElem? HX.out.1) hd1 hdt
                    have q1 := HT.out.a.cell (j := d) (by omega)
                    rw [hz] at q1
                    have k1 : (x.k != x.k) = false := by simp
                    have k2 : (x.k == 0) = false := by simp; omega
                    clear hz
                    go_upto_region 47 with fail
                    go_quiet (fail)
                    go_wp2
                    go_roundg (100 - (d + 1))
                    case measure => omega
                    case rel => exact ⟨d + 1, by go_num, by omega, by omega, rfl, HT.out.drew _⟩
                  · have hde : (d : Int) = x.t + 1 := by omega
                    have hnl : decide ((d : Int) ≤ x.t) = false := decide_eq_false hdt
                    go_wp2
                    go_roundg (100 - (i + 1))
                    case measure => omega
                    case rel => exact ⟨i + 1, d, by rw [hde], by go_num, by rw [behind_succ HX.out.1]; exact hde, by omega, rfl, HT.out⟩
        · obtain rfl : i = l.length := by omega
          go_wp2
          go_loopg [17] (100 - a) (fun g s17 wq => ∃ b : Nat, s17 = .int .i64 b ∧ a ≤ b ∧ b ≤ a + 100 ∧ g = 100 - b ∧ wq = wr)
          case atStart => exact ⟨a, rfl, Nat.le_refl _, by omega, rfl, rfl⟩
          case round =>
            obtain ⟨b, rfl, hb1, hb2, rfl, hw⟩ := hrel
            subst hw
            by_cases hbf : b < 64
            · have hz : c b = 0 := HPT.out.gap (i := l.length) hbf (by omega) (fun x' hx' => by rw [List.getElem?_eq_none (Nat.le_refl _)] at hx'; cases hx') (Nat.le_refl _)
              have q1 := HT.out.a.cell (j := b) hbf
              rw [hz] at q1
              clear hz
              go_wp2
              go_roundg (100 - (b + 1))
              case measure => omega
              case rel => exact ⟨b + 1, by go_num, by omega, by omega, rfl, rfl⟩
            · go_wp2
              go_ret
              exact ⟨rfl, HT.out.b⟩
end
end Go.Proofs.YtaicdjhblbobbaaGreat
