/- The book takes a list of Runs. -/
import Derived.Test.YtaicdjhblbobbaaGreatPDeskG
import Derived.Test.YtaicdjhblbobbaaGreatPKCall
import Derived.Test.YtaicdjhblbobbaaGreatPWake
import Derived.Deep.RegionLaw
namespace Go.Proofs.YtaicdjhblbobbaaGreat
open Go.RowKit Go.Lib

theorem marksR1 (m : Int) : (#[.int .i64 m, .int .i64 0, .int .i64 0, .int .i64 0] : Array Value).toList = marks (csR m) 1 := by
  have h : List.range (1 * (csR m).length) = [0, 1, 2, 3] := rfl
  unfold marks
  rw [h]
  simp [csR]
theorem marksR2 (m : Int) : (#[.int .i64 m, .int .i64 0, .int .i64 0, .int .i64 0, .int .i64 m, .int .i64 0, .int .i64 0, .int .i64 0] : Array Value).toList = marks (csR m) 2 := by
  have h : List.range (2 * (csR m).length) = [0, 1, 2, 3, 4, 5, 6, 7] := rfl
  unfold marks
  rw [h]
  simp [csR]
theorem marksR3 (m : Int) : (#[.int .i64 m, .int .i64 0, .int .i64 0, .int .i64 0, .int .i64 m, .int .i64 0, .int .i64 0, .int .i64 0, .int .i64 m, .int .i64 0, .int .i64 0, .int .i64 0] : Array Value).toList = marks (csR m) 3 := by
  have h : List.range (3 * (csR m).length) = [0, 1, 2, 3, 4, 5, 6, 7, 8, 9, 10, 11] := rfl
  unfold marks
  rw [h]
  simp [csR]
theorem Tryz.infoRB : (Tryz.prog.info? 121).map (fun i => (i.zero, i.size, i.bytes)) = some (some (.agg #[.slice none 0 0, .slice none 0 0, .slice none 0 0, .slice none 0 0, .int .i64 0]), 5, 104) := by kernel_rfl
set_option maxHeartbeats 16000000 in
set_option maxRecDepth 100000 in
theorem bR {w : World} {wb : Nat} {P : Nat → Prop} {N : Nat} {ks ds : List Nat} {xv yv iv dv rv fv : Value} {n : Int} {ei ed er ef : List En} (h : WB w wb P N ks ds xv yv iv dv rv fv n ei ed er ef) (hN : N ≤ 1000000000) {base k : Nat} {v : Value} {xs : List Value} (hv : w.ownsRow base 41 4 v k xs) (hk : k ≤ 1000000) (hfar : ∀ b, v.ownBlock = some b → ¬ P b) :
    Calls Tryz.prog 92 #[.pointer (some ⟨wb, 2, none⟩), v] w fun r w' => r = .returned (.tuple #[]) ∧ BkUpd w w' wb P v (N + 2) ks ds xv yv := by
  have HW := Hid.mk h
  have c2 : w.cell? ⟨wb, 2, none⟩ = some (.int .i64 n) := h.cell 2
  have f2 := h.frozen 2
  have hwb := h.lt
  have hn := h.n0
  have hn1 : 0 ≤ n := hn.1
  have hn2 : n ≤ 1000000000 := by have := hn.2; omega
  have HFAR := Hid.mk hfar
  have HNV : Hid (v.ownBlock ≠ some w.heap.size) := fun e => by have := (hv.lt _ e).2; omega
  obtain ⟨m, hm⟩ : ∃ m, m = 1000 + (n + 1) := ⟨_, rfl⟩
  have HMK : Hid (Mk ((w.setCell ⟨wb, 2, none⟩ (.int .i64 (n + 1))).alloc (.cells #[.int .i64 m, .int .i64 0, .int .i64 0, .int .i64 0] 41)) 41 (csR m) v k 0) := ((Mk.of_own (cs := csR m) hv).blk fun b e => Below.heap_setCell _ _ _ _ fun e2 => hfar b e (by rw [show b = wb from e2]; exact h.pw)).alloc _
  obtain ⟨va, vc, rfl⟩ := own_form hv
  have HKD0 : Hid (KD wb (.slice va k vc) w ((w.setCell ⟨wb, 2, none⟩ (.int .i64 (n + 1))).alloc (.cells #[.int .i64 m, .int .i64 0, .int .i64 0, .int .i64 0] 41))) := ((KD.refl _ _ _).cell (a := ⟨wb, 2, none⟩) (Or.inl rfl) _).alloc _
  have HBK0 : Hid (((w.setCell ⟨wb, 2, none⟩ (.int .i64 (n + 1))).alloc (.cells #[.int .i64 m, .int .i64 0, .int .i64 0, .int .i64 0] 41)).heap[wb]? = some (.cells #[xv, yv, .int .i64 (n + 1), iv, dv, rv, fv] 73 (0, 0))) := (Below.heap_alloc _ _ _ (by simpa using h.lt)).trans (setWB h.blk)
  have HMB0 : Hid (((w.setCell ⟨wb, 2, none⟩ (.int .i64 (n + 1))).alloc (.cells #[.int .i64 m, .int .i64 0, .int .i64 0, .int .i64 0] 41)).heap[w.heap.size]? = some (.cells #[.int .i64 m, .int .i64 0, .int .i64 0, .int .i64 0] 41 (0, 0))) := by
    have hh := heap_alloc_new (w.setCell ⟨wb, 2, none⟩ (.int .i64 (n + 1))) (.cells #[.int .i64 m, .int .i64 0, .int .i64 0, .int .i64 0] 41)
    simp only [World.size_setCell] at hh
    exact hh
  clear h hv hfar hn
  go_enter Tryz.func92, Tryz.ntmps92
  go_wp2
  rw [← hm]
  obtain ⟨w0, hw0⟩ : ∃ w0, w0 = (w.setCell ⟨wb, 2, none⟩ (.int .i64 (n + 1))).alloc (.cells #[.int .i64 m, .int .i64 0, .int .i64 0, .int .i64 0] 41) := ⟨_, rfl⟩
  rw [← hw0] at HMK HKD0 HBK0 HMB0 ⊢
  have HM := Hid.mk hm
  clear hw0 c2 f2 hm
  go_loopw [5] (fun s5 wr => ∃ i : Nat, s5 = .int .i64 i ∧ i ≤ k ∧ Hid (Mk wr 41 (csR m) (.slice va k vc) k i) ∧ Hid (KD wb (.slice va k vc) w wr) ∧ Hid (wr.heap[wb]? = some (.cells #[xv, yv, .int .i64 (n + 1), iv, dv, rv, fv] 73 (0, 0))) ∧ Hid (wr.heap[w.heap.size]? = some (.cells #[.int .i64 m, .int .i64 0, .int .i64 0, .int .i64 0] 41 (0, 0)))) (fun s5 _ => k - (intOf s5).toNat)
  case atStart => exact ⟨0, rfl, Nat.zero_le _, HMK.out, HKD0.out, HBK0.out, HMB0.out⟩
  case round =>
    clear HMK HKD0 HBK0 HMB0
    obtain ⟨i, rfl, hi, HMK, HKD, HBK, HMB⟩ := hrel
    have hmb := HMB.out
    have hwl : w.heap.size < wr.heap.size := (Array.getElem?_eq_some_iff.1 hmb).1
    have q0 : wr.cell? ⟨w.heap.size, 0, none⟩ = some (.int .i64 m) := by simp only [World.cell?, hmb]; rfl
    have q1 : wr.cell? ⟨w.heap.size, 1, none⟩ = some (.int .i64 0) := by simp only [World.cell?, hmb]; rfl
    have q2 : wr.cell? ⟨w.heap.size, 2, none⟩ = some (.int .i64 0) := by simp only [World.cell?, hmb]; rfl
    have q3 : wr.cell? ⟨w.heap.size, 3, none⟩ = some (.int .i64 0) := by simp only [World.cell?, hmb]; rfl
    clear hmb
    by_cases hik : i < k
    · have hik' : (i : Int) < (k : Int) := by omega
      obtain ⟨g, cap, he, hg, hkc, _, hsome, hfr⟩ := HMK.out.elem (by omega)
      cases he
      have hl : (csR m).length = 4 := rfl
      obtain ⟨u0, hu0⟩ := Option.isSome_iff_exists.1 (hsome (i * 4) (by rw [hl]; omega))
      have hf0 := hfr (i * 4)
      obtain ⟨u1, hu1⟩ := Option.isSome_iff_exists.1 (hsome (i * 4 + 1) (by rw [hl]; omega))
      have hf1 := hfr (i * 4 + 1)
      obtain ⟨u2, hu2⟩ := Option.isSome_iff_exists.1 (hsome (i * 4 + 2) (by rw [hl]; omega))
      have hf2 := hfr (i * 4 + 2)
      obtain ⟨u3, hu3⟩ := Option.isSome_iff_exists.1 (hsome (i * 4 + 3) (by rw [hl]; omega))
      have hf3 := hfr (i * 4 + 3)
      have hgw : g ≠ wb := fun e => HFAR.out g rfl (by rw [e]; exact HW.out.pw)
      have hgs : g ≠ w.heap.size := fun e => HNV.out (by rw [← e]; rfl)
      have HSET : Hid (Mk ((((wr.setCell ⟨g, i * 4, none⟩ (.int .i64 m)).setCell ⟨g, i * 4 + 1, none⟩ (.int .i64 0)).setCell ⟨g, i * 4 + 2, none⟩ (.int .i64 0)).setCell ⟨g, i * 4 + 3, none⟩ (.int .i64 0)) 41 (csR m) (.slice (some ⟨g, 0, none⟩) k vc) k (i + 1)) := mk_setN HMK.out hik (by show 0 < 4; decide)
      clear hsome hfr hl
      go_wp2
      go_roundw
      case rel => exact ⟨i + 1, by go_num, by omega, HSET.out, ((((HKD.out.cell (a := ⟨g, i * 4, none⟩) (Or.inr rfl) _).cell (a := ⟨g, i * 4 + 1, none⟩) (Or.inr rfl) _).cell (a := ⟨g, i * 4 + 2, none⟩) (Or.inr rfl) _).cell (a := ⟨g, i * 4 + 3, none⟩) (Or.inr rfl) _), (Below.heap_setCell _ _ _ _ (fun e => hgw e.symm)).trans ((Below.heap_setCell _ _ _ _ (fun e => hgw e.symm)).trans ((Below.heap_setCell _ _ _ _ (fun e => hgw e.symm)).trans ((Below.heap_setCell _ _ _ _ (fun e => hgw e.symm)).trans (HBK.out)))), (Below.heap_setCell _ _ _ _ (fun e => hgs e.symm)).trans ((Below.heap_setCell _ _ _ _ (fun e => hgs e.symm)).trans ((Below.heap_setCell _ _ _ _ (fun e => hgs e.symm)).trans ((Below.heap_setCell _ _ _ _ (fun e => hgs e.symm)).trans (HMB.out))))⟩
      case measure => simp [intOf]; omega
    · obtain rfl : i = k := by omega
      have HAP0 := Hid.mk (AP.start (te := 121) HMK.out HKD.out HBK.out #[.slice va i vc, .slice none 0 0, .slice none 0 0, .slice none 0 0, .int .i64 m])
      have HMB0 : Hid ((wr.alloc (.cells #[.slice va i vc, .slice none 0 0, .slice none 0 0, .slice none 0 0, .int .i64 m] 121)).heap[w.heap.size]? = some (.cells #[.int .i64 m, .int .i64 0, .int .i64 0, .int .i64 0] 41 (0, 0))) := (Below.heap_alloc _ _ _ hwl).trans HMB.out
      go_wp2_with (first
        | (at_builtin; refine wpList_marks rfl _ _ _ rfl Tryz.underlying38 Tryz.infoApiRun rfl (by decide) (by decide) (cs := csR m) rfl (by simp [csR, Value.oneCell']) rfl HAP0.out.hv (by omega) (m := 1) (by omega) (X := #[.int .i64 m, .int .i64 0, .int .i64 0, .int .i64 0]) rfl (by simp) (marksR1 m) ?_; intro v1 w1 hm1 hall1 hb1 hz1 hold1 hwh1; obtain ⟨a1, c1, rfl⟩ := hm1.form; obtain ⟨bc1, bf1⟩ := HAP0.out.cell (by decide) hold1 1; have hmb1 := (hold1 w.heap.size (Array.getElem?_eq_some_iff.1 HMB0.out).1 HNV.out).trans HMB0.out; have q10 : w1.cell? ⟨w.heap.size, 0, none⟩ = some (.int .i64 m) := (by simp only [World.cell?, hmb1]; rfl); have q11 : w1.cell? ⟨w.heap.size, 1, none⟩ = some (.int .i64 0) := (by simp only [World.cell?, hmb1]; rfl); have q12 : w1.cell? ⟨w.heap.size, 2, none⟩ = some (.int .i64 0) := (by simp only [World.cell?, hmb1]; rfl); have q13 : w1.cell? ⟨w.heap.size, 3, none⟩ = some (.int .i64 0) := (by simp only [World.cell?, hmb1]; rfl); have HMB1 : Hid ((w1.setCell ⟨wr.heap.size, 1, none⟩ (.slice a1 (i + 1) c1)).heap[w.heap.size]? = some (.cells #[.int .i64 m, .int .i64 0, .int .i64 0, .int .i64 0] 41 (0, 0))) := (Below.heap_setCell _ _ _ _ (Nat.ne_of_lt hwl)).trans hmb1; have HAP1 := Hid.mk (HAP0.out.step (by decide) (by decide) (by decide) hm1 hall1 hb1 hz1 hold1 hwh1 1); clear hm1 hall1 hb1 hold1 hwh1 hmb1)
        | (at_builtin; refine wpList_marks rfl _ _ _ rfl Tryz.underlying38 Tryz.infoApiRun rfl (by decide) (by decide) (cs := csR m) rfl (by simp [csR, Value.oneCell']) rfl HAP1.out.hv (by omega) (m := 2) (by omega) (X := #[.int .i64 m, .int .i64 0, .int .i64 0, .int .i64 0, .int .i64 m, .int .i64 0, .int .i64 0, .int .i64 0]) rfl (by simp) (marksR2 m) ?_; intro v2 w2 hm2 hall2 hb2 hz2 hold2 hwh2; obtain ⟨a2, c2, rfl⟩ := hm2.form; obtain ⟨bc2, bf2⟩ := HAP1.out.cell (by decide) hold2 2; have hmb2 := (hold2 w.heap.size (Array.getElem?_eq_some_iff.1 HMB1.out).1 HNV.out).trans HMB1.out; have q20 : w2.cell? ⟨w.heap.size, 0, none⟩ = some (.int .i64 m) := (by simp only [World.cell?, hmb2]; rfl); have q21 : w2.cell? ⟨w.heap.size, 1, none⟩ = some (.int .i64 0) := (by simp only [World.cell?, hmb2]; rfl); have q22 : w2.cell? ⟨w.heap.size, 2, none⟩ = some (.int .i64 0) := (by simp only [World.cell?, hmb2]; rfl); have q23 : w2.cell? ⟨w.heap.size, 3, none⟩ = some (.int .i64 0) := (by simp only [World.cell?, hmb2]; rfl); have HMB2 : Hid ((w2.setCell ⟨wr.heap.size, 2, none⟩ (.slice a2 (i + 2) c2)).heap[w.heap.size]? = some (.cells #[.int .i64 m, .int .i64 0, .int .i64 0, .int .i64 0] 41 (0, 0))) := (Below.heap_setCell _ _ _ _ (Nat.ne_of_lt hwl)).trans hmb2; have HAP2 := Hid.mk (HAP1.out.step (by decide) (by decide) (by decide) hm2 hall2 hb2 hz2 hold2 hwh2 2); clear hm2 hall2 hb2 hold2 hwh2 hmb2)
        | (at_builtin; refine wpList_marks rfl _ _ _ rfl Tryz.underlying38 Tryz.infoApiRun rfl (by decide) (by decide) (cs := csR m) rfl (by simp [csR, Value.oneCell']) rfl HAP2.out.hv (by omega) (m := 3) (by omega) (X := #[.int .i64 m, .int .i64 0, .int .i64 0, .int .i64 0, .int .i64 m, .int .i64 0, .int .i64 0, .int .i64 0, .int .i64 m, .int .i64 0, .int .i64 0, .int .i64 0]) rfl (by simp) (marksR3 m) ?_; intro v3 w3 hm3 hall3 hb3 hz3 hold3 hwh3; obtain ⟨a3, c3, rfl⟩ := hm3.form; obtain ⟨bc3, bf3⟩ := HAP2.out.cell (by decide) hold3 3; have hmb3 := (hold3 w.heap.size (Array.getElem?_eq_some_iff.1 HMB2.out).1 HNV.out).trans HMB2.out; have q30 : w3.cell? ⟨w.heap.size, 0, none⟩ = some (.int .i64 m) := (by simp only [World.cell?, hmb3]; rfl); have q31 : w3.cell? ⟨w.heap.size, 1, none⟩ = some (.int .i64 0) := (by simp only [World.cell?, hmb3]; rfl); have q32 : w3.cell? ⟨w.heap.size, 2, none⟩ = some (.int .i64 0) := (by simp only [World.cell?, hmb3]; rfl); have q33 : w3.cell? ⟨w.heap.size, 3, none⟩ = some (.int .i64 0) := (by simp only [World.cell?, hmb3]; rfl); have HMB3 : Hid ((w3.setCell ⟨wr.heap.size, 3, none⟩ (.slice a3 (i + 3) c3)).heap[w.heap.size]? = some (.cells #[.int .i64 m, .int .i64 0, .int .i64 0, .int .i64 0] 41 (0, 0))) := (Below.heap_setCell _ _ _ _ (Nat.ne_of_lt hwl)).trans hmb3; have HAP3 := Hid.mk (HAP2.out.step (by decide) (by decide) (by decide) hm3 hall3 hb3 hz3 hold3 hwh3 3); clear hm3 hall3 hb3 hold3 hwh3 hmb3))
      have hli : er.length ≤ 1000000000 := by have := HW.out.lr; omega
      obtain ⟨ia, ic, hie⟩ := own_form HW.out.r.own
      subst hie
      have HWN : Hid (0 ≤ n + 1 ∧ n + 1 ≤ ((N + 1 : Nat) : Int)) := by have := HW.out.n0; exact ⟨by omega, by omega⟩
      have hap3 := HAP3.out
      have hw3 := HW.out.turn (N' := N + 1) (P' := fun b => P b ∨ Value.ownBlock (.slice va i vc) = some b ∨ w.heap.size ≤ b) hap3.kd HFAR.out (fun b hb => Or.inl hb) hap3.hwb HWN.out (by omega)
      have hen := hap3.entry (csf := csR) (P := P) hk
      have hbx : (w3.setCell ⟨wr.heap.size, 3, none⟩ (.slice a3 (i + 3) c3)).heap[wr.heap.size]? = some (.cells #[.slice va i vc, .slice a1 (i + 1) c1, .slice a2 (i + 2) c2, .slice a3 (i + 3) c3, .int .i64 m] 121 (0, 0)) := hap3.hbx
      have HKD3 := Hid.mk hap3.kd
      have hbl : wr.heap.size < ((w3.setCell ⟨wr.heap.size, 3, none⟩ (.slice a3 (i + 3) c3))).heap.size := (Array.getElem?_eq_some_iff.1 hbx).1
      clear hap3 HAP0 HAP1 HAP2 HAP3
      generalize w3.setCell ⟨wr.heap.size, 3, none⟩ (.slice a3 (i + 3) c3) = W3 at *
      have y0 : W3.cell? ⟨wr.heap.size, 0, none⟩ = some (.slice va i vc) := by simp only [World.cell?, hbx]; rfl
      have y1 : W3.cell? ⟨wr.heap.size, 1, none⟩ = some (.slice a1 (i + 1) c1) := by simp only [World.cell?, hbx]; rfl
      have y2 : W3.cell? ⟨wr.heap.size, 2, none⟩ = some (.slice a2 (i + 2) c2) := by simp only [World.cell?, hbx]; rfl
      have y3 : W3.cell? ⟨wr.heap.size, 3, none⟩ = some (.slice a3 (i + 3) c3) := by simp only [World.cell?, hbx]; rfl
      have y4 : W3.cell? ⟨wr.heap.size, 4, none⟩ = some (.int .i64 m) := by simp only [World.cell?, hbx]; rfl
      have yw : W3.cell? ⟨wb, 5, none⟩ = some (.slice ia er.length ic) := hw3.cell 5
      have hwl := hw3.lt
      have HBX := Hid.mk hbx
      have HW3 := Hid.mk hw3
      have HEN := Hid.mk hen
      clear hbx hw3 hen
      have HWD : Hid (WB (W3.alloc (.cells #[.slice va i vc, .slice a1 (i + 1) c1, .slice a2 (i + 2) c2, .slice a3 (i + 3) c3, .int .i64 m] 121)).drew wb (fun b => P b ∨ Value.ownBlock (.slice va i vc) = some b ∨ w.heap.size ≤ b) (N + 1) ks ds xv yv iv dv (.slice ia er.length ic) fv (n + 1) ei ed er ef) := HW3.out.frame fun b hp hb => ⟨Below.heap_alloc _ _ _ hb, hp⟩
      have HLIT : Hid ((W3.alloc (.cells #[.slice va i vc, .slice a1 (i + 1) c1, .slice a2 (i + 2) c2, .slice a3 (i + 3) c3, .int .i64 m] 121)).drew.heap[W3.heap.size]? = some (.cells #[.slice va i vc, .slice a1 (i + 1) c1, .slice a2 (i + 2) c2, .slice a3 (i + 3) c3, .int .i64 m] 121 (0, 0))) := heap_alloc_new W3 _
      have HFIN : Hid (∀ (w5 : World) (v5 : Value), w5.ownsRow 0 121 5 v5 (er.length + 1) (flatE er ++ (#[.slice va i vc, .slice a1 (i + 1) c1, .slice a2 (i + 2) c2, .slice a3 (i + 3) c3, .int .i64 m] : Array Value).toList) → Below 0 (W3.alloc (.cells #[.slice va i vc, .slice a1 (i + 1) c1, .slice a2 (i + 2) c2, .slice a3 (i + 3) c3, .int .i64 m] 121)).drew w5 → (W3.alloc (.cells #[.slice va i vc, .slice a1 (i + 1) c1, .slice a2 (i + 2) c2, .slice a3 (i + 3) c3, .int .i64 m] 121)).drew.heap.size ≤ w5.heap.size →
          (∀ b, b < (W3.alloc (.cells #[.slice va i vc, .slice a1 (i + 1) c1, .slice a2 (i + 2) c2, .slice a3 (i + 3) c3, .int .i64 m] 121)).drew.heap.size → Value.ownBlock (.slice ia er.length ic) ≠ some b → w5.heap[b]? = (W3.alloc (.cells #[.slice va i vc, .slice a1 (i + 1) c1, .slice a2 (i + 2) c2, .slice a3 (i + 3) c3, .int .i64 m] 121)).drew.heap[b]?) → (∀ b, v5.ownBlock = some b → Value.ownBlock (.slice ia er.length ic) = some b ∨ (W3.alloc (.cells #[.slice va i vc, .slice a1 (i + 1) c1, .slice a2 (i + 2) c2, .slice a3 (i + 3) c3, .int .i64 m] 121)).drew.heap.size ≤ b) →
          BkUpd w (w5.setCell ⟨wb, 5, none⟩ v5) wb P (.slice va i vc) (N + 2) ks ds xv yv) := fun w5 v5 ho hb hz hold hwh => by
        have hzd : W3.heap.size ≤ (W3.alloc (.cells #[.slice va i vc, .slice a1 (i + 1) c1, .slice a2 (i + 2) c2, .slice a3 (i + 3) c3, .int .i64 m] 121)).drew.heap.size := by
          show W3.heap.size ≤ (W3.alloc _).heap.size
          simp
        have hz3 := HKD3.out.size
        have henD : EnOk (W3.alloc (.cells #[.slice va i vc, .slice a1 (i + 1) c1, .slice a2 (i + 2) c2, .slice a3 (i + 3) c3, .int .i64 m] 121)).drew 41 csR (fun b => P b ∨ Value.ownBlock (.slice va i vc) = some b ∨ w.heap.size ≤ b) ⟨.slice va i vc, .slice a1 (i + 1) c1, .slice a2 (i + 2) c2, .slice a3 (i + 3) c3, m, i⟩ := HEN.out.frame fun u hu b e => by
          obtain ⟨cu, hc⟩ := HEN.out.tag hu e
          exact ⟨Below.heap_alloc _ _ _ (Array.getElem?_eq_some_iff.1 hc).1, HEN.out.p u hu b e⟩
        have hwb := HWD.out.addR (N' := N + 2) (by omega) henD ho hold (fun b e => by
          rcases hwh b e with h1 | h1
          · exact HWD.out.r.pb b h1
          · exact Or.inr (Or.inr (by omega)))
        refine ⟨fun b => (P b ∨ Value.ownBlock (.slice va i vc) = some b ∨ w.heap.size ≤ b) ∧ b < (w5.setCell ⟨wb, 5, none⟩ v5).heap.size, ⟨_, _, _, _, _, _, _, _, _, hwb.frame (fun b hp hb => ⟨rfl, hp, hb⟩)⟩, fun b hp => hp.2, AP.upd (wb := wb) (hb.os.trans HKD3.out.os) (hb.tape.trans HKD3.out.tape) (hb.output.trans HKD3.out.output) (by simp; omega) (fun b hb1 h1 h2 h3 => ?_) HW.out.pw⟩
        refine (Below.heap_setCell _ _ _ _ h1).trans ((hold b (by omega) (fun e => h3 (HW.out.r.pb b e))).trans ?_)
        exact (Below.heap_alloc _ _ _ (by omega)).trans (HKD3.out.block b hb1 h1 h2)
      go_region_law (refine step_snocL rfl _ _ _ rfl Tryz.underlying68 Tryz.infoRB rfl (by decide) (by decide) (v := .slice ia er.length ic) (by simp [Act.eval]) HWD.out.r.own (Nat.zero_le _) (by omega) (cs := #[.slice va i vc, .slice a1 (i + 1) c1, .slice a2 (i + 2) c2, .slice a3 (i + 3) c3, .int .i64 m]) (bb := W3.heap.size) (by simp [Act.eval]) HLIT.out rfl (by simp [Value.oneCell']) ?_; intro v5 w5 ho5 hb5 hz5 hold5 hwh5; obtain ⟨a5, c5, rfl⟩ := own_form ho5; have hwb5 := hold5 wb (by simp; omega) (fun e => by obtain ⟨cu, hc⟩ := own_type HWD.out.r.own e; rw [HWD.out.blk] at hc; cases hc); have b5 : w5.cell? ⟨wb, 5, none⟩ = some (.slice ia er.length ic) := ((World.cell?_of_block (a := ⟨wb, 5, none⟩) hwb5).trans (HWD.out.cell 5)); have f5 : w5.frozen? ⟨wb, 5, none⟩ = false := ((World.frozen?_of_block (a := ⟨wb, 5, none⟩) hwb5).trans (HWD.out.frozen 5)); have HO5 := Hid.mk ho5; have HB5 := Hid.mk hb5; have HL5 := Hid.mk hold5; have HH5 := Hid.mk hwh5; clear ho5 hb5 hold5 hwh5 hwb5)
      all_goals (go_wp2; go_end0; exact ⟨rfl, HFIN.out w5 _ HO5.out HB5.out hz5 HL5.out HH5.out⟩)
end Go.Proofs.YtaicdjhblbobbaaGreat
