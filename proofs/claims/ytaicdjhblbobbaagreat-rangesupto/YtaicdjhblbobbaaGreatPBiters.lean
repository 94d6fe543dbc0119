/- Contract of List.Biters: the processes that have a lock that bites, rising, each once. -/
import Derived.Test.YtaicdjhblbobbaaGreatPSortsB
import Derived.Test.YtaicdjhblbobbaaGreatPPureB
import Derived.Test.YtaicdjhblbobbaaGreatPCut
namespace Go.Proofs.YtaicdjhblbobbaaGreat
open Go.RowKit Go.Lib

theorem Tryz.infoInt : (Tryz.prog.info? 3).map (fun i => (i.zero, i.size, i.bytes)) = some (some (.int .i64 0), 1, 8) := by kernel_rfl
theorem cells_len (r : Rn) : r.cells.length = 4 := rfl
theorem flat_cell {l : List Rn} {i : Nat} {x : Rn} (h : l[i]? = some x) : (flat l)[i * 4]? = some (.int .i64 x.p) ∧ (flat l)[i * 4 + 1]? = some (.int .i64 x.k) ∧ (flat l)[i * 4 + 2]? = some (.int .i64 x.f) ∧ (flat l)[i * 4 + 3]? = some (.int .i64 x.t) :=
  ⟨flat_get Rn.cells 4 cells_len l i 0 x h (by omega), flat_get Rn.cells 4 cells_len l i 1 x h (by omega), flat_get Rn.cells 4 cells_len l i 2 x h (by omega), flat_get Rn.cells 4 cells_len l i 3 x h (by omega)⟩
theorem bitersP_snoc {l : List Rn} {r : Rn} {n : Nat} {x : Rn} (h : l[n]? = some x) : bitersP (l.take (n + 1)) r = bitersP (l.take n) r ++ (if x.bites r = true then [x.p] else []) := by
  unfold bitersP
  rw [List.take_add_one, h, List.filter_append, List.map_append]
  congr 1
  cases hb : x.bites r <;> simp [hb]
theorem bitersP_len (l : List Rn) (r : Rn) : (bitersP l r).length ≤ l.length := by
  unfold bitersP; rw [List.length_map]; exact List.length_filter_le _ _

set_option maxHeartbeats 4000000 in
set_option maxRecDepth 100000 in
theorem Biters_any {v : Value} {l : List Rn} (r : Rn) {w : World} (hv : w.ownsRow 0 129 4 v l.length (flat l)) (hl : l.length < 900) :
    Calls Tryz.prog 77 #[v, .agg #[.int .i64 r.p, .int .i64 r.k, .int .i64 r.f, .int .i64 r.t]] w fun e w' => ∃ v', e = .returned v' ∧ w'.ownsRow w.heap.size 3 1 v' (onceI (bitersP l r)).length (ints (onceI (bitersP l r))) ∧ Below w.heap.size w w' := by
  obtain ⟨a, c, rfl⟩ := own_form hv
  have HV := Hid.mk hv
  clear hv
  go_enter Tryz.func77, Tryz.ntmps77
  go_wp2
  go_loopw [5, 10] (fun s5 s10 wr => ∃ n : Nat, s10 = .int .i64 n ∧ n ≤ l.length ∧ Hid (wr.ownsRow (w.heap.size + 1) 3 1 s5 (bitersP (l.take n) r).length (ints (bitersP (l.take n) r))) ∧ Hid (Below (w.heap.size + 1) (w.alloc (.cells #[.int .i64 r.p, .int .i64 r.k, .int .i64 r.f, .int .i64 r.t] 129)) wr)) (fun _ s10 _ => l.length - (intOf s10).toNat)
  case atStart => exact ⟨0, rfl, Nat.zero_le _, World.ownsRow_nil _ _ _ _, Below.refl _ _⟩
  case round =>
    obtain ⟨n, rfl, hn, HO, HB⟩ := hrel
    have hsz : w.heap.size + 1 ≤ wr.heap.size := by have := HB.out.size; simpa using this
    by_cases hlt : n < l.length
    · obtain ⟨x, hx⟩ : ∃ x, l[n]? = some x := ⟨_, List.getElem?_eq_getElem hlt⟩
      obtain ⟨g, rfl, _, hg, _, hcell⟩ := own_some HV.out (by omega)
      obtain ⟨f0, f1, f2, f3⟩ := flat_cell hx
      have hlt' : (n : Int) < (l.length : Int) := by omega
      have hb1 : Below w.heap.size w wr := ((Below.refl w.heap.size w).alloc (Nat.le_refl _) _).trans (HB.out.mono (Nat.le_succ _))
      have c0 : wr.cell? ⟨g, n * 4, none⟩ = some (.int .i64 x.p) := (hb1.cell (p := ⟨g, n * 4, none⟩) hg).trans ((hcell _ (by omega)).trans f0)
      have c1 : wr.cell? ⟨g, n * 4 + 1, none⟩ = some (.int .i64 x.k) := (hb1.cell (p := ⟨g, n * 4 + 1, none⟩) hg).trans ((hcell _ (by omega)).trans f1)
      have c2 : wr.cell? ⟨g, n * 4 + 2, none⟩ = some (.int .i64 x.f) := (hb1.cell (p := ⟨g, n * 4 + 2, none⟩) hg).trans ((hcell _ (by omega)).trans f2)
      have c3 : wr.cell? ⟨g, n * 4 + 3, none⟩ = some (.int .i64 x.t) := (hb1.cell (p := ⟨g, n * 4 + 3, none⟩) hg).trans ((hcell _ (by omega)).trans f3)
      obtain ⟨hcc, _⟩ := bcells (W := w.alloc (.cells #[.int .i64 r.p, .int .i64 r.k, .int .i64 r.f, .int .i64 r.t] 129)) (by simpa using HB.out)
      have d0 := hcc w.heap.size 0 (by simp)
      have d1 := hcc w.heap.size 1 (by simp)
      have d2 := hcc w.heap.size 2 (by simp)
      have d3 := hcc w.heap.size 3 (by simp)
      simp at d0 d1 d2 d3
      have HS := Hid.mk (bitersP_snoc (r := r) hx)
      have hln := bitersP_len (l.take n) r
      simp only [List.length_take] at hln
      have HL := Hid.mk (show bitesB x.p x.k x.f x.t r.p r.k r.f r.t = x.bites r from rfl)
      have hgw : g < wr.heap.size := by omega
      have hww : w.heap.size < wr.heap.size := by omega
      have HB1 := Hid.mk hb1
      clear hcell f0 f1 f2 f3 hcc hx hb1
      cases hbt : x.bites r
      · have HT := Hid.mk hbt
        rw [hbt] at HL
        clear hbt
        go_wp2_with (go_at_call 122; refine (bites_any _ _ _ _ _ _ _ _ _).mono ?_; rintro e w1 ⟨rfl, hb2⟩; rw [HL.out]; have HB2 := Hid.mk hb2; clear hb2)
        go_roundw
        case rel =>
          have hz2 := HB2.out.size
          simp at hz2
          have hbw : Below wr.heap.size wr w1 := ((Below.refl _ _).alloc (Nat.le_refl _) _).trans (HB2.out.mono (by simp))
          refine ⟨n + 1, by go_num, by omega, ?_, HB.out.trans (hbw.mono (by omega))⟩
          rw [HS.out, HT.out]
          simp only [Bool.false_eq_true, if_false, List.append_nil]
          exact own_below HO.out hbw
        case measure => simp [intOf]; omega
      · have HT := Hid.mk hbt
        rw [hbt] at HL
        clear hbt
        go_wp2_with (first
          | (go_at_call 122; refine (bites_any _ _ _ _ _ _ _ _ _).mono ?_; rintro e w1 ⟨rfl, hb2⟩; rw [HL.out]; have hz2 := hb2.size; simp at hz2; have e0 : w1.cell? ⟨wr.heap.size, 0, none⟩ = some (.int .i64 x.p) := ((bcells hb2).1 _ _ (by simp)).trans (by simp); have HB2 := Hid.mk hb2; clear hb2)
          | (at_builtin; refine wpList_snoc rfl _ _ _ rfl Tryz.underlying25 Tryz.infoInt rfl (by decide) (by decide) rfl (own_below HO.out (((Below.refl _ _).alloc (Nat.le_refl _) _).trans (HB2.out.mono (by simp)))) (by omega) (by omega) (cs := #[.int .i64 x.p]) rfl (by simp) rfl (by simp [Value.oneCell']) ?_; intro v2 w2 ho2 hb3 hz3 hold3; have HO2 := Hid.mk ho2; have HB3 := Hid.mk hb3; clear ho2 hb3 hold3))
        go_roundw
        case rel =>
          have hbw : Below wr.heap.size wr w1 := ((Below.refl _ _).alloc (Nat.le_refl _) _).trans (HB2.out.mono (by simp))
          refine ⟨n + 1, by go_num, by omega, ?_, ?_⟩
          · rw [HS.out, HT.out]
            simp only [if_true, List.length_append, ints_snoc]
            exact HO2.out
          · exact (HB.out.trans (hbw.mono hsz)).trans HB3.out
        case measure => simp [intOf]; omega
    · obtain rfl : n = l.length := by omega
      have HO3 := HO.out
      rw [List.take_of_length_le (Nat.le_refl _)] at HO3
      have HO4 := Hid.mk HO3
      have hln := bitersP_len l r
      have HOB := Hid.mk (List.length_mergeSort (le := fun x y : Int => decide (x ≤ y)) (bitersP l r))
      clear HO3
      go_wp2_with (first
        | (go_at_call 123; refine (Sort_row HO4.out hsz (by omega)).mono ?_; rintro e w1 ⟨rfl, ho1, hb1⟩; have HO1 := Hid.mk ho1; have HB1 := Hid.mk hb1; clear ho1 hb1)
        | (go_at_call 124; refine (Compact_row (l := (bitersP l r).mergeSort fun x y => decide (x ≤ y)) (by rw [HOB.out]; exact HO1.out) (by rw [HOB.out]; omega)).mono ?_; rintro e w2 ⟨v2, rfl, ho2, hb2⟩; have HO2 := Hid.mk ho2; have HB2 := Hid.mk hb2; clear ho2 hb2))
      go_ret
      refine ⟨_, rfl, own_mono HO2.out (Nat.le_succ _), ?_⟩
      exact ((Below.refl w.heap.size w).alloc (Nat.le_refl _) _).trans (((HB.out.trans HB1.out).trans HB2.out).mono (Nat.le_succ _))
end Go.Proofs.YtaicdjhblbobbaaGreat
