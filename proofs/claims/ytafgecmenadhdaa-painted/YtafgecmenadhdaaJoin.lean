/- Contract of List.join: the list that it makes, in new memory. -/
import Derived.Test.YtafgecmenadhdaaCut
import Derived.Test.YtafgecmenadhdaaPureJoin
namespace Go.Proofs.Ytafgecmenadhdaa
open Go.RowKit Go.Lib

theorem block_cells {w : World} {b : Nat} {p k f t : Int} (h : w.heap[b]? = some (.cells #[.int .i64 p, .int .i64 k, .int .i64 f, .int .i64 t] 78 (0, 0))) :
    w.cell? ⟨b, 0, none⟩ = some (.int .i64 p) ∧ w.cell? ⟨b, 1, none⟩ = some (.int .i64 k) ∧ w.cell? ⟨b, 2, none⟩ = some (.int .i64 f) ∧ w.cell? ⟨b, 3, none⟩ = some (.int .i64 t) ∧ (∀ o, w.frozen? ⟨b, o, none⟩ = false) := by
  refine ⟨?_, ?_, ?_, ?_, fun o => ?_⟩ <;> simp [World.cell?, World.frozen?, h]

theorem heap_setCell_at {w : World} {b o : Nat} {c : Array Value} {t : TypeId} {fr : Nat × Nat} {v : Value} (h : w.heap[b]? = some (.cells c t fr)) : (w.setCell ⟨b, o, none⟩ v).heap[b]? = some (.cells (c.setIfInBounds o v) t fr) := by
  simp [World.setCell, Array.getElem?_modify, h]

set_option maxHeartbeats 4000000 in
set_option maxRecDepth 100000 in
theorem join_any (v : Value) (l : List Rn) (rp rk rf rt : Int) (w : World) (hv : Reads w v l) (hl : l.length < 1000) (hsm : ∀ x, x ∈ l → x.sm) (hr : (Rn.mk rp rk rf rt).sm) :
    Calls Try.prog 58 #[v, .agg #[.int .i64 rp, .int .i64 rk, .int .i64 rf, .int .i64 rt]] w fun e w' => ∃ v', e = .returned v' ∧ Good w.heap.size w' v' (joinR l ⟨rp, rk, rf, rt⟩) ∧ Below w.heap.size w w' := by
  have HJ : Hid _ := JoinOk.fold l ⟨rp, rk, rf, rt⟩ hr hsm
  have HS : Hid _ := hsm
  clear hsm hr
  rcases hv with ⟨rfl, rfl⟩ | ⟨g, cap, rfl, hgB, hrow⟩
  · go_enter Try.func58, Try.ntmps58
    go_wp2
    go_loop [5, 10] (fun s5 s10 => s5 = .slice none 0 0 ∧ s10 = .int .i64 0) (fun _ _ => 0)
    case atStart => exact ⟨rfl, rfl⟩
    case round =>
      obtain ⟨rfl, rfl⟩ := hrel
      go_wp2_with (go_at_call 72; refine ((Good.nil (base := w.heap.size + 1) (by simp)).insert (by simp) _ _ _ _).mono ?_; rintro e w' ⟨v', rfl, hG', hgb⟩; have HG1 : Hid _ := hG'; have HB1 : Hid _ := hgb; clear hG' hgb)
      go_ret
      refine ⟨_, rfl, HG1.out.base (Nat.le_succ w.heap.size), ((Below.refl _ _).alloc (Nat.le_refl _) _).trans (below_gb HB1.out (by simp) (fun k hk => by simp [Value.ownBlock] at hk))⟩
  · have HR : Hid _ := hrow
    have hg := hgB.lt
    clear hrow hgB
    go_enter Try.func58, Try.ntmps58
    go_wp2
    go_loopw [5, 10] (fun s5 s10 wr => ∃ i : Nat, s10 = .int .i64 i ∧ i ≤ l.length ∧ Hid (Good (w.heap.size + 1) wr s5 ((l.take i).foldl joinS ([], ⟨rp, rk, rf, rt⟩)).1) ∧ Hid (Below w.heap.size w wr) ∧ Hid (∃ r : Rn, r = ((l.take i).foldl joinS ([], ⟨rp, rk, rf, rt⟩)).2 ∧ wr.heap[w.heap.size]? = some (.cells #[.int .i64 r.p, .int .i64 r.k, .int .i64 r.f, .int .i64 r.t] 78 (0, 0)))) (fun _ s10 _ => l.length - (intOf s10).toNat)
    case atStart => exact ⟨0, rfl, Nat.zero_le _, Good.nil (by simp), (Below.refl _ _).alloc (Nat.le_refl _) _, ⟨_, rfl, heap_alloc_new w _⟩⟩
    case round =>
      obtain ⟨i, rfl, hi, HG, HB, HH⟩ := hrel
      have hok := HJ.out i hi
      obtain ⟨r, hre, hblk⟩ := HH.out
      obtain ⟨d0, d1, d2, d3, dz⟩ := block_cells hblk
      have HK : Hid _ := hblk
      have hwr : w.heap.size < wr.heap.size := (Array.getElem?_eq_some_iff.1 hblk).1
      clear HH hblk
      have hrs : r.sm := by rw [hre]; exact hok.sm
      obtain ⟨hr1, hr2, hr3, hr4⟩ := hrs
      by_cases hlt : i < l.length
      · obtain ⟨x, hx⟩ : ∃ x, l[i]? = some x := ⟨_, List.getElem?_eq_getElem hlt⟩
        have HX : Hid (l[i]? = some x) := hx
        have hF : (l.take (i + 1)).foldl joinS ([], ⟨rp, rk, rf, rt⟩) = joinS ((l.take i).foldl joinS ([], ⟨rp, rk, rf, rt⟩)) x := by
          rw [List.take_add_one, hx]; simp
        obtain ⟨hx1, hx2, hx3, hx4⟩ := HS.out x (List.mem_of_getElem? hx)
        clear hx
        have hlen := hok.len
        obtain ⟨s, hs⟩ : ∃ s, s = (l.take i).foldl joinS ([], ⟨rp, rk, rf, rt⟩) := ⟨_, rfl⟩
        rw [← hs] at hF hlen HG hre
        have HF : Hid _ := hF
        have HE : Hid _ := hre
        clear hs hF hre hok
        obtain ⟨c0, c1, c2, c3⟩ := RowAt.below (HR.out : RowAt w g l) HB.out hg i x HX.out
        have hgw : g < wr.heap.size := by omega
        have HC : Hid (wr.heap[w.heap.size]? = some (.cells #[.int .i64 r.p, .int .i64 r.k, .int .i64 r.f, .int .i64 r.t] 78 (0, 0))) := HK
        cases hc : contB x.p x.k x.f x.t r.p r.k r.f r.t
        · go_wp2_with (first
            | (go_at_call 73; refine (continues_any _ _ _ _ _ _ _ _ _ ⟨hx3, hx4⟩ ⟨hr3, hr4⟩).mono ?_; rintro e wm ⟨rfl, hbm⟩; have HM : Hid _ := hbm; have m0 : wm.cell? ⟨wr.heap.size, 0, none⟩ = some (.int .i64 x.p) := ((bcell hbm).1 _ _ (by simp)).trans (by simp); have m1 : wm.cell? ⟨wr.heap.size, 1, none⟩ = some (.int .i64 x.k) := ((bcell hbm).1 _ _ (by simp)).trans (by simp); have m2 : wm.cell? ⟨wr.heap.size, 2, none⟩ = some (.int .i64 x.f) := ((bcell hbm).1 _ _ (by simp)).trans (by simp); have m3 : wm.cell? ⟨wr.heap.size, 3, none⟩ = some (.int .i64 x.t) := ((bcell hbm).1 _ _ (by simp)).trans (by simp); have n0 : wm.cell? ⟨w.heap.size, 0, none⟩ = some (.int .i64 r.p) := ((bcell hbm).1 _ _ (by simp <;> omega)).trans ((World.cell?_alloc_past (w := wr) _ w.heap.size 0 hwr).trans d0); have n1 : wm.cell? ⟨w.heap.size, 1, none⟩ = some (.int .i64 r.k) := ((bcell hbm).1 _ _ (by simp <;> omega)).trans ((World.cell?_alloc_past (w := wr) _ w.heap.size 1 hwr).trans d1); have n2 : wm.cell? ⟨w.heap.size, 2, none⟩ = some (.int .i64 r.f) := ((bcell hbm).1 _ _ (by simp <;> omega)).trans ((World.cell?_alloc_past (w := wr) _ w.heap.size 2 hwr).trans d2); have n3 : wm.cell? ⟨w.heap.size, 3, none⟩ = some (.int .i64 r.t) := ((bcell hbm).1 _ _ (by simp <;> omega)).trans ((World.cell?_alloc_past (w := wr) _ w.heap.size 3 hwr).trans d3); have nz : ∀ o, wm.frozen? ⟨w.heap.size, o, none⟩ = false := (fun o => ((bcell hbm).2 _ _ (by simp <;> omega)).trans ((World.frozen?_alloc_old wr _ ⟨w.heap.size, o, none⟩ (by simp <;> omega)).trans (dz o))); have hzm : wr.heap.size + 1 ≤ wm.heap.size := (by have := hbm.size; simpa using this); have hzw : wr.heap.size < wm.heap.size := (by omega); have hzv : w.heap.size < wm.heap.size := (by omega); clear hbm)
            | (go_at_call 72; refine (((HG.out.alloc _).below HM.out).insert (by omega) _ _ _ _).mono ?_; rintro e w' ⟨v', rfl, hG', hgb⟩; have HG1 : Hid _ := hG'; have HB1 : Hid _ := hgb; clear hG' hgb))
          go_roundw
          case rel =>
            have e1 : joinS s x = (insR s.1 x, s.2) := by
              have hc' := hc
              rw [HE.out] at hc'
              simp [joinS, hc']
            refine ⟨i + 1, by go_num, by omega, ?_, ?_, ?_⟩
            · show Good _ _ _ _
              rw [HF.out, e1]; exact HG1.out
            · exact ((HB.out.alloc (by omega) _).trans (HM.out.mono (by simp <;> omega))).trans (below_gb HB1.out (by omega) (fun k hk => by have := (HG.out.own.lt k hk).1; omega))
            · refine ⟨r, by rw [HF.out, e1]; exact HE.out, ?_⟩
              rw [HB1.out.block w.heap.size hzv (fun e => HG.out.ge (Nat.lt_succ_self _) e.symm), HM.out.block w.heap.size (by simp <;> omega), Below.heap_alloc _ _ _ hwr]
              exact HC.out
          case measure => simp [intOf]; omega
        · go_wp2_with (first
            | (go_at_call 73; refine (continues_any _ _ _ _ _ _ _ _ _ ⟨hx3, hx4⟩ ⟨hr3, hr4⟩).mono ?_; rintro e wm ⟨rfl, hbm⟩; have HM : Hid _ := hbm; have m0 : wm.cell? ⟨wr.heap.size, 0, none⟩ = some (.int .i64 x.p) := ((bcell hbm).1 _ _ (by simp)).trans (by simp); have m1 : wm.cell? ⟨wr.heap.size, 1, none⟩ = some (.int .i64 x.k) := ((bcell hbm).1 _ _ (by simp)).trans (by simp); have m2 : wm.cell? ⟨wr.heap.size, 2, none⟩ = some (.int .i64 x.f) := ((bcell hbm).1 _ _ (by simp)).trans (by simp); have m3 : wm.cell? ⟨wr.heap.size, 3, none⟩ = some (.int .i64 x.t) := ((bcell hbm).1 _ _ (by simp)).trans (by simp); have n0 : wm.cell? ⟨w.heap.size, 0, none⟩ = some (.int .i64 r.p) := ((bcell hbm).1 _ _ (by simp <;> omega)).trans ((World.cell?_alloc_past (w := wr) _ w.heap.size 0 hwr).trans d0); have n1 : wm.cell? ⟨w.heap.size, 1, none⟩ = some (.int .i64 r.k) := ((bcell hbm).1 _ _ (by simp <;> omega)).trans ((World.cell?_alloc_past (w := wr) _ w.heap.size 1 hwr).trans d1); have n2 : wm.cell? ⟨w.heap.size, 2, none⟩ = some (.int .i64 r.f) := ((bcell hbm).1 _ _ (by simp <;> omega)).trans ((World.cell?_alloc_past (w := wr) _ w.heap.size 2 hwr).trans d2); have n3 : wm.cell? ⟨w.heap.size, 3, none⟩ = some (.int .i64 r.t) := ((bcell hbm).1 _ _ (by simp <;> omega)).trans ((World.cell?_alloc_past (w := wr) _ w.heap.size 3 hwr).trans d3); have nz : ∀ o, wm.frozen? ⟨w.heap.size, o, none⟩ = false := (fun o => ((bcell hbm).2 _ _ (by simp <;> omega)).trans ((World.frozen?_alloc_old wr _ ⟨w.heap.size, o, none⟩ (by simp <;> omega)).trans (dz o))); have hzm : wr.heap.size + 1 ≤ wm.heap.size := (by have := hbm.size; simpa using this); have hzw : wr.heap.size < wm.heap.size := (by omega); have hzv : w.heap.size < wm.heap.size := (by omega); clear hbm))
          go_roundw
          case rel =>
            have e1 : joinS s x = (s.1, ⟨s.2.p, s.2.k, min s.2.f x.f, max s.2.t x.t⟩) := by
              have hc' := hc
              rw [HE.out] at hc'
              simp [joinS, hc']
            have hblk : wm.heap[w.heap.size]? = some (.cells #[.int .i64 r.p, .int .i64 r.k, .int .i64 r.f, .int .i64 r.t] 78 (0, 0)) := by
              rw [HM.out.block w.heap.size (by simp <;> omega), Below.heap_alloc _ _ _ hwr]
              exact HC.out
            refine ⟨i + 1, by go_num, by omega, ?_, ?_, ?_⟩
            · show Good _ _ _ _
              rw [HF.out, e1]
              exact (((HG.out.alloc _).below HM.out).setCell (HG.out.ge (Nat.lt_succ_self _)) _).setCell (HG.out.ge (Nat.lt_succ_self _)) _
            · exact (((HB.out.alloc (by omega) _).trans (HM.out.mono (by simp <;> omega))).setCell (Nat.le_refl _) _).setCell (Nat.le_refl _) _
            · refine ⟨⟨r.p, r.k, min r.f x.f, max r.t x.t⟩, by rw [HF.out, e1, ← HE.out], ?_⟩
              rw [heap_setCell_at (heap_setCell_at hblk)]
              have e2 : (if x.f < r.f then x.f else r.f) = min r.f x.f := by split <;> omega
              have e3 : (if r.t < x.t then x.t else r.t) = max r.t x.t := by split <;> omega
              rw [e2, e3]
              rfl
          case measure => simp [intOf]; omega
      · have ei : l.take i = l := List.take_of_length_le (by omega)
        have HE : Hid _ := hre
        have hlen := hok.len
        clear hok hre
        go_wp2_with (go_at_call 72; refine (HG.out.insert (by omega) _ _ _ _).mono ?_; rintro e w' ⟨v', rfl, hG', hgb⟩; have HG1 : Hid _ := hG'; have HB1 : Hid _ := hgb; clear hG' hgb)
        go_ret
        refine ⟨_, rfl, ?_, HB.out.trans (below_gb HB1.out (by omega) (fun k hk => by have := (HG.out.own.lt k hk).1; omega))⟩
        have h1 := HG1.out.base (Nat.le_succ w.heap.size)
        have h2 := HE.out
        have h3 : (Rn.mk r.p r.k r.f r.t) = r := rfl
        rw [h3, h2, ei] at h1
        exact h1
end Go.Proofs.Ytafgecmenadhdaa
