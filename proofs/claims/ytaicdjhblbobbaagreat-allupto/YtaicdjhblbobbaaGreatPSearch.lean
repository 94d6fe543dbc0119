/- Contract of slices.BinarySearchFunc over a row of runs: how many of them precede the target. -/
import Derived.Test.YtaicdjhblbobbaaGreatPBits
import Derived.BigQuiet
import Derived.Deep.QuietTactic
import Derived.WalkSmall
namespace Go.Proofs.YtaicdjhblbobbaaGreat
open Go.RowKit

set_option maxHeartbeats 2000000 in
theorem search_any (g c : Nat) (l : List Rn) (r : Rn) (w : World) (hg : g < w.heap.size) (hl : l.length < 4611686018427387904) (hrow : RowAt w g l) (i : Nat) (hi : i ≤ l.length)
    (h1 : ∀ t x, l[t]? = some x → t < i → x.ord r < 0) (h2 : ∀ t x, l[t]? = some x → i ≤ t → 0 ≤ x.ord r) :
    Calls Tryz.prog 190 #[.slice (some ⟨g, 0, none⟩) l.length c, .agg #[.int .i64 r.p, .int .i64 r.k, .int .i64 r.f, .int .i64 r.t], .func (.func 191) #[] #[]] w fun e w' => ∃ b, e = .returned (.tuple #[.int .i64 i, .bool b]) ∧ Below w.heap.size w w' := by
  have H1 : Hid _ := h1
  have H2 : Hid _ := h2
  have HR : Hid _ := hrow
  clear h1 h2 hrow
  go_enter Tryz.func190, Tryz.ntmps190
  go_wp2
  go_loopw [9, 10] (fun s9 s10 wr => ∃ lo hi : Nat, s9 = .int .i64 lo ∧ s10 = .int .i64 hi ∧ lo ≤ i ∧ i ≤ hi ∧ hi ≤ l.length ∧ Hid (Below (w.heap.size + 1) (w.alloc (.cells #[.int .i64 r.p, .int .i64 r.k, .int .i64 r.f, .int .i64 r.t] 129)) wr)) (fun s9 s10 _ => (intOf s10 - intOf s9).toNat)
  case atStart => exact ⟨0, l.length, rfl, rfl, Nat.zero_le _, hi, Nat.le_refl _, Below.refl _ _⟩
  case round =>
    obtain ⟨lo, hi', rfl, rfl, hlo, hhi, hn, HB⟩ := hrel
    by_cases hlt : lo < hi'
    · obtain ⟨m, hm⟩ : ∃ m : Nat, ((lo : Int) + (hi' : Int)) / 2 = (m : Int) := ⟨(lo + hi') / 2, by omega⟩
      have hm1 : lo ≤ m := by omega
      have hm2 : m < hi' := by omega
      have hmi : (m : Int) < (l.length : Int) := by omega
      have HM : Hid (((lo : Int) + (hi' : Int)) / 2 = (m : Int)) := hm
      clear hm
      obtain ⟨x, hx⟩ : ∃ x, l[m]? = some x := ⟨_, List.getElem?_eq_getElem (by omega)⟩
      have HX : Hid (l[m]? = some x) := hx
      clear hx
      obtain ⟨c0, c1, c2, c3⟩ := (RowAt.below (HR.out : RowAt w g l) ((Below.refl _ _).alloc (Nat.le_refl _) _) hg).below HB.out (by omega) m x HX.out
      obtain ⟨hcc, _⟩ := bcell (W := w.alloc (.cells #[.int .i64 r.p, .int .i64 r.k, .int .i64 r.f, .int .i64 r.t] 129)) (by simpa using HB.out)
      have d0 := hcc w.heap.size 0 (by simp)
      have d1 := hcc w.heap.size 1 (by simp)
      have d2 := hcc w.heap.size 2 (by simp)
      have d3 := hcc w.heap.size 3 (by simp)
      clear hcc
      simp at d0 d1 d2 d3
      have hsz : w.heap.size + 1 ≤ wr.heap.size := by have := HB.out.size; simpa using this
      have hgw : g < wr.heap.size := by omega
      have HD : Hid (x.ord r = ordI x.p x.f r.p r.f) := rfl
      by_cases hox : ordI x.p x.f r.p r.f < 0
      · go_wp2
        rw [HM.out]
        go_region_held3 (fun w' => w'.cell? ⟨g, m * 4, none⟩ = some (.int .i64 x.p) ∧ w'.cell? ⟨g, m * 4 + 1, none⟩ = some (.int .i64 x.k) ∧ w'.cell? ⟨g, m * 4 + 2, none⟩ = some (.int .i64 x.f) ∧ w'.cell? ⟨g, m * 4 + 3, none⟩ = some (.int .i64 x.t) ∧ w'.cell? ⟨w.heap.size, 0, none⟩ = some (.int .i64 r.p) ∧ w'.cell? ⟨w.heap.size, 1, none⟩ = some (.int .i64 r.k) ∧ w'.cell? ⟨w.heap.size, 2, none⟩ = some (.int .i64 r.f) ∧ w'.cell? ⟨w.heap.size, 3, none⟩ = some (.int .i64 r.t)) (simp [*])
          (first
            | (go_at_call 191; refine (order_any _ _ _ _ _ _ _ _ _).mono ?_; rintro e w' ⟨rfl, hb⟩; have k1 : ∀ o, w'.cell? ⟨g, o, none⟩ = wr.cell? ⟨g, o, none⟩ := fun o => (bcell hb).1 g o (by simpa using hgw); have k2 : ∀ o, w'.cell? ⟨w.heap.size, o, none⟩ = wr.cell? ⟨w.heap.size, o, none⟩ := fun o => (bcell hb).1 w.heap.size o (by simp; omega)))
        go_wp2
        go_roundw
        case rel => exact ⟨m + 1, hi', by go_num, rfl, (by have := H2.out m x HX.out; rw [HD.out] at this; omega), hhi, hn, HB.out.trans (((Below.refl _ _).drew).trans (hb.mono (by simpa using hsz)))⟩
        case measure => simp [intOf]; omega
      · go_wp2
        rw [HM.out]
        go_region_held3 (fun w' => w'.cell? ⟨g, m * 4, none⟩ = some (.int .i64 x.p) ∧ w'.cell? ⟨g, m * 4 + 1, none⟩ = some (.int .i64 x.k) ∧ w'.cell? ⟨g, m * 4 + 2, none⟩ = some (.int .i64 x.f) ∧ w'.cell? ⟨g, m * 4 + 3, none⟩ = some (.int .i64 x.t) ∧ w'.cell? ⟨w.heap.size, 0, none⟩ = some (.int .i64 r.p) ∧ w'.cell? ⟨w.heap.size, 1, none⟩ = some (.int .i64 r.k) ∧ w'.cell? ⟨w.heap.size, 2, none⟩ = some (.int .i64 r.f) ∧ w'.cell? ⟨w.heap.size, 3, none⟩ = some (.int .i64 r.t)) (simp [*])
          (first
            | (go_at_call 191; refine (order_any _ _ _ _ _ _ _ _ _).mono ?_; rintro e w' ⟨rfl, hb⟩; have k1 : ∀ o, w'.cell? ⟨g, o, none⟩ = wr.cell? ⟨g, o, none⟩ := fun o => (bcell hb).1 g o (by simpa using hgw); have k2 : ∀ o, w'.cell? ⟨w.heap.size, o, none⟩ = wr.cell? ⟨w.heap.size, o, none⟩ := fun o => (bcell hb).1 w.heap.size o (by simp; omega)))
        go_wp2
        go_roundw
        case rel => exact ⟨lo, m, rfl, rfl, hlo, (by have := H1.out m x HX.out; rw [HD.out] at this; omega), by omega, HB.out.trans (((Below.refl _ _).drew).trans (hb.mono (by simpa using hsz)))⟩
        case measure => simp [intOf]; omega
    · obtain rfl : lo = i := by omega
      obtain rfl : hi' = lo := by omega
      by_cases hin : hi' < l.length
      · obtain ⟨m, hm⟩ : ∃ m : Nat, hi' = m := ⟨_, rfl⟩
        subst hm
        have hmi : (hi' : Int) < (l.length : Int) := by omega
        obtain ⟨x, hx⟩ : ∃ x, l[hi']? = some x := ⟨_, List.getElem?_eq_getElem (by omega)⟩
        have HX : Hid (l[hi']? = some x) := hx
        clear hx
        obtain ⟨c0, c1, c2, c3⟩ := (RowAt.below (HR.out : RowAt w g l) ((Below.refl _ _).alloc (Nat.le_refl _) _) hg).below HB.out (by omega) hi' x HX.out
        obtain ⟨hcc, _⟩ := bcell (W := w.alloc (.cells #[.int .i64 r.p, .int .i64 r.k, .int .i64 r.f, .int .i64 r.t] 129)) (by simpa using HB.out)
        have d0 := hcc w.heap.size 0 (by simp)
        have d1 := hcc w.heap.size 1 (by simp)
        have d2 := hcc w.heap.size 2 (by simp)
        have d3 := hcc w.heap.size 3 (by simp)
        clear hcc
        simp at d0 d1 d2 d3
        have hsz : w.heap.size + 1 ≤ wr.heap.size := by have := HB.out.size; simpa using this
        have hgw : g < wr.heap.size := by omega
        go_wp2
        go_region_held3 (fun w' => w'.cell? ⟨g, hi' * 4, none⟩ = some (.int .i64 x.p) ∧ w'.cell? ⟨g, hi' * 4 + 1, none⟩ = some (.int .i64 x.k) ∧ w'.cell? ⟨g, hi' * 4 + 2, none⟩ = some (.int .i64 x.f) ∧ w'.cell? ⟨g, hi' * 4 + 3, none⟩ = some (.int .i64 x.t) ∧ w'.cell? ⟨w.heap.size, 0, none⟩ = some (.int .i64 r.p) ∧ w'.cell? ⟨w.heap.size, 1, none⟩ = some (.int .i64 r.k) ∧ w'.cell? ⟨w.heap.size, 2, none⟩ = some (.int .i64 r.f) ∧ w'.cell? ⟨w.heap.size, 3, none⟩ = some (.int .i64 r.t)) (simp [*])
          (first
            | (go_at_call 191; refine (order_any _ _ _ _ _ _ _ _ _).mono ?_; rintro e w' ⟨rfl, hb⟩; have k1 : ∀ o, w'.cell? ⟨g, o, none⟩ = wr.cell? ⟨g, o, none⟩ := fun o => (bcell hb).1 g o (by simpa using hgw); have k2 : ∀ o, w'.cell? ⟨w.heap.size, o, none⟩ = wr.cell? ⟨w.heap.size, o, none⟩ := fun o => (bcell hb).1 w.heap.size o (by simp; omega)))
        go_wp2
        go_ret2
        exact ⟨_, rfl, ((Below.refl _ _).alloc (Nat.le_refl _) _).trans ((HB.out.mono (Nat.le_succ _)).trans (((Below.refl _ _).drew).trans (hb.mono (by simp; omega))))⟩
      · go_wp2
        go_quiet (fail)
        go_wp2
        go_ret2
        exact ⟨_, rfl, below_drewN (((Below.refl _ _).alloc (Nat.le_refl _) _).trans (HB.out.mono (Nat.le_succ _))) _⟩

set_option maxHeartbeats 2000000 in
theorem search_nil (r : Rn) (w : World) :
    Calls Tryz.prog 190 #[.slice none 0 0, .agg #[.int .i64 r.p, .int .i64 r.k, .int .i64 r.f, .int .i64 r.t], .func (.func 191) #[] #[]] w fun e w' => ∃ b, e = .returned (.tuple #[.int .i64 0, .bool b]) ∧ Below w.heap.size w w' := by
  go_enter Tryz.func190, Tryz.ntmps190
  go_wp2
  go_loop [9, 10] (fun s9 s10 => s9 = .int .i64 0 ∧ s10 = .int .i64 0) (fun _ _ => 0)
  case atStart => exact ⟨rfl, rfl⟩
  case round =>
    obtain ⟨rfl, rfl⟩ := hrel
    go_wp2
    go_quiet (fail)
    go_wp2
    go_ret2
    exact ⟨_, rfl, below_drewN ((Below.refl _ _).alloc (Nat.le_refl _) _) _⟩
end Go.Proofs.YtaicdjhblbobbaaGreat
