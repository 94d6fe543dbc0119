/- Contracts of the program's small functions: what each returns, for every argument; the world behind a call has at most new blocks. -/
import Derived.Test.YtaicdjhblbobbabGreatGBits
import Derived.Test.YtaicdjhblbobbabGreatGPure
import Derived.Deep.RegionHeld3
namespace Go.Proofs.YtaicdjhblbobbabGreat
open Go.RowKit

theorem ret_i64 {a b : Int} (h : a = b) : Ending.returned (.int .i64 a) = .returned (.int .i64 b) := by rw [h]


set_option maxHeartbeats 400000 in
theorem Bite_any (a b : Int) (w : World) :
    Calls Tryz.prog 112 #[.int .i64 a, .int .i64 b] w fun e w' => e = .returned (.bool (biteB a b)) ∧ w' = w := by
  go_enter Tryz.func112, Tryz.ntmps112
  go_wp2
  all_goals (go_ret; refine ⟨ret_bool ?_, rfl⟩)
  all_goals (simp_all [biteB])
  all_goals (rw [show (a == 2) = false from by simpa using ‹¬ a = 2›]; simp; rfl)

set_option maxHeartbeats 400000 in
theorem meets_any (p k f t q l g u : Int) (w : World) :
    Calls Tryz.prog 110 #[.agg #[.int .i64 p, .int .i64 k, .int .i64 f, .int .i64 t], .agg #[.int .i64 q, .int .i64 l, .int .i64 g, .int .i64 u]] w fun e w' => e = .returned (.bool (meetsB f t g u)) ∧ Below w.heap.size w w' := by
  go_enter Tryz.func110, Tryz.ntmps110
  go_wp2
  all_goals go_ret
  all_goals refine ⟨ret_bool ?_, ((Below.refl _ _).alloc (Nat.le_refl _) _).alloc (by simp) _⟩
  · simp [meetsB, *]
  · simp [meetsB]; omega

theorem bcell {W w1 : World} (hb : Below W.heap.size W w1) : (∀ b o, b < W.heap.size → w1.cell? ⟨b, o, none⟩ = W.cell? ⟨b, o, none⟩) ∧ (∀ b o, b < W.heap.size → w1.frozen? ⟨b, o, none⟩ = W.frozen? ⟨b, o, none⟩) :=
  ⟨fun b o h => hb.cell (p := ⟨b, o, none⟩) h, fun b o h => hb.frozen (p := ⟨b, o, none⟩) h⟩

set_option maxHeartbeats 400000 in
theorem bites_any (p k f t q l g u : Int) (w : World) :
    Calls Tryz.prog 100 #[.agg #[.int .i64 p, .int .i64 k, .int .i64 f, .int .i64 t], .agg #[.int .i64 q, .int .i64 l, .int .i64 g, .int .i64 u]] w fun e w' => e = .returned (.bool (bitesB p k f t q l g u)) ∧ Below w.heap.size w w' := by
  by_cases h1 : p = q
  · subst h1
    go_enter Tryz.func100, Tryz.ntmps100
    go_wp2
    go_ret
    exact ⟨ret_bool (by simp [bitesB]), ((Below.refl _ _).alloc (Nat.le_refl _) _).alloc (by simp) _⟩
  · have h1' : (p != q) = true := by simpa using h1
    cases hm : meetsB f t g u
    · go_enter Tryz.func100, Tryz.ntmps100
      go_wp2_with (go_at_call 110; refine (meets_any _ _ _ _ _ _ _ _ _).mono ?_; rintro e w' ⟨rfl, hb⟩; obtain ⟨hc, hf⟩ := bcell hb; have hz := hb.size; simp at hz)
      go_ret
      exact ⟨ret_bool (by simp [bitesB, hm]), (((Below.refl _ _).alloc (Nat.le_refl _) _).alloc (by simp) _).trans (hb.mono (by simp; omega))⟩
    · go_enter Tryz.func100, Tryz.ntmps100
      go_wp2_with (first
        | (go_at_call 110; refine (meets_any _ _ _ _ _ _ _ _ _).mono ?_; rintro e w' ⟨rfl, hb⟩; obtain ⟨hc, hf⟩ := bcell hb; have hz := hb.size; simp at hz)
        | (go_at_call 112; refine (Bite_any _ _ _).mono ?_; rintro e w' ⟨rfl, rfl⟩))
      go_ret
      exact ⟨ret_bool (by simp [bitesB, hm, h1]), (((Below.refl _ _).alloc (Nat.le_refl _) _).alloc (by simp) _).trans (hb.mono (by simp; omega))⟩

theorem ret_ib {a b : Int} {c d : Bool} (h : a = b) (k : c = d) : Ending.returned (.tuple #[.int .i64 a, .bool c]) = .returned (.tuple #[.int .i64 b, .bool d]) := by rw [h, k]
theorem ret_iib {a b a' b' : Int} {c d : Bool} (h : a = b) (h' : a' = b') (k : c = d) : Ending.returned (.tuple #[.int .i64 a, .int .i64 a', .bool c]) = .returned (.tuple #[.int .i64 b, .int .i64 b', .bool d]) := by rw [h, h', k]

set_option maxHeartbeats 400000 in
theorem continues_any (p k f t q l g u : Int) (w : World) (ht : -100 ≤ t ∧ t ≤ 100) (hu : -100 ≤ u ∧ u ≤ 100) :
    Calls Tryz.prog 116 #[.agg #[.int .i64 p, .int .i64 k, .int .i64 f, .int .i64 t], .agg #[.int .i64 q, .int .i64 l, .int .i64 g, .int .i64 u]] w fun e w' => e = .returned (.bool (contB p k f t q l g u)) ∧ Below w.heap.size w w' := by
  obtain ⟨ht1, ht2⟩ := ht
  obtain ⟨hu1, hu2⟩ := hu
  go_enter Tryz.func116, Tryz.ntmps116
  go_wp2
  all_goals go_ret
  all_goals refine ⟨ret_bool ?_, ((Below.refl _ _).alloc (Nat.le_refl _) _).alloc (by simp) _⟩
  all_goals go_light
  · have : ¬ k = l := by simpa using ‹(k != l) = true›
    simp [contB, this]
  · have : k = l := by simpa using ‹(k != l) = false›
    simp [contB, *]
  · have : k = l := by simpa using ‹(k != l) = false›
    simp [contB, *]
    rw [Bool.eq_iff_iff]; simp [*]
  · simp [contB, *]

theorem KindOf_any (n : Int) (w : World) :
    Calls Tryz.prog 63 #[.int .i64 n] w fun e w' => e = .returned (.tuple #[.int .i64 (if kindB n = true then n else 0), .bool (kindB n)]) ∧ w' = w := by
  go_enter Tryz.func63, Tryz.ntmps63
  generalize hk : (if kindB n = true then n else 0) = m
  have K : Hid ((if kindB n = true then n else 0) = m) := hk
  clear hk
  go_wp2
  all_goals go_ret2
  all_goals go_light
  all_goals refine ⟨ret_ib ?_ ?_, rfl⟩
  all_goals try rw [← K.out]
  all_goals simp only [kindB]
  all_goals first | omega | (simp; omega)


set_option maxHeartbeats 400000 in
theorem Bounds_bad (f l : Int) (w : World) (h : badS f l = true) :
    Calls Tryz.prog 57 #[.int .i64 f, .int .i64 l] w fun e w' => e = .returned (.tuple #[.int .i64 0, .int .i64 0, .bool false]) ∧ w' = w := by
  have H : Hid (badS f l = true) := h
  clear h
  rcases Int.lt_trichotomy l 0 with hl | rfl | hl
  all_goals
    go_enter Tryz.func57, Tryz.ntmps57
    go_wp2
    all_goals go_ret3
    all_goals go_light
    all_goals refine ⟨?_, rfl⟩
    all_goals first | rfl | (have := H.out; simp [badS] at this; omega)

set_option maxHeartbeats 400000 in
theorem Bounds_ok (f l : Int) (w : World) (h : badS f l = false) :
    Calls Tryz.prog 57 #[.int .i64 f, .int .i64 l] w fun e w' => e = .returned (.tuple #[.int .i64 (fromS f l), .int .i64 (toS f l), .bool true]) ∧ w' = w := by
  have H : Hid (badS f l = false) := h
  clear h
  rcases Int.lt_trichotomy l 0 with hl | rfl | hl
  all_goals
    go_enter Tryz.func57, Tryz.ntmps57
    go_wp2
    all_goals go_ret3
    all_goals go_light
    all_goals refine ⟨?_, rfl⟩
    all_goals have := H.out
    all_goals simp [badS] at this
    all_goals first | (exfalso; omega) | (refine ret_iib ?_ ?_ rfl <;> simp [fromS, toS]; done) | (refine ret_iib ?_ ?_ rfl <;> simp only [fromS, toS] <;> (repeat' split) <;> omega)


theorem isNaN_any (a : Int) (w : World) : Calls Tryz.prog 144 #[.int .i64 a] w fun e w' => e = .returned (.bool false) ∧ w' = w := by
  go_enter Tryz.func144, Tryz.ntmps144
  go_wp2
  go_ret
  exact ⟨ret_bool (by simp), rfl⟩


theorem Compare_any (a b : Int) (w : World) : Calls Tryz.prog 136 #[.int .i64 a, .int .i64 b] w fun e w' => e = .returned (.int .i64 (cmpI a b)) ∧ w' = w := by
  go_enter Tryz.func136, Tryz.ntmps136
  generalize hk : cmpI a b = m
  have K : Hid (cmpI a b = m) := hk
  clear hk
  go_wp2_with (go_at_call 144; refine (isNaN_any _ _).mono ?_; rintro e w' ⟨rfl, rfl⟩)
  all_goals go_ret
  all_goals refine ⟨ret_i64 ?_, rfl⟩
  all_goals rw [← K.out]
  all_goals simp only [cmpI]
  all_goals go_light
  all_goals (repeat' split) <;> first | rfl | omega



set_option maxHeartbeats 1000000 in
theorem Or_any (a b : Int) (g c : Nat) (w : World) (h0 : w.cell? ⟨g, 0, none⟩ = some (.int .i64 a)) (h1 : w.cell? ⟨g, 1, none⟩ = some (.int .i64 b)) :
    Calls Tryz.prog 135 #[.slice (some ⟨g, 0, none⟩) 2 c] w fun e w' => e = .returned (.int .i64 (orI a b)) ∧ w' = w := by
  generalize hk : orI a b = m
  have K : Hid (orI a b = m) := hk
  clear hk
  go_enter Tryz.func135, Tryz.ntmps135
  go_wp2
  go_loop [8] (fun i => i = .int .i64 0 ∨ (i = .int .i64 1 ∧ a = 0) ∨ (i = .int .i64 2 ∧ a = 0 ∧ b = 0)) (fun i => 2 - (intOf i).toNat)
  case atStart => exact Or.inl rfl
  case round =>
    rcases hrel with rfl | ⟨rfl, ha⟩ | ⟨rfl, ha, hb⟩
    · by_cases ha : a = 0
      · go_wp2
        go_round
        case rel => exact Or.inr (Or.inl ⟨rfl, ha⟩)
        case measure => simp [intOf]
      · go_wp2
        go_ret
        exact ⟨ret_i64 (by rw [← K.out]; simp [orI, ha]), rfl⟩
    · by_cases hb : b = 0
      · go_wp2
        go_round
        case rel => exact Or.inr (Or.inr ⟨rfl, ha, hb⟩)
        case measure => simp [intOf]
      · go_wp2
        go_ret
        exact ⟨ret_i64 (by rw [← K.out]; simp [orI, ha]), rfl⟩
    · go_wp2
      go_ret
      exact ⟨ret_i64 (by rw [← K.out]; simp [orI, ha, hb]), rfl⟩

end Go.Proofs.YtaicdjhblbobbabGreat

/- Contract of runs.order: what it returns for any two runs; only new blocks behind it. -/
namespace Go.Proofs.YtaicdjhblbobbabGreat
open Go.RowKit

set_option maxHeartbeats 2000000 in
theorem order_any (p k f t q l g u : Int) (w : World) :
    Calls Tryz.prog 119 #[.agg #[.int .i64 p, .int .i64 k, .int .i64 f, .int .i64 t], .agg #[.int .i64 q, .int .i64 l, .int .i64 g, .int .i64 u]] w fun e w' => e = .returned (.int .i64 (ordI p f q g)) ∧ Below w.heap.size w w' := by
  go_enter Tryz.func119, Tryz.ntmps119
  go_wp2
  go_region_held3 (fun w' => w'.cell? ⟨w.heap.size, 0, none⟩ = some (.int .i64 p) ∧ w'.cell? ⟨w.heap.size, 2, none⟩ = some (.int .i64 f) ∧ w'.cell? ⟨w.heap.size + 1, 0, none⟩ = some (.int .i64 q) ∧ w'.cell? ⟨w.heap.size + 1, 2, none⟩ = some (.int .i64 g)) (simp [go_sem, World.cell?_alloc_past])
    (first
      | (go_at_call 136; refine (Compare_any _ _ _).mono ?_; rintro e w' ⟨rfl, rfl⟩)
      | (go_at_call 135; refine (Or_any (cmpI f g) (cmpI p q) _ _ _ ?_ ?_).mono ?_; (simp [go_sem]); (simp [go_sem]); rintro e w' ⟨rfl, rfl⟩))
  go_wp2
  go_ret
  exact ⟨rfl, ((((Below.refl _ _).alloc (Nat.le_refl _) _).alloc (by simp) _).alloc (by simp; omega) _).drew⟩

def Rn.cells (r : Rn) : List Value := [.int .i64 r.p, .int .i64 r.k, .int .i64 r.f, .int .i64 r.t]
def Rn.val (r : Rn) : Value := .agg #[.int .i64 r.p, .int .i64 r.k, .int .i64 r.f, .int .i64 r.t]
def flat (l : List Rn) : List Value := l.flatMap Rn.cells
/-- The runs l lie in block g from its beginning on. -/
def RowAt (w : World) (g : Nat) (l : List Rn) : Prop := ∀ i r, l[i]? = some r →
  w.cell? ⟨g, i * 4, none⟩ = some (.int .i64 r.p) ∧ w.cell? ⟨g, i * 4 + 1, none⟩ = some (.int .i64 r.k) ∧ w.cell? ⟨g, i * 4 + 2, none⟩ = some (.int .i64 r.f) ∧ w.cell? ⟨g, i * 4 + 3, none⟩ = some (.int .i64 r.t)
theorem RowAt.below {w w' : World} {g B : Nat} {l : List Rn} (h : RowAt w g l) (hb : Below B w w') (hg : g < B) : RowAt w' g l := fun i r hr => by
  obtain ⟨a, b, c, d⟩ := h i r hr
  exact ⟨(hb.cell (p := ⟨g, _, none⟩) hg).trans a, (hb.cell (p := ⟨g, _, none⟩) hg).trans b, (hb.cell (p := ⟨g, _, none⟩) hg).trans c, (hb.cell (p := ⟨g, _, none⟩) hg).trans d⟩
end Go.Proofs.YtaicdjhblbobbabGreat
