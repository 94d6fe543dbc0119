/- Contract of runs.order: what it returns for any two runs; only new blocks behind it. -/
import Derived.Test.YtafgecmenadhdaaLeaf
import Derived.Deep.RegionHeld3
namespace Go.Proofs.Ytafgecmenadhdaa
open Go.RowKit

set_option maxHeartbeats 2000000 in
theorem order_any (p k f t q l g u : Int) (w : World) :
    Calls Try.prog 75 #[.agg #[.int .i64 p, .int .i64 k, .int .i64 f, .int .i64 t], .agg #[.int .i64 q, .int .i64 l, .int .i64 g, .int .i64 u]] w fun e w' => e = .returned (.int .i64 (ordI p f q g)) ∧ Below w.heap.size w w' := by
  go_enter Try.func75, Try.ntmps75
  go_wp2
  go_region_held3 (fun w' => w'.cell? ⟨w.heap.size, 0, none⟩ = some (.int .i64 p) ∧ w'.cell? ⟨w.heap.size, 2, none⟩ = some (.int .i64 f) ∧ w'.cell? ⟨w.heap.size + 1, 0, none⟩ = some (.int .i64 q) ∧ w'.cell? ⟨w.heap.size + 1, 2, none⟩ = some (.int .i64 g)) (simp [go_sem, World.cell?_alloc_past])
    (first
      | (go_at_call 78; refine (Compare_any _ _ _).mono ?_; rintro e w' ⟨rfl, rfl⟩)
      | (go_at_call 77; refine (Or_any (cmpI f g) (cmpI p q) _ _ _ ?_ ?_).mono ?_; (simp [go_sem]); (simp [go_sem]); rintro e w' ⟨rfl, rfl⟩))
  go_wp2
  go_ret
  exact ⟨rfl, ((((Below.refl _ _).alloc (Nat.le_refl _) _).alloc (by simp) _).alloc (by simp; omega) _).drew⟩

def Rn.cells (r : Rn) : List Value := [.int .i64 r.p, .int .i64 r.k, .int .i64 r.f, .int .i64 r.t]
def Rn.val (r : Rn) : Value := .agg #[.int .i64 r.p, .int .i64 r.k, .int .i64 r.f, .int .i64 r.t]
def flat (l : List Rn) : List Value := l.flatMap Rn.cells
/-- The runs l lie in block g from its beginning on. -/
def RowAt (w : World) (g : Nat) (l : List Rn) : Prop := ∀ i r, l[i]? = some r →
  w.cell? ⟨g, i * 4, none⟩ = some (.int .i64 r.p) ∧ w.cell? ⟨g, i * 4 + 1, none⟩ = some (.int .i64 r.k) ∧ w.cell? ⟨g, i * 4 + 2, none⟩ = some (.int .i64 r.f) ∧ w.cell? ⟨g, i * 4 + 3, none⟩ = some (.int .i64 r.t)
theorem RowAt.below {w w' : World} {g B : Nat} {l : List Rn} (h : RowAt w g l) (hb : Below B w w') (hg : g < B) : RowAt w' g l := fun i r hr => by
  obtain ⟨a, b, c, d⟩ := h i r hr
  exact ⟨(hb.cell (p := ⟨g, _, none⟩) hg).trans a, (hb.cell (p := ⟨g, _, none⟩) hg).trans b, (hb.cell (p := ⟨g, _, none⟩) hg).trans c, (hb.cell (p := ⟨g, _, none⟩) hg).trans d⟩
end Go.Proofs.Ytafgecmenadhdaa
