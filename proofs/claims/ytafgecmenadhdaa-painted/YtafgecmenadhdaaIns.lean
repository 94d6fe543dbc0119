/- Contract of List.insert: the run comes to the place that the search tells, in a row that the caller owns. -/
import Derived.Test.YtafgecmenadhdaaInsert
namespace Go.Proofs.Ytafgecmenadhdaa
open Go.RowKit Go.Lib

theorem gb_trans {w w1 w2 : World} {row : Option Nat} (h : w.grownBy w1 row) (k : w1.grownBy w2 row) : w.grownBy w2 row :=
  ⟨k.os.trans h.os, k.tape.trans h.tape, k.output.trans h.output, Nat.le_trans h.size k.size, fun i hi hne => (k.block i (Nat.lt_of_lt_of_le hi h.size) hne).trans (h.block i hi hne)⟩
theorem gb_below {w w1 : World} (h : Below w.heap.size w w1) (row : Option Nat) : w.grownBy w1 row := ⟨h.os, h.tape, h.output, h.size, fun k hk _ => h.block k hk⟩
theorem gb_refl (w : World) (row : Option Nat) : w.grownBy w row := ⟨rfl, rfl, rfl, Nat.le_refl _, fun _ _ _ => rfl⟩
theorem below_gb {w w1 : World} {row : Option Nat} {B : Nat} (h : w.grownBy w1 row) (hB : B ≤ w.heap.size) (hr : ∀ k, row = some k → B ≤ k) : Below B w w1 :=
  ⟨h.os, h.tape, h.output, h.size, fun k hk => h.block k (by omega) (fun e => by have := hr k e.symm; omega)⟩

set_option maxHeartbeats 2000000 in
set_option maxRecDepth 100000 in
theorem insert_any (base : Nat) (v : Value) (l : List Rn) (i : Nat) (r : Rn) (w : World) (hown : w.ownsRow base 78 4 v l.length (flat l)) (hbase : base ≤ w.heap.size) (hl : l.length < 1000000) (hi : i ≤ l.length)
    (h1 : ∀ t x, l[t]? = some x → t < i → x.ord r < 0) (h2 : ∀ t x, l[t]? = some x → i ≤ t → 0 ≤ x.ord r) :
    Calls Try.prog 72 #[v, .agg #[.int .i64 r.p, .int .i64 r.k, .int .i64 r.f, .int .i64 r.t]] w fun e w' => ∃ v', e = .returned v' ∧ w'.ownsRow base 78 4 v' (l.length + 1) (flat (insAt l i r)) ∧ w.grownBy w' v.ownBlock := by
  have hS : ∀ W : World, Below w.heap.size w W → Calls Try.prog 74 #[v, .agg #[.int .i64 r.p, .int .i64 r.k, .int .i64 r.f, .int .i64 r.t], .func (.func 75) #[] #[]] W fun e w' => ∃ b, e = .returned (.tuple #[.int .i64 i, .bool b]) ∧ Below W.heap.size W w' := by
    intro W hW
    rcases hown.2 with ⟨rfl, h⟩ | ⟨g, cap, cur, rfl, _, hg, _⟩
    · obtain rfl : i = 0 := by omega
      exact search_nil r W
    · have hgw : g < w.heap.size := (Array.getElem?_eq_some_iff.1 hg).1
      exact search_any g cap l r W (by have := hW.size; omega) (by omega) ((RowAt.owned hown).below hW hgw) i hi h1 h2
  have hI : ∀ W : World, Below w.heap.size w W → ∀ W2 : World, W2 = W.alloc (.cells #[.int .i64 r.p, .int .i64 r.k, .int .i64 r.f, .int .i64 r.t] 78) → Calls Try.prog 76 #[v, .int .i64 i, .slice (some ⟨W.heap.size, 0, none⟩) 1 1] W2 fun e w' => ∃ v', e = .returned v' ∧ w'.ownsRow base 78 4 v' (l.length + 1) (flat (insAt l i r)) ∧ w.grownBy w' v.ownBlock := by
    intro W hW W2 hW2
    have hs := hW.size
    have ho : W.ownsRow base 78 4 v l.length (flat l) := hown.kept (gb_below hW none) (by cases hv : v.ownBlock <;> simp)
    refine (Insert_any base v l i r W.heap.size W2 (by rw [hW2]; exact ho.alloc _) (by rw [hW2]; simp; omega) hl hi (by rw [hW2]; exact heap_alloc_new W _) (fun e => by have := (ho.lt _ e).2; omega)).mono ?_
    rintro e w' ⟨v', rfl, h3, h4⟩
    refine ⟨v', rfl, h3, gb_trans (gb_trans (gb_below hW _) ?_) h4⟩
    rw [hW2]
    exact World.grownBy_alloc W _ _
  have HS : Hid _ := hS
  have HI : Hid _ := hI
  clear hS hI h1 h2 hown
  go_enter Try.func72, Try.ntmps72
  go_wp2_with (first
    | (go_at_call 74; refine (HS.out _ ((Below.refl _ _).alloc (Nat.le_refl _) _)).mono ?_; rintro e w' ⟨b, rfl, hb⟩; obtain ⟨hc, hf⟩ := bcell hb; have HB : Hid _ := hb; have hz := hb.size; simp at hz; clear hb)
    | (go_at_call 76; refine (HI.out w' (((Below.refl _ _).alloc (Nat.le_refl _) _).trans (HB.out.mono (by simp))) _ rfl).mono ?_; rintro e w'' ⟨v', rfl, h3, h4⟩))
  go_ret
  exact ⟨_, rfl, h3, h4⟩
end Go.Proofs.Ytafgecmenadhdaa
