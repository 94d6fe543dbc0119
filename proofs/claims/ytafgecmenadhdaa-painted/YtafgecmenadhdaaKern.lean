/- What a Kernel is in memory; the contracts of read, lock and test (the guard is held). -/
import Derived.Test.YtafgecmenadhdaaProcs
import Derived.Test.YtafgecmenadhdaaLists
import Derived.Test.YtafgecmenadhdaaLocks
namespace Go.Proofs.Ytafgecmenadhdaa
open Go.RowKit Go.Lib

/-- A Kernel's state: which processes live; each descriptor's opening (its block); an opening's file; a file's runs. -/
structure KS where
  L : Nat → Bool
  F : Int → Int → Option Nat
  O : Nat → Int
  R : Nat → List Rn

def RunOk (r : Rn) : Prop := 0 ≤ r.f ∧ r.f ≤ r.t ∧ r.t ≤ 63
/-- The plain invariant of a state. -/
structure KS.Ok (s : KS) : Prop where
  o : ∀ p d b, s.F p d = some b → 0 ≤ s.O b ∧ s.O b < 3
  f : ∀ p d b, s.F p d = some b → liveB s.L p = true ∧ 0 ≤ d ∧ d < 5
  len : ∀ i, (s.R i).length ≤ 12
  run : ∀ i x, x ∈ s.R i → RunOk x

/-- The Kernel in block kb, its table in tb, the map in mb; g: the guard's word. -/
structure KInv (w : World) (kb tb mb : Nat) (g : Int) (s : KS) : Prop where
  k : ∃ v0 v1 v2, w.heap[kb]? = some (.cells #[.int .i32 g, .int .u32 0, .pointer (some ⟨tb, 0, none⟩), v0, v1, v2] 59 (0, 0)) ∧ Reads w v0 (s.R 0) ∧ Reads w v1 (s.R 1) ∧ Reads w v2 (s.R 2)
  t : Tab w tb mb s.L
  m : MapAt w mb s.F
  o : ∀ p d b, s.F p d = some b → OpenAt w b (s.O b)
  ok : s.Ok

theorem KInv.lt {w : World} {kb tb mb : Nat} {g : Int} {s : KS} (h : KInv w kb tb mb g s) : kb < w.heap.size := by
  obtain ⟨v0, v1, v2, hk, _⟩ := h.k
  exact (Array.getElem?_eq_some_iff.1 hk).1
theorem KInv.ne1 {w : World} {kb tb mb : Nat} {g : Int} {s : KS} (h : KInv w kb tb mb g s) : kb ≠ tb := fun e => by
  obtain ⟨v0, v1, v2, hk, _⟩ := h.k
  have ht := h.t
  unfold Tab at ht
  rw [e, ht] at hk
  cases hk
theorem KInv.ne2 {w : World} {kb tb mb : Nat} {g : Int} {s : KS} (h : KInv w kb tb mb g s) : kb ≠ mb := fun e => by
  obtain ⟨v0, v1, v2, hk, _⟩ := h.k
  obtain ⟨es, c, M, hm, _⟩ := h.m
  rw [e, hm] at hk
  cases hk
theorem KInv.ne3 {w : World} {kb tb mb : Nat} {g : Int} {s : KS} (h : KInv w kb tb mb g s) : tb ≠ mb := fun e => by
  have ht := h.t
  obtain ⟨es, c, M, hm, _⟩ := h.m
  unfold Tab at ht
  rw [e, hm] at ht
  cases ht
/-- A block of runs, or of an opening, is none of the Kernel's own three. -/
theorem KInv.far {w : World} {kb tb mb : Nat} {g : Int} {s : KS} (h : KInv w kb tb mb g s) {b : Nat} {x : Int} (hb : w.cell? ⟨b, 0, none⟩ = some (.int .i64 x)) : b ∉ [kb, tb, mb] := by
  obtain ⟨v0, v1, v2, hk, _⟩ := h.k
  obtain ⟨es, c, M, hm, _⟩ := h.m
  have ht := h.t.cell 0 (by omega)
  intro hmem
  simp only [List.mem_cons, List.not_mem_nil, or_false] at hmem
  rcases hmem with rfl | rfl | rfl
  · simp [World.cell?, hk] at hb
  · rw [ht] at hb; cases hb
  · simp [World.cell?, hm] at hb
theorem KInv.farBlk {w : World} {kb tb mb : Nat} {g : Int} {s : KS} (h : KInv w kb tb mb g s) {b : Nat} (hb : Blk w b) : b ∉ [kb, tb, mb] := by
  obtain ⟨cur, hb⟩ := hb
  obtain ⟨v0, v1, v2, hk, _⟩ := h.k
  obtain ⟨es, c, M, hm, _⟩ := h.m
  have ht := h.t
  unfold Tab at ht
  intro hmem
  simp only [List.mem_cons, List.not_mem_nil, or_false] at hmem
  rcases hmem with rfl | rfl | rfl
  · rw [hk] at hb; cases hb
  · rw [ht] at hb; cases hb
  · rw [hm] at hb; cases hb
theorem Reads.kp {w w' : World} {kb tb mb : Nat} {g : Int} {s : KS} (h : KInv w kb tb mb g s) (hk : Kp [kb, tb, mb] w w') {v : Value} {l : List Rn} (hr : Reads w v l) : Reads w' v l := by
  rcases hr with hr | ⟨b, cap, hv, hb, hrow⟩
  · exact Or.inl hr
  · have hblk := hk.block b hb.lt (h.farBlk hb)
    refine Or.inr ⟨b, cap, hv, hb.of_block hblk, ?_⟩
    intro i r hir
    obtain ⟨a, b', c, d⟩ := hrow i r hir
    exact ⟨(World.cell?_of_block (w := w) (a := ⟨b, _, none⟩) hblk).trans a, (World.cell?_of_block (w := w) (a := ⟨b, _, none⟩) hblk).trans b', (World.cell?_of_block (w := w) (a := ⟨b, _, none⟩) hblk).trans c, (World.cell?_of_block (w := w) (a := ⟨b, _, none⟩) hblk).trans d⟩
theorem OpenAt.kp {w w' : World} {kb tb mb : Nat} {g : Int} {s : KS} (h : KInv w kb tb mb g s) (hk : Kp [kb, tb, mb] w w') {b : Nat} {f : Int} (ho : OpenAt w b f) : OpenAt w' b f := by
  have hb : b < w.heap.size := (Array.getElem?_eq_some_iff.1 ho).1
  exact ho.of_block (hk.block b hb (h.far (x := f) (by unfold OpenAt at ho; simp [World.cell?, ho])))
theorem KInv.below {w w' : World} {kb tb mb : Nat} {g : Int} {s : KS} (h : KInv w kb tb mb g s) (hb : Below w.heap.size w w') : KInv w' kb tb mb g s := by
  obtain ⟨v0, v1, v2, hk, r0, r1, r2⟩ := h.k
  have hkp : Kp [kb, tb, mb] w w' := Kp.below hb
  exact ⟨⟨v0, v1, v2, (hb.block kb h.lt).trans hk, r0.kp h hkp, r1.kp h hkp, r2.kp h hkp⟩, h.t.of_block (hb.block tb h.t.lt), h.m.of_block (hb.block mb h.m.lt), fun p d b hf => (h.o p d b hf).kp h hkp, h.ok⟩

theorem KInv.cells {w : World} {kb tb mb : Nat} {g : Int} {s : KS} (h : KInv w kb tb mb g s) : w.cell? ⟨kb, 0, none⟩ = some (.int .i32 g) ∧ w.cell? ⟨kb, 2, none⟩ = some (.pointer (some ⟨tb, 0, none⟩)) ∧ (∀ o, w.frozen? ⟨kb, o, none⟩ = false) := by
  obtain ⟨v0, v1, v2, hk, _⟩ := h.k
  refine ⟨?_, ?_, fun o => ?_⟩ <;> simp [World.cell?, World.frozen?, hk]
theorem KInv.file {w : World} {kb tb mb : Nat} {g : Int} {s : KS} (h : KInv w kb tb mb g s) (i : Nat) (hi : i < 3) : ∃ v, w.cell? ⟨kb, 3 + i, none⟩ = some v ∧ Reads w v (s.R i) := by
  obtain ⟨v0, v1, v2, hk, r0, r1, r2⟩ := h.k
  obtain rfl | rfl | rfl : i = 0 ∨ i = 1 ∨ i = 2 := by omega
  · exact ⟨v0, by simp [World.cell?, hk], r0⟩
  · exact ⟨v1, by simp [World.cell?, hk], r1⟩
  · exact ⟨v2, by simp [World.cell?, hk], r2⟩

set_option maxHeartbeats 2000000 in
set_option maxRecDepth 100000 in
theorem read_ok {w : World} {kb tb mb b : Nat} {g : Int} {s : KS} (h : KInv w kb tb mb g s) (p d k f l m : Int) (hl : liveB s.L p = true) (hf : s.F p d = some b) (hk : kindB k = true) (hm : m ≤ k) (hs : badS f l = false) :
    Calls Try.prog 36 #[.pointer (some ⟨kb, 0, none⟩), .int .i64 p, .int .i64 d, .int .i64 k, .int .i64 f, .int .i64 l, .int .i64 m] w fun e w' => e = .returned (.tuple #[.int .i64 (s.O b), .agg #[.int .i64 p, .int .i64 k, .int .i64 (fromS f l), .int .i64 (toS f l)], .int .i64 0]) ∧ Below w.heap.size w w' := by
  obtain ⟨c0, c2, cz⟩ := h.cells
  have hlt := h.lt
  have hX : ∀ (W : World), Below w.heap.size w W → Calls Try.prog 53 #[.pointer (some ⟨tb, 0, none⟩), .int .i64 p, .int .i64 d] W fun e w' => e = .returned (.tuple #[.int .i64 (s.O b), .int .i64 0]) ∧ w' = W := fun W hW => by
    have h' := h.below hW
    exact File_some h'.t h'.m p d hl hf (h'.o p d b hf)
  have HX := Hid.mk hX
  have HK := Hid.mk hk
  have HS := Hid.mk hs
  have hkk := hk
  simp [kindB] at hkk
  obtain ⟨hk0, hk2⟩ := hkk
  clear hX h hf hl hk hs
  go_enter Try.func36, Try.ntmps36
  go_wp2_with (first
    | (go_at_call 53; refine (HX.out _ ((Below.refl _ _).alloc (Nat.le_refl _) _)).mono ?_; rintro e w' ⟨rfl, hw⟩; have hw2 := hw.symm; clear hw; subst hw2)
    | (go_at_call 54; have hko := KindOf_any k (w.alloc (.cells #[.int .i64 0, .int .i64 0, .int .i64 0, .int .i64 0] 78)); rw [HK.out] at hko; simp only [if_true] at hko; refine hko.mono ?_; clear hko; rintro e w' ⟨rfl, hw⟩; have hw2 := hw.symm; clear hw; subst hw2)
    | (go_at_call 55; refine (Bounds_ok _ _ _ HS.out).mono ?_; rintro e w' ⟨rfl, hw⟩; have hw2 := hw.symm; clear hw; subst hw2))
  exact bodyPost_ret (v := .tuple #[.int .i64 (s.O b), .agg #[.int .i64 p, .int .i64 k, .int .i64 (fromS f l), .int .i64 (toS f l)], .int .i64 0]) (by simp [results, Try.results36, go_sem]) rfl ⟨rfl, (Below.refl _ _).alloc (Nat.le_refl _) _⟩

/-- How read ends: 0, or the error's number. -/
def readE (s : KS) (p d k f l m : Int) : Int :=
  if liveB s.L p = false then 1 else if s.F p d = none then 5 else if kindB k = false ∨ k < m then 6 else if badS f l = true then 7 else 0

set_option maxHeartbeats 2000000 in
set_option maxRecDepth 100000 in
theorem read_dead {w : World} {kb tb mb : Nat} {g : Int} {s : KS} (h : KInv w kb tb mb g s) (p d k f l m : Int) (hl : liveB s.L p = false) :
    Calls Try.prog 36 #[.pointer (some ⟨kb, 0, none⟩), .int .i64 p, .int .i64 d, .int .i64 k, .int .i64 f, .int .i64 l, .int .i64 m] w fun e w' => e = .returned (.tuple #[.int .i64 0, .agg #[.int .i64 0, .int .i64 0, .int .i64 0, .int .i64 0], .int .i64 1]) ∧ Below w.heap.size w w' := by
  obtain ⟨c0, c2, cz⟩ := h.cells
  have hlt := h.lt
  have HX := Hid.mk (fun (W : World) (hW : Below w.heap.size w W) => File_dead (h.below hW).t p d hl)
  clear h hl
  go_enter Try.func36, Try.ntmps36
  go_wp2_with (go_at_call 53; refine (HX.out _ ((Below.refl _ _).alloc (Nat.le_refl _) _)).mono ?_; rintro e w' ⟨rfl, hw⟩; have hw2 := hw.symm; clear hw; subst hw2)
  exact bodyPost_ret (v := .tuple #[.int .i64 0, .agg #[.int .i64 0, .int .i64 0, .int .i64 0, .int .i64 0], .int .i64 1]) (by simp [results, Try.results36, go_sem]) rfl ⟨rfl, (Below.refl _ _).alloc (Nat.le_refl _) _⟩
set_option maxHeartbeats 2000000 in
set_option maxRecDepth 100000 in
theorem read_fd {w : World} {kb tb mb : Nat} {g : Int} {s : KS} (h : KInv w kb tb mb g s) (p d k f l m : Int) (hl : liveB s.L p = true) (hf : s.F p d = none) :
    Calls Try.prog 36 #[.pointer (some ⟨kb, 0, none⟩), .int .i64 p, .int .i64 d, .int .i64 k, .int .i64 f, .int .i64 l, .int .i64 m] w fun e w' => e = .returned (.tuple #[.int .i64 0, .agg #[.int .i64 0, .int .i64 0, .int .i64 0, .int .i64 0], .int .i64 5]) ∧ Below w.heap.size w w' := by
  obtain ⟨c0, c2, cz⟩ := h.cells
  have hlt := h.lt
  have HX := Hid.mk (fun (W : World) (hW : Below w.heap.size w W) => File_none (h.below hW).t (h.below hW).m p d hl hf)
  clear h hl hf
  go_enter Try.func36, Try.ntmps36
  go_wp2_with (go_at_call 53; refine (HX.out _ ((Below.refl _ _).alloc (Nat.le_refl _) _)).mono ?_; rintro e w' ⟨rfl, hw⟩; have hw2 := hw.symm; clear hw; subst hw2)
  exact bodyPost_ret (v := .tuple #[.int .i64 0, .agg #[.int .i64 0, .int .i64 0, .int .i64 0, .int .i64 0], .int .i64 5]) (by simp [results, Try.results36, go_sem]) rfl ⟨rfl, (Below.refl _ _).alloc (Nat.le_refl _) _⟩
set_option maxHeartbeats 2000000 in
set_option maxRecDepth 100000 in
theorem read_kind {w : World} {kb tb mb b : Nat} {g : Int} {s : KS} (h : KInv w kb tb mb g s) (p d k f l m : Int) (hl : liveB s.L p = true) (hf : s.F p d = some b) (hk : kindB k = false ∨ k < m) :
    Calls Try.prog 36 #[.pointer (some ⟨kb, 0, none⟩), .int .i64 p, .int .i64 d, .int .i64 k, .int .i64 f, .int .i64 l, .int .i64 m] w fun e w' => e = .returned (.tuple #[.int .i64 0, .agg #[.int .i64 0, .int .i64 0, .int .i64 0, .int .i64 0], .int .i64 6]) ∧ Below w.heap.size w w' := by
  obtain ⟨c0, c2, cz⟩ := h.cells
  have hlt := h.lt
  have HX := Hid.mk (fun (W : World) (hW : Below w.heap.size w W) => File_some (h.below hW).t (h.below hW).m p d hl hf ((h.below hW).o p d b hf))
  clear h hl hf
  cases hkb : kindB k
  · have HK := Hid.mk hkb
    clear hkb hk
    go_enter Try.func36, Try.ntmps36
    go_wp2_with (first
      | (go_at_call 53; refine (HX.out _ ((Below.refl _ _).alloc (Nat.le_refl _) _)).mono ?_; rintro e w' ⟨rfl, hw⟩; have hw2 := hw.symm; clear hw; subst hw2)
      | (go_at_call 54; have hko := KindOf_any k (w.alloc (.cells #[.int .i64 0, .int .i64 0, .int .i64 0, .int .i64 0] 78)); rw [HK.out] at hko; simp only [Bool.false_eq_true, if_false] at hko; refine hko.mono ?_; clear hko; rintro e w' ⟨rfl, hw⟩; have hw2 := hw.symm; clear hw; subst hw2))
    exact bodyPost_ret (v := .tuple #[.int .i64 0, .agg #[.int .i64 0, .int .i64 0, .int .i64 0, .int .i64 0], .int .i64 6]) (by simp [results, Try.results36, go_sem]) rfl ⟨rfl, (Below.refl _ _).alloc (Nat.le_refl _) _⟩
  · have HK := Hid.mk hkb
    have hkm : k < m := by rcases hk with hk | hk; (rw [hk] at hkb; cases hkb); exact hk
    clear hkb hk
    go_enter Try.func36, Try.ntmps36
    go_wp2_with (first
      | (go_at_call 53; refine (HX.out _ ((Below.refl _ _).alloc (Nat.le_refl _) _)).mono ?_; rintro e w' ⟨rfl, hw⟩; have hw2 := hw.symm; clear hw; subst hw2)
      | (go_at_call 54; have hko := KindOf_any k (w.alloc (.cells #[.int .i64 0, .int .i64 0, .int .i64 0, .int .i64 0] 78)); rw [HK.out] at hko; simp only [if_true] at hko; refine hko.mono ?_; clear hko; rintro e w' ⟨rfl, hw⟩; have hw2 := hw.symm; clear hw; subst hw2))
    exact bodyPost_ret (v := .tuple #[.int .i64 0, .agg #[.int .i64 0, .int .i64 0, .int .i64 0, .int .i64 0], .int .i64 6]) (by simp [results, Try.results36, go_sem]) rfl ⟨rfl, (Below.refl _ _).alloc (Nat.le_refl _) _⟩
set_option maxHeartbeats 2000000 in
set_option maxRecDepth 100000 in
theorem read_range {w : World} {kb tb mb b : Nat} {g : Int} {s : KS} (h : KInv w kb tb mb g s) (p d k f l m : Int) (hl : liveB s.L p = true) (hf : s.F p d = some b) (hk : kindB k = true) (hm : m ≤ k) (hs : badS f l = true) :
    Calls Try.prog 36 #[.pointer (some ⟨kb, 0, none⟩), .int .i64 p, .int .i64 d, .int .i64 k, .int .i64 f, .int .i64 l, .int .i64 m] w fun e w' => e = .returned (.tuple #[.int .i64 0, .agg #[.int .i64 0, .int .i64 0, .int .i64 0, .int .i64 0], .int .i64 7]) ∧ Below w.heap.size w w' := by
  obtain ⟨c0, c2, cz⟩ := h.cells
  have hlt := h.lt
  have HX := Hid.mk (fun (W : World) (hW : Below w.heap.size w W) => File_some (h.below hW).t (h.below hW).m p d hl hf ((h.below hW).o p d b hf))
  have HK := Hid.mk hk
  have HS := Hid.mk hs
  clear h hf hl hk hs
  go_enter Try.func36, Try.ntmps36
  go_wp2_with (first
    | (go_at_call 53; refine (HX.out _ ((Below.refl _ _).alloc (Nat.le_refl _) _)).mono ?_; rintro e w' ⟨rfl, hw⟩; have hw2 := hw.symm; clear hw; subst hw2)
    | (go_at_call 54; have hko := KindOf_any k (w.alloc (.cells #[.int .i64 0, .int .i64 0, .int .i64 0, .int .i64 0] 78)); rw [HK.out] at hko; simp only [if_true] at hko; refine hko.mono ?_; clear hko; rintro e w' ⟨rfl, hw⟩; have hw2 := hw.symm; clear hw; subst hw2)
    | (go_at_call 55; refine (Bounds_bad _ _ _ HS.out).mono ?_; rintro e w' ⟨rfl, hw⟩; have hw2 := hw.symm; clear hw; subst hw2))
  exact bodyPost_ret (v := .tuple #[.int .i64 0, .agg #[.int .i64 0, .int .i64 0, .int .i64 0, .int .i64 0], .int .i64 7]) (by simp [results, Try.results36, go_sem]) rfl ⟨rfl, (Below.refl _ _).alloc (Nat.le_refl _) _⟩

/-- read, where it fails. -/
theorem read_err {w : World} {kb tb mb : Nat} {g : Int} {s : KS} (h : KInv w kb tb mb g s) (p d k f l m : Int) (he : readE s p d k f l m ≠ 0) :
    Calls Try.prog 36 #[.pointer (some ⟨kb, 0, none⟩), .int .i64 p, .int .i64 d, .int .i64 k, .int .i64 f, .int .i64 l, .int .i64 m] w fun e w' => e = .returned (.tuple #[.int .i64 0, .agg #[.int .i64 0, .int .i64 0, .int .i64 0, .int .i64 0], .int .i64 (readE s p d k f l m)]) ∧ Below w.heap.size w w' := by
  unfold readE at he ⊢
  by_cases h1 : liveB s.L p = false
  · rw [if_pos h1]; exact read_dead h p d k f l m h1
  · rw [if_neg h1] at he ⊢
    simp only [Bool.not_eq_false] at h1
    cases hf : s.F p d with
    | none => simp only [if_true]; exact read_fd h p d k f l m h1 hf
    | some b =>
      simp only [hf, reduceCtorEq, if_false] at he ⊢
      by_cases h2 : kindB k = false ∨ k < m
      · rw [if_pos h2]; exact read_kind h p d k f l m h1 hf h2
      · rw [if_neg h2] at he ⊢
        by_cases h3 : badS f l = true
        · rw [if_pos h3]
          exact read_range h p d k f l m h1 hf (by cases hk : kindB k; exact absurd (Or.inl hk) h2; rfl) (by omega) h3
        · rw [if_neg h3] at he; exact absurd rfl he
theorem readE_zero {s : KS} {p d k f l m : Int} (he : readE s p d k f l m = 0) : ∃ b, liveB s.L p = true ∧ s.F p d = some b ∧ kindB k = true ∧ m ≤ k ∧ badS f l = false := by
  unfold readE at he
  split at he
  · omega
  · rename_i h1
    split at he
    · omega
    · rename_i h2
      split at he
      · omega
      · rename_i h3
        split at he
        · omega
        · rename_i h4
          obtain ⟨b, hb⟩ := Option.ne_none_iff_exists'.1 h2
          exact ⟨b, by simpa using h1, hb, by cases hk : kindB k; exact absurd (Or.inl hk) h3; rfl, by omega, by simpa using h4⟩
end Go.Proofs.Ytafgecmenadhdaa
