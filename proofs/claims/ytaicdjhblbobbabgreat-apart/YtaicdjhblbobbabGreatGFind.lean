/- Contracts of the Kernel's find and read: what a call's numbers speak of. -/
import Derived.Test.YtaicdjhblbobbabGreatGMem
namespace Go.Proofs.YtaicdjhblbobbabGreat
open Go.RowKit Go.Lib

/-- How find ends: 0, or the error's number. -/
def DS.findK (s : DS) (p d k m : Int) : Int :=
  if liveB s.L p = false then 1 else if s.F p d = none then 5 else if kindB k = false ∨ k < m then 6 else 0
def DS.readK (s : DS) (p d k f l m : Int) : Int := if s.findK p d k m ≠ 0 then s.findK p d k m else if badS f l = true then 7 else 0
theorem findE_ren {ι : Nat → Nat} {s : DS} (p d : Int) : findE s.L (renF ι s.F) p d = if liveB s.L p = false then 1 else if s.F p d = none then 5 else 0 := by
  unfold findE renF
  cases s.F p d <;> simp

section
variable {w : World} {kb tb mb : Nat} {g : Int} {P : Nat → Prop} {ι : Nat → Nat} {s : DS} {rv wv : Nat → Value} {qv : Value}
set_option maxHeartbeats 2000000 in
set_option maxRecDepth 100000 in
theorem find_no (h : KV w kb tb mb g P ι s rv wv qv) (p d k m : Int) (he : findE s.L (renF ι s.F) p d ≠ 0) :
    Calls Tryz.prog 43 #[.pointer (some ⟨kb, 0, none⟩), .int .i64 p, .int .i64 d, .int .i64 k, .int .i64 m] w fun e w' => e = .returned (.tuple #[.pointer none, .int .i64 0, .int .i64 (findE s.L (renF ι s.F) p d)]) ∧ w' = w := by
  have HF := Hid.mk (Find_err h.t h.m p d he)
  have c2 := h.c2
  have hkl := h.lt
  generalize findE s.L (renF ι s.F) p d = E at *
  have hE : (E != 0) = true := by simpa using he
  clear h he
  go_enter Tryz.func43, Tryz.ntmps43
  go_wp2_with (go_at_call 62; refine HF.out.mono ?_; rintro e w' ⟨rfl, hw⟩; have hw2 := hw.symm; clear hw; subst hw2)
  exact bodyPost_ret (v := .tuple #[.pointer none, .int .i64 0, .int .i64 E]) (by simp [results, Tryz.results43, go_sem]) rfl ⟨rfl, rfl⟩
set_option maxHeartbeats 2000000 in
set_option maxRecDepth 100000 in
theorem find_kind (h : KV w kb tb mb g P ι s rv wv qv) (p d k m : Int) {o : Nat} (hl : liveB s.L p = true) (hf : s.F p d = some o) (hk : kindB k = false ∨ k < m) :
    Calls Tryz.prog 43 #[.pointer (some ⟨kb, 0, none⟩), .int .i64 p, .int .i64 d, .int .i64 k, .int .i64 m] w fun e w' => e = .returned (.tuple #[.pointer none, .int .i64 0, .int .i64 6]) ∧ w' = w := by
  have HF := Hid.mk (Find_ok (b := ι o) h.t h.m p d hl (by unfold renF; rw [hf]; rfl))
  have c2 := h.c2
  have hkl := h.lt
  have HK := Hid.mk (KindOf_any k w)
  clear h hl hf
  cases hkb : kindB k
  · rw [hkb] at HK
    simp only [Bool.false_eq_true, if_false] at HK
    clear hkb hk
    go_enter Tryz.func43, Tryz.ntmps43
    go_wp2_with (first
      | (go_at_call 62; refine HF.out.mono ?_; rintro e w' ⟨rfl, hw⟩; have hw2 := hw.symm; clear hw; subst hw2)
      | (go_at_call 63; refine HK.out.mono ?_; rintro e w' ⟨rfl, hw⟩; have hw2 := hw.symm; clear hw; subst hw2))
    exact bodyPost_ret (v := .tuple #[.pointer none, .int .i64 0, .int .i64 6]) (by simp [results, Tryz.results43, go_sem]) rfl ⟨rfl, rfl⟩
  · have hkm : k < m := by rcases hk with hk | hk; (rw [hk] at hkb; cases hkb); exact hk
    rw [hkb] at HK
    simp only [if_true] at HK
    clear hkb hk
    go_enter Tryz.func43, Tryz.ntmps43
    go_wp2_with (first
      | (go_at_call 62; refine HF.out.mono ?_; rintro e w' ⟨rfl, hw⟩; have hw2 := hw.symm; clear hw; subst hw2)
      | (go_at_call 63; refine HK.out.mono ?_; rintro e w' ⟨rfl, hw⟩; have hw2 := hw.symm; clear hw; subst hw2))
    exact bodyPost_ret (v := .tuple #[.pointer none, .int .i64 0, .int .i64 6]) (by simp [results, Tryz.results43, go_sem]) rfl ⟨rfl, rfl⟩
set_option maxHeartbeats 2000000 in
set_option maxRecDepth 100000 in
theorem find_yes (h : KV w kb tb mb g P ι s rv wv qv) (p d k m : Int) {o : Nat} (hl : liveB s.L p = true) (hf : s.F p d = some o) (hk : kindB k = true) (hm : m ≤ k) :
    Calls Tryz.prog 43 #[.pointer (some ⟨kb, 0, none⟩), .int .i64 p, .int .i64 d, .int .i64 k, .int .i64 m] w fun e w' => e = .returned (.tuple #[.pointer (some ⟨ι o, 0, none⟩), .int .i64 k, .int .i64 0]) ∧ w' = w := by
  have HF := Hid.mk (Find_ok (b := ι o) h.t h.m p d hl (by unfold renF; rw [hf]; rfl))
  have c2 := h.c2
  have hkl := h.lt
  have HK := Hid.mk (KindOf_any k w)
  rw [hk] at HK
  simp only [if_true] at HK
  have hm' : ¬ k < m := by omega
  clear h hl hf hk hm
  go_enter Tryz.func43, Tryz.ntmps43
  go_wp2_with (first
    | (go_at_call 62; refine HF.out.mono ?_; rintro e w' ⟨rfl, hw⟩; have hw2 := hw.symm; clear hw; subst hw2)
    | (go_at_call 63; refine HK.out.mono ?_; rintro e w' ⟨rfl, hw⟩; have hw2 := hw.symm; clear hw; subst hw2))
  exact bodyPost_ret (v := .tuple #[.pointer (some ⟨ι o, 0, none⟩), .int .i64 k, .int .i64 0]) (by simp [results, Tryz.results43, go_sem]) rfl ⟨rfl, rfl⟩

theorem find_err (h : KV w kb tb mb g P ι s rv wv qv) (p d k m : Int) (he : s.findK p d k m ≠ 0) :
    Calls Tryz.prog 43 #[.pointer (some ⟨kb, 0, none⟩), .int .i64 p, .int .i64 d, .int .i64 k, .int .i64 m] w fun e w' => e = .returned (.tuple #[.pointer none, .int .i64 0, .int .i64 (s.findK p d k m)]) ∧ w' = w := by
  have hE := findE_ren (ι := ι) (s := s) p d
  unfold DS.findK at he ⊢
  by_cases h1 : liveB s.L p = false
  · rw [if_pos h1] at hE ⊢
    rw [← hE]
    exact find_no h p d k m (by rw [hE]; decide)
  · rw [if_neg h1] at he hE ⊢
    simp only [Bool.not_eq_false] at h1
    cases hf : s.F p d with
    | none =>
      rw [hf] at hE
      simp only [if_true] at hE ⊢
      rw [← hE]
      exact find_no h p d k m (by rw [hE]; decide)
    | some o =>
      rw [hf] at he
      simp only [reduceCtorEq, if_false] at he ⊢
      by_cases h2 : kindB k = false ∨ k < m
      · rw [if_pos h2]; exact find_kind h p d k m h1 hf h2
      · rw [if_neg h2] at he; exact absurd rfl he
theorem findK_zero {s : DS} {p d k m : Int} (he : s.findK p d k m = 0) : ∃ o, liveB s.L p = true ∧ s.F p d = some o ∧ kindB k = true ∧ m ≤ k := by
  unfold DS.findK at he
  split at he
  · omega
  · rename_i h1
    split at he
    · omega
    · rename_i h2
      split at he
      · omega
      · rename_i h3
        obtain ⟨o, ho⟩ := Option.ne_none_iff_exists'.1 h2
        exact ⟨o, by simpa using h1, ho, by cases hk : kindB k; exact absurd (Or.inl hk) h3; rfl, by omega⟩

set_option maxHeartbeats 2000000 in
set_option maxRecDepth 100000 in
theorem read_no (h : KV w kb tb mb g P ι s rv wv qv) (p d k f l m : Int) (he : s.findK p d k m ≠ 0) :
    Calls Tryz.prog 39 #[.pointer (some ⟨kb, 0, none⟩), .int .i64 p, .int .i64 d, .int .i64 k, .int .i64 f, .int .i64 l, .int .i64 m] w fun e w' => e = .returned (.tuple #[.int .i64 0, .agg #[.int .i64 0, .int .i64 0, .int .i64 0, .int .i64 0], .int .i64 (s.findK p d k m)]) ∧ Below w.heap.size w w' := by
  have HF := Hid.mk (find_err (h.below ((Below.refl _ _).alloc (Nat.le_refl _) (.cells #[.int .i64 0, .int .i64 0, .int .i64 0, .int .i64 0] 85))) p d k m he)
  generalize s.findK p d k m = E at *
  have hE : (E != 0) = true := by simpa using he
  clear h he
  go_enter Tryz.func39, Tryz.ntmps39
  go_wp2_with (go_at_call 43; refine HF.out.mono ?_; rintro e w' ⟨rfl, hw⟩; have hw2 := hw.symm; clear hw; subst hw2)
  exact bodyPost_ret (v := .tuple #[.int .i64 0, .agg #[.int .i64 0, .int .i64 0, .int .i64 0, .int .i64 0], .int .i64 E]) (by simp [results, Tryz.results39, go_sem]) rfl ⟨rfl, (Below.refl _ _).alloc (Nat.le_refl _) _⟩
set_option maxHeartbeats 2000000 in
set_option maxRecDepth 100000 in
theorem read_range (h : KV w kb tb mb g P ι s rv wv qv) (p d k f l m : Int) {o : Nat} (hl : liveB s.L p = true) (hf : s.F p d = some o) (hk : kindB k = true) (hm : m ≤ k) (hs : badS f l = true) :
    Calls Tryz.prog 39 #[.pointer (some ⟨kb, 0, none⟩), .int .i64 p, .int .i64 d, .int .i64 k, .int .i64 f, .int .i64 l, .int .i64 m] w fun e w' => e = .returned (.tuple #[.int .i64 0, .agg #[.int .i64 0, .int .i64 0, .int .i64 0, .int .i64 0], .int .i64 7]) ∧ Below w.heap.size w w' := by
  have HF := Hid.mk (find_yes (h.below ((Below.refl _ _).alloc (Nat.le_refl _) (.cells #[.int .i64 0, .int .i64 0, .int .i64 0, .int .i64 0] 85))) p d k m hl hf hk hm)
  have HS := Hid.mk hs
  clear h hl hf hk hm hs
  go_enter Tryz.func39, Tryz.ntmps39
  go_wp2_with (first
    | (go_at_call 43; refine HF.out.mono ?_; rintro e w' ⟨rfl, hw⟩; have hw2 := hw.symm; clear hw; subst hw2)
    | (go_at_call 57; refine (Bounds_bad _ _ _ HS.out).mono ?_; rintro e w' ⟨rfl, hw⟩; have hw2 := hw.symm; clear hw; subst hw2))
  exact bodyPost_ret (v := .tuple #[.int .i64 0, .agg #[.int .i64 0, .int .i64 0, .int .i64 0, .int .i64 0], .int .i64 7]) (by simp [results, Tryz.results39, go_sem]) rfl ⟨rfl, (Below.refl _ _).alloc (Nat.le_refl _) _⟩
theorem read_err (h : KV w kb tb mb g P ι s rv wv qv) (p d k f l m : Int) (he : s.readK p d k f l m ≠ 0) :
    Calls Tryz.prog 39 #[.pointer (some ⟨kb, 0, none⟩), .int .i64 p, .int .i64 d, .int .i64 k, .int .i64 f, .int .i64 l, .int .i64 m] w fun e w' => e = .returned (.tuple #[.int .i64 0, .agg #[.int .i64 0, .int .i64 0, .int .i64 0, .int .i64 0], .int .i64 (s.readK p d k f l m)]) ∧ Below w.heap.size w w' := by
  unfold DS.readK at he ⊢
  by_cases h1 : s.findK p d k m = 0
  · rw [if_neg (by simpa using h1)] at he ⊢
    obtain ⟨o, h2, h3, h4, h5⟩ := findK_zero h1
    by_cases hb : badS f l = true
    · rw [if_pos hb]; exact read_range h p d k f l m h2 h3 h4 h5 hb
    · rw [if_neg hb] at he; exact absurd rfl he
  · rw [if_pos h1]; exact read_no h p d k f l m h1
set_option maxHeartbeats 2000000 in
set_option maxRecDepth 100000 in
theorem read_ok (h : KV w kb tb mb g P ι s rv wv qv) (p d k f l m : Int) {o : Nat} (hl : liveB s.L p = true) (hf : s.F p d = some o) (hk : kindB k = true) (hm : m ≤ k) (hs : badS f l = false) :
    Calls Tryz.prog 39 #[.pointer (some ⟨kb, 0, none⟩), .int .i64 p, .int .i64 d, .int .i64 k, .int .i64 f, .int .i64 l, .int .i64 m] w fun e w' => e = .returned (.tuple #[.int .i64 (s.O o), .agg #[.int .i64 p, .int .i64 k, .int .i64 (fromS f l), .int .i64 (toS f l)], .int .i64 0]) ∧ Below w.heap.size w w' := by
  have hb0 : Below w.heap.size w (w.alloc (.cells #[.int .i64 0, .int .i64 0, .int .i64 0, .int .i64 0] 85)) := (Below.refl _ _).alloc (Nat.le_refl _) _
  have HF := Hid.mk (find_yes (h.below hb0) p d k m hl hf hk hm)
  have HFI := Hid.mk (fun (W : World) (hb : Below w.heap.size w W) => File_any ((h.below hb).o o (h.sm.f p d o hf)))
  have HS := Hid.mk hs
  have HB0 := Hid.mk hb0
  clear h hl hf hk hm hs hb0
  go_enter Tryz.func39, Tryz.ntmps39
  go_wp2_with (first
    | (go_at_call 43; refine HF.out.mono ?_; rintro e w' ⟨rfl, hw⟩; have hw2 := hw.symm; clear hw; subst hw2)
    | (go_at_call 57; refine (Bounds_ok _ _ _ HS.out).mono ?_; rintro e w' ⟨rfl, hw⟩; have hw2 := hw.symm; clear hw; subst hw2)
    | (go_at_call 44; refine (HFI.out _ HB0.out).mono ?_; rintro e w' ⟨rfl, hw⟩; have hw2 := hw.symm; clear hw; subst hw2))
  exact bodyPost_ret (v := .tuple #[.int .i64 (s.O o), .agg #[.int .i64 p, .int .i64 k, .int .i64 (fromS f l), .int .i64 (toS f l)], .int .i64 0]) (by simp [results, Tryz.results39, go_sem]) rfl ⟨rfl, (Below.refl _ _).alloc (Nat.le_refl _) _⟩
end
end Go.Proofs.YtaicdjhblbobbabGreat
