/- The statement Spans: the walk of the law. -/
import Derived.Test.YtafgecmenadhdaaKeep
namespace Go.Proofs.Ytafgecmenadhdaa
open Go.RowKit Go.Lib Go.MuLone

/-- Three processes, each with an opening of file 0 as descriptor 0; the runs of file 0 are l. -/
structure SpOk (s : KS) (l : List Rn) : Prop where
  lv : ∀ j, s.L j = decide (j < 3)
  f : ∀ p : Int, 0 ≤ p → p < 3 → ∃ b, s.F p 0 = some b ∧ s.O b = 0
  r : s.R 0 = l
theorem SpOk.readE {s : KS} {l : List Rn} (h : SpOk s l) {p k f len m : Int} (h0 : 0 ≤ p) (h1 : p < 3) (hk : kindB k = true) (hm : m ≤ k) (hb : badS f len = false) : Go.Proofs.Ytafgecmenadhdaa.readE s p 0 k f len m = 0 := by
  obtain ⟨b, hf, _⟩ := h.f p h0 h1
  unfold Go.Proofs.Ytafgecmenadhdaa.readE
  rw [if_neg (by rw [live_of h.lv h0 h1 (by omega)]; simp), if_neg (by rw [hf]; simp), if_neg (by rw [hk]; simp; omega), if_neg (by rw [hb]; simp)]
theorem SpOk.readBad {s : KS} {l : List Rn} (h : SpOk s l) {p k f len m : Int} (h0 : 0 ≤ p) (h1 : p < 3) (hk : kindB k = true) (hm : m ≤ k) (hb : badS f len = true) : Go.Proofs.Ytafgecmenadhdaa.readE s p 0 k f len m = 7 := by
  obtain ⟨b, hf, _⟩ := h.f p h0 h1
  unfold Go.Proofs.Ytafgecmenadhdaa.readE
  rw [if_neg (by rw [live_of h.lv h0 h1 (by omega)]; simp), if_neg (by rw [hf]; simp), if_neg (by rw [hk]; simp; omega), if_pos hb]

theorem setR_same (r : Rn) (hk : r.k = 2) (hft : r.f ≤ r.t) (l : List Rn) (hl : l = [] ∨ l = [r]) : setR l r = [r] := by
  have hc : cutR l r = [] := by
    rcases hl with rfl | rfl
    · rfl
    · simp [cutR, cutS, meetsB]; omega
  unfold setR
  rw [if_neg (by omega), hc]
  rfl
theorem biterR_same (r : Rn) (l : List Rn) (hl : l = [] ∨ l = [r]) (a : Rn) (ha : a.p = r.p) : biterR l a = -1 := by
  rcases hl with rfl | rfl
  · rfl
  · simp [biterR, biterS, bitesB, ha]

theorem lockS {w : World} {kb tb mb : Nat} {s : KS} {l : List Rn} (h : KInv w kb tb mb 0 s) (hs : SpOk s l) (a n : Int) (hft : 1 ≤ n) (hl : l = [] ∨ l = [⟨1, 2, a, a + n - 1⟩]) (f len : Int) (hb : badS f len = false) (hf : fromS f len = a) (ht : toS f len = a + n - 1) (wt : Bool) :
    Calls Try.prog 8 #[.pointer (some ⟨kb, 0, none⟩), .int .i64 1, .int .i64 0, .int .i64 2, .int .i64 f, .int .i64 len, .bool wt] w fun e w' => ∃ s', e = .returned (.agg #[.int .i64 0, .int .i64 0, .slice none 0 0]) ∧ KInv w' kb tb mb 0 s' ∧ SpOk s' [⟨1, 2, a, a + n - 1⟩] ∧ Kp [kb] w w' := by
  refine (Lock_any h 1 0 2 f len wt).mono ?_
  rintro e w' ⟨rfl, hk, hp⟩
  obtain ⟨b, hfb, hob⟩ := hs.f 1 (by omega) (by omega)
  have e1 : lockM s 1 0 2 f len = (0, { s with R := updR s.R 0 [⟨1, 2, a, a + n - 1⟩] }) := by
    unfold lockM
    rw [if_neg (by rw [hs.readE (by omega) (by omega) rfl (by omega) hb]; simp)]
    simp only [hfb, hob, Int.toNat_zero, hs.r, hf, ht]
    rw [biterR_same ⟨1, 2, a, a + n - 1⟩ l hl _ rfl, setR_same ⟨1, 2, a, a + n - 1⟩ rfl (by simp only; omega) l hl]
    simp
  rw [e1] at hk ⊢
  exact ⟨_, rfl, hk, ⟨hs.lv, hs.f, rfl⟩, hp⟩

theorem lockBad {w : World} {kb tb mb : Nat} {s : KS} {l : List Rn} (h : KInv w kb tb mb 0 s) (hs : SpOk s l) (p k f len : Int) (h0 : 0 ≤ p) (h1 : p < 3) (hk : kindB k = true) (hk0 : 0 ≤ k) (hb : badS f len = true) (wt : Bool) :
    Calls Try.prog 8 #[.pointer (some ⟨kb, 0, none⟩), .int .i64 p, .int .i64 0, .int .i64 k, .int .i64 f, .int .i64 len, .bool wt] w fun e w' => e = .returned (.agg #[.int .i64 7, .int .i64 0, .slice none 0 0]) ∧ KInv w' kb tb mb 0 s ∧ Kp [kb] w w' := by
  refine (Lock_any h p 0 k f len wt).mono ?_
  rintro e w' ⟨rfl, hk, hp⟩
  have e0 := hs.readBad h0 h1 ‹_› hk0 hb
  have e1 : lockM s p 0 k f len = (7, s) := by
    unfold lockM
    rw [if_pos (by rw [e0]; simp), e0]
  rw [e1] at hk ⊢
  exact ⟨rfl, hk, hp⟩

/-- The run that is locked bites another process's just on its own positions. -/
theorem biter_at (a n at_ : Int) (q k : Int) (hq : q ≠ 1) (hk : k = 1 ∨ k = 2) : biterR [⟨1, 2, a, a + n - 1⟩] ⟨q, k, at_, at_⟩ = if a ≤ at_ ∧ at_ < a + n then 1 else -1 := by
  have hne : ¬ (1 = q) := fun e => hq e.symm
  have hb : biteB 2 k = true := by rcases hk with rfl | rfl <;> rfl
  simp only [biterR, biterS, bitesB, meetsB, hb, List.foldl_cons, List.foldl_nil]
  by_cases h : a ≤ at_ ∧ at_ < a + n
  · rw [if_pos h, if_pos ⟨by simp [hne]; omega, by omega⟩]
  · rw [if_neg h, if_neg (fun hh => h (by have := hh.1; simp [hne] at this; omega))]

theorem testS {w : World} {kb tb mb : Nat} {s : KS} {a n : Int} (h : KInv w kb tb mb 0 s) (hs : SpOk s [⟨1, 2, a, a + n - 1⟩]) (at_ : Int) (h0 : 0 ≤ at_) (h1 : at_ ≤ 63) (N : Int) (hN : N = if a ≤ at_ ∧ at_ < a + n then 1 else -1) :
    Calls Try.prog 12 #[.pointer (some ⟨kb, 0, none⟩), .int .i64 0, .int .i64 0, .int .i64 1, .int .i64 at_, .int .i64 1] w fun e w' => e = .returned (.agg #[.int .i64 0, .int .i64 N, .slice none 0 0]) ∧ KInv w' kb tb mb 0 s ∧ Kp [kb] w w' := by
  refine (Test_any h 0 0 1 at_ 1).mono ?_
  rintro e w' ⟨rfl, hk, hp⟩
  have hb : badS at_ 1 = false := by simp [badS]; omega
  obtain ⟨b, hfb, hob⟩ := hs.f 0 (by omega) (by omega)
  have e1 : testM s 0 0 1 at_ 1 = (0, N) := by
    unfold testM
    rw [if_neg (by rw [hs.readE (by omega) (by omega) rfl (by omega) hb]; simp)]
    have f1 : fromS at_ 1 = at_ := by simp [fromS]
    have f2 : toS at_ 1 = at_ := by simp [toS]
    simp only [hfb, hob, Int.toNat_zero, hs.r, f1, f2]
    rw [biter_at a n at_ 0 1 (by omega) (Or.inl rfl), hN]
  rw [e1]
  exact ⟨rfl, hk, hp⟩
theorem testOwn {w : World} {kb tb mb : Nat} {s : KS} {a n : Int} (h : KInv w kb tb mb 0 s) (hs : SpOk s [⟨1, 2, a, a + n - 1⟩]) (at_ : Int) (h0 : 0 ≤ at_) (h1 : at_ ≤ 63) :
    Calls Try.prog 12 #[.pointer (some ⟨kb, 0, none⟩), .int .i64 1, .int .i64 0, .int .i64 2, .int .i64 at_, .int .i64 1] w fun e w' => e = .returned (.agg #[.int .i64 0, .int .i64 (-1), .slice none 0 0]) ∧ KInv w' kb tb mb 0 s ∧ Kp [kb] w w' := by
  refine (Test_any h 1 0 2 at_ 1).mono ?_
  rintro e w' ⟨rfl, hk, hp⟩
  have hb : badS at_ 1 = false := by simp [badS]; omega
  obtain ⟨b, hfb, hob⟩ := hs.f 1 (by omega) (by omega)
  have e1 : testM s 1 0 2 at_ 1 = (0, -1) := by
    unfold testM
    rw [if_neg (by rw [hs.readE (by omega) (by omega) rfl (by omega) hb]; simp)]
    simp only [hfb, hob, Int.toNat_zero, hs.r]
    rw [biterR_same ⟨1, 2, a, a + n - 1⟩ _ (Or.inr rfl) ⟨1, 2, fromS at_ 1, toS at_ 1⟩ rfl]
  rw [e1]
  exact ⟨rfl, hk, hp⟩
theorem lockBusy {w : World} {kb tb mb : Nat} {s : KS} {a n : Int} (h : KInv w kb tb mb 0 s) (hs : SpOk s [⟨1, 2, a, a + n - 1⟩]) (h0 : 0 ≤ a) (h1 : a ≤ 63) (hn : 1 ≤ n) (wt : Bool) :
    Calls Try.prog 8 #[.pointer (some ⟨kb, 0, none⟩), .int .i64 2, .int .i64 0, .int .i64 1, .int .i64 a, .int .i64 1, .bool wt] w fun e w' => e = .returned (.agg #[.int .i64 8, .int .i64 0, .slice none 0 0]) ∧ KInv w' kb tb mb 0 s ∧ Kp [kb] w w' := by
  refine (Lock_any h 2 0 1 a 1 wt).mono ?_
  rintro e w' ⟨rfl, hk, hp⟩
  have hb : badS a 1 = false := by simp [badS]; omega
  obtain ⟨b, hfb, hob⟩ := hs.f 2 (by omega) (by omega)
  have e1 : lockM s 2 0 1 a 1 = (8, s) := by
    unfold lockM
    rw [if_neg (by rw [hs.readE (by omega) (by omega) rfl (by omega) hb]; simp)]
    have f1 : fromS a 1 = a := by simp [fromS]
    have f2 : toS a 1 = a := by simp [toS]
    simp only [hfb, hob, Int.toNat_zero, hs.r, f1, f2]
    rw [biter_at a n a 2 1 (by omega) (Or.inl rfl), if_pos (by omega)]
  rw [e1] at hk ⊢
  exact ⟨rfl, hk, hp⟩
end Go.Proofs.Ytafgecmenadhdaa
