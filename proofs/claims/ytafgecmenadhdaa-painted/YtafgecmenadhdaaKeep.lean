/- Contracts of the small functions of package holdskeep: pick, ok, is, some. -/
import Derived.Test.YtafgecmenadhdaaMake
namespace Go.Proofs.Ytafgecmenadhdaa
open Go.RowKit Go.Lib Go.MuLone

theorem tmod_bd (c n : Int) (h : 0 ≤ c) (hn : 0 < n) : 0 ≤ c.tmod n ∧ c.tmod n < n := by
  rw [Int.tmod_eq_emod_of_nonneg h]
  exact ⟨Int.emod_nonneg _ (by omega), Int.emod_lt_of_pos _ hn⟩

set_option maxHeartbeats 1000000 in
theorem pick_any (c n : Int) (w : World) (h0 : -9223372036854775808 ≤ c) (h1 : c ≤ 9223372036854775807) (hn : 0 < n) (hn1 : n ≤ 1000) :
    Calls Try.prog 7 #[.int .i64 c, .int .i64 n] w fun e w' => ∃ r : Int, e = .returned (.int .i64 r) ∧ 0 ≤ r ∧ r < n ∧ w' = w := by
  by_cases hc : c < 0
  · go_enter Try.func7, Try.ntmps7
    go_wp2
    go_ret
    have hb := tmod_bd (-(c + 1)) n (by omega) hn
    rw [Int.neg_tmod] at hb
    exact ⟨_, rfl, hb.1, hb.2, rfl⟩
  · have hc' : 0 ≤ c := by omega
    go_enter Try.func7, Try.ntmps7
    go_wp2
    go_ret
    exact ⟨_, rfl, Int.emod_nonneg _ (by omega), Int.emod_lt_of_pos _ hn, rfl⟩

set_option maxHeartbeats 1000000 in
theorem ok_any (E N n : Int) (w : World) :
    Calls Try.prog 10 #[.agg #[.int .i64 E, .int .i64 N, .slice none 0 0], .int .i64 n] w fun e w' => e = .returned (.bool (decide (E = 0) && decide (N = n))) ∧ Below w.heap.size w w' := by
  by_cases h1 : E = 0
  · subst h1
    by_cases h2 : N = n
    · subst h2
      go_enter Try.func10, Try.ntmps10
      go_wp2
      go_ret
      exact ⟨by simp, (Below.refl _ _).alloc (Nat.le_refl _) _⟩
    · have h2' : (N == n) = false := by simpa using h2
      go_enter Try.func10, Try.ntmps10
      go_wp2
      go_ret
      exact ⟨ret_bool (by simp [h2]), (Below.refl _ _).alloc (Nat.le_refl _) _⟩
  · have h1' : (E == 0) = false := by simpa using h1
    go_enter Try.func10, Try.ntmps10
    go_wp2
    go_ret
    exact ⟨ret_bool (by simp [h1]), (Below.refl _ _).alloc (Nat.le_refl _) _⟩
set_option maxHeartbeats 1000000 in
theorem is_any (E N n : Int) (w : World) :
    Calls Try.prog 9 #[.agg #[.int .i64 E, .int .i64 N, .slice none 0 0], .int .i64 n] w fun e w' => e = .returned (.bool (decide (E = n) && decide (N = 0))) ∧ Below w.heap.size w w' := by
  by_cases h1 : E = n
  · subst h1
    by_cases h2 : N = 0
    · subst h2
      go_enter Try.func9, Try.ntmps9
      go_wp2
      go_ret
      exact ⟨ret_bool (by simp), (Below.refl _ _).alloc (Nat.le_refl _) _⟩
    · have h2' : (N == 0) = false := by simpa using h2
      go_enter Try.func9, Try.ntmps9
      go_wp2
      go_ret
      exact ⟨ret_bool (by simp [h2]), (Below.refl _ _).alloc (Nat.le_refl _) _⟩
  · have h1' : (E == n) = false := by simpa using h1
    go_enter Try.func9, Try.ntmps9
    go_wp2
    go_ret
    exact ⟨ret_bool (by simp [h1]), (Below.refl _ _).alloc (Nat.le_refl _) _⟩

/-- n processes live, none has a descriptor, nothing is locked. -/
structure Bare (s : KS) (n : Nat) : Prop where
  l : ∀ j, s.L j = decide (j < n)
  f : ∀ p d, s.F p d = none
  r : ∀ i, s.R i = []
/-- n processes live; the first m have each an opening of file 0 as descriptor 0; nothing is locked. -/
structure Some' (s : KS) (n m : Nat) : Prop where
  l : ∀ j, s.L j = decide (j < n)
  f : ∀ p : Int, 0 ≤ p → p < m → ∃ b, s.F p 0 = some b ∧ s.O b = 0
  g : ∀ (p d : Int), ¬ (0 ≤ p ∧ p < m ∧ d = 0) → s.F p d = none
  r : ∀ i, s.R i = []
theorem Bare.new : Bare KS.new 1 := ⟨fun j => by cases j <;> simp [KS.new, L0], fun _ _ => rfl, fun _ => rfl⟩
theorem Bare.forked {s : KS} {n : Nat} (h : Bare s n) : Bare (s.forked 0 n) (n + 1) := by
  refine ⟨fun j => ?_, fun p d => ?_, h.r⟩
  · simp only [KS.forked, updL]
    split
    · simp; omega
    · rw [h.l]; congr 1; simp; omega
  · simp only [KS.forked, copyF]
    split <;> exact h.f _ _
theorem Bare.some' {s : KS} {n : Nat} (h : Bare s n) : Some' s n 0 := ⟨h.l, fun p h0 h1 => by omega, fun p d _ => h.f p d, h.r⟩
theorem Some'.opened {s : KS} {n m : Nat} (h : Some' s n m) (b : Nat) : Some' (s.opened m 0 b 0) n (m + 1) := by
  refine ⟨h.l, fun p h0 h1 => ?_, fun p d hn => ?_, h.r⟩
  · simp only [KS.opened, updF]
    by_cases hp : p = m
    · exact ⟨b, by rw [if_pos ⟨hp, by simp⟩], by simp⟩
    · obtain ⟨x, hx, ho⟩ := h.f p h0 (by omega)
      exact ⟨x, by rw [if_neg (fun hh => hp hh.1)]; exact hx, by simp [ho]⟩
  · simp only [KS.opened, updF]
    rw [if_neg (fun hh => hn ⟨by omega, by omega, by simpa using hh.2⟩)]
    exact h.g p d (fun hh => hn ⟨hh.1, by omega, hh.2.2⟩)
theorem live_of {s : KS} {n : Nat} (h : ∀ j, s.L j = decide (j < n)) {p : Int} (h0 : 0 ≤ p) (h1 : p < n) (hn : n ≤ 6) : liveB s.L p = true := by
  simp only [liveB, h, Bool.and_eq_true, decide_eq_true_eq]
  omega
set_option maxHeartbeats 4000000 in
set_option maxRecDepth 100000 in
theorem some_any (n : Nat) (hn : 2 ≤ n) (hn6 : n ≤ 6) (w : World) :
    Calls Try.prog 6 #[.int .i64 n] w fun e w' => ∃ kb tb mb s, e = .returned (.tuple #[.pointer (some ⟨kb, 0, none⟩), .bool true]) ∧ KInv w' kb tb mb 0 s ∧ Some' s n n ∧ Below w.heap.size w w' ∧ w.heap.size ≤ kb ∧ w.heap.size ≤ tb ∧ w.heap.size ≤ mb := by
  go_enter Try.func6, Try.ntmps6
  go_wp2_with (go_at_call 15; refine (New_any w).mono ?_; rintro e w1 ⟨kb, tb, mb, rfl, hk, hb, b1, b2, b3⟩; have HK1 := Hid.mk hk; have HB1 := Hid.mk hb; clear hk hb)
  go_loopw [5] (fun s5 wr => ∃ (i : Nat) (s : KS), s5 = .int .i64 i ∧ 1 ≤ i ∧ i ≤ n ∧ Hid (KInv wr kb tb mb 0 s) ∧ Hid (Bare s i) ∧ Hid (Below w.heap.size w wr)) (fun s5 _ => n - (intOf s5).toNat)
  case atStart => exact ⟨1, KS.new, rfl, by omega, by omega, HK1.out, Bare.new, HB1.out⟩
  case round =>
    obtain ⟨i, s, rfl, hi1, hin, HK, HS, HB⟩ := hrel
    by_cases hlt : i < n
    · have hF := Fork_ok HK.out 0 (live_of HS.out.l (by omega) (by omega) (by omega)) i (by omega) (fun j hj => by rw [HS.out.l]; simpa using hj) (by rw [HS.out.l]; simp)
      have HF := Hid.mk hF
      clear hF
      have hz := HB.out.size
      go_wp2_with (first
        | (go_at_call 16; refine HF.out.mono ?_; rintro e w2 ⟨rfl, hk2, hp2⟩; unfold replyV; have HK2 := Hid.mk hk2; have HP2 := Hid.mk hp2; clear hk2 hp2)
        | (go_at_call 10; refine (ok_any _ _ _ _).mono ?_; simp only [decide_true, Bool.and_self]; rintro e w3 ⟨rfl, hb3⟩; have H3 := Hid.mk hb3; clear hb3))
      go_roundw
      case rel =>
        have hb2 : Below w.heap.size w w2 := HB.out.trans ⟨HP2.out.os, HP2.out.tape, HP2.out.output, HP2.out.size, fun k hk => HP2.out.block k (by omega) (by simp; omega)⟩
        exact ⟨i + 1, s.forked 0 i, by go_num, by omega, by omega, HK2.out.below H3.out, HS.out.forked, hb2.trans (H3.out.mono (by have := hb2.size; omega))⟩
      case measure => simp [intOf]; omega
    · obtain rfl : i = n := by omega
      go_wp2
      go_loopw [7] (fun s7 wq => ∃ (m : Nat) (s : KS), s7 = .int .i64 m ∧ m ≤ i ∧ Hid (KInv wq kb tb mb 0 s) ∧ Hid (Some' s i m) ∧ Hid (Below w.heap.size w wq)) (fun s7 _ => i - (intOf s7).toNat)
      case atStart => exact ⟨0, s, rfl, Nat.zero_le _, HK.out, HS.out.some', HB.out⟩
      case round =>
        clear HK HS HB s
        obtain ⟨m, s, rfl, hm, HK, HS, HB⟩ := hrel
        by_cases hlt : m < i
        · have hF := Open_ok HK.out m 0 (live_of HS.out.l (by omega) (by omega) (by omega)) (by omega) (by omega) 0 (by omega) (fun j hj => by omega) (HS.out.g m 0 (by omega))
          have HF := Hid.mk hF
          clear hF
          have hz := HB.out.size
          go_wp2_with (first
            | (go_at_call 17; refine HF.out.mono ?_; rintro e w2 ⟨b, rfl, hk2, hp2, hbb⟩; unfold replyV; have HK2 := Hid.mk hk2; have HP2 := Hid.mk hp2; clear hk2 hp2)
            | (go_at_call 10; refine (ok_any _ _ _ _).mono ?_; simp only [decide_true, Bool.and_self]; rintro e w3 ⟨rfl, hb3⟩; have H3 := Hid.mk hb3; clear hb3))
          go_roundw
          case rel =>
            have hb2 : Below w.heap.size w w2 := HB.out.trans ⟨HP2.out.os, HP2.out.tape, HP2.out.output, HP2.out.size, fun k hk => HP2.out.block k (by omega) (by simp; omega)⟩
            exact ⟨m + 1, s.opened m 0 b 0, by go_num, by omega, HK2.out.below H3.out, HS.out.opened b, hb2.trans (H3.out.mono (by have := hb2.size; omega))⟩
          case measure => simp [intOf]; omega
        · obtain rfl : m = i := by omega
          go_wp2
          go_ret2
          exact ⟨kb, tb, mb, s, rfl, HK.out, HS.out, HB.out, b1, b2, b3⟩
end Go.Proofs.Ytafgecmenadhdaa
