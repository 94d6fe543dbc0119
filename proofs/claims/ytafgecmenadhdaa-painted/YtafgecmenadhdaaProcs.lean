/- Contracts of the table's New, Open and Fork. -/
import Derived.Test.YtafgecmenadhdaaGive
namespace Go.Proofs.Ytafgecmenadhdaa
open Go.RowKit Go.Lib

def L0 : Nat → Bool := fun j => j == 0
def F0 : Int → Int → Option Nat := fun _ _ => none

/-- Of what was there no block has turned but these. -/
structure Kp (bs : List Nat) (w w' : World) : Prop where
  os : w'.os = w.os
  tape : w'.tape = w.tape
  output : w'.output = w.output
  size : w.heap.size ≤ w'.heap.size
  block : ∀ k, k < w.heap.size → k ∉ bs → w'.heap[k]? = w.heap[k]?
theorem Kp.refl (bs : List Nat) (w : World) : Kp bs w w := ⟨rfl, rfl, rfl, Nat.le_refl _, fun _ _ _ => rfl⟩
theorem Kp.trans {bs : List Nat} {a b c : World} (h : Kp bs a b) (k : Kp bs b c) : Kp bs a c :=
  ⟨k.os.trans h.os, k.tape.trans h.tape, k.output.trans h.output, Nat.le_trans h.size k.size, fun i hi hn => (k.block i (Nat.lt_of_lt_of_le hi h.size) hn).trans (h.block i hi hn)⟩
theorem Kp.mono {bs cs : List Nat} {w w' : World} (h : Kp bs w w') (hs : ∀ x, x ∈ bs → x ∈ cs) : Kp cs w w' := ⟨h.os, h.tape, h.output, h.size, fun k hk hn => h.block k hk (fun hm => hn (hs k hm))⟩
theorem Kp.below {bs : List Nat} {w w' : World} (h : Below w.heap.size w w') : Kp bs w w' := ⟨h.os, h.tape, h.output, h.size, fun k hk _ => h.block k hk⟩
theorem Kp.gb {bs : List Nat} {w w' : World} {b : Nat} (h : w.grownBy w' (some b)) (hb : b ∈ bs) : Kp bs w w' := ⟨h.os, h.tape, h.output, h.size, fun k hk hn => h.block k hk (fun e => hn (by cases e; exact hb))⟩
theorem Kp.setCell {bs : List Nat} {w : World} {a : Addr} {v : Value} (h : a.block ∈ bs) : Kp bs w (w.setCell a v) := ⟨rfl, rfl, rfl, by simp, fun k _ hn => Below.heap_setCell _ _ _ _ (fun e => hn (by rw [e]; exact h))⟩

def updL (L : Nat → Bool) (c : Nat) (v : Bool) : Nat → Bool := fun j => if j = c then v else L j
theorem Tab.set {w : World} {tb mb : Nat} {L : Nat → Bool} (h : Tab w tb mb L) (c : Nat) (hc : c < 6) (v : Bool) : Tab (w.setCell ⟨tb, c, none⟩ (.bool v)) tb mb (updL L c v) := by
  unfold Tab at *
  simp only [World.setCell, Array.getElem?_modify, h]
  obtain rfl | rfl | rfl | rfl | rfl | rfl : c = 0 ∨ c = 1 ∨ c = 2 ∨ c = 3 ∨ c = 4 ∨ c = 5 := by omega
  all_goals simp [updL]
theorem MapAt.congr {w : World} {mb : Nat} {F G : Int → Int → Option Nat} (h : MapAt w mb F) (he : ∀ p d, F p d = G p d) : MapAt w mb G := by
  obtain ⟨es, c, M, h1, h2, h3, h4⟩ := h
  exact ⟨es, c, M, h1, h2, h3, fun p d => (h4 p d).trans (he p d)⟩

/-- What a process that was forked has: the descriptors below k. -/
def copyF (F : Int → Int → Option Nat) (p c : Int) (k : Nat) : Int → Int → Option Nat := fun q e => if q = c ∧ 0 ≤ e ∧ e < k then F p e else F q e

set_option maxHeartbeats 1000000 in
set_option maxRecDepth 100000 in
theorem procsNew_any (w : World) :
    Calls Try.prog 31 #[] w fun e w' => ∃ tb mb, e = .returned (.pointer (some ⟨tb, 0, none⟩)) ∧ Tab w' tb mb L0 ∧ MapAt w' mb F0 ∧ Below w.heap.size w w' ∧ w.heap.size ≤ tb ∧ w.heap.size ≤ mb := by
  have hmk : (Instr.makeMap 85 none).run Try.prog w = .ok (.map (some w.heap.size)) (w.alloc (.map #[] 0)) := rfl
  go_enter Try.func31, Try.ntmps31
  go_wp2
  go_ret
  refine ⟨w.heap.size + 1, w.heap.size, rfl, ?_, ⟨#[], 0, [], ?_, .nil, List.Pairwise.nil, fun _ _ => rfl⟩, ((Below.refl _ _).alloc (Nat.le_refl _) _).alloc (by simp) _, by omega, by omega⟩
  · have := heap_alloc_new (w.alloc (.map #[] 0)) (.cells #[.bool true, .bool false, .bool false, .bool false, .bool false, .bool false, .map (some w.heap.size)] 88)
    simp only [World.size_alloc] at this
    exact this
  · rw [Below.heap_alloc _ _ _ (by simp)]
    exact heap_alloc_new w _

set_option maxHeartbeats 1000000 in
set_option maxRecDepth 100000 in
theorem procsFork_dead {w : World} {tb mb : Nat} {L : Nat → Bool} (h : Tab w tb mb L) (p : Int) (hl : liveB L p = false) :
    Calls Try.prog 32 #[.pointer (some ⟨tb, 0, none⟩), .int .i64 p] w fun e w' => e = .returned (.tuple #[.int .i64 0, .int .i64 1]) ∧ w' = w := by
  have H := Hid.mk h
  clear h
  go_enter Try.func32, Try.ntmps32
  go_wp2_with (go_at_call 42; refine (check_dead H.out p hl).mono ?_; rintro e w' ⟨rfl, rfl⟩)
  go_ret2
  exact ⟨rfl, rfl⟩
set_option maxHeartbeats 1000000 in
set_option maxRecDepth 100000 in
theorem procsFork_full {w : World} {tb mb : Nat} {L : Nat → Bool} (h : Tab w tb mb L) (p : Int) (hl : liveB L p = true) (hf : ∀ j, j < 6 → L j = true) :
    Calls Try.prog 32 #[.pointer (some ⟨tb, 0, none⟩), .int .i64 p] w fun e w' => e = .returned (.tuple #[.int .i64 0, .int .i64 3]) ∧ w' = w := by
  have H := Hid.mk h
  have HF := Hid.mk hf
  clear h hf
  go_enter Try.func32, Try.ntmps32
  go_wp2_with (first
    | (go_at_call 42; refine (check_live H.out p hl).mono ?_; rintro e w' ⟨rfl, rfl⟩)
    | (go_at_call 43; refine (freeProc_none H.out HF.out).mono ?_; rintro e w' ⟨rfl, rfl⟩))
  go_ret2
  exact ⟨rfl, rfl⟩

set_option maxHeartbeats 4000000 in
set_option maxRecDepth 100000 in
theorem procsFork_ok {w : World} {tb mb : Nat} {L : Nat → Bool} {F : Int → Int → Option Nat} (h : Tab w tb mb L) (hm : MapAt w mb F) (p : Int) (hl : liveB L p = true) (c : Nat) (hc : c < 6) (h1 : ∀ j, j < c → L j = true) (h2 : L c = false) (hF : ∀ e, F c e = none) :
    Calls Try.prog 32 #[.pointer (some ⟨tb, 0, none⟩), .int .i64 p] w fun e w' => e = .returned (.tuple #[.int .i64 c, .int .i64 0]) ∧ Tab w' tb mb (updL L c true) ∧ MapAt w' mb (copyF F p c 5) ∧ Kp [tb, mb] w w' := by
  have hpc : ¬ p = (c : Int) := fun e => by
    rw [e] at hl; simp [liveB] at hl; rw [h2] at hl; exact absurd hl.2 (by simp)
  have hne : mb ≠ tb := fun e => by
    obtain ⟨es, ck, M, hb, _⟩ := hm
    unfold Tab at h
    rw [e, h] at hb
    cases hb
  have H := Hid.mk h
  have HM := Hid.mk hm
  have H1 := Hid.mk h1
  have H2 := Hid.mk h2
  have HF := Hid.mk hF
  have HP := Hid.mk hpc
  have hfz := h.frozen c
  have hcc := h.cell c hc
  have htl := h.lt
  have hml := hm.lt
  clear h hm h1 h2 hF hpc
  go_enter Try.func32, Try.ntmps32
  go_wp2_with (first
    | (go_at_call 42; refine (check_live H.out p hl).mono ?_; rintro e w' ⟨rfl, hw⟩; have hw2 := hw.symm; clear hw; subst hw2)
    | (go_at_call 43; refine (freeProc_some H.out c hc H1.out H2.out).mono ?_; rintro e w' ⟨rfl, hw⟩; have hw2 := hw.symm; clear hw; subst hw2))
  go_loopw [30] (fun s wr => ∃ k : Nat, s = .int .i64 k ∧ k ≤ 5 ∧ Hid (Tab wr tb mb (updL L c true)) ∧ Hid (MapAt wr mb (copyF F p c k)) ∧ Hid (Kp [tb, mb] w wr)) (fun s _ => 5 - (intOf s).toNat)
  case atStart => exact ⟨0, rfl, Nat.zero_le _, H.out.set c hc true, (HM.out.of_block (Below.heap_setCell _ _ _ _ hne)).congr (fun q e => by unfold copyF; rw [if_neg (by omega)]), Kp.setCell (by simp)⟩
  case round =>
    obtain ⟨k, rfl, hk, HT, HMk, HK⟩ := hrel
    have hmc : wr.cell? ⟨tb, 6, none⟩ = some (.map (some mb)) := HT.out.mapCell
    by_cases hlt : k < 5
    · have hlk := HMk.out.lookup wr rfl p k
      have e1 : copyF F p c k p k = F p k := by unfold copyF; rw [if_neg (fun hh => HP.out hh.1)]
      rw [e1] at hlk
      cases hf : F p k with
      | none =>
        rw [hf] at hlk
        simp only [ptrV, Option.map_none, Option.isSome_none] at hlk
        have HN := Hid.mk hf
        clear hf e1
        go_wp2
        go_roundw
        case rel =>
          refine ⟨k + 1, by go_num, by omega, HT.out, HMk.out.congr (fun q e => ?_), HK.out⟩
          unfold copyF
          by_cases hq : q = c ∧ e = k
          · obtain ⟨rfl, rfl⟩ := hq
            rw [if_neg (by omega), if_pos (by omega), HN.out, HF.out]
          · by_cases hq2 : q = c ∧ 0 ≤ e ∧ e < k
            · rw [if_pos hq2, if_pos (by omega)]
            · rw [if_neg hq2, if_neg (by omega)]
        case measure => simp [intOf]; omega
      | some b =>
        rw [hf] at hlk
        simp only [ptrV, Option.map_some, Option.isSome_some] at hlk
        obtain ⟨o', hu1, hu2⟩ := HMk.out.update c k (by unfold copyF; rw [if_neg (by omega)]; exact HF.out _) b
        have hup := hu1 wr rfl
        have HU := Hid.mk hu2
        have HN := Hid.mk hf
        clear hu1 hu2 hf e1
        go_wp2
        go_roundw
        case rel =>
          have hmw := HMk.out.lt
          refine ⟨k + 1, by go_num, by omega, HT.out.of_block (setBlock_other hne.symm), (HU.out _ (setBlock_same hmw)).congr (fun q e => ?_), HK.out.trans (Kp.gb gb_setBlock (by simp))⟩
          unfold updF copyF
          by_cases hq : q = c ∧ e = k
          · obtain ⟨rfl, rfl⟩ := hq
            rw [if_pos ⟨rfl, rfl⟩, if_pos (by omega), HN.out]
          · rw [if_neg hq]
            by_cases hq2 : q = c ∧ 0 ≤ e ∧ e < k
            · rw [if_pos hq2, if_pos (by omega)]
            · rw [if_neg hq2, if_neg (by omega)]
        case measure => simp [intOf]; omega
    · obtain rfl : k = 5 := by omega
      go_wp2
      go_ret2
      exact ⟨rfl, HT.out, HMk.out, HK.out⟩

theorem OpenAt.of_block {w w' : World} {b : Nat} {f : Int} (h : OpenAt w b f) (he : w'.heap[b]? = w.heap[b]?) : OpenAt w' b f := he.trans h

set_option maxHeartbeats 1000000 in
set_option maxRecDepth 100000 in
theorem procsOpen_dead {w : World} {tb mb : Nat} {L : Nat → Bool} (h : Tab w tb mb L) (p f : Int) (hl : liveB L p = false) :
    Calls Try.prog 33 #[.pointer (some ⟨tb, 0, none⟩), .int .i64 p, .int .i64 f] w fun e w' => e = .returned (.tuple #[.int .i64 0, .int .i64 1]) ∧ w' = w := by
  have H := Hid.mk h
  clear h
  go_enter Try.func33, Try.ntmps33
  go_wp2_with (go_at_call 42; refine (check_dead H.out p hl).mono ?_; rintro e w' ⟨rfl, rfl⟩)
  go_ret2
  exact ⟨rfl, rfl⟩
set_option maxHeartbeats 1000000 in
set_option maxRecDepth 100000 in
theorem procsOpen_file {w : World} {tb mb : Nat} {L : Nat → Bool} (h : Tab w tb mb L) (p f : Int) (hl : liveB L p = true) (hf : f < 0 ∨ 3 ≤ f) :
    Calls Try.prog 33 #[.pointer (some ⟨tb, 0, none⟩), .int .i64 p, .int .i64 f] w fun e w' => e = .returned (.tuple #[.int .i64 0, .int .i64 4]) ∧ w' = w := by
  have H := Hid.mk h
  clear h
  rcases hf with hf | hf
  · go_enter Try.func33, Try.ntmps33
    go_wp2_with (go_at_call 42; refine (check_live H.out p hl).mono ?_; rintro e w' ⟨rfl, rfl⟩)
    go_ret2
    exact ⟨rfl, rfl⟩
  · have hf0 : 0 ≤ f := by omega
    go_enter Try.func33, Try.ntmps33
    go_wp2_with (go_at_call 42; refine (check_live H.out p hl).mono ?_; rintro e w' ⟨rfl, rfl⟩)
    go_ret2
    exact ⟨rfl, rfl⟩
set_option maxHeartbeats 1000000 in
set_option maxRecDepth 100000 in
theorem procsOpen_full {w : World} {tb mb : Nat} {L : Nat → Bool} {F : Int → Int → Option Nat} (h : Tab w tb mb L) (hm : MapAt w mb F) (p f : Int) (hl : liveB L p = true) (hf0 : 0 ≤ f) (hf1 : f < 3) (h1 : ∀ j : Nat, j < 5 → (F p j).isSome = true) :
    Calls Try.prog 33 #[.pointer (some ⟨tb, 0, none⟩), .int .i64 p, .int .i64 f] w fun e w' => e = .returned (.tuple #[.int .i64 0, .int .i64 3]) ∧ Below w.heap.size w w' := by
  have H := Hid.mk h
  have HG := Hid.mk (fun ob => give_none (w := w.alloc (.cells #[.int .i64 f] 97)) (h.of_block (Below.heap_alloc _ _ _ h.lt)) (hm.of_block (Below.heap_alloc _ _ _ hm.lt)) p ob h1)
  clear h hm h1
  go_enter Try.func33, Try.ntmps33
  go_wp2_with (first
    | (go_at_call 42; refine (check_live H.out p hl).mono ?_; rintro e w' ⟨rfl, hw⟩; have hw2 := hw.symm; clear hw; subst hw2)
    | (go_at_call 44; refine (HG.out _).mono ?_; rintro e w' ⟨rfl, hb⟩))
  go_ret2
  exact ⟨rfl, ((Below.refl _ _).alloc (Nat.le_refl _) _).trans (hb.mono (by simp))⟩
set_option maxHeartbeats 1000000 in
set_option maxRecDepth 100000 in
theorem procsOpen_ok {w : World} {tb mb : Nat} {L : Nat → Bool} {F : Int → Int → Option Nat} (h : Tab w tb mb L) (hm : MapAt w mb F) (p f : Int) (hl : liveB L p = true) (hf0 : 0 ≤ f) (hf1 : f < 3) (d : Nat) (hd : d < 5) (h1 : ∀ j : Nat, j < d → (F p j).isSome = true) (h2 : F p d = none) :
    Calls Try.prog 33 #[.pointer (some ⟨tb, 0, none⟩), .int .i64 p, .int .i64 f] w fun e w' => e = .returned (.tuple #[.int .i64 d, .int .i64 0]) ∧ OpenAt w' w.heap.size f ∧ MapAt w' mb (updF F p d (some w.heap.size)) ∧ Kp [mb] w w' := by
  have H := Hid.mk h
  have hml := hm.lt
  have HG := Hid.mk (fun ob => give_some (w := w.alloc (.cells #[.int .i64 f] 97)) (h.of_block (Below.heap_alloc _ _ _ h.lt)) (hm.of_block (Below.heap_alloc _ _ _ hm.lt)) p ob d hd h1 h2)
  clear h hm h1 h2
  go_enter Try.func33, Try.ntmps33
  go_wp2_with (first
    | (go_at_call 42; refine (check_live H.out p hl).mono ?_; rintro e w' ⟨rfl, hw⟩; have hw2 := hw.symm; clear hw; subst hw2)
    | (go_at_call 44; refine (HG.out _).mono ?_; rintro e w' ⟨rfl, hma, hgb⟩))
  go_ret2
  refine ⟨rfl, ?_, hma, (Kp.below ((Below.refl _ _).alloc (Nat.le_refl _) _)).trans (Kp.gb hgb (by simp))⟩
  show w'.heap[w.heap.size]? = _
  rw [hgb.block w.heap.size (by simp) (by simp; omega)]
  exact heap_alloc_new w _
end Go.Proofs.Ytafgecmenadhdaa
