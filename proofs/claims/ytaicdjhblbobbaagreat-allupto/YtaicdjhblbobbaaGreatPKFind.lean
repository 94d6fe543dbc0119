/- Contracts of the Kernel's find and read: what a call's numbers speak of. -/
import Derived.Test.YtaicdjhblbobbaaGreatPRen
import Derived.Test.YtaicdjhblbobbaaGreatPWake
import Derived.Test.YtaicdjhblbobbaaGreatPPureB
import Derived.Test.YtaicdjhblbobbaaGreatPWholesB
import Derived.Test.YtaicdjhblbobbaaGreatPCut
import Derived.Deep.MidRow
namespace Go.Proofs.YtaicdjhblbobbaaGreat
open Go.RowKit Go.Lib

/-- How find ends: 0, or the error's number. -/
def DS.findK (s : DS) (p d k m : Int) : Int :=
  if liveB s.L p = false then 1 else if s.F p d = none then 5 else if kindB k = false ∨ k < m then 6 else 0
def DS.readK (s : DS) (p d k f l m : Int) : Int := if s.findK p d k m ≠ 0 then s.findK p d k m else if badS f l = true then 7 else 0
theorem findE_ren {ι : Nat → Nat} {s : DS} (p d : Int) : findE s.L (renF ι s.F) p d = if liveB s.L p = false then 1 else if s.F p d = none then 5 else 0 := by
  unfold findE renF
  cases s.F p d <;> simp

section
variable {w : World} {kb tb mb : Nat} {g : Int} {P : Nat → Prop} {ι : Nat → Nat} {s : DS} {rv wv : Nat → Value} {qv : Value}
set_option maxHeartbeats 2000000 in
set_option maxRecDepth 100000 in
theorem find_no (h : KV w kb tb mb g P ι s rv wv qv) (p d k m : Int) (he : findE s.L (renF ι s.F) p d ≠ 0) :
    Calls Tryz.prog 81 #[.pointer (some ⟨kb, 0, none⟩), .int .i64 p, .int .i64 d, .int .i64 k, .int .i64 m] w fun e w' => e = .returned (.tuple #[.pointer none, .int .i64 0, .int .i64 (findE s.L (renF ι s.F) p d)]) ∧ w' = w := by
  have HF := Hid.mk (Find_err h.t h.m p d he)
  have c2 := h.c2
  have hkl := h.lt
  generalize findE s.L (renF ι s.F) p d = E at *
  have hE : (E != 0) = true := by simpa using he
  clear h he
  go_enter Tryz.func81, Tryz.ntmps81
  go_wp2_with (go_at_call 80; refine HF.out.mono ?_; rintro e w' ⟨rfl, hw⟩; have hw2 := hw.symm; clear hw; subst hw2)
  exact bodyPost_ret (v := .tuple #[.pointer none, .int .i64 0, .int .i64 E]) (by simp [results, Tryz.results81, go_sem]) rfl ⟨rfl, rfl⟩
set_option maxHeartbeats 2000000 in
set_option maxRecDepth 100000 in
theorem find_kind (h : KV w kb tb mb g P ι s rv wv qv) (p d k m : Int) {o : Nat} (hl : liveB s.L p = true) (hf : s.F p d = some o) (hk : kindB k = false ∨ k < m) :
    Calls Tryz.prog 81 #[.pointer (some ⟨kb, 0, none⟩), .int .i64 p, .int .i64 d, .int .i64 k, .int .i64 m] w fun e w' => e = .returned (.tuple #[.pointer none, .int .i64 0, .int .i64 6]) ∧ w' = w := by
  have HF := Hid.mk (Find_ok (b := ι o) h.t h.m p d hl (by unfold renF; rw [hf]; rfl))
  have c2 := h.c2
  have hkl := h.lt
  have HK := Hid.mk (KindOf_any k w)
  clear h hl hf
  cases hkb : kindB k
  · rw [hkb] at HK
    simp only [Bool.false_eq_true, if_false] at HK
    clear hkb hk
    go_enter Tryz.func81, Tryz.ntmps81
    go_wp2_with (first
      | (go_at_call 80; refine HF.out.mono ?_; rintro e w' ⟨rfl, hw⟩; have hw2 := hw.symm; clear hw; subst hw2)
      | (go_at_call 125; refine HK.out.mono ?_; rintro e w' ⟨rfl, hw⟩; have hw2 := hw.symm; clear hw; subst hw2))
    exact bodyPost_ret (v := .tuple #[.pointer none, .int .i64 0, .int .i64 6]) (by simp [results, Tryz.results81, go_sem]) rfl ⟨rfl, rfl⟩
  · have hkm : k < m := by rcases hk with hk | hk; (rw [hk] at hkb; cases hkb); exact hk
    rw [hkb] at HK
    simp only [if_true] at HK
    clear hkb hk
    go_enter Tryz.func81, Tryz.ntmps81
    go_wp2_with (first
      | (go_at_call 80; refine HF.out.mono ?_; rintro e w' ⟨rfl, hw⟩; have hw2 := hw.symm; clear hw; subst hw2)
      | (go_at_call 125; refine HK.out.mono ?_; rintro e w' ⟨rfl, hw⟩; have hw2 := hw.symm; clear hw; subst hw2))
    exact bodyPost_ret (v := .tuple #[.pointer none, .int .i64 0, .int .i64 6]) (by simp [results, Tryz.results81, go_sem]) rfl ⟨rfl, rfl⟩
set_option maxHeartbeats 2000000 in
set_option maxRecDepth 100000 in
theorem find_yes (h : KV w kb tb mb g P ι s rv wv qv) (p d k m : Int) {o : Nat} (hl : liveB s.L p = true) (hf : s.F p d = some o) (hk : kindB k = true) (hm : m ≤ k) :
    Calls Tryz.prog 81 #[.pointer (some ⟨kb, 0, none⟩), .int .i64 p, .int .i64 d, .int .i64 k, .int .i64 m] w fun e w' => e = .returned (.tuple #[.pointer (some ⟨ι o, 0, none⟩), .int .i64 k, .int .i64 0]) ∧ w' = w := by
  have HF := Hid.mk (Find_ok (b := ι o) h.t h.m p d hl (by unfold renF; rw [hf]; rfl))
  have c2 := h.c2
  have hkl := h.lt
  have HK := Hid.mk (KindOf_any k w)
  rw [hk] at HK
  simp only [if_true] at HK
  have hm' : ¬ k < m := by omega
  clear h hl hf hk hm
  go_enter Tryz.func81, Tryz.ntmps81
  go_wp2_with (first
    | (go_at_call 80; refine HF.out.mono ?_; rintro e w' ⟨rfl, hw⟩; have hw2 := hw.symm; clear hw; subst hw2)
    | (go_at_call 125; refine HK.out.mono ?_; rintro e w' ⟨rfl, hw⟩; have hw2 := hw.symm; clear hw; subst hw2))
  exact bodyPost_ret (v := .tuple #[.pointer (some ⟨ι o, 0, none⟩), .int .i64 k, .int .i64 0]) (by simp [results, Tryz.results81, go_sem]) rfl ⟨rfl, rfl⟩

theorem find_err (h : KV w kb tb mb g P ι s rv wv qv) (p d k m : Int) (he : s.findK p d k m ≠ 0) :
    Calls Tryz.prog 81 #[.pointer (some ⟨kb, 0, none⟩), .int .i64 p, .int .i64 d, .int .i64 k, .int .i64 m] w fun e w' => e = .returned (.tuple #[.pointer none, .int .i64 0, .int .i64 (s.findK p d k m)]) ∧ w' = w := by
  have hE := findE_ren (ι := ι) (s := s) p d
  unfold DS.findK at he ⊢
  by_cases h1 : liveB s.L p = false
  · rw [if_pos h1] at hE ⊢
    rw [← hE]
    exact find_no h p d k m (by rw [hE]; decide)
  · rw [if_neg h1] at he hE ⊢
    simp only [Bool.not_eq_false] at h1
    cases hf : s.F p d with
    | none =>
      rw [hf] at hE
      simp only [if_true] at hE ⊢
      rw [← hE]
      exact find_no h p d k m (by rw [hE]; decide)
    | some o =>
      rw [hf] at he
      simp only [reduceCtorEq, if_false] at he ⊢
      by_cases h2 : kindB k = false ∨ k < m
      · rw [if_pos h2]; exact find_kind h p d k m h1 hf h2
      · rw [if_neg h2] at he; exact absurd rfl he
theorem findK_zero {s : DS} {p d k m : Int} (he : s.findK p d k m = 0) : ∃ o, liveB s.L p = true ∧ s.F p d = some o ∧ kindB k = true ∧ m ≤ k := by
  unfold DS.findK at he
  split at he
  · omega
  · rename_i h1
    split at he
    · omega
    · rename_i h2
      split at he
      · omega
      · rename_i h3
        obtain ⟨o, ho⟩ := Option.ne_none_iff_exists'.1 h2
        exact ⟨o, by simpa using h1, ho, by cases hk : kindB k; exact absurd (Or.inl hk) h3; rfl, by omega⟩

set_option maxHeartbeats 2000000 in
set_option maxRecDepth 100000 in
theorem read_no (h : KV w kb tb mb g P ι s rv wv qv) (p d k f l m : Int) (he : s.findK p d k m ≠ 0) :
    Calls Tryz.prog 72 #[.pointer (some ⟨kb, 0, none⟩), .int .i64 p, .int .i64 d, .int .i64 k, .int .i64 f, .int .i64 l, .int .i64 m] w fun e w' => e = .returned (.tuple #[.int .i64 0, .agg #[.int .i64 0, .int .i64 0, .int .i64 0, .int .i64 0], .int .i64 (s.findK p d k m)]) ∧ Below w.heap.size w w' := by
  have HF := Hid.mk (find_err (h.below ((Below.refl _ _).alloc (Nat.le_refl _) (.cells #[.int .i64 0, .int .i64 0, .int .i64 0, .int .i64 0] 129))) p d k m he)
  generalize s.findK p d k m = E at *
  have hE : (E != 0) = true := by simpa using he
  clear h he
  go_enter Tryz.func72, Tryz.ntmps72
  go_wp2_with (go_at_call 81; refine HF.out.mono ?_; rintro e w' ⟨rfl, hw⟩; have hw2 := hw.symm; clear hw; subst hw2)
  exact bodyPost_ret (v := .tuple #[.int .i64 0, .agg #[.int .i64 0, .int .i64 0, .int .i64 0, .int .i64 0], .int .i64 E]) (by simp [results, Tryz.results72, go_sem]) rfl ⟨rfl, (Below.refl _ _).alloc (Nat.le_refl _) _⟩
set_option maxHeartbeats 2000000 in
set_option maxRecDepth 100000 in
theorem read_range (h : KV w kb tb mb g P ι s rv wv qv) (p d k f l m : Int) {o : Nat} (hl : liveB s.L p = true) (hf : s.F p d = some o) (hk : kindB k = true) (hm : m ≤ k) (hs : badS f l = true) :
    Calls Tryz.prog 72 #[.pointer (some ⟨kb, 0, none⟩), .int .i64 p, .int .i64 d, .int .i64 k, .int .i64 f, .int .i64 l, .int .i64 m] w fun e w' => e = .returned (.tuple #[.int .i64 0, .agg #[.int .i64 0, .int .i64 0, .int .i64 0, .int .i64 0], .int .i64 7]) ∧ Below w.heap.size w w' := by
  have HF := Hid.mk (find_yes (h.below ((Below.refl _ _).alloc (Nat.le_refl _) (.cells #[.int .i64 0, .int .i64 0, .int .i64 0, .int .i64 0] 129))) p d k m hl hf hk hm)
  have HS := Hid.mk hs
  clear h hl hf hk hm hs
  go_enter Tryz.func72, Tryz.ntmps72
  go_wp2_with (first
    | (go_at_call 81; refine HF.out.mono ?_; rintro e w' ⟨rfl, hw⟩; have hw2 := hw.symm; clear hw; subst hw2)
    | (go_at_call 109; refine (Bounds_bad _ _ _ HS.out).mono ?_; rintro e w' ⟨rfl, hw⟩; have hw2 := hw.symm; clear hw; subst hw2))
  exact bodyPost_ret (v := .tuple #[.int .i64 0, .agg #[.int .i64 0, .int .i64 0, .int .i64 0, .int .i64 0], .int .i64 7]) (by simp [results, Tryz.results72, go_sem]) rfl ⟨rfl, (Below.refl _ _).alloc (Nat.le_refl _) _⟩
theorem read_err (h : KV w kb tb mb g P ι s rv wv qv) (p d k f l m : Int) (he : s.readK p d k f l m ≠ 0) :
    Calls Tryz.prog 72 #[.pointer (some ⟨kb, 0, none⟩), .int .i64 p, .int .i64 d, .int .i64 k, .int .i64 f, .int .i64 l, .int .i64 m] w fun e w' => e = .returned (.tuple #[.int .i64 0, .agg #[.int .i64 0, .int .i64 0, .int .i64 0, .int .i64 0], .int .i64 (s.readK p d k f l m)]) ∧ Below w.heap.size w w' := by
  unfold DS.readK at he ⊢
  by_cases h1 : s.findK p d k m = 0
  · rw [if_neg (by simpa using h1)] at he ⊢
    obtain ⟨o, h2, h3, h4, h5⟩ := findK_zero h1
    by_cases hb : badS f l = true
    · rw [if_pos hb]; exact read_range h p d k f l m h2 h3 h4 h5 hb
    · rw [if_neg hb] at he; exact absurd rfl he
  · rw [if_pos h1]; exact read_no h p d k f l m h1
set_option maxHeartbeats 2000000 in
set_option maxRecDepth 100000 in
theorem read_ok (h : KV w kb tb mb g P ι s rv wv qv) (p d k f l m : Int) {o : Nat} (hl : liveB s.L p = true) (hf : s.F p d = some o) (hk : kindB k = true) (hm : m ≤ k) (hs : badS f l = false) :
    Calls Tryz.prog 72 #[.pointer (some ⟨kb, 0, none⟩), .int .i64 p, .int .i64 d, .int .i64 k, .int .i64 f, .int .i64 l, .int .i64 m] w fun e w' => e = .returned (.tuple #[.int .i64 (s.O o), .agg #[.int .i64 p, .int .i64 k, .int .i64 (fromS f l), .int .i64 (toS f l)], .int .i64 0]) ∧ Below w.heap.size w w' := by
  have hb0 : Below w.heap.size w (w.alloc (.cells #[.int .i64 0, .int .i64 0, .int .i64 0, .int .i64 0] 129)) := (Below.refl _ _).alloc (Nat.le_refl _) _
  have HF := Hid.mk (find_yes (h.below hb0) p d k m hl hf hk hm)
  have HFI := Hid.mk (fun (W : World) (hb : Below w.heap.size w W) => File_any ((h.below hb).o o (h.sm.f p d o hf)))
  have HS := Hid.mk hs
  have HB0 := Hid.mk hb0
  clear h hl hf hk hm hs hb0
  go_enter Tryz.func72, Tryz.ntmps72
  go_wp2_with (first
    | (go_at_call 81; refine HF.out.mono ?_; rintro e w' ⟨rfl, hw⟩; have hw2 := hw.symm; clear hw; subst hw2)
    | (go_at_call 109; refine (Bounds_ok _ _ _ HS.out).mono ?_; rintro e w' ⟨rfl, hw⟩; have hw2 := hw.symm; clear hw; subst hw2)
    | (go_at_call 82; refine (HFI.out _ HB0.out).mono ?_; rintro e w' ⟨rfl, hw⟩; have hw2 := hw.symm; clear hw; subst hw2))
  exact bodyPost_ret (v := .tuple #[.int .i64 (s.O o), .agg #[.int .i64 p, .int .i64 k, .int .i64 (fromS f l), .int .i64 (toS f l)], .int .i64 0]) (by simp [results, Tryz.results72, go_sem]) rfl ⟨rfl, (Below.refl _ _).alloc (Nat.le_refl _) _⟩
end
end Go.Proofs.YtaicdjhblbobbaaGreat

/- Contract of the Kernel's ask: a lock is given, or waited for. -/
namespace Go.Proofs.YtaicdjhblbobbaaGreat
open Go.RowKit Go.Lib

theorem ones_snoc {s : DS} (h : s.Bas) {a : Ask} (hw : s.waits a.p = false) : DS.Ones {s with Q := s.Q ++ [a]} := by
  unfold DS.Ones
  rw [List.nodup_iff_pairwise_ne, List.pairwise_map]
  exact List.pairwise_append.2 ⟨h.qn, by simp, fun b hb c hc => by
    simp only [List.mem_cons, List.not_mem_nil, or_false] at hc
    subst hc
    exact DS.not_waits hw hb⟩
theorem lastP_ask {s : DS} (h : s.Bas) {a : Ask} (hw : s.waits a.p = false) : lastP (DS.wts {s with Q := s.Q ++ [a]}) = some a.p ↔ a.p ∈ DS.stuck {s with Q := s.Q ++ [a]} :=
  lastP_mem (ones_snoc h hw) (DS.wts_is (ones_snoc h hw)) (by simp)
theorem renQ_snoc (ι : Nat → Nat) (l : List Ask) (a : Ask) : renQ ι (l ++ [a]) = renQ ι l ++ [renA ι a] := by simp [renQ]

set_option maxHeartbeats 16000000 in
set_option maxRecDepth 100000 in
theorem ask_any {w : World} {kb tb mb : Nat} {g : Int} {P : Nat → Prop} {ι : Nat → Nat} {s : DS} {rv wv : Nat → Value} {qv : Value} {B : Nat} (h : KV w kb tb mb g P ι s rv wv qv) (hP : ∀ b, B ≤ b → P b) (hB : B ≤ w.heap.size) (hinv : s.Inv) (a : Ask) (ha : s.AskOk a) (hnw : s.waits a.p = false) (wait : Bool) :
    Calls Tryz.prog 73 #[.pointer (some ⟨kb, 0, none⟩), askV (renA ι a), .bool wait] w fun e w' => e = .returned (.int .i64 (s.ask0 a wait).2) ∧ (∃ rv' wv' qv', KV w' kb tb mb g P ι (s.ask0 a wait).1 rv' wv' qv') ∧ Kp [kb] w w' := by
  have hsm := ha.sm hinv.toBas
  have hql := h.sm.ql
  have hown := h.q
  have hq6 := ones_le hinv.qn (fun b hb => live_mem (hinv.q b hb).1.l)
  obtain ⟨qa, qc, rfl⟩ := own_form h.q
  rw [renQ_len] at *
  have hkl := h.lt
  have H9 := Hid.mk (fun (W : World) (hb : Below w.heap.size w W) => (hb.cell (p := ⟨kb, 9, none⟩) hkl).trans h.c9)
  have HF9 := Hid.mk (fun (W : World) (hb : Below w.heap.size w W) => (hb.frozen (p := ⟨kb, 9, none⟩) hkl).trans (h.frz 9))
  have HWY := Hid.mk (fun (W : World) (hb : Below w.heap.size w W) => ways_any (h.below hb) a hsm (.slice qa s.Q.length qc) s.Q h.sm.q (by omega) (own_below (by rw [renQ_len]; exact hown) hb))
  have HGV := Hid.mk (fun (W : World) (hb : Below w.heap.size w W) (hw : s.way a s.Q = []) => give_any (h.below hb) hP (by have := hb.size; omega) a hsm (hinv.toBas.take ha (DS.Clear.of_way hinv.toBas hw)).sm)
  have HWT := Hid.mk (fun (W : World) (hb : Below w.heap.size w W) => With_any (v := .slice qa s.Q.length qc) (l := renQ ι s.Q) (renA ι a) (own_below (by rw [renQ_len]; exact hown) hb) (by rw [renQ_len]; omega))
  rw [← renQ_snoc] at HWT
  have HLS := Hid.mk (fun (W : World) (hb : Below w.heap.size w W) (lv : Value) (hlv : W.ownsRow 0 137 8 lv (renQ ι (s.Q ++ [a])).length (flatQ (renQ ι (s.Q ++ [a])))) => lastStuck_any (h.below hb) lv (s.Q ++ [a])
    (fun b hb => by
      rcases List.mem_append.1 hb with hb | hb
      · exact h.sm.q b hb
      · simp only [List.mem_cons, List.not_mem_nil, or_false] at hb; subst hb; exact hsm) (by simp; omega) hlv)
  have hnil : s.wayP a s.Q = [] ↔ s.way a s.Q = [] := DS.wayP_nil (fun b hb => DS.not_waits hnw hb)
  have hlast := lastP_ask hinv.toBas hnw
  have HB0 := Hid.mk (DS.Bas.ask0 hinv ha hnw wait)
  have HH := Hid.mk h
  have hK0 : s.ask0 a wait = if s.way a s.Q = [] then s.take a else if wait = false then (s, 8) else if a.p ∈ (DS.stuck {s with Q := s.Q ++ [a]}) then (s, 10) else ({s with Q := s.Q ++ [a]}, 11) := rfl
  have HAV := Hid.mk (show askV (renA ι a) = .agg #[.int .i64 a.p, .int .i64 a.file, .int .i64 a.rn.p, .int .i64 a.rn.k, .int .i64 a.rn.f, .int .i64 a.rn.t, ptrV (renA ι a).ow, .int .i64 a.wk] from rfl)
  rw [HAV.out] at HWY HGV HWT ⊢
  unfold ptrV at *
  generalize (renA ι a).ow.map (fun b => (⟨b, 0, none⟩ : Addr)) = A at *
  generalize hrn : a.rn = rn at *
  generalize hwk : a.wk = wk at *
  generalize hap : a.p = ap at *
  generalize hai : a.file = i at *
  have HBX : Hid (Below w.heap.size w (w.alloc (.cells #[.int .i64 ap, .int .i64 i, .int .i64 rn.p, .int .i64 rn.k, .int .i64 rn.f, .int .i64 rn.t, .pointer A, .int .i64 wk] 137))) := (Below.refl _ _).alloc (Nat.le_refl _) _
  clear h hinv ha hsm hown hrn hwk hap hai hnw HAV
  have h9 := H9.out w (Below.refl _ _)
  by_cases hemp : s.wayP a s.Q = []
  · have HE := Hid.mk (hnil.1 hemp)
    rw [hemp] at HWY
    rw [if_pos HE.out] at hK0
    have HK0 := Hid.mk hK0
    clear hemp hnil hK0 hlast
    go_enter Tryz.func73, Tryz.ntmps73
    go_upto_region 1 with fail
    go_region_held3 (fun u => u.cell? ⟨kb, 9, none⟩ = some (.slice qa s.Q.length qc) ∧ u.cell? ⟨w.heap.size, 0, none⟩ = some (.int .i64 ap) ∧ u.cell? ⟨w.heap.size, 1, none⟩ = some (.int .i64 i) ∧ u.cell? ⟨w.heap.size, 2, none⟩ = some (.int .i64 rn.p) ∧ u.cell? ⟨w.heap.size, 3, none⟩ = some (.int .i64 rn.k) ∧ u.cell? ⟨w.heap.size, 4, none⟩ = some (.int .i64 rn.f) ∧ u.cell? ⟨w.heap.size, 5, none⟩ = some (.int .i64 rn.t) ∧ u.cell? ⟨w.heap.size, 6, none⟩ = some (.pointer A) ∧ u.cell? ⟨w.heap.size, 7, none⟩ = some (.int .i64 wk)) (simp [go_sem, World.cell?_alloc_past, *])
      (first
        | (go_at_call 110; refine (HWY.out _ ?_).mono ?_; exact HBX.out.drew; rintro e w3 ⟨v3, us3, rfl, hwy, hb3⟩; obtain ⟨a3, c3, rfl⟩ := own_form hwy.own; have hz3 := hb3.size; simp at hz3; have hww : w.heap.size < w3.heap.size := (by omega); have HBW : Hid (Below w.heap.size w w3) := HBX.out.drew.trans (hb3.mono (by simp)); have k9w3 := H9.out w3 HBW.out; have k0w3 : w3.cell? ⟨w.heap.size, 0, none⟩ = some (.int .i64 ap) := ((bcells hb3).1 _ _ (by simp)).trans (by simp); have k1w3 : w3.cell? ⟨w.heap.size, 1, none⟩ = some (.int .i64 i) := ((bcells hb3).1 _ _ (by simp)).trans (by simp); have k2w3 : w3.cell? ⟨w.heap.size, 2, none⟩ = some (.int .i64 rn.p) := ((bcells hb3).1 _ _ (by simp)).trans (by simp); have k3w3 : w3.cell? ⟨w.heap.size, 3, none⟩ = some (.int .i64 rn.k) := ((bcells hb3).1 _ _ (by simp)).trans (by simp); have k4w3 : w3.cell? ⟨w.heap.size, 4, none⟩ = some (.int .i64 rn.f) := ((bcells hb3).1 _ _ (by simp)).trans (by simp); have k5w3 : w3.cell? ⟨w.heap.size, 5, none⟩ = some (.int .i64 rn.t) := ((bcells hb3).1 _ _ (by simp)).trans (by simp); have k6w3 : w3.cell? ⟨w.heap.size, 6, none⟩ = some (.pointer A) := ((bcells hb3).1 _ _ (by simp)).trans (by simp); have k7w3 : w3.cell? ⟨w.heap.size, 7, none⟩ = some (.int .i64 wk) := ((bcells hb3).1 _ _ (by simp)).trans (by simp); clear hwy hb3))
    go_wp2_with (go_at_call 111; refine (HGV.out _ HBW.out HE.out).mono ?_; rintro e w4 ⟨rfl, hkv, hkp⟩; have HKV := Hid.mk hkv; have HKP : Hid (Kp [kb] w w4) := (Kp.below HBW.out).trans hkp; clear hkv hkp)
    go_ret
    rw [HK0.out]
    obtain ⟨rv', wv', hkv⟩ := HKV.out
    exact ⟨rfl, ⟨rv', wv', _, hkv⟩, HKP.out⟩
  · have HE : Hid (s.way a s.Q ≠ []) := fun e => hemp (hnil.2 e)
    have hpos : 0 < (s.wayP a s.Q).length := List.length_pos_iff.2 hemp
    rw [if_neg HE.out] at hK0
    generalize s.wayP a s.Q = WL at *
    clear hemp hnil
    cases wait
    · simp only [if_true] at hK0
      have HK0 := Hid.mk hK0
      clear hK0 hlast
      go_enter Tryz.func73, Tryz.ntmps73
      go_upto_region 1 with fail
      go_region_held3 (fun u => u.cell? ⟨kb, 9, none⟩ = some (.slice qa s.Q.length qc) ∧ u.cell? ⟨w.heap.size, 0, none⟩ = some (.int .i64 ap) ∧ u.cell? ⟨w.heap.size, 1, none⟩ = some (.int .i64 i) ∧ u.cell? ⟨w.heap.size, 2, none⟩ = some (.int .i64 rn.p) ∧ u.cell? ⟨w.heap.size, 3, none⟩ = some (.int .i64 rn.k) ∧ u.cell? ⟨w.heap.size, 4, none⟩ = some (.int .i64 rn.f) ∧ u.cell? ⟨w.heap.size, 5, none⟩ = some (.int .i64 rn.t) ∧ u.cell? ⟨w.heap.size, 6, none⟩ = some (.pointer A) ∧ u.cell? ⟨w.heap.size, 7, none⟩ = some (.int .i64 wk)) (simp [go_sem, World.cell?_alloc_past, *])
        (first
          | (go_at_call 110; refine (HWY.out _ ?_).mono ?_; exact HBX.out.drew; rintro e w3 ⟨v3, us3, rfl, hwy, hb3⟩; obtain ⟨a3, c3, rfl⟩ := own_form hwy.own; have hz3 := hb3.size; simp at hz3; have hww : w.heap.size < w3.heap.size := (by omega); have HBW : Hid (Below w.heap.size w w3) := HBX.out.drew.trans (hb3.mono (by simp)); have k9w3 := H9.out w3 HBW.out; have k0w3 : w3.cell? ⟨w.heap.size, 0, none⟩ = some (.int .i64 ap) := ((bcells hb3).1 _ _ (by simp)).trans (by simp); have k1w3 : w3.cell? ⟨w.heap.size, 1, none⟩ = some (.int .i64 i) := ((bcells hb3).1 _ _ (by simp)).trans (by simp); have k2w3 : w3.cell? ⟨w.heap.size, 2, none⟩ = some (.int .i64 rn.p) := ((bcells hb3).1 _ _ (by simp)).trans (by simp); have k3w3 : w3.cell? ⟨w.heap.size, 3, none⟩ = some (.int .i64 rn.k) := ((bcells hb3).1 _ _ (by simp)).trans (by simp); have k4w3 : w3.cell? ⟨w.heap.size, 4, none⟩ = some (.int .i64 rn.f) := ((bcells hb3).1 _ _ (by simp)).trans (by simp); have k5w3 : w3.cell? ⟨w.heap.size, 5, none⟩ = some (.int .i64 rn.t) := ((bcells hb3).1 _ _ (by simp)).trans (by simp); have k6w3 : w3.cell? ⟨w.heap.size, 6, none⟩ = some (.pointer A) := ((bcells hb3).1 _ _ (by simp)).trans (by simp); have k7w3 : w3.cell? ⟨w.heap.size, 7, none⟩ = some (.int .i64 wk) := ((bcells hb3).1 _ _ (by simp)).trans (by simp); clear hwy hb3))
      go_wp2
      go_ret
      rw [HK0.out]
      exact ⟨rfl, ⟨rv, wv, _, HH.out.below HBW.out⟩, Kp.below HBW.out⟩
    · simp only [Bool.true_eq_false, if_false] at hK0
      generalize lastP (DS.wts {s with Q := s.Q ++ [a]}) = lp at *
      cases lp with
      | none =>
        rw [if_neg (fun e => by have := hlast.2 e; cases this)] at hK0
        have HK0 := Hid.mk hK0
        clear hK0 hlast
        go_enter Tryz.func73, Tryz.ntmps73
        go_upto_region 1 with fail
        go_region_held3 (fun u => u.cell? ⟨kb, 9, none⟩ = some (.slice qa s.Q.length qc) ∧ u.cell? ⟨w.heap.size, 0, none⟩ = some (.int .i64 ap) ∧ u.cell? ⟨w.heap.size, 1, none⟩ = some (.int .i64 i) ∧ u.cell? ⟨w.heap.size, 2, none⟩ = some (.int .i64 rn.p) ∧ u.cell? ⟨w.heap.size, 3, none⟩ = some (.int .i64 rn.k) ∧ u.cell? ⟨w.heap.size, 4, none⟩ = some (.int .i64 rn.f) ∧ u.cell? ⟨w.heap.size, 5, none⟩ = some (.int .i64 rn.t) ∧ u.cell? ⟨w.heap.size, 6, none⟩ = some (.pointer A) ∧ u.cell? ⟨w.heap.size, 7, none⟩ = some (.int .i64 wk)) (simp [go_sem, World.cell?_alloc_past, *])
          (first
            | (go_at_call 110; refine (HWY.out _ ?_).mono ?_; exact HBX.out.drew; rintro e w3 ⟨v3, us3, rfl, hwy, hb3⟩; obtain ⟨a3, c3, rfl⟩ := own_form hwy.own; have hz3 := hb3.size; simp at hz3; have hww : w.heap.size < w3.heap.size := (by omega); have HBW : Hid (Below w.heap.size w w3) := HBX.out.drew.trans (hb3.mono (by simp)); have k9w3 := H9.out w3 HBW.out; have k0w3 : w3.cell? ⟨w.heap.size, 0, none⟩ = some (.int .i64 ap) := ((bcells hb3).1 _ _ (by simp)).trans (by simp); have k1w3 : w3.cell? ⟨w.heap.size, 1, none⟩ = some (.int .i64 i) := ((bcells hb3).1 _ _ (by simp)).trans (by simp); have k2w3 : w3.cell? ⟨w.heap.size, 2, none⟩ = some (.int .i64 rn.p) := ((bcells hb3).1 _ _ (by simp)).trans (by simp); have k3w3 : w3.cell? ⟨w.heap.size, 3, none⟩ = some (.int .i64 rn.k) := ((bcells hb3).1 _ _ (by simp)).trans (by simp); have k4w3 : w3.cell? ⟨w.heap.size, 4, none⟩ = some (.int .i64 rn.f) := ((bcells hb3).1 _ _ (by simp)).trans (by simp); have k5w3 : w3.cell? ⟨w.heap.size, 5, none⟩ = some (.int .i64 rn.t) := ((bcells hb3).1 _ _ (by simp)).trans (by simp); have k6w3 : w3.cell? ⟨w.heap.size, 6, none⟩ = some (.pointer A) := ((bcells hb3).1 _ _ (by simp)).trans (by simp); have k7w3 : w3.cell? ⟨w.heap.size, 7, none⟩ = some (.int .i64 wk) := ((bcells hb3).1 _ _ (by simp)).trans (by simp); clear hwy hb3))
        go_upto_region 5 with fail
        go_region_held3 (fun u => u.cell? ⟨kb, 9, none⟩ = some (.slice qa s.Q.length qc) ∧ u.cell? ⟨w.heap.size, 0, none⟩ = some (.int .i64 ap) ∧ u.cell? ⟨w.heap.size, 1, none⟩ = some (.int .i64 i) ∧ u.cell? ⟨w.heap.size, 2, none⟩ = some (.int .i64 rn.p) ∧ u.cell? ⟨w.heap.size, 3, none⟩ = some (.int .i64 rn.k) ∧ u.cell? ⟨w.heap.size, 4, none⟩ = some (.int .i64 rn.f) ∧ u.cell? ⟨w.heap.size, 5, none⟩ = some (.int .i64 rn.t) ∧ u.cell? ⟨w.heap.size, 6, none⟩ = some (.pointer A) ∧ u.cell? ⟨w.heap.size, 7, none⟩ = some (.int .i64 wk)) (simp [go_sem, *])
          (first
            | (go_at_call 112; refine (HWT.out _ ?_).mono ?_; exact HBW.out.drew; rintro e w4 ⟨v4, rfl, ho4, hb4⟩; obtain ⟨a4, c4, rfl⟩ := own_form ho4; have hz4 := hb4.size; have HBV : Hid (Below w.heap.size w w4) := HBW.out.drew.trans (hb4.mono (by show _ ≤ w3.heap.size; omega)); have k9w4 := H9.out w4 HBV.out; have hww4 : w.heap.size < w4.heap.size := (by have : w3.heap.size ≤ w4.heap.size := hz4; omega); have k0w4 := (hb4.cell (p := ⟨w.heap.size, 0, none⟩) hww).trans k0w3; have k1w4 := (hb4.cell (p := ⟨w.heap.size, 1, none⟩) hww).trans k1w3; have k2w4 := (hb4.cell (p := ⟨w.heap.size, 2, none⟩) hww).trans k2w3; have k3w4 := (hb4.cell (p := ⟨w.heap.size, 3, none⟩) hww).trans k3w3; have k4w4 := (hb4.cell (p := ⟨w.heap.size, 4, none⟩) hww).trans k4w3; have k5w4 := (hb4.cell (p := ⟨w.heap.size, 5, none⟩) hww).trans k5w3; have k6w4 := (hb4.cell (p := ⟨w.heap.size, 6, none⟩) hww).trans k6w3; have k7w4 := (hb4.cell (p := ⟨w.heap.size, 7, none⟩) hww).trans k7w3; have HO4 := Hid.mk ho4; clear ho4 hb4))
        have HL := Hid.mk (HLS.out w4 HBV.out _ (own_mono HO4.out (Nat.zero_le _)))
        go_wp2_with (go_at_call 113; refine HL.out.mono ?_; rintro e w5 ⟨rfl, hb5⟩; have hz5 := hb5.size; have HB5 : Hid (Below w.heap.size w w5) := HBV.out.trans (hb5.mono (by show _ ≤ w4.heap.size; omega)); have k9w5 := H9.out w5 HB5.out; have f9w5 := HF9.out w5 HB5.out; have k0w5 := (hb5.cell (p := ⟨w.heap.size, 0, none⟩) (by show w.heap.size < w4.heap.size; omega)).trans k0w4; have HB5' : Hid (Below w4.heap.size w4 w5) := hb5; clear hb5)
        go_ret
        have hB0 := HB0.out
        rw [HK0.out] at hB0 ⊢
        refine ⟨rfl, ⟨rv, wv, .slice a4 (renQ ι (s.Q ++ [a])).length c4, ?_⟩, Kp.of_setCell HB5.out (by simp) _⟩
        exact (HH.out.below HB5.out).setQueue (own_mono (own_below HO4.out HB5'.out) (Nat.zero_le _)) (fun b e => hP b (by have : w3.heap.size ≤ b := (HO4.out.lt b e).1; omega)) hB0.sm
      | some lq =>
        by_cases hq : lq = ap
        · rw [if_pos (hlast.1 (by rw [hq]))] at hK0
          have HK0 := Hid.mk hK0
          have hq' := hq.symm
          subst hq'
          clear hK0 hlast
          go_enter Tryz.func73, Tryz.ntmps73
          go_upto_region 1 with fail
          go_region_held3 (fun u => u.cell? ⟨kb, 9, none⟩ = some (.slice qa s.Q.length qc) ∧ u.cell? ⟨w.heap.size, 0, none⟩ = some (.int .i64 ap) ∧ u.cell? ⟨w.heap.size, 1, none⟩ = some (.int .i64 i) ∧ u.cell? ⟨w.heap.size, 2, none⟩ = some (.int .i64 rn.p) ∧ u.cell? ⟨w.heap.size, 3, none⟩ = some (.int .i64 rn.k) ∧ u.cell? ⟨w.heap.size, 4, none⟩ = some (.int .i64 rn.f) ∧ u.cell? ⟨w.heap.size, 5, none⟩ = some (.int .i64 rn.t) ∧ u.cell? ⟨w.heap.size, 6, none⟩ = some (.pointer A) ∧ u.cell? ⟨w.heap.size, 7, none⟩ = some (.int .i64 wk)) (simp [go_sem, World.cell?_alloc_past, *])
            (first
              | (go_at_call 110; refine (HWY.out _ ?_).mono ?_; exact HBX.out.drew; rintro e w3 ⟨v3, us3, rfl, hwy, hb3⟩; obtain ⟨a3, c3, rfl⟩ := own_form hwy.own; have hz3 := hb3.size; simp at hz3; have hww : w.heap.size < w3.heap.size := (by omega); have HBW : Hid (Below w.heap.size w w3) := HBX.out.drew.trans (hb3.mono (by simp)); have k9w3 := H9.out w3 HBW.out; have k0w3 : w3.cell? ⟨w.heap.size, 0, none⟩ = some (.int .i64 ap) := ((bcells hb3).1 _ _ (by simp)).trans (by simp); have k1w3 : w3.cell? ⟨w.heap.size, 1, none⟩ = some (.int .i64 i) := ((bcells hb3).1 _ _ (by simp)).trans (by simp); have k2w3 : w3.cell? ⟨w.heap.size, 2, none⟩ = some (.int .i64 rn.p) := ((bcells hb3).1 _ _ (by simp)).trans (by simp); have k3w3 : w3.cell? ⟨w.heap.size, 3, none⟩ = some (.int .i64 rn.k) := ((bcells hb3).1 _ _ (by simp)).trans (by simp); have k4w3 : w3.cell? ⟨w.heap.size, 4, none⟩ = some (.int .i64 rn.f) := ((bcells hb3).1 _ _ (by simp)).trans (by simp); have k5w3 : w3.cell? ⟨w.heap.size, 5, none⟩ = some (.int .i64 rn.t) := ((bcells hb3).1 _ _ (by simp)).trans (by simp); have k6w3 : w3.cell? ⟨w.heap.size, 6, none⟩ = some (.pointer A) := ((bcells hb3).1 _ _ (by simp)).trans (by simp); have k7w3 : w3.cell? ⟨w.heap.size, 7, none⟩ = some (.int .i64 wk) := ((bcells hb3).1 _ _ (by simp)).trans (by simp); clear hwy hb3))
          go_upto_region 5 with fail
          go_region_held3 (fun u => u.cell? ⟨kb, 9, none⟩ = some (.slice qa s.Q.length qc) ∧ u.cell? ⟨w.heap.size, 0, none⟩ = some (.int .i64 ap) ∧ u.cell? ⟨w.heap.size, 1, none⟩ = some (.int .i64 i) ∧ u.cell? ⟨w.heap.size, 2, none⟩ = some (.int .i64 rn.p) ∧ u.cell? ⟨w.heap.size, 3, none⟩ = some (.int .i64 rn.k) ∧ u.cell? ⟨w.heap.size, 4, none⟩ = some (.int .i64 rn.f) ∧ u.cell? ⟨w.heap.size, 5, none⟩ = some (.int .i64 rn.t) ∧ u.cell? ⟨w.heap.size, 6, none⟩ = some (.pointer A) ∧ u.cell? ⟨w.heap.size, 7, none⟩ = some (.int .i64 wk)) (simp [go_sem, *])
            (first
              | (go_at_call 112; refine (HWT.out _ ?_).mono ?_; exact HBW.out.drew; rintro e w4 ⟨v4, rfl, ho4, hb4⟩; obtain ⟨a4, c4, rfl⟩ := own_form ho4; have hz4 := hb4.size; have HBV : Hid (Below w.heap.size w w4) := HBW.out.drew.trans (hb4.mono (by show _ ≤ w3.heap.size; omega)); have k9w4 := H9.out w4 HBV.out; have hww4 : w.heap.size < w4.heap.size := (by have : w3.heap.size ≤ w4.heap.size := hz4; omega); have k0w4 := (hb4.cell (p := ⟨w.heap.size, 0, none⟩) hww).trans k0w3; have k1w4 := (hb4.cell (p := ⟨w.heap.size, 1, none⟩) hww).trans k1w3; have k2w4 := (hb4.cell (p := ⟨w.heap.size, 2, none⟩) hww).trans k2w3; have k3w4 := (hb4.cell (p := ⟨w.heap.size, 3, none⟩) hww).trans k3w3; have k4w4 := (hb4.cell (p := ⟨w.heap.size, 4, none⟩) hww).trans k4w3; have k5w4 := (hb4.cell (p := ⟨w.heap.size, 5, none⟩) hww).trans k5w3; have k6w4 := (hb4.cell (p := ⟨w.heap.size, 6, none⟩) hww).trans k6w3; have k7w4 := (hb4.cell (p := ⟨w.heap.size, 7, none⟩) hww).trans k7w3; have HO4 := Hid.mk ho4; clear ho4 hb4))
          have HL := Hid.mk (HLS.out w4 HBV.out _ (own_mono HO4.out (Nat.zero_le _)))
          go_wp2_with (go_at_call 113; refine HL.out.mono ?_; rintro e w5 ⟨rfl, hb5⟩; have hz5 := hb5.size; have HB5 : Hid (Below w.heap.size w w5) := HBV.out.trans (hb5.mono (by show _ ≤ w4.heap.size; omega)); have k9w5 := H9.out w5 HB5.out; have f9w5 := HF9.out w5 HB5.out; have k0w5 := (hb5.cell (p := ⟨w.heap.size, 0, none⟩) (by show w.heap.size < w4.heap.size; omega)).trans k0w4; have HB5' : Hid (Below w4.heap.size w4 w5) := hb5; clear hb5)
          go_ret
          rw [HK0.out]
          exact ⟨rfl, ⟨rv, wv, _, HH.out.below HB5.out⟩, Kp.below HB5.out⟩
        · rw [if_neg (fun e => hq (by have := hlast.2 e; cases this; rfl))] at hK0
          have HK0 := Hid.mk hK0
          clear hK0 hlast
          go_enter Tryz.func73, Tryz.ntmps73
          go_upto_region 1 with fail
          go_region_held3 (fun u => u.cell? ⟨kb, 9, none⟩ = some (.slice qa s.Q.length qc) ∧ u.cell? ⟨w.heap.size, 0, none⟩ = some (.int .i64 ap) ∧ u.cell? ⟨w.heap.size, 1, none⟩ = some (.int .i64 i) ∧ u.cell? ⟨w.heap.size, 2, none⟩ = some (.int .i64 rn.p) ∧ u.cell? ⟨w.heap.size, 3, none⟩ = some (.int .i64 rn.k) ∧ u.cell? ⟨w.heap.size, 4, none⟩ = some (.int .i64 rn.f) ∧ u.cell? ⟨w.heap.size, 5, none⟩ = some (.int .i64 rn.t) ∧ u.cell? ⟨w.heap.size, 6, none⟩ = some (.pointer A) ∧ u.cell? ⟨w.heap.size, 7, none⟩ = some (.int .i64 wk)) (simp [go_sem, World.cell?_alloc_past, *])
            (first
              | (go_at_call 110; refine (HWY.out _ ?_).mono ?_; exact HBX.out.drew; rintro e w3 ⟨v3, us3, rfl, hwy, hb3⟩; obtain ⟨a3, c3, rfl⟩ := own_form hwy.own; have hz3 := hb3.size; simp at hz3; have hww : w.heap.size < w3.heap.size := (by omega); have HBW : Hid (Below w.heap.size w w3) := HBX.out.drew.trans (hb3.mono (by simp)); have k9w3 := H9.out w3 HBW.out; have k0w3 : w3.cell? ⟨w.heap.size, 0, none⟩ = some (.int .i64 ap) := ((bcells hb3).1 _ _ (by simp)).trans (by simp); have k1w3 : w3.cell? ⟨w.heap.size, 1, none⟩ = some (.int .i64 i) := ((bcells hb3).1 _ _ (by simp)).trans (by simp); have k2w3 : w3.cell? ⟨w.heap.size, 2, none⟩ = some (.int .i64 rn.p) := ((bcells hb3).1 _ _ (by simp)).trans (by simp); have k3w3 : w3.cell? ⟨w.heap.size, 3, none⟩ = some (.int .i64 rn.k) := ((bcells hb3).1 _ _ (by simp)).trans (by simp); have k4w3 : w3.cell? ⟨w.heap.size, 4, none⟩ = some (.int .i64 rn.f) := ((bcells hb3).1 _ _ (by simp)).trans (by simp); have k5w3 : w3.cell? ⟨w.heap.size, 5, none⟩ = some (.int .i64 rn.t) := ((bcells hb3).1 _ _ (by simp)).trans (by simp); have k6w3 : w3.cell? ⟨w.heap.size, 6, none⟩ = some (.pointer A) := ((bcells hb3).1 _ _ (by simp)).trans (by simp); have k7w3 : w3.cell? ⟨w.heap.size, 7, none⟩ = some (.int .i64 wk) := ((bcells hb3).1 _ _ (by simp)).trans (by simp); clear hwy hb3))
          go_upto_region 5 with fail
          go_region_held3 (fun u => u.cell? ⟨kb, 9, none⟩ = some (.slice qa s.Q.length qc) ∧ u.cell? ⟨w.heap.size, 0, none⟩ = some (.int .i64 ap) ∧ u.cell? ⟨w.heap.size, 1, none⟩ = some (.int .i64 i) ∧ u.cell? ⟨w.heap.size, 2, none⟩ = some (.int .i64 rn.p) ∧ u.cell? ⟨w.heap.size, 3, none⟩ = some (.int .i64 rn.k) ∧ u.cell? ⟨w.heap.size, 4, none⟩ = some (.int .i64 rn.f) ∧ u.cell? ⟨w.heap.size, 5, none⟩ = some (.int .i64 rn.t) ∧ u.cell? ⟨w.heap.size, 6, none⟩ = some (.pointer A) ∧ u.cell? ⟨w.heap.size, 7, none⟩ = some (.int .i64 wk)) (simp [go_sem, *])
            (first
              | (go_at_call 112; refine (HWT.out _ ?_).mono ?_; exact HBW.out.drew; rintro e w4 ⟨v4, rfl, ho4, hb4⟩; obtain ⟨a4, c4, rfl⟩ := own_form ho4; have hz4 := hb4.size; have HBV : Hid (Below w.heap.size w w4) := HBW.out.drew.trans (hb4.mono (by show _ ≤ w3.heap.size; omega)); have k9w4 := H9.out w4 HBV.out; have hww4 : w.heap.size < w4.heap.size := (by have : w3.heap.size ≤ w4.heap.size := hz4; omega); have k0w4 := (hb4.cell (p := ⟨w.heap.size, 0, none⟩) hww).trans k0w3; have k1w4 := (hb4.cell (p := ⟨w.heap.size, 1, none⟩) hww).trans k1w3; have k2w4 := (hb4.cell (p := ⟨w.heap.size, 2, none⟩) hww).trans k2w3; have k3w4 := (hb4.cell (p := ⟨w.heap.size, 3, none⟩) hww).trans k3w3; have k4w4 := (hb4.cell (p := ⟨w.heap.size, 4, none⟩) hww).trans k4w3; have k5w4 := (hb4.cell (p := ⟨w.heap.size, 5, none⟩) hww).trans k5w3; have k6w4 := (hb4.cell (p := ⟨w.heap.size, 6, none⟩) hww).trans k6w3; have k7w4 := (hb4.cell (p := ⟨w.heap.size, 7, none⟩) hww).trans k7w3; have HO4 := Hid.mk ho4; clear ho4 hb4))
          have HL := Hid.mk (HLS.out w4 HBV.out _ (own_mono HO4.out (Nat.zero_le _)))
          go_wp2_with (go_at_call 113; refine HL.out.mono ?_; rintro e w5 ⟨rfl, hb5⟩; have hz5 := hb5.size; have HB5 : Hid (Below w.heap.size w w5) := HBV.out.trans (hb5.mono (by show _ ≤ w4.heap.size; omega)); have k9w5 := H9.out w5 HB5.out; have f9w5 := HF9.out w5 HB5.out; have k0w5 := (hb5.cell (p := ⟨w.heap.size, 0, none⟩) (by show w.heap.size < w4.heap.size; omega)).trans k0w4; have HB5' : Hid (Below w4.heap.size w4 w5) := hb5; clear hb5)
          go_ret
          have hB0 := HB0.out
          rw [HK0.out] at hB0 ⊢
          refine ⟨rfl, ⟨rv, wv, .slice a4 (renQ ι (s.Q ++ [a])).length c4, ?_⟩, Kp.of_setCell HB5.out (by simp) _⟩
          exact (HH.out.below HB5.out).setQueue (own_mono (own_below HO4.out HB5'.out) (Nat.zero_le _)) (fun b e => hP b (by have : w3.heap.size ≤ b := (HO4.out.lt b e).1; omega)) hB0.sm
end Go.Proofs.YtaicdjhblbobbaaGreat

/- Contracts of the Kernel's lock, whole and test (the guard is held). -/
namespace Go.Proofs.YtaicdjhblbobbaaGreat
open Go.RowKit Go.Lib

def DS.lock0 (s : DS) (p d k f l : Int) (wait : Bool) : DS × Int := if s.readK p d k f l 0 ≠ 0 then (s, s.readK p d k f l 0) else
  match s.F p d with
  | none => (s, 0)
  | some o => s.ask0 ⟨p, k, s.O o, false, o, fromS f l, toS f l⟩ wait
def DS.whole0 (s : DS) (p d k : Int) (wait : Bool) : DS × Int := if s.findK p d k 0 ≠ 0 then (s, s.findK p d k 0) else
  match s.F p d with
  | none => (s, 0)
  | some o => s.ask0 ⟨p, k, s.O o, true, o, 0, 0⟩ wait
def DS.test0 (s : DS) (p d k f l : Int) : Int × Int := if s.readK p d k f l 1 ≠ 0 then (0, s.readK p d k f l 1) else
  match s.F p d with
  | none => (0, 0)
  | some o => match holders (s.R (s.O o)) ⟨p, k, fromS f l, toS f l⟩ with
    | [] => (-1, 0)
    | q :: _ => (q, 0)
theorem readK_zero {s : DS} {p d k f l m : Int} (he : s.readK p d k f l m = 0) : ∃ o, liveB s.L p = true ∧ s.F p d = some o ∧ kindB k = true ∧ m ≤ k ∧ badS f l = false := by
  unfold DS.readK at he
  split at he
  · rename_i h; exact absurd he h
  · rename_i h
    obtain ⟨o, h1, h2, h3, h4⟩ := findK_zero (by simpa using h : s.findK p d k m = 0)
    split at he
    · cases he
    · rename_i hb; exact ⟨o, h1, h2, h3, h4, by simpa using hb⟩
theorem DS.find_is {s : DS} (h : s.Bas) {p d : Int} {o : Nat} (hl : liveB s.L p = true) (hw : s.waits p = false) (hf : s.F p d = some o) : s.find p d = .ok o := by
  obtain ⟨_, h2, h3, _⟩ := h.f p d o hf
  unfold DS.find DS.may
  rw [hl, hw]
  simp [h2, h3, hf]

section
variable {w : World} {kb tb mb : Nat} {g : Int} {P : Nat → Prop} {ι : Nat → Nat} {s : DS} {rv wv : Nat → Value} {qv : Value} {B : Nat}
set_option maxHeartbeats 4000000 in
set_option maxRecDepth 100000 in
theorem lock_any (h : KV w kb tb mb g P ι s rv wv qv) (hP : ∀ b, B ≤ b → P b) (hB : B ≤ w.heap.size) (hinv : s.Inv) (p d k f l : Int) (wait : Bool) (hnw : s.waits p = false) :
    Calls Tryz.prog 42 #[.pointer (some ⟨kb, 0, none⟩), .int .i64 p, .int .i64 d, .int .i64 k, .int .i64 f, .int .i64 l, .bool wait] w fun e w' => e = .returned (.int .i64 (s.lock0 p d k f l wait).2) ∧ (∃ rv' wv' qv', KV w' kb tb mb g P ι (s.lock0 p d k f l wait).1 rv' wv' qv') ∧ Kp [kb] w w' := by
  have HH := Hid.mk h
  by_cases he : s.readK p d k f l 0 = 0
  · obtain ⟨o, h1, h2, h3, h4, h5⟩ := readK_zero he
    have hao : s.AskOk ⟨p, k, s.O o, false, o, fromS f l, toS f l⟩ := DS.AskOk.lock hinv.toBas (DS.find_is hinv.toBas h1 hnw h2) (by simp [h3]) (by simp [h5])
    have HK0 : Hid (s.lock0 p d k f l wait = s.ask0 ⟨p, k, s.O o, false, o, fromS f l, toS f l⟩ wait) := by show _ = _; unfold DS.lock0; rw [if_neg (by simpa using he), h2]
    have HR := Hid.mk (read_ok h p d k f l 0 h1 h2 h3 h4 h5)
    have HA := Hid.mk (fun (W : World) (hb : Below w.heap.size w W) => ask_any (h.below hb) hP (by have := hb.size; omega) hinv ⟨p, k, s.O o, false, o, fromS f l, toS f l⟩ hao hnw wait)
    rw [HK0.out]
    generalize s.ask0 ⟨p, k, s.O o, false, o, fromS f l, toS f l⟩ wait = X at *
    rw [show askV (renA ι ⟨p, k, s.O o, false, o, fromS f l, toS f l⟩) = .agg #[.int .i64 p, .int .i64 (s.O o), .int .i64 p, .int .i64 k, .int .i64 (fromS f l), .int .i64 (toS f l), .pointer none, .int .i64 0] from rfl] at HA
    clear h he h1 h2 h3 h4 h5 hao HK0 hnw
    generalize fromS f l = fr at *
    generalize toS f l = to at *
    go_enter Tryz.func42, Tryz.ntmps42
    go_wp2_with (first
      | (go_at_call 72; refine HR.out.mono ?_; rintro e w1 ⟨rfl, hb1⟩; have hz1 := hb1.size; have HB1 := Hid.mk hb1; clear hb1)
      | (go_at_call 73; refine (HA.out _ (HB1.out.alloc hz1 _)).mono ?_; rintro e w2 ⟨rfl, hkv, hkp⟩; have HKV := Hid.mk hkv; have HKP := Hid.mk hkp; clear hkv hkp))
    go_ret
    exact ⟨rfl, HKV.out, (Kp.below (HB1.out.alloc hz1 _)).trans HKP.out⟩
  · have HK0 : Hid (s.lock0 p d k f l wait = (s, s.readK p d k f l 0)) := by show _ = _; unfold DS.lock0; rw [if_pos he]
    have HR := Hid.mk (read_err h p d k f l 0 he)
    rw [HK0.out]
    generalize s.readK p d k f l 0 = E at *
    have hE : (E != 0) = true := by simpa using he
    clear h he HK0
    go_enter Tryz.func42, Tryz.ntmps42
    go_wp2_with (go_at_call 72; refine HR.out.mono ?_; rintro e w1 ⟨rfl, hb1⟩; have hz1 := hb1.size; have HB1 := Hid.mk hb1; clear hb1)
    go_ret
    exact ⟨rfl, ⟨rv, wv, qv, HH.out.below (HB1.out.alloc hz1 _)⟩, Kp.below (HB1.out.alloc hz1 _)⟩

set_option maxHeartbeats 4000000 in
set_option maxRecDepth 100000 in
theorem whole_any (h : KV w kb tb mb g P ι s rv wv qv) (hP : ∀ b, B ≤ b → P b) (hB : B ≤ w.heap.size) (hinv : s.Inv) (p d k : Int) (wait : Bool) (hnw : s.waits p = false) :
    Calls Tryz.prog 53 #[.pointer (some ⟨kb, 0, none⟩), .int .i64 p, .int .i64 d, .int .i64 k, .bool wait] w fun e w' => e = .returned (.int .i64 (s.whole0 p d k wait).2) ∧ (∃ rv' wv' qv', KV w' kb tb mb g P ι (s.whole0 p d k wait).1 rv' wv' qv') ∧ Kp [kb] w w' := by
  have HH := Hid.mk h
  by_cases he : s.findK p d k 0 = 0
  · obtain ⟨o, h1, h2, h3, h4⟩ := findK_zero he
    have hao : s.AskOk ⟨p, k, s.O o, true, o, 0, 0⟩ := DS.AskOk.whole hinv.toBas (DS.find_is hinv.toBas h1 hnw h2) (by simp [h3])
    have HK0 : Hid (s.whole0 p d k wait = s.ask0 ⟨p, k, s.O o, true, o, 0, 0⟩ wait) := by show _ = _; unfold DS.whole0; rw [if_neg (by simpa using he), h2]
    have HR := Hid.mk (find_yes h p d k 0 h1 h2 h3 h4)
    have HFI := Hid.mk (fun (W : World) (hb : Below w.heap.size w W) => File_any ((h.below hb).o o (h.sm.f p d o h2)))
    have HA := Hid.mk (fun (W : World) (hb : Below w.heap.size w W) => ask_any (h.below hb) hP (by have := hb.size; omega) hinv ⟨p, k, s.O o, true, o, 0, 0⟩ hao hnw wait)
    rw [HK0.out]
    generalize s.ask0 ⟨p, k, s.O o, true, o, 0, 0⟩ wait = X at *
    rw [show askV (renA ι ⟨p, k, s.O o, true, o, 0, 0⟩) = .agg #[.int .i64 p, .int .i64 (s.O o), .int .i64 0, .int .i64 0, .int .i64 0, .int .i64 0, .pointer (some ⟨ι o, 0, none⟩), .int .i64 k] from rfl] at HA
    have HB0 : Hid (Below w.heap.size w (w.alloc (.cells #[.pointer (some ⟨ι o, 0, none⟩), .int .i64 k] 135))) := (Below.refl _ _).alloc (Nat.le_refl _) _
    have hkl := h.lt
    clear h he h1 h2 h3 h4 hao HK0 hnw
    go_enter Tryz.func53, Tryz.ntmps53
    go_upto_region 5 with (go_at_call 81; refine HR.out.mono ?_; rintro e w' ⟨rfl, hw⟩; have hw2 := hw.symm; clear hw; subst hw2)
    go_region_held3 (fun u => u.cell? ⟨w.heap.size, 0, none⟩ = some (.pointer (some ⟨ι o, 0, none⟩)) ∧ u.cell? ⟨w.heap.size, 1, none⟩ = some (.int .i64 k)) (simp [go_sem, *])
      (first
        | (go_at_call 82; refine (HFI.out _ HB0.out.drew).mono ?_; rintro e w' ⟨rfl, hw⟩; have hw2 := hw.symm; clear hw; subst hw2)
        | (go_at_call 73; refine (HA.out _ HB0.out.drew).mono ?_; rintro e w2 ⟨rfl, hkv, hkp⟩; have hbk := hkp.block w.heap.size (by simp) (by simp; omega); have j0 := (World.cell?_of_block (a := ⟨w.heap.size, 0, none⟩) hbk).trans (show _ = some (.pointer (some ⟨ι o, 0, none⟩)) by simp); have j1 := (World.cell?_of_block (a := ⟨w.heap.size, 1, none⟩) hbk).trans (show _ = some (.int .i64 k) by simp); have HKV := Hid.mk hkv; have HKP := Hid.mk hkp; clear hkv hkp hbk))
    go_wp2
    go_ret
    exact ⟨rfl, HKV.out, (Kp.below HB0.out.drew).trans HKP.out⟩
  · have HK0 : Hid (s.whole0 p d k wait = (s, s.findK p d k 0)) := by show _ = _; unfold DS.whole0; rw [if_pos he]
    have HR := Hid.mk (find_err h p d k 0 he)
    rw [HK0.out]
    generalize s.findK p d k 0 = E at *
    have hE : (E != 0) = true := by simpa using he
    clear h he HK0
    go_enter Tryz.func53, Tryz.ntmps53
    go_wp2_with (go_at_call 81; refine HR.out.mono ?_; rintro e w' ⟨rfl, hw⟩; have hw2 := hw.symm; clear hw; subst hw2)
    go_ret
    exact ⟨rfl, ⟨rv, wv, qv, HH.out⟩, Kp.refl _ _⟩
end
end Go.Proofs.YtaicdjhblbobbaaGreat

/- The model's calls, as the program makes them: what changes, then the answer. -/
namespace Go.Proofs.YtaicdjhblbobbaaGreat

section
variable {s : DS} {p : Int}
theorem DS.Inv.may_wait (h : s.Inv) (hw : s.waits p = true) : s.may p = 2 := by
  obtain ⟨a, ha, rfl⟩ := DS.waits_iff.1 hw
  unfold DS.may
  rw [(h.q a ha).1.l, hw]
  rfl
theorem may_dead (hl : liveB s.L p = false) : s.may p = 1 := by unfold DS.may; rw [if_pos hl]
theorem may_live (hl : liveB s.L p = true) (hw : s.waits p = false) : s.may p = 0 := by unfold DS.may; rw [hl, hw]; rfl
theorem DS.find_err {e : Int} (d : Int) (h : s.may p = e) (he : e ≠ 0) : s.find p d = .error e := by unfold DS.find; rw [if_pos (by rw [h]; exact he), h]
theorem DS.find_no5 (h : s.Bas) {d : Int} (hl : liveB s.L p = true) (hw : s.waits p = false) (hf : s.F p d = none) : s.find p d = .error 5 := by
  have _ := h
  unfold DS.find
  rw [may_live hl hw, if_neg (by simp)]
  split
  · rfl
  · rw [hf]
theorem fork_wait (h : s.Inv) (hw : s.waits p = true) : s.fork p = (s, rerr 2) := by
  unfold DS.fork; rw [h.may_wait hw, if_pos (by decide)]
theorem opn_wait (h : s.Inv) (f : Int) (hw : s.waits p = true) : s.opn p f = (s, rerr 2) := by
  unfold DS.opn; rw [h.may_wait hw, if_pos (by decide)]
theorem dup_wait (h : s.Inv) (d : Int) (hw : s.waits p = true) : s.dup p d = (s, rerr 2) := by
  unfold DS.dup; rw [DS.find_err d (h.may_wait hw) (by decide)]
theorem close_wait (h : s.Inv) (d : Int) (hw : s.waits p = true) : s.close p d = (s, rerr 2) := by
  unfold DS.close; rw [DS.find_err d (h.may_wait hw) (by decide)]
theorem lock_wait (h : s.Inv) (d k f l : Int) (wt : Bool) (hw : s.waits p = true) : s.lock p d k f l wt = (s, rerr 2) := by
  unfold DS.lock; rw [DS.find_err d (h.may_wait hw) (by decide)]
theorem whole_wait (h : s.Inv) (d k : Int) (wt : Bool) (hw : s.waits p = true) : s.whole p d k wt = (s, rerr 2) := by
  unfold DS.whole; rw [DS.find_err d (h.may_wait hw) (by decide)]
theorem test_wait (h : s.Inv) (d k f l : Int) (hw : s.waits p = true) : s.test p d k f l = rerr 2 := by
  unfold DS.test; rw [DS.find_err d (h.may_wait hw) (by decide)]

theorem fork_go (h : s.Inv) (hw : s.waits p = false) : (s.fork0 p).t.Bas ∧ s.fork p = (s.fork0 p).t.done (s.fork0 p).n (s.fork0 p).f := by
  have hi := h.fork p
  unfold DS.fork at hi ⊢
  unfold DS.fork0
  cases hl : liveB s.L p
  · rw [may_dead hl]
    simp only [if_true]
    exact ⟨h.toBas, by rw [if_pos (by decide), DS.done_err s (by decide)]⟩
  · rw [may_live hl hw] at hi ⊢
    simp only [Bool.true_eq_false, if_false, ne_eq, not_true_eq_false] at hi ⊢
    cases hc : (ps6.find? fun c => !s.L c.toNat) with
    | none => exact ⟨h.toBas, (DS.done_err s (show (3 : Int) ≠ 0 by decide)).symm⟩
    | some c =>
      rw [hc] at hi
      exact ⟨hi.toBas, (hi.done_num c).symm⟩
theorem opn_go (h : s.Inv) (f : Int) (hw : s.waits p = false) : (s.opn0 p f).t.Bas ∧ s.opn p f = (s.opn0 p f).t.done (s.opn0 p f).n (s.opn0 p f).f := by
  have hi := h.opn p f
  unfold DS.opn at hi ⊢
  unfold DS.opn0
  cases hl : liveB s.L p
  · rw [may_dead hl]
    simp only [if_true]
    exact ⟨h.toBas, by rw [if_pos (by decide), DS.done_err s (by decide)]⟩
  · rw [may_live hl hw] at hi ⊢
    simp only [Bool.true_eq_false, if_false, ne_eq, not_true_eq_false] at hi ⊢
    by_cases hf : ¬ (0 ≤ f ∧ f < 3)
    · simp only [if_pos hf]
      exact ⟨h.toBas, by rw [DS.done_err s (by decide)]⟩
    · simp only [if_neg hf] at hi ⊢
      cases hc : s.least? p with
      | none => exact ⟨h.toBas, (DS.done_err s (show (3 : Int) ≠ 0 by decide)).symm⟩
      | some d =>
        rw [hc] at hi
        exact ⟨hi.toBas, (hi.done_num d).symm⟩
theorem dup_go (h : s.Inv) (d : Int) (hw : s.waits p = false) : (s.dup0 p d).t.Bas ∧ s.dup p d = (s.dup0 p d).t.done (s.dup0 p d).n (s.dup0 p d).f := by
  have hi := h.dup p d
  unfold DS.dup at hi ⊢
  unfold DS.dup0
  cases hl : liveB s.L p
  · rw [DS.find_err d (may_dead hl) (by decide)]
    simp only [if_true]
    exact ⟨h.toBas, by rw [DS.done_err s (by decide)]⟩
  · simp only [Bool.true_eq_false, if_false]
    cases hf : s.F p d with
    | none =>
      rw [DS.find_no5 h.toBas hl hw hf]
      exact ⟨h.toBas, (DS.done_err s (show (5 : Int) ≠ 0 by decide)).symm⟩
    | some o =>
      rw [DS.find_is h.toBas hl hw hf] at hi ⊢
      simp only at hi ⊢
      cases hc : s.least? p with
      | none => exact ⟨h.toBas, (DS.done_err s (show (3 : Int) ≠ 0 by decide)).symm⟩
      | some e =>
        rw [hc] at hi
        exact ⟨hi.toBas, (hi.done_num e).symm⟩
def DS.shut0 (s : DS) (p d : Int) : DS × Int := if liveB s.L p = false then (s, 1) else match s.F p d with
  | none => (s, 5)
  | some o => (s.shut p d o, 0)
theorem close_go (h : s.Inv) (d : Int) (hw : s.waits p = false) : (s.shut0 p d).1.Bas ∧ s.close p d = (s.shut0 p d).1.done 0 (s.shut0 p d).2 := by
  unfold DS.close DS.shut0
  cases hl : liveB s.L p
  · rw [DS.find_err d (may_dead hl) (by decide)]
    simp only [if_true]
    exact ⟨h.toBas, by rw [DS.done_err s (by decide)]⟩
  · simp only [Bool.true_eq_false, if_false]
    cases hf : s.F p d with
    | none =>
      rw [DS.find_no5 h.toBas hl hw hf]
      exact ⟨h.toBas, (DS.done_err s (show (5 : Int) ≠ 0 by decide)).symm⟩
    | some o =>
      rw [DS.find_is h.toBas hl hw hf]
      exact ⟨h.toBas.shut hw, rfl⟩
theorem lock_go (h : s.Inv) (d k f l : Int) (wt : Bool) (hw : s.waits p = false) : (s.lock0 p d k f l wt).1.Bas ∧ s.lock p d k f l wt = (s.lock0 p d k f l wt).1.done 0 (s.lock0 p d k f l wt).2 := by
  by_cases he : s.readK p d k f l 0 = 0
  · obtain ⟨o, h1, h2, h3, h4, h5⟩ := readK_zero he
    have hf := DS.find_is h.toBas h1 hw h2
    have hao : s.AskOk ⟨p, k, s.O o, false, o, fromS f l, toS f l⟩ := DS.AskOk.lock h.toBas hf (by simp [h3]) (by simp [h5])
    have e0 : s.lock0 p d k f l wt = s.ask0 ⟨p, k, s.O o, false, o, fromS f l, toS f l⟩ wt := by unfold DS.lock0; rw [if_neg (by simpa using he), h2]
    rw [e0]
    refine ⟨DS.Bas.ask0 h hao hw wt, ?_⟩
    unfold DS.lock
    rw [hf]
    simp only [h3, h5, Bool.true_eq_false, Bool.false_eq_true, if_false]
    exact DS.ask_eq _ _ _
  · have e0 : s.lock0 p d k f l wt = (s, s.readK p d k f l 0) := by unfold DS.lock0; rw [if_pos he]
    rw [e0]
    refine ⟨h.toBas, ?_⟩
    rw [DS.done_err s he]
    unfold DS.lock
    unfold DS.readK DS.findK at he ⊢
    cases hl : liveB s.L p
    · rw [DS.find_err d (may_dead hl) (by decide)]
      simp
    · cases hf : s.F p d with
      | none => rw [DS.find_no5 h.toBas hl hw hf]; simp
      | some o =>
        rw [DS.find_is h.toBas hl hw hf]
        cases hk : kindB k
        · simp
        · have hk0 : ¬ k < 0 := by simp [kindB] at hk; omega
          rw [hl, hf, hk] at he
          simp only [Bool.true_eq_false, if_false, reduceCtorEq, false_or, hk0, ne_eq, not_true_eq_false] at he ⊢
          cases hb : badS f l
          · rw [hb] at he; simp at he
          · simp
theorem whole_go (h : s.Inv) (d k : Int) (wt : Bool) (hw : s.waits p = false) : (s.whole0 p d k wt).1.Bas ∧ s.whole p d k wt = (s.whole0 p d k wt).1.done 0 (s.whole0 p d k wt).2 := by
  by_cases he : s.findK p d k 0 = 0
  · obtain ⟨o, h1, h2, h3, h4⟩ := findK_zero he
    have hf := DS.find_is h.toBas h1 hw h2
    have hao : s.AskOk ⟨p, k, s.O o, true, o, 0, 0⟩ := DS.AskOk.whole h.toBas hf (by simp [h3])
    have e0 : s.whole0 p d k wt = s.ask0 ⟨p, k, s.O o, true, o, 0, 0⟩ wt := by unfold DS.whole0; rw [if_neg (by simpa using he), h2]
    rw [e0]
    refine ⟨DS.Bas.ask0 h hao hw wt, ?_⟩
    unfold DS.whole
    rw [hf]
    simp only [h3, Bool.true_eq_false, if_false]
    exact DS.ask_eq _ _ _
  · have e0 : s.whole0 p d k wt = (s, s.findK p d k 0) := by unfold DS.whole0; rw [if_pos he]
    rw [e0]
    refine ⟨h.toBas, ?_⟩
    rw [DS.done_err s he]
    unfold DS.whole
    unfold DS.findK at he ⊢
    cases hl : liveB s.L p
    · rw [DS.find_err d (may_dead hl) (by decide)]
      simp
    · cases hf : s.F p d with
      | none => rw [DS.find_no5 h.toBas hl hw hf]; simp
      | some o =>
        rw [DS.find_is h.toBas hl hw hf]
        cases hk : kindB k
        · simp
        · have hk0 : ¬ k < 0 := by simp [kindB] at hk; omega
          rw [hl, hf, hk] at he
          simp only [Bool.true_eq_false, if_false, reduceCtorEq, false_or, hk0, not_true_eq_false] at he
theorem test_go (h : s.Inv) (d k f l : Int) (hw : s.waits p = false) : (s, s.test p d k f l) = s.done (s.test0 p d k f l).1 (s.test0 p d k f l).2 := by
  by_cases he : s.readK p d k f l 1 = 0
  · obtain ⟨o, h1, h2, h3, h4, h5⟩ := readK_zero he
    have hf := DS.find_is h.toBas h1 hw h2
    unfold DS.test0 DS.test
    rw [if_neg (by simpa using he), h2, hf]
    have hk0 : ¬ k = 0 := by omega
    simp only [h3, h5, hk0, Bool.true_eq_false, Bool.false_eq_true, or_self, if_false]
    cases holders (s.R (s.O o)) ⟨p, k, fromS f l, toS f l⟩ with
    | nil => exact (h.done_num (-1)).symm
    | cons q t => exact (h.done_num q).symm
  · have e0 : s.test0 p d k f l = (0, s.readK p d k f l 1) := by unfold DS.test0; rw [if_pos he]
    rw [e0, DS.done_err s he]
    congr 1
    unfold DS.test
    unfold DS.readK DS.findK at he ⊢
    cases hl : liveB s.L p
    · rw [DS.find_err d (may_dead hl) (by decide)]
      simp
    · cases hf : s.F p d with
      | none => rw [DS.find_no5 h.toBas hl hw hf]; simp
      | some o =>
        rw [DS.find_is h.toBas hl hw hf]
        by_cases hk : kindB k = false ∨ k = 0
        · have hk1 : kindB k = false ∨ k < 1 := by rcases hk with hk | hk; exact Or.inl hk; exact Or.inr (by omega)
          simp [hk, hk1]
        · have hk1 : ¬ (kindB k = false ∨ k < 1) := by
            rintro (e | e)
            · exact hk (Or.inl e)
            · refine hk ?_
              cases hkb : kindB k
              · exact Or.inl rfl
              · simp [kindB] at hkb; right; omega
          rw [hl, hf] at he
          simp only [Bool.true_eq_false, if_false, reduceCtorEq, hk1, ne_eq, not_true_eq_false, hk] at he ⊢
          cases hb : badS f l
          · rw [hb] at he; simp at he
          · simp
end
end Go.Proofs.YtaicdjhblbobbaaGreat

/- Contract of the Kernel's test (the guard is held). -/
namespace Go.Proofs.YtaicdjhblbobbaaGreat
open Go.RowKit Go.Lib

section
variable {w : World} {kb tb mb : Nat} {g : Int} {P : Nat → Prop} {ι : Nat → Nat} {s : DS} {rv wv : Nat → Value} {qv : Value}
set_option maxHeartbeats 4000000 in
set_option maxRecDepth 100000 in
theorem test_any (h : KV w kb tb mb g P ι s rv wv qv) (p d k f l : Int) :
    Calls Tryz.prog 47 #[.pointer (some ⟨kb, 0, none⟩), .int .i64 p, .int .i64 d, .int .i64 k, .int .i64 f, .int .i64 l] w fun e w' => e = .returned (.tuple #[.int .i64 (s.test0 p d k f l).1, .int .i64 (s.test0 p d k f l).2]) ∧ Below w.heap.size w w' := by
  by_cases he : s.readK p d k f l 1 = 0
  · obtain ⟨o, h1, h2, h3, h4, h5⟩ := readK_zero he
    have hO3 := h.sm.o o
    have HR := Hid.mk (read_ok h p d k f l 1 h1 h2 h3 h4 h5)
    have HC := Hid.mk (fun (W : World) (hb : Below w.heap.size w W) => h.pair hb (s.O o) hO3)
    have HB := Hid.mk (fun (W : World) (hb : Below w.heap.size w W) => Biters_any (v := rv (s.O o)) ⟨p, k, fromS f l, toS f l⟩ (own_below (h.r (s.O o) hO3) hb) (by have := h.sm.len (s.O o); omega))
    rw [holders_eq (h.sm.rp (s.O o))] at HB
    have HK0 : Hid (s.test0 p d k f l = match holders (s.R (s.O o)) ⟨p, k, fromS f l, toS f l⟩ with | [] => (-1, 0) | q :: _ => (q, 0)) := by show _ = _; unfold DS.test0; rw [if_neg (by simpa using he), h2] <;> rfl
    rw [HK0.out]
    obtain ⟨ra, rc, hra⟩ := own_form (h.r (s.O o) hO3)
    obtain ⟨wa, wc, hwa⟩ := own_form (h.wr (s.O o) hO3)
    rw [hra] at HC HB
    rw [hwa] at HC
    have hkl := h.lt
    generalize holders (s.R (s.O o)) ⟨p, k, fromS f l, toS f l⟩ = hs at *
    generalize (s.R (s.O o)).length = rl at *
    generalize (renW ι (s.W (s.O o))).length = wl at *
    generalize s.O o = i at *
    generalize fromS f l = fr at *
    generalize toS f l = to at *
    have hi0 : (0 : Int) ≤ (i : Int) := by omega
    have hi3 : (i : Int) < 3 := by omega
    clear h he h1 h2 h3 h4 h5 HK0 hra hwa
    go_enter Tryz.func47, Tryz.ntmps47
    go_upto_region 4 with (go_at_call 72; refine HR.out.mono ?_; rintro e w1 ⟨rfl, hb1⟩; have hz1 := hb1.size; have HB1 := Hid.mk hb1; clear hb1)
    obtain ⟨cr, cw⟩ := HC.out _ HB1.out
    have hkw : kb < w1.heap.size := by omega
    go_region_held3 (fun u => u.cell? ⟨kb, 3 + i * 2, none⟩ = some (.slice ra rl rc) ∧ u.cell? ⟨w1.heap.size, 0, none⟩ = some (.int .i64 p) ∧ u.cell? ⟨w1.heap.size, 1, none⟩ = some (.int .i64 k) ∧ u.cell? ⟨w1.heap.size, 2, none⟩ = some (.int .i64 fr) ∧ u.cell? ⟨w1.heap.size, 3, none⟩ = some (.int .i64 to)) (simp [go_sem, World.cell?_alloc_past, *])
      (first
        | (go_at_call 77; refine (HB.out _ ?_).mono ?_; exact (HB1.out.alloc hz1 _).drew; rintro e w2 ⟨v2, rfl, ho2, hb2⟩; obtain ⟨a2, c2, rfl⟩ := own_form ho2; have HB2 : Hid (Below w.heap.size w w2) := (HB1.out.alloc hz1 _).drew.trans (hb2.mono (by simp; omega)); have kk := (HC.out _ HB2.out).1; have k0 : w2.cell? ⟨w1.heap.size, 0, none⟩ = some (.int .i64 p) := ((bcells hb2).1 _ _ (by simp)).trans (by simp); have k1 : w2.cell? ⟨w1.heap.size, 1, none⟩ = some (.int .i64 k) := ((bcells hb2).1 _ _ (by simp)).trans (by simp); have k2 : w2.cell? ⟨w1.heap.size, 2, none⟩ = some (.int .i64 fr) := ((bcells hb2).1 _ _ (by simp)).trans (by simp); have k3 : w2.cell? ⟨w1.heap.size, 3, none⟩ = some (.int .i64 to) := ((bcells hb2).1 _ _ (by simp)).trans (by simp); have HO2 := Hid.mk ho2; clear ho2 hb2))
    cases hs with
    | nil =>
      go_wp2
      go_ret2
      exact ⟨rfl, HB2.out⟩
    | cons q t =>
      obtain ⟨gb, rfl, _, _, _, hcell⟩ := own_some HO2.out (by simp)
      have cq : w2.cell? ⟨gb, 0, none⟩ = some (.int .i64 q) := (hcell 0 (by simp)).trans rfl
      have htl : (0 : Int) < ((q :: t).length : Int) := by simp only [List.length_cons]; omega
      generalize (q :: t).length = hl at *
      clear hcell
      go_wp2
      go_ret2
      exact ⟨rfl, HB2.out⟩
  · have HK0 : Hid (s.test0 p d k f l = (0, s.readK p d k f l 1)) := by show _ = _; unfold DS.test0; rw [if_pos he]
    have HR := Hid.mk (read_err h p d k f l 1 he)
    rw [HK0.out]
    generalize s.readK p d k f l 1 = E at *
    have hE : (E != 0) = true := by simpa using he
    clear h he HK0
    go_enter Tryz.func47, Tryz.ntmps47
    go_wp2_with (go_at_call 72; refine HR.out.mono ?_; rintro e w1 ⟨rfl, hb1⟩; have hz1 := hb1.size; have HB1 := Hid.mk hb1; clear hb1)
    go_ret2
    exact ⟨rfl, HB1.out.alloc hz1 _⟩
end
end Go.Proofs.YtaicdjhblbobbaaGreat

/- The document's answer in memory: its block, the rows of its openings and of those who wait. -/
namespace Go.Proofs.YtaicdjhblbobbaaGreat
open Go.RowKit Go.Lib

def dkPtr (db : Nat) : Value := .pointer (some ⟨db, 0, none⟩)
def askC (a : Ask) : List Value := [.int .i64 a.p, .int .i64 a.k, .int .i64 a.file, .bool a.whole, .int .i64 a.o, .int .i64 a.f, .int .i64 a.t]
def dAskV (a : Ask) : Value := .agg #[.int .i64 a.p, .int .i64 a.k, .int .i64 a.file, .bool a.whole, .int .i64 a.o, .int .i64 a.f, .int .i64 a.t]
def flatA (l : List Ask) : List Value := l.flatMap askC
def ogC (x : Og) : List Value := [.int .i64 x.f, .int .i64 x.k, .int .i64 x.t]
def flatO (l : List Og) : List Value := l.flatMap ogC
/-- The cells of the block. -/
structure DeskC (X : Array Value) (d : DK) (ov qv : Value) : Prop where
  size : X.size = 1191
  A : ∀ i, i < 6 → X[i]? = some (.bool (d.A i))
  G : ∀ p e, p < 6 → e < 5 → X[6 + p * 5 + e]? = some (.int .i64 (d.G p e))
  O : X[36]? = some ov
  C : ∀ f i p, f < 3 → i < 64 → p < 6 → X[37 + f * 384 + i * 6 + p]? = some (.int .i64 (d.C f i p))
  Q : X[1189]? = some qv
  n : X[1190]? = some (.int .i64 d.n)
def DeskB (w : World) (db : Nat) (d : DK) (ov qv : Value) : Prop := ∃ C : Array Value, w.heap[db]? = some (.cells C 171 (0, 0)) ∧ DeskC C d ov qv
structure DV (w : World) (db : Nat) (P : Nat → Prop) (d : DK) (ov qv : Value) : Prop where
  k : DeskB w db d ov qv
  o : w.ownsRow 0 215 3 ov d.O.length (flatO d.O)
  q : w.ownsRow 0 218 7 qv d.Q.length (flatA d.Q)
  pk : P db
  po : ∀ b, ov.ownBlock = some b → P b
  pq : ∀ b, qv.ownBlock = some b → P b
theorem DeskB.lt {w : World} {db : Nat} {d : DK} {ov qv : Value} (h : DeskB w db d ov qv) : db < w.heap.size := by
  obtain ⟨C, h, _⟩ := h
  exact (Array.getElem?_eq_some_iff.1 h).1
theorem DeskB.of_block {w w' : World} {db : Nat} {d : DK} {ov qv : Value} (h : DeskB w db d ov qv) (he : w'.heap[db]? = w.heap[db]?) : DeskB w' db d ov qv := by
  obtain ⟨C, h, h'⟩ := h
  exact ⟨C, he.trans h, h'⟩
theorem DeskB.cell {w : World} {db : Nat} {C : Array Value} {t : TypeId} (h : w.heap[db]? = some (.cells C t (0, 0))) (j : Nat) : w.cell? ⟨db, j, none⟩ = C[j]? := by
  simp [World.cell?, h]
theorem DeskB.frozen {w : World} {db : Nat} {d : DK} {ov qv : Value} (h : DeskB w db d ov qv) (j : Nat) : w.frozen? ⟨db, j, none⟩ = false := by
  obtain ⟨C, h, _⟩ := h
  simp [World.frozen?, h]
section
variable {w : World} {db : Nat} {d : DK} {ov qv : Value} (h : DeskB w db d ov qv)
include h
theorem DeskB.cA {i : Nat} (hi : i < 6) : w.cell? ⟨db, i, none⟩ = some (.bool (d.A i)) := by
  obtain ⟨C, h, hc⟩ := h
  rw [DeskB.cell h]; exact hc.A i hi
theorem DeskB.cG {p e : Nat} (hp : p < 6) (he : e < 5) : w.cell? ⟨db, 6 + p * 5 + e, none⟩ = some (.int .i64 (d.G p e)) := by
  obtain ⟨C, h, hc⟩ := h
  rw [DeskB.cell h]; exact hc.G p e hp he
theorem DeskB.cO : w.cell? ⟨db, 36, none⟩ = some ov := by
  obtain ⟨C, h, hc⟩ := h
  rw [DeskB.cell h]; exact hc.O
theorem DeskB.cC {f i p : Nat} (hf : f < 3) (hi : i < 64) (hp : p < 6) : w.cell? ⟨db, 37 + f * 384 + i * 6 + p, none⟩ = some (.int .i64 (d.C f i p)) := by
  obtain ⟨C, h, hc⟩ := h
  rw [DeskB.cell h]; exact hc.C f i p hf hi hp
theorem DeskB.cQ : w.cell? ⟨db, 1189, none⟩ = some qv := by
  obtain ⟨C, h, hc⟩ := h
  rw [DeskB.cell h]; exact hc.Q
theorem DeskB.cN : w.cell? ⟨db, 1190, none⟩ = some (.int .i64 d.n) := by
  obtain ⟨C, h, hc⟩ := h
  rw [DeskB.cell h]; exact hc.n
end
theorem setDesk_at {w : World} {b o : Nat} {c : Array Value} {t : TypeId} {fr : Nat × Nat} {v : Value} (h : w.heap[b]? = some (.cells c t fr)) : (w.setCell ⟨b, o, none⟩ v).heap[b]? = some (.cells (c.setIfInBounds o v) t fr) := by
  simp [World.setCell, Array.getElem?_modify, h]
theorem set_other {C : Array Value} {i j : Nat} {v : Value} (h : i ≠ j) : (C.setIfInBounds i v)[j]? = C[j]? := by
  rw [Array.getElem?_setIfInBounds, if_neg h]
theorem set_self {C : Array Value} {i : Nat} {v : Value} (h : i < C.size) : (C.setIfInBounds i v)[i]? = some v := by
  rw [Array.getElem?_setIfInBounds, if_pos rfl, if_pos h]
section
variable {w : World} {db : Nat} {d : DK} {ov qv : Value} (h : DeskB w db d ov qv)
include h
/-- A cell is written. -/
theorem DeskB.setC {f i p : Nat} (hf : f < 3) (hi : i < 64) (hp : p < 6) (v : Int) : DeskB (w.setCell ⟨db, 37 + f * 384 + i * 6 + p, none⟩ (.int .i64 v)) db {d with C := fun g j q => if g = f ∧ j = i ∧ q = p then v else d.C g j q} ov qv := by
  obtain ⟨C, h, hc⟩ := h
  have hs := hc.size
  refine ⟨_, setDesk_at h, by simpa using hs, fun j hj => ?_, fun q e hq he => ?_, ?_, fun g j q hg hj hq => ?_, ?_, ?_⟩
  · rw [set_other (by omega)]; exact hc.A j hj
  · rw [set_other (by omega)]; exact hc.G q e hq he
  · rw [set_other (by omega)]; exact hc.O
  · by_cases e : g = f ∧ j = i ∧ q = p
    · obtain ⟨rfl, rfl, rfl⟩ := e
      simp only [and_self, if_true]
      exact set_self (by omega)
    · simp only [e, if_false]
      rw [set_other (by omega)]; exact hc.C g j q hg hj hq
  · rw [set_other (by omega)]; exact hc.Q
  · rw [set_other (by omega)]; exact hc.n
theorem DeskB.setA {i : Nat} (hi : i < 6) (v : Bool) : DeskB (w.setCell ⟨db, i, none⟩ (.bool v)) db {d with A := updL d.A i v} ov qv := by
  obtain ⟨C, h, hc⟩ := h
  have hs := hc.size
  refine ⟨_, setDesk_at h, by simpa using hs, fun j hj => ?_, fun q e hq he => ?_, ?_, fun g j q hg hj hq => ?_, ?_, ?_⟩
  · show _ = some (Value.bool (updL d.A i v j))
    unfold updL
    by_cases e : j = i
    · subst e
      rw [if_pos rfl]; exact set_self (by omega)
    · rw [if_neg e, set_other (by omega)]; exact hc.A j hj
  · rw [set_other (by omega)]; exact hc.G q e hq he
  · rw [set_other (by omega)]; exact hc.O
  · rw [set_other (by omega)]; exact hc.C g j q hg hj hq
  · rw [set_other (by omega)]; exact hc.Q
  · rw [set_other (by omega)]; exact hc.n
theorem DeskB.setG {p e : Nat} (hp : p < 6) (he : e < 5) (v : Int) : DeskB (w.setCell ⟨db, 6 + p * 5 + e, none⟩ (.int .i64 v)) db {d with G := putG d.G p e v} ov qv := by
  obtain ⟨C, h, hc⟩ := h
  have hs := hc.size
  refine ⟨_, setDesk_at h, by simpa using hs, fun j hj => ?_, fun q c hq hcc => ?_, ?_, fun g j q hg hj hq => ?_, ?_, ?_⟩
  · rw [set_other (by omega)]; exact hc.A j hj
  · show _ = some (Value.int .i64 (putG d.G p e v q c))
    unfold putG
    by_cases g : q = p ∧ c = e
    · obtain ⟨rfl, rfl⟩ := g
      rw [if_pos ⟨rfl, rfl⟩]; exact set_self (by omega)
    · rw [if_neg g, set_other (by omega)]; exact hc.G q c hq hcc
  · rw [set_other (by omega)]; exact hc.O
  · rw [set_other (by omega)]; exact hc.C g j q hg hj hq
  · rw [set_other (by omega)]; exact hc.Q
  · rw [set_other (by omega)]; exact hc.n
theorem DeskB.setO (l : List Og) (v : Value) : DeskB (w.setCell ⟨db, 36, none⟩ v) db {d with O := l} v qv := by
  obtain ⟨C, h, hc⟩ := h
  have hs := hc.size
  refine ⟨_, setDesk_at h, by simpa using hs, fun j hj => ?_, fun q c hq hcc => ?_, ?_, fun g j q hg hj hq => ?_, ?_, ?_⟩
  · rw [set_other (by omega)]; exact hc.A j hj
  · rw [set_other (by omega)]; exact hc.G q c hq hcc
  · exact set_self (by omega)
  · rw [set_other (by omega)]; exact hc.C g j q hg hj hq
  · rw [set_other (by omega)]; exact hc.Q
  · rw [set_other (by omega)]; exact hc.n
theorem DeskB.setQ (l : List Ask) (v : Value) : DeskB (w.setCell ⟨db, 1189, none⟩ v) db {d with Q := l} ov v := by
  obtain ⟨C, h, hc⟩ := h
  have hs := hc.size
  refine ⟨_, setDesk_at h, by simpa using hs, fun j hj => ?_, fun q c hq hcc => ?_, ?_, fun g j q hg hj hq => ?_, ?_, ?_⟩
  · rw [set_other (by omega)]; exact hc.A j hj
  · rw [set_other (by omega)]; exact hc.G q c hq hcc
  · rw [set_other (by omega)]; exact hc.O
  · rw [set_other (by omega)]; exact hc.C g j q hg hj hq
  · exact set_self (by omega)
  · rw [set_other (by omega)]; exact hc.n
theorem DeskB.setN (v : Int) : DeskB (w.setCell ⟨db, 1190, none⟩ (.int .i64 v)) db {d with n := v} ov qv := by
  obtain ⟨C, h, hc⟩ := h
  have hs := hc.size
  refine ⟨_, setDesk_at h, by simpa using hs, fun j hj => ?_, fun q c hq hcc => ?_, ?_, fun g j q hg hj hq => ?_, ?_, ?_⟩
  · rw [set_other (by omega)]; exact hc.A j hj
  · rw [set_other (by omega)]; exact hc.G q c hq hcc
  · rw [set_other (by omega)]; exact hc.O
  · rw [set_other (by omega)]; exact hc.C g j q hg hj hq
  · rw [set_other (by omega)]; exact hc.Q
  · exact set_self (by omega)
end
theorem askC_len (x : Ask) : (askC x).length = 7 := rfl
theorem ogC_len (x : Og) : (ogC x).length = 3 := rfl
/-- The cells of one who waits. -/
structure AskAtD (w : World) (g n : Nat) (x : Ask) : Prop where
  p : w.cell? ⟨g, n * 7, none⟩ = some (.int .i64 x.p)
  k : w.cell? ⟨g, n * 7 + 1, none⟩ = some (.int .i64 x.k)
  file : w.cell? ⟨g, n * 7 + 2, none⟩ = some (.int .i64 x.file)
  whole : w.cell? ⟨g, n * 7 + 3, none⟩ = some (.bool x.whole)
  o : w.cell? ⟨g, n * 7 + 4, none⟩ = some (.int .i64 x.o)
  f : w.cell? ⟨g, n * 7 + 5, none⟩ = some (.int .i64 x.f)
  t : w.cell? ⟨g, n * 7 + 6, none⟩ = some (.int .i64 x.t)
theorem askAtD {w : World} {base : Nat} {a : Option Addr} {c n : Nat} {l : List Ask} {x : Ask} (h : w.ownsRow base 218 7 (.slice a l.length c) l.length (flatA l)) (hx : l[n]? = some x) :
    ∃ g, a = some ⟨g, 0, none⟩ ∧ g < w.heap.size ∧ AskAtD w g n x := by
  have hn : n < l.length := (List.getElem?_eq_some_iff.1 hx).1
  obtain ⟨g, rfl, _, hg, _, hc⟩ := own_some h (by omega)
  refine ⟨g, rfl, hg, ?_, ?_, ?_, ?_, ?_, ?_, ?_⟩ <;> (rw [hc _ (by omega)]; unfold flatA)
  · exact flat_get askC 7 askC_len l n 0 x hx (by omega)
  · exact flat_get askC 7 askC_len l n 1 x hx (by omega)
  · exact flat_get askC 7 askC_len l n 2 x hx (by omega)
  · exact flat_get askC 7 askC_len l n 3 x hx (by omega)
  · exact flat_get askC 7 askC_len l n 4 x hx (by omega)
  · exact flat_get askC 7 askC_len l n 5 x hx (by omega)
  · exact flat_get askC 7 askC_len l n 6 x hx (by omega)
theorem ogAt {w : World} {base : Nat} {a : Option Addr} {c n : Nat} {l : List Og} {x : Og} (h : w.ownsRow base 215 3 (.slice a l.length c) l.length (flatO l)) (hx : l[n]? = some x) :
    ∃ g, a = some ⟨g, 0, none⟩ ∧ g < w.heap.size ∧ w.cell? ⟨g, n * 3, none⟩ = some (.int .i64 x.f) ∧ w.cell? ⟨g, n * 3 + 1, none⟩ = some (.int .i64 x.k) ∧ w.cell? ⟨g, n * 3 + 2, none⟩ = some (.int .i64 x.t) := by
  have hn : n < l.length := (List.getElem?_eq_some_iff.1 hx).1
  obtain ⟨g, rfl, _, hg, _, hc⟩ := own_some h (by omega)
  refine ⟨g, rfl, hg, ?_, ?_, ?_⟩ <;> (rw [hc _ (by omega)]; unfold flatO)
  · exact flat_get ogC 3 ogC_len l n 0 x hx (by omega)
  · exact flat_get ogC 3 ogC_len l n 1 x hx (by omega)
  · exact flat_get ogC 3 ogC_len l n 2 x hx (by omega)
/-- Other memory is nothing to it. -/
theorem DV.frame {w w' : World} {db : Nat} {P : Nat → Prop} {d : DK} {ov qv : Value} (h : DV w db P d ov qv) (hb : ∀ b, P b → w'.heap[b]? = w.heap[b]?) : DV w' db P d ov qv :=
  ⟨h.k.of_block (hb _ h.pk), own_blk h.o fun b e => hb b (h.po b e), own_blk h.q fun b e => hb b (h.pq b e), h.pk, h.po, h.pq⟩
theorem DV.below {w w' : World} {db : Nat} {P : Nat → Prop} {d : DK} {ov qv : Value} (h : DV w db P d ov qv) (hb : Below w.heap.size w w') : DV w' db P d ov qv :=
  ⟨h.k.of_block (hb.block _ h.k.lt), own_below h.o hb, own_below h.q hb, h.pk, h.po, h.pq⟩
end Go.Proofs.YtaicdjhblbobbaaGreat
