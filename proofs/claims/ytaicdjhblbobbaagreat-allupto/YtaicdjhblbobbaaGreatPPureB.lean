/- The program's way to say what the model says: who is in the way, in which order; the list of those that wait. -/
import Derived.Test.YtaicdjhblbobbaaGreatPInvStep
import Derived.Lib.SlicesCompact
namespace Go.Proofs.YtaicdjhblbobbaaGreat

theorem bitesB_symm (p k f t q l g u : Int) : bitesB p k f t q l g u = bitesB q l g u p k f t := by
  unfold bitesB meetsB
  rw [biteB_comm k l, Bool.and_comm (decide (f ≤ u))]
  congr 2
  exact decide_eq_decide.2 ⟨fun h e => h e.symm, fun h e => h e.symm⟩
theorem Rn.bites_symm (a b : Rn) : a.bites b = b.bites a := bitesB_symm _ _ _ _ _ _ _ _

theorem strict_ints : ∀ (l m : List Int), l.Pairwise (· < ·) → m.Pairwise (· < ·) → (∀ x, x ∈ l ↔ x ∈ m) → l = m
  | [], m, _, _, h => by
    cases m with
    | nil => rfl
    | cons y m => exact absurd ((h y).2 List.mem_cons_self) (by simp)
  | x :: l, [], _, _, h => absurd ((h x).1 List.mem_cons_self) (by simp)
  | x :: l, y :: m, hl, hm, h => by
    obtain ⟨h1, h2⟩ := List.pairwise_cons.1 hl
    obtain ⟨h3, h4⟩ := List.pairwise_cons.1 hm
    have hxy : x = y := by
      rcases List.mem_cons.1 ((h x).1 List.mem_cons_self) with e | e
      · exact e
      · rcases List.mem_cons.1 ((h y).2 List.mem_cons_self) with e' | e'
        · exact e'.symm
        · have := h3 x e; have := h1 y e'; omega
    subst hxy
    congr 1
    refine strict_ints l m h2 h4 fun z => ?_
    constructor
    · intro hz
      rcases List.mem_cons.1 ((h z).1 (List.mem_cons_of_mem _ hz)) with e | e
      · have := h1 z hz; omega
      · exact e
    · intro hz
      rcases List.mem_cons.1 ((h z).2 (List.mem_cons_of_mem _ hz)) with e | e
      · have := h3 z hz; omega
      · exact e
theorem compact_pw {zs : List Int} (hs : zs.Pairwise (· ≤ ·)) : (Lib.compact zs).Pairwise (· < ·) := by
  unfold Lib.compact Lib.compactUpTo
  rw [List.pairwise_map]
  refine List.Pairwise.imp_of_mem ?_ (List.Pairwise.filter _ List.pairwise_lt_range)
  intro i j hi hj hlt
  have hi' : i < zs.length := by simpa using (List.mem_filter.1 hi).1
  have hj' : j < zs.length := by simpa using (List.mem_filter.1 hj).1
  have hk := (List.mem_filter.1 hj).2
  have hle : ∀ a b, a ≤ b → (hb : b < zs.length) → zs.toArray[a]! ≤ zs.toArray[b]! := by
    intro a b hab hb
    have ha : a < zs.length := by omega
    have e1 : zs.toArray[a]! = zs[a] := by simp [ha]
    have e2 : zs.toArray[b]! = zs[b] := by simp [hb]
    rw [e1, e2]
    rcases Nat.lt_or_eq_of_le hab with h | rfl
    · exact List.pairwise_iff_getElem.1 hs a b ha hb h
    · exact Int.le_refl _
  unfold Lib.keeps at hk
  simp only [decide_eq_true_eq] at hk
  have h1 := hle i (j - 1) (by omega) (by omega)
  have h2 := hle (j - 1) j (by omega) hj'
  omega
theorem compact_mem {zs : List Int} {x : Int} : x ∈ Lib.compact zs ↔ x ∈ zs := by
  have e1 : ∀ a, (ha : a < zs.length) → zs.toArray[a]! = zs[a] := fun a ha => by simp [ha]
  unfold Lib.compact Lib.compactUpTo
  constructor
  · intro h
    obtain ⟨j, hj, rfl⟩ := List.mem_map.1 h
    have hj' : j < zs.length := by simpa using (List.mem_filter.1 hj).1
    rw [e1 j hj']
    exact List.getElem_mem hj'
  · intro h
    obtain ⟨j, hj, rfl⟩ := List.mem_iff_getElem.1 h
    rw [← e1 j hj]
    clear h
    induction j with
    | zero => exact List.mem_map.2 ⟨0, List.mem_filter.2 ⟨by simpa using hj, by simp [Lib.keeps]⟩, rfl⟩
    | succ j ih =>
      by_cases he : zs.toArray[j + 1]! = zs.toArray[j]!
      · rw [he]; exact ih (by omega)
      · exact List.mem_map.2 ⟨j + 1, List.mem_filter.2 ⟨by simpa using hj, by simp [Lib.keeps]; simpa using he⟩, rfl⟩
theorem ps6_pw : ps6.Pairwise (· < ·) := by decide
/-- Sorted, each once. -/
def onceI (zs : List Int) : List Int := Lib.compact (zs.mergeSort fun x y => decide (x ≤ y))
theorem onceI_pw (zs : List Int) : (onceI zs).Pairwise (· < ·) := by
  refine compact_pw ?_
  have := List.pairwise_mergeSort (le := fun x y : Int => decide (x ≤ y)) (fun a b c h1 h2 => by simp at *; omega) (fun a b => by simp; omega) zs
  exact this.imp (by simp)
theorem onceI_mem {zs : List Int} {x : Int} : x ∈ onceI zs ↔ x ∈ zs := by unfold onceI; rw [compact_mem, List.mem_mergeSort]
theorem onceI_ps6 {zs : List Int} (h : ∀ x, x ∈ zs → x ∈ ps6) : onceI zs = ps6.filter fun q => decide (q ∈ zs) := by
  refine strict_ints _ _ (onceI_pw zs) (ps6_pw.filter _) fun x => ?_
  rw [onceI_mem, List.mem_filter]
  simp only [decide_eq_true_eq]
  exact ⟨fun hx => ⟨h x hx, hx⟩, fun hx => hx.2⟩
/-- Those who bite, as the program finds them. -/
def bitersP (l : List Rn) (r : Rn) : List Int := (l.filter fun x => x.bites r).map (·.p)
theorem holders_eq {l : List Rn} {r : Rn} (h : ∀ x, x ∈ l → x.p ∈ ps6) : onceI (bitersP l r) = holders l r := by
  rw [onceI_ps6 (fun x hx => by obtain ⟨y, hy, rfl⟩ := List.mem_map.1 hx; exact h y (List.mem_filter.1 hy).1)]
  unfold holders
  refine List.filter_congr fun q _ => ?_
  rw [Bool.eq_iff_iff, decide_eq_true_eq]
  simp only [decide_eq_true_eq, List.any_eq_true, Bool.and_eq_true, bitersP, List.mem_map, List.mem_filter]
  constructor
  · rintro ⟨x, ⟨h1, h2⟩, h3⟩; exact ⟨x, h1, h3, by rw [Rn.bites_symm]; exact h2⟩
  · rintro ⟨x, h1, h2, h3⟩; exact ⟨x, ⟨h1, by rw [Rn.bites_symm]; exact h3⟩, h2⟩

/-- The two halves of what is asked for: the one that it is not about is empty. -/
def Ask.rn (a : Ask) : Rn := if a.whole then ⟨0, 0, 0, 0⟩ else a.run
def Ask.ow (a : Ask) : Option Nat := if a.whole then some a.o else none
def Ask.wk (a : Ask) : Int := if a.whole then a.k else 0
def bitesW (o : Option Nat) (k : Int) (o' : Option Nat) (k' : Int) : Bool := decide (o ≠ o') && biteB k k'
def bitesQ (b a : Ask) : Bool := decide (b.file = a.file) && (b.rn.bites a.rn || bitesW b.ow b.wk a.ow a.wk)
theorem bitesQ_eq {a b : Ask} (h : b.p ≠ a.p) : bitesQ b a = a.bites b := by
  unfold bitesQ Ask.bites bitesW Ask.rn Ask.ow Ask.wk Rn.bites bitesB Ask.run
  cases ha : a.whole <;> cases hb : b.whole <;> simp [biteB_zero, biteB_zero', h]
  · rw [biteB_comm b.k a.k]
    unfold meetsB
    rw [Bool.eq_iff_iff]; simp; constructor
    · rintro ⟨h1, ⟨h2, h3⟩, h4⟩; exact ⟨⟨h1.symm, h4⟩, h3, h2⟩
    · rintro ⟨⟨h1, h2⟩, h3, h4⟩; exact ⟨h1.symm, ⟨h4, h3⟩, h2⟩
  · rw [biteB_comm b.k a.k, Bool.eq_iff_iff]; simp; constructor
    · rintro ⟨h1, h2, h3⟩; exact ⟨⟨h1.symm, h3⟩, fun e => h2 e.symm⟩
    · rintro ⟨⟨h1, h2⟩, h3⟩; exact ⟨h1.symm, fun e => h3 e.symm, h2⟩
/-- What is in the way, in the program's order. -/
def DS.wayP (s : DS) (a : Ask) (ahead : List Ask) : List (List Int) :=
  ((holders (s.R a.file) a.rn).map fun p => [p]) ++ (((s.W a.file).filter fun w => bitesW (some w.o) w.k a.ow a.wk).map fun w => s.users w.o) ++ ((ahead.filter fun b => bitesQ b a).map fun b => [b.p])
theorem DS.mem_wayP {s : DS} {a : Ask} {l : List Ask} (h : ∀ b, b ∈ l → b.p ≠ a.p) {c : List Int} : c ∈ s.wayP a l ↔ c ∈ s.way a l := by
  have hq : (l.filter fun b => bitesQ b a) = l.filter a.bites := List.filter_congr fun b hb => bitesQ_eq (h b hb)
  unfold DS.wayP DS.way
  rw [hq]
  simp only [List.mem_append]
  have key : (c ∈ ((holders (s.R a.file) a.rn).map fun p => [p]) ∨ c ∈ ((s.W a.file).filter fun w => bitesW (some w.o) w.k a.ow a.wk).map fun w => s.users w.o) ↔
      c ∈ (if a.whole then ((s.W a.file).filter fun w => decide (w.o ≠ a.o) && biteB a.k w.k).map fun w => s.users w.o else (holders (s.R a.file) a.run).map fun q => [q]) := by
    cases ha : a.whole
    · have e1 : a.rn = a.run := by unfold Ask.rn; rw [ha]; rfl
      have e2 : ((s.W a.file).filter fun w => bitesW (some w.o) w.k a.ow a.wk) = [] := List.filter_eq_nil_iff.2 fun w _ => by simp [bitesW, Ask.wk, ha, biteB_zero']
      simp [e1, e2]
    · have e1 : holders (s.R a.file) a.rn = [] := by
        refine holders_of_clear fun x _ => ?_
        rw [Rn.not_bites]
        rintro ⟨_, _, _, h4⟩
        simp [Ask.rn, ha, biteB_zero] at h4
      have e2 : ((s.W a.file).filter fun w => bitesW (some w.o) w.k a.ow a.wk) = (s.W a.file).filter fun w => decide (w.o ≠ a.o) && biteB a.k w.k := List.filter_congr fun w _ => by
        simp [bitesW, Ask.ow, Ask.wk, ha, biteB_comm w.k a.k]
      rw [e1, e2]; simp
  rw [key, or_comm]
theorem DS.wayP_nil {s : DS} {a : Ask} {l : List Ask} (h : ∀ b, b ∈ l → b.p ≠ a.p) : s.wayP a l = [] ↔ s.way a l = [] := by
  simp only [List.eq_nil_iff_forall_not_mem, DS.mem_wayP h]
/-- All that wait, with what is in their way. -/
def DS.wts (s : DS) : List Wt := s.Q.zipIdx.map fun x => (x.1.p, s.wayP x.1 (s.Q.take x.2))
theorem DS.Ones.ahead {s : DS} (h : s.Ones) {i : Nat} {a : Ask} (ha : s.Q[i]? = some a) : ∀ b, b ∈ s.Q.take i → b.p ≠ a.p := fun b hb e => by
  obtain ⟨j, hj⟩ := List.mem_iff_getElem?.1 hb
  rw [List.getElem?_take] at hj
  split at hj
  · rename_i hlt
    have := h.same hj ha e
    omega
  · cases hj
theorem DS.wts_is {s : DS} (h : s.Ones) : Wts s s.wts := by
  refine ⟨by simp [DS.wts], fun i a x ha hx => ?_⟩
  unfold DS.wts at hx
  rw [List.getElem?_map, List.getElem?_zipIdx, ha] at hx
  simp at hx
  subst hx
  exact ⟨rfl, fun c => DS.mem_wayP (h.ahead ha)⟩

theorem DS.take_leave (s : DS) (i : Nat) (a : Ask) : (s.leave i).take a = ((s.take a).1.leave i, (s.take a).2) := by
  unfold DS.take DS.leave
  dsimp only
  split
  · rfl
  · split <;> rfl
theorem filter_erase : ∀ (l : List Ask) (i : Nat) (a : Ask), (l.map (·.p)).Nodup → l[i]? = some a → (l.filter fun b => decide (b.p ≠ a.p)) = l.eraseIdx i
  | [], i, a, _, h => by simp at h
  | b :: l, 0, a, hn, h => by
    simp at h
    subst h
    rw [List.map_cons, List.nodup_cons] at hn
    rw [List.filter_cons, if_neg (by simp)]
    simp only [List.eraseIdx_zero, List.tail_cons]
    refine List.filter_eq_self.2 fun x hx => ?_
    simp only [decide_eq_true_eq]
    exact fun e => hn.1 (List.mem_map.2 ⟨x, hx, e⟩)
  | b :: l, i + 1, a, hn, h => by
    rw [List.map_cons, List.nodup_cons] at hn
    have h' : l[i]? = some a := by simpa using h
    rw [List.filter_cons, if_pos (by simp; exact fun e => hn.1 (List.mem_map.2 ⟨a, List.mem_of_getElem? h', e.symm⟩)), List.eraseIdx_cons_succ, filter_erase l i a hn.2 h']
theorem DS.Ones.leave {s : DS} (h : s.Ones) {i : Nat} {a : Ask} (ha : s.Q[i]? = some a) : {s with Q := s.Q.filter fun b => decide (b.p ≠ a.p)} = s.leave i := by
  unfold DS.leave; rw [filter_erase s.Q i a h ha]
end Go.Proofs.YtaicdjhblbobbaaGreat

/- The model's calls as the program makes them: first what changes, then who waits no more. -/
namespace Go.Proofs.YtaicdjhblbobbaaGreat

theorem DS.Bas.ones {s : DS} (h : s.Bas) : s.Ones := by
  unfold DS.Ones
  rw [List.nodup_iff_pairwise_ne, List.pairwise_map]
  exact h.qn
/-- Whose waiting ends next, and how. -/
def DS.wake? (s : DS) : Option (Int × DS × Int) := match s.free? with
  | some i => let a := s.Q[i]?.getD default; some (a.p, s.take a)
  | none => match s.last? with
    | some i => some ((s.Q[i]?.getD default).p, s, 10)
    | none => none
theorem DS.settle_wake {s : DS} (h : s.Bas) : match s.wake? with
    | none => s.settle = (s, [])
    | some (p, t, e) => t.Bas ∧ t.Q = s.Q ∧ (∃ a, a ∈ s.Q ∧ a.p = p) ∧ DS.Bas {t with Q := t.Q.filter fun b => decide (b.p ≠ p)} ∧ (t.Q.filter fun b => decide (b.p ≠ p)).length < s.Q.length ∧
      s.settle = ((DS.settle {t with Q := t.Q.filter fun b => decide (b.p ≠ p)}).1, ⟨p, e⟩ :: (DS.settle {t with Q := t.Q.filter fun b => decide (b.p ≠ p)}).2) := by
  unfold DS.wake?
  cases hf : s.free? with
  | some i =>
    obtain ⟨a, ha, hw, _⟩ := DS.free?_some hf
    simp only [ha, Option.getD_some]
    have hm := List.mem_of_getElem? ha
    have hc : s.Clear a := DS.Clear.of_way h hw
    have hb : (s.take a).1.Bas := h.take (h.q a hm).1 hc
    have hq : (s.take a).1.Q = s.Q := DS.take_Q s a
    have he : {(s.take a).1 with Q := (s.take a).1.Q.filter fun b => decide (b.p ≠ a.p)} = (s.take a).1.leave i := hb.ones.leave (by rw [hq]; exact ha)
    refine ⟨hb, hq, ⟨a, hm, rfl⟩, ?_, ?_, ?_⟩
    · rw [he]; exact hb.leave i
    · have := congrArg (fun t : DS => t.Q.length) he
      simp only at this
      rw [this]
      have := DS.leave_len (s := (s.take a).1) (i := i) (by rw [hq]; exact ha)
      rw [hq] at this
      omega
    · rw [he]
      have hl := DS.leave_len (s := (s.take a).1) (i := i) (by rw [hq]; exact ha)
      rw [hq] at hl
      unfold DS.settle
      rw [← hl]
      conv => lhs; unfold DS.settleN
      simp only [hf, ha, Option.getD_some, DS.take_leave]
  | none =>
    cases hl : s.last? with
    | none =>
      simp only
      unfold DS.settle
      cases s.Q.length with
      | zero => rfl
      | succ n => unfold DS.settleN; simp only [hf, hl]
    | some i =>
      obtain ⟨a, ha, _, _⟩ := DS.last?_some hl
      simp only [ha, Option.getD_some]
      have he : {s with Q := s.Q.filter fun b => decide (b.p ≠ a.p)} = s.leave i := h.ones.leave ha
      have hlen := DS.leave_len (s := s) ha
      refine ⟨h, trivial, ⟨a, List.mem_of_getElem? ha, rfl⟩, ?_, ?_, ?_⟩
      · rw [he]; exact h.leave i
      · have := congrArg (fun t : DS => t.Q.length) he
        simp only at this
        rw [this]
        omega
      · rw [he]
        unfold DS.settle
        rw [← hlen]
        conv => lhs; unfold DS.settleN
        simp only [hf, hl, ha, Option.getD_some]
theorem DS.Inv.settle_nil {s : DS} (h : s.Inv) : s.settle = (s, []) := by
  have hf : s.free? = none := by
    cases hf : s.free? with
    | none => rfl
    | some i =>
      obtain ⟨a, ha, hw, _⟩ := DS.free?_some hf
      exact absurd hw (h.free i a ha)
  have hl : s.last? = none := by
    cases hl : s.last? with
    | none => rfl
    | some i =>
      obtain ⟨a, ha, hm, _⟩ := DS.last?_some hl
      rw [h.stk] at hm
      cases hm
  unfold DS.settle
  cases s.Q.length with
  | zero => rfl
  | succ n => unfold DS.settleN; simp only [hf, hl]

/-- What answer makes of a call's end: behind OK it settles. -/
def DS.done (s : DS) (n e : Int) : DS × Rp := if e = 0 then (s.settle.1, ⟨0, n, s.settle.2⟩) else (s, ⟨e, n, []⟩)
theorem DS.Inv.done_num {s : DS} (h : s.Inv) (n : Int) : s.done n 0 = (s, rnum n) := by
  unfold DS.done
  rw [if_pos rfl, h.settle_nil]
  rfl
theorem DS.done_err (s : DS) {e : Int} (h : e ≠ 0) : s.done 0 e = (s, rerr e) := by unfold DS.done; rw [if_neg h]; rfl
theorem DS.way_zero {s : DS} {a : Ask} {l : List Ask} (h : a.k = 0) : s.way a l = [] := by
  refine List.eq_nil_iff_forall_not_mem.2 fun c hc => ?_
  rw [DS.mem_way] at hc
  rcases hc with ⟨b, h1, h2, rfl⟩ | ⟨h0, w, h1, h2, h3, rfl⟩ | ⟨h0, q', h1, rfl⟩
  · simp [Ask.bites, h, biteB_zero] at h2
  · rw [h, biteB_zero] at h3; cases h3
  · obtain ⟨_, x, hx, _, hb⟩ := mem_holders.1 h1
    rw [Rn.bites_iff] at hb
    simp [Ask.run, h, biteB_zero] at hb
/-- A lock that is asked for, up to the settling. -/
def DS.ask0 (s : DS) (a : Ask) (wait : Bool) : DS × Int :=
  if s.way a s.Q = [] then s.take a
  else if wait = false then (s, 8)
  else if a.p ∈ (DS.stuck {s with Q := s.Q ++ [a]}) then (s, 10)
  else ({s with Q := s.Q ++ [a]}, 11)
theorem DS.take_err {s : DS} {a : Ask} (h : (s.take a).2 ≠ 0) : (s.take a).1 = s := by
  unfold DS.take at h ⊢
  split at h
  · exact absurd rfl h
  · rename_i hw
    rw [if_neg hw]
    split at h
    · rename_i hl; rw [if_pos hl]
    · exact absurd rfl h
theorem DS.ask_eq (s : DS) (a : Ask) (wait : Bool) : s.ask a wait = (s.ask0 a wait).1.done 0 (s.ask0 a wait).2 := by
  unfold DS.ask DS.ask0
  by_cases hw : s.way a s.Q = []
  · rw [if_pos (Or.inr hw), if_pos hw]
    by_cases he : (s.take a).2 = 0
    · rw [if_neg (by simpa using he), he]; rfl
    · rw [if_pos he, DS.done_err _ he, DS.take_err he]
  · rw [if_neg (by rintro (h | h); exact hw (DS.way_zero h); exact hw h), if_neg hw]
    split
    · rw [DS.done_err _ (by simp)]
    · split
      · rw [DS.done_err _ (by simp)]
      · rw [DS.done_err _ (by simp)]
theorem DS.Bas.ask0 {s : DS} (h : s.Inv) {a : Ask} (ha : s.AskOk a) (hw : s.waits a.p = false) (wait : Bool) : (s.ask0 a wait).1.Bas := by
  have hi := h.ask ha hw wait
  unfold DS.ask0
  by_cases hway : s.way a s.Q = []
  · rw [if_pos hway]
    exact h.toBas.take ha (DS.Clear.of_way h.toBas hway)
  · have hk : a.k ≠ 0 := fun e => hway (DS.way_zero e)
    rw [if_neg hway]
    split
    · exact h.toBas
    · split
      · exact h.toBas
      · rename_i h1 h2
        exact (h.pend ha hk hw hway h2).toBas
end Go.Proofs.YtaicdjhblbobbaaGreat

/- The document's answer (package holdsref) as plain mathematics: its tables, what they tell, and that they tell what the model tells. -/
namespace Go.Proofs.YtaicdjhblbobbaaGreat

/-- An opening: its file; the kind of its lock; when it was got. -/
structure Og where
  f : Int
  k : Int
  t : Int
  deriving DecidableEq, Inhabited
/-- Which processes live; the number of the opening of each descriptor, and one more; the openings; what each process has on each position (file, position, process); who waits; how many locks of whole files were got. -/
structure DK where
  A : Nat → Bool
  G : Nat → Nat → Int
  O : List Og
  C : Nat → Nat → Nat → Int
  Q : List Ask
  n : Int
def fdI : Option Nat → Int
  | none => 0
  | some o => (o : Int) + 1
theorem fdI_zero {x : Option Nat} : fdI x = 0 ↔ x = none := by
  cases x with
  | none => simp [fdI]
  | some o => simp only [fdI, reduceCtorEq, iff_false]; omega
theorem fdI_some {x : Option Nat} {o : Nat} : fdI x = (o : Int) + 1 ↔ x = some o := by
  cases x with
  | none => simp only [fdI, reduceCtorEq, iff_false]; omega
  | some a => simp only [fdI, Option.some.injEq]; omega
/-- The kind of the lock that an opening has in a list. -/
def kindW (l : List Wl) (o : Nat) : Int := ((l.find? fun w => decide (w.o = o)).map (·.k)).getD 0

/-- The tables tell what the model's state tells. -/
structure Sim (s : DS) (d : DK) : Prop where
  A : ∀ i, i < 6 → d.A i = s.L i
  G : ∀ p e : Nat, p < 6 → e < 5 → d.G p e = fdI (s.F p e)
  N : d.O.length = s.N
  F : ∀ (o : Nat) x, d.O[o]? = some x → x.f = s.O o
  C : ∀ f i p : Nat, f < 3 → i < 64 → p < 6 → d.C f i p = cellR (s.R f) p i
  Q : d.Q = s.Q
  K : ∀ (o : Nat) x, d.O[o]? = some x → s.inUse o = true → x.k = kindW (s.W (s.O o)) o
  n : 0 ≤ d.n
  T : ∀ (o : Nat) x, d.O[o]? = some x → 0 ≤ x.t ∧ x.t ≤ d.n ∧ (x.k ≠ 0 → 0 < x.t)
  D : ∀ (o o' : Nat) x x', d.O[o]? = some x → d.O[o']? = some x' → x.t = x'.t → x.t ≠ 0 → o = o'
  W : ∀ f, (s.W f).Pairwise fun x y => ∀ a b, d.O[x.o]? = some a → d.O[y.o]? = some b → a.t < b.t

/-- Has p a descriptor of o? -/
def DK.has (d : DK) (p o : Nat) : Bool := (List.range 5).any fun i => d.A p && decide (d.G p i = (o : Int) + 1)
def DK.sharers (d : DK) (o : Nat) : List Int := ps6.filter fun p => d.has p.toNat o
def DK.kind (d : DK) (o : Nat) : Int := (d.O[o]?.getD default).k
def DK.file (d : DK) (o : Nat) : Int := (d.O[o]?.getD default).f
def DK.at (d : DK) (o : Nat) : Int := (d.O[o]?.getD default).t
def DK.held (d : DK) (o : Nat) : Bool := !(d.sharers o).isEmpty && decide (d.kind o ≠ 0)
/-- Has q a lock on a position that bites a? -/
def DK.hold (d : DK) (a : Ask) (q : Int) : Bool := (List.range 64).any fun i => decide (a.f ≤ (i : Int)) && decide ((i : Int) ≤ a.t) && biteB a.k (d.C a.file i q.toNat) && decide (q ≠ a.p)
def DK.way (d : DK) (a : Ask) (ahead : List Ask) : List (List Int) :=
  ((ahead.filter a.bites).map fun b => [b.p]) ++
  (if a.whole then ((List.range d.O.length).filter fun o => decide (o ≠ a.o) && decide (d.file o = (a.file : Int)) && d.held o && biteB a.k (d.kind o)).map fun o => d.sharers o
   else (ps6.filter (d.hold a)).map fun q => [q])

theorem DS.F_live {s : DS} (h : s.Bas) {p e : Int} {o : Nat} (hf : s.F p e = some o) : 0 ≤ p ∧ p < 6 ∧ s.L p.toNat = true := by
  have := (h.f p e o hf).1
  unfold liveB at this
  simp only [Bool.and_eq_true, decide_eq_true_eq] at this
  exact ⟨this.1.1, this.1.2, this.2⟩
theorem Sim.has {s : DS} {d : DK} (h : Sim s d) (hs : s.Bas) {p : Int} (hp : p ∈ ps6) (o : Nat) : d.has p.toNat o = s.has o p := by
  rw [mem_ps6] at hp
  rw [Bool.eq_iff_iff, DS.has_iff]
  unfold DK.has
  simp only [List.any_eq_true, List.mem_range, Bool.and_eq_true, decide_eq_true_eq]
  constructor
  · rintro ⟨i, hi, _, hg⟩
    rw [h.G p.toNat i (by omega) hi, fdI_some] at hg
    refine ⟨(i : Int), mem_ds5.2 (by omega), ?_⟩
    rwa [show ((p.toNat : Nat) : Int) = p by omega] at hg
  · rintro ⟨e, he, hf⟩
    rw [mem_ds5] at he
    refine ⟨e.toNat, by omega, ?_, ?_⟩
    · rw [h.A p.toNat (by omega)]; exact (DS.F_live hs hf).2.2
    · rw [h.G p.toNat e.toNat (by omega) (by omega), fdI_some, show ((p.toNat : Nat) : Int) = p by omega, show ((e.toNat : Nat) : Int) = e by omega]
      exact hf
theorem Sim.sharers {s : DS} {d : DK} (h : Sim s d) (hs : s.Bas) (o : Nat) : d.sharers o = s.users o := by
  unfold DK.sharers DS.users
  exact List.filter_congr fun p hp => h.has hs hp o
theorem DS.users_nil {s : DS} {o : Nat} : s.users o = [] ↔ s.inUse o = false := by
  unfold DS.users DS.inUse
  rw [List.filter_eq_nil_iff]
  rw [← Bool.not_eq_true]
  simp only [List.any_eq_true, not_exists, not_and]
theorem kindW_mem {l : List Wl} (hn : l.Pairwise fun x y => x.o ≠ y.o) {x : Wl} (hx : x ∈ l) : kindW l x.o = x.k := by
  unfold kindW
  induction l with
  | nil => cases hx
  | cons y l ih =>
    obtain ⟨h1, h2⟩ := List.pairwise_cons.1 hn
    rw [List.find?_cons]
    rcases List.mem_cons.1 hx with rfl | hx
    · simp
    · have := h1 x hx
      rw [show decide (y.o = x.o) = false by simpa using this]
      exact ih h2 hx
theorem kindW_some {l : List Wl} {o : Nat} (h : kindW l o ≠ 0) : ∃ x, x ∈ l ∧ x.o = o ∧ x.k = kindW l o := by
  unfold kindW at *
  cases e : l.find? fun w => decide (w.o = o) with
  | none => rw [e] at h; simp at h
  | some x => exact ⟨x, List.mem_of_find?_eq_some e, by simpa using List.find?_some e, rfl⟩
theorem kindW_none {l : List Wl} {o : Nat} (h : ∀ x, x ∈ l → x.o ≠ o) : kindW l o = 0 := by
  unfold kindW
  rw [List.find?_eq_none.2 (fun x hx => by simpa using h x hx)]; rfl
theorem DS.Bas.ws {s : DS} (h : s.Bas) (f : Nat) : (s.W f).Pairwise fun x y => x.o ≠ y.o := (h.wn f).imp fun h => h.1
theorem DS.inUse_lt {s : DS} (h : s.Bas) {o : Nat} (hu : s.inUse o = true) : o < s.N := by
  obtain ⟨p, _, hh⟩ := DS.inUse_iff.1 hu
  obtain ⟨e, _, hf⟩ := DS.has_iff.1 hh
  exact (h.f _ _ _ hf).2.2.2
theorem Sim.get {s : DS} {d : DK} (h : Sim s d) {o : Nat} (ho : o < s.N) : ∃ x, d.O[o]? = some x := by
  rw [← h.N] at ho
  exact ⟨d.O[o], List.getElem?_eq_getElem ho⟩
/-- What is held there is held here. -/
theorem Sim.held {s : DS} {d : DK} (h : Sim s d) (hs : s.Bas) {o : Nat} : d.held o = true ↔ ∃ w, w ∈ s.W (s.O o) ∧ w.o = o := by
  unfold DK.held
  rw [h.sharers hs]
  simp only [Bool.and_eq_true, Bool.not_eq_true', List.isEmpty_eq_false_iff, ne_eq, DS.users_nil, decide_eq_true_eq, Bool.not_eq_false]
  constructor
  · rintro ⟨hu, hk⟩
    obtain ⟨x, hx⟩ := h.get (DS.inUse_lt hs hu)
    unfold DK.kind at hk
    rw [hx] at hk
    have := h.K o x hx hu
    obtain ⟨w, hw, ho, _⟩ := kindW_some (l := s.W (s.O o)) (o := o) (by rw [← this]; exact hk)
    exact ⟨w, hw, ho⟩
  · rintro ⟨w, hw, rfl⟩
    obtain ⟨hu, hk, _⟩ := hs.w _ _ hw
    obtain ⟨x, hx⟩ := h.get (DS.inUse_lt hs hu)
    refine ⟨hu, ?_⟩
    unfold DK.kind
    rw [hx]
    have := h.K w.o x hx hu
    rw [kindW_mem (hs.ws _) hw] at this
    show ¬ x.k = 0
    omega
theorem Sim.kind {s : DS} {d : DK} (h : Sim s d) (hs : s.Bas) {f : Nat} {w : Wl} (hw : w ∈ s.W f) : d.kind w.o = w.k := by
  obtain ⟨hu, hk, hf⟩ := hs.w _ _ hw
  obtain ⟨x, hx⟩ := h.get (DS.inUse_lt hs hu)
  unfold DK.kind
  rw [hx]
  have := h.K w.o x hx hu
  rw [hf, kindW_mem (hs.ws _) hw] at this
  exact this
theorem Sim.file {s : DS} {d : DK} (h : Sim s d) {o : Nat} (ho : o < s.N) : d.file o = (s.O o : Int) := by
  obtain ⟨x, hx⟩ := h.get ho
  unfold DK.file
  rw [hx]
  exact h.F o x hx
theorem Sim.hold {s : DS} {d : DK} (h : Sim s d) (hs : s.Bas) {a : Ask} (hf : a.file < 3) (hr : 0 ≤ a.f ∧ a.f ≤ a.t ∧ a.t ≤ 63) {q : Int} (hq : q ∈ ps6) : d.hold a q = true ↔ q ∈ holders (s.R a.file) a.run := by
  have hq' := mem_ps6.1 hq
  rw [mem_holders]
  unfold DK.hold
  simp only [List.any_eq_true, List.mem_range, Bool.and_eq_true, decide_eq_true_eq]
  constructor
  · rintro ⟨i, hi, ⟨⟨h1, h2⟩, h3⟩, h4⟩
    rw [h.C a.file i q.toNat hf hi (by omega), show ((q.toNat : Nat) : Int) = q by omega] at h3
    have h0 : cellR (s.R a.file) q i ≠ 0 := fun e => by rw [e, biteB_zero'] at h3; cases h3
    obtain ⟨x, hx, hp, x1, x2, hk⟩ := cellR_some h0
    refine ⟨hq, x, hx, hp, Rn.bites_iff.2 ⟨?_, ?_, ?_, ?_⟩⟩
    · show a.p ≠ x.p
      rw [hp]; exact fun e => h4 e.symm
    · show a.f ≤ x.t
      omega
    · show x.f ≤ a.t
      omega
    · show biteB a.k x.k = true
      rw [hk]; exact h3
  · rintro ⟨_, x, hx, hp, hb⟩
    obtain ⟨b1, b2, b3, b4⟩ := Rn.bites_iff.1 hb
    have b1 : a.p ≠ x.p := b1
    have b2 : a.f ≤ x.t := b2
    have b3 : x.f ≤ a.t := b3
    have b4 : biteB a.k x.k = true := b4
    have fx := (hs.wf a.file).ok x hx
    unfold Rn.fine at fx
    refine ⟨(max a.f x.f).toNat, by omega, ⟨⟨by omega, by omega⟩, ?_⟩, fun e => b1 (by rw [hp, e])⟩
    rw [h.C a.file _ q.toNat hf (by omega) (by omega), show ((q.toNat : Nat) : Int) = q by omega, ← hp, cellR_mem (hs.wf a.file).ap hx (by omega) (by omega)]
    exact b4
/-- What is in the way is the same, but for the order. -/
theorem Sim.way {s : DS} {d : DK} (h : Sim s d) (hs : s.Bas) {a : Ask} (ha : s.AskOk a) (l : List Ask) (c : List Int) : c ∈ d.way a l ↔ c ∈ s.way a l := by
  unfold DK.way DS.way
  rw [List.mem_append, List.mem_append]
  refine or_congr Iff.rfl ?_
  cases hw : a.whole with
  | false =>
    simp only [Bool.false_eq_true, if_false, List.mem_map, List.mem_filter]
    constructor
    · rintro ⟨q, ⟨hq, hh⟩, rfl⟩
      exact ⟨q, (h.hold hs ha.file (ha.rg hw) hq).1 hh, rfl⟩
    · rintro ⟨q, hq, rfl⟩
      have h6 := (mem_holders.1 hq).1
      exact ⟨q, ⟨h6, (h.hold hs ha.file (ha.rg hw) h6).2 hq⟩, rfl⟩
  | true =>
    simp only [if_true, List.mem_map, List.mem_filter, List.mem_range, Bool.and_eq_true, decide_eq_true_eq]
    constructor
    · rintro ⟨o, ⟨ho, ⟨⟨h1, h2⟩, h3⟩, h4⟩, rfl⟩
      obtain ⟨w, hw, rfl⟩ := (h.held hs).1 h3
      rw [h.N] at ho
      have e : s.O w.o = a.file := by have := h.file ho; omega
      rw [e] at hw
      rw [h.kind hs hw] at h4
      exact ⟨w, ⟨hw, h1, h4⟩, (h.sharers hs w.o).symm⟩
    · rintro ⟨w, ⟨hw, h1, h4⟩, rfl⟩
      obtain ⟨hu, _, hf⟩ := hs.w _ _ hw
      have ho := DS.inUse_lt hs hu
      refine ⟨w.o, ⟨by rw [h.N]; exact ho, ⟨⟨h1, ?_⟩, ?_⟩, ?_⟩, h.sharers hs w.o⟩
      · rw [h.file ho, hf]
      · exact (h.held hs).2 ⟨w, by rw [hf]; exact hw, rfl⟩
      · rw [h.kind hs hw]; exact h4
theorem Sim.way_nil {s : DS} {d : DK} (h : Sim s d) (hs : s.Bas) {a : Ask} (ha : s.AskOk a) (l : List Ask) : d.way a l = [] ↔ s.way a l = [] := by
  rw [List.eq_nil_iff_forall_not_mem, List.eq_nil_iff_forall_not_mem]
  exact forall_congr' fun c => not_congr (h.way hs ha l c)

/-- As far as k goes on behind i. -/
def stretch (c : Nat → Int) (k : Int) : Nat → Nat → Nat
  | 0, i => i
  | n + 1, i => if i + 1 < 64 ∧ c (i + 1) = k then stretch c k n (i + 1) else i
theorem stretch_all (c : Nat → Int) (k : Int) : ∀ (n i : Nat), i < 64 → 64 ≤ i + n + 1 → i ≤ stretch c k n i ∧ stretch c k n i < 64 ∧ (∀ j, i < j → j ≤ stretch c k n i → c j = k) ∧ (stretch c k n i + 1 < 64 → c (stretch c k n i + 1) ≠ k)
  | 0, i, h1, h2 => by
    refine ⟨Nat.le_refl _, h1, fun j g1 g2 => ?_, fun g => ?_⟩
    · unfold stretch at g2; omega
    · unfold stretch at g; omega
  | n + 1, i, h1, h2 => by
    unfold stretch
    split
    · rename_i hc
      obtain ⟨a1, a2, a3, a4⟩ := stretch_all c k n (i + 1) hc.1 (by omega)
      refine ⟨by omega, a2, fun j g1 g2 => ?_, a4⟩
      by_cases e : j = i + 1
      · rw [e]; exact hc.2
      · exact a3 j (by omega) g2
    · rename_i hc
      exact ⟨Nat.le_refl _, h1, fun j g1 g2 => by omega, fun g e => hc ⟨g, e⟩⟩
/-- The run that begins at position i for process q, if one does. -/
def DK.runAt (C : Nat → Nat → Int) (i q : Nat) : Option Rn :=
  if C i q = 0 ∨ (0 < i ∧ C (i - 1) q = C i q) then none else some ⟨q, C i q, i, (stretch (fun j => C j q) (C i q) 64 i : Nat)⟩
def DK.runsOf (C : Nat → Nat → Int) : List Rn := (List.range 64).flatMap fun i => (List.range 6).filterMap fun q => DK.runAt C i q
def DK.runs (d : DK) (f : Int) : List Rn := if fileB f then DK.runsOf (d.C f.toNat) else []
theorem DK.runAt_some {C : Nat → Nat → Int} {i q : Nat} {x : Rn} (h : DK.runAt C i q = some x) : x.f = i ∧ x.p = q := by
  unfold DK.runAt at h
  split at h
  · cases h
  · cases h; exact ⟨rfl, rfl⟩
theorem runsOf_strict (C : Nat → Nat → Int) : (DK.runsOf C).Pairwise Rn.lt := by
  unfold DK.runsOf
  rw [List.pairwise_flatMap]
  refine ⟨fun i _ => ?_, ?_⟩
  · rw [List.pairwise_filterMap]
    refine (List.pairwise_lt_range (n := 6)).imp fun {a b} hab x hx y hy => ?_
    obtain ⟨x1, x2⟩ := DK.runAt_some hx
    obtain ⟨y1, y2⟩ := DK.runAt_some hy
    unfold Rn.lt
    omega
  · refine (List.pairwise_lt_range (n := 64)).imp fun {a b} hab x hx y hy => ?_
    obtain ⟨q, _, hx⟩ := List.mem_filterMap.1 hx
    obtain ⟨r, _, hy⟩ := List.mem_filterMap.1 hy
    obtain ⟨x1, x2⟩ := DK.runAt_some hx
    obtain ⟨y1, y2⟩ := DK.runAt_some hy
    unfold Rn.lt
    omega
theorem cellR_out {l : List Rn} (h : WF l) {p i : Int} (hi : i < 0 ∨ 63 < i) : cellR l p i = 0 :=
  cellR_none fun x hx hc => by have := h.ok x hx; unfold Rn.fine at this; omega
/-- The runs that the tables tell are those of a list that tells the same cells. -/
theorem runsOf_eq {C : Nat → Nat → Int} {l : List Rn} (hl : WF l) (hp : ∀ x, x ∈ l → x.p ∈ ps6) (h : ∀ i p : Nat, i < 64 → p < 6 → C i p = cellR l p i) : DK.runsOf C = l := by
  refine strict_eq _ _ (runsOf_strict C) hl.strict fun x => ?_
  unfold DK.runsOf
  simp only [List.mem_flatMap, List.mem_range, List.mem_filterMap]
  constructor
  · rintro ⟨i, hi, q, hq, hx⟩
    unfold DK.runAt at hx
    split at hx
    · cases hx
    · rename_i hn
      obtain ⟨a1, a2, a3, a4⟩ := stretch_all (fun j => C j q) (C i q) 64 i hi (by omega)
      generalize hm : stretch (fun j => C j q) (C i q) 64 i = m at *
      cases hx
      have hk : C i q ≠ 0 := fun e => hn (Or.inl e)
      have hki : C i q = cellR l q i := h i q hi hq
      have hkk : C i q = 1 ∨ C i q = 2 := by
        obtain ⟨y, hy, _, _, _, e⟩ := cellR_some (l := l) (p := q) (i := i) (by rw [← hki]; exact hk)
        have := hl.ok y hy; unfold Rn.fine at this
        rw [hki, ← e]; exact this.2.2.2
      refine hl.of_max ⟨⟨by simp, by simp; omega, by simp; omega, hkk⟩, ?_, ?_, ?_⟩
      · intro j h1 h2
        simp only at h1 h2 ⊢
        by_cases e : j = i
        · rw [e]; exact hki.symm
        · have := a3 j.toNat (by omega) (by omega)
          rw [← this]
          have := h j.toNat q (by omega) hq
          rw [this, show ((j.toNat : Nat) : Int) = j by omega]
      · simp only
        intro e
        by_cases h0 : i = 0
        · subst h0
          rw [cellR_out hl (by omega)] at e
          exact hk e.symm
        · have := h (i - 1) q (by omega) hq
          rw [show (((i - 1 : Nat)) : Int) = (i : Int) - 1 by omega] at this
          exact hn (Or.inr ⟨by omega, by rw [this, e]⟩)
      · simp only
        intro e
        by_cases h0 : m + 1 < 64
        · have := a4 h0
          have g := h (m + 1) q h0 hq
          rw [show (((m + 1 : Nat)) : Int) = (m : Int) + 1 by omega] at g
          exact this (by rw [g, e])
        · rw [cellR_out hl (by omega)] at e
          exact hk e.symm
  · intro hx
    have hm := hl.max hx
    obtain ⟨hf, h1, h2, h3⟩ := hm
    have hp' := mem_ps6.1 (hp x hx)
    unfold Rn.fine at hf
    have ci : ∀ j : Nat, (x.f ≤ (j : Int)) → ((j : Int) ≤ x.t) → C j x.p.toNat = x.k := fun j g1 g2 => by
      rw [h j x.p.toNat (by omega) (by omega), show ((x.p.toNat : Nat) : Int) = x.p by omega]
      exact h1 j g1 g2
    refine ⟨x.f.toNat, by omega, x.p.toNat, by omega, ?_⟩
    have c0 := ci x.f.toNat (by omega) (by omega)
    unfold DK.runAt
    rw [c0, if_neg]
    · obtain ⟨a1, a2, a3, a4⟩ := stretch_all (fun j => C j x.p.toNat) x.k 64 x.f.toNat (by omega) (by omega)
      generalize stretch (fun j => C j x.p.toNat) x.k 64 x.f.toNat = m at *
      have hmt : (m : Int) = x.t := by
        rcases Int.lt_trichotomy (m : Int) x.t with e | e | e
        · have := ci (m + 1) (by omega) (by omega)
          exact absurd this (a4 (by omega))
        · exact e
        · have := a3 (x.t.toNat + 1) (by omega) (by omega)
          rw [h (x.t.toNat + 1) x.p.toNat (by omega) (by omega), show ((x.p.toNat : Nat) : Int) = x.p by omega, show (((x.t.toNat + 1 : Nat)) : Int) = x.t + 1 by omega] at this
          exact absurd this h3
      cases x
      simp_all
      omega
    · rintro (e | ⟨e1, e2⟩)
      · omega
      · rw [h (x.f.toNat - 1) x.p.toNat (by omega) (by omega), show ((x.p.toNat : Nat) : Int) = x.p by omega, show (((x.f.toNat - 1 : Nat)) : Int) = x.f - 1 by omega] at e2
        exact h2 e2
end Go.Proofs.YtaicdjhblbobbaaGreat

/- What the calls make of the tables of the document's answer, and that they tell the model's state still. -/
namespace Go.Proofs.YtaicdjhblbobbaaGreat

theorem Sim.new : Sim DS.new ⟨fun i => i == 0, fun _ _ => 0, [], fun _ _ _ => 0, [], 0⟩ where
  A := fun _ _ => rfl
  G := fun _ _ _ _ => rfl
  N := rfl
  F := fun o x h => by simp at h
  C := fun _ _ _ _ _ _ => rfl
  Q := rfl
  K := fun o x h => by simp at h
  n := Int.le_refl 0
  T := fun o x h => by simp at h
  D := fun o o' x x' h => by simp at h
  W := fun _ => List.Pairwise.nil

/-- Only the queue turns. -/
theorem Sim.queue {s : DS} {d : DK} (h : Sim s d) (q : List Ask) : Sim {s with Q := q} {d with Q := q} :=
  ⟨h.A, h.G, h.N, h.F, h.C, rfl, h.K, h.n, h.T, h.D, h.W⟩

def paintC (C : Nat → Nat → Nat → Int) (a : Ask) : Nat → Nat → Nat → Int := fun f i p => if f = a.file ∧ a.f ≤ (i : Int) ∧ (i : Int) ≤ a.t ∧ (p : Int) = a.p then a.k else C f i p
def DK.put (d : DK) (o : Nat) (k : Int) : DK := {d with n := d.n + 1, O := d.O.set o ⟨d.file o, k, d.n + 1⟩}
/-- One has its lock. -/
def DK.take (d : DK) (a : Ask) : DK × Int :=
  if a.whole then (if d.kind a.o ≠ a.k then d.put a.o a.k else d, 0)
  else if 12 < (DK.runsOf (paintC d.C a a.file)).length then (d, 9) else ({d with C := paintC d.C a}, 0)

theorem kindW_filter {l : List Wl} {g : Wl → Bool} {o : Nat} (h : ∀ x, x ∈ l → x.o = o → g x = true) : kindW (l.filter g) o = kindW l o := by
  unfold kindW
  rw [List.find?_filter]
  congr 2
  induction l with
  | nil => rfl
  | cons y l ih =>
    rw [List.find?_cons, List.find?_cons]
    by_cases e : y.o = o
    · simp [e, h y List.mem_cons_self e]
    · rw [show decide (y.o = o) = false by simpa using e, show decide (g y = true ∧ false = true) = false by simp]
      exact ih fun x hx => h x (List.mem_cons_of_mem _ hx)
theorem kindW_append {l m : List Wl} {o : Nat} (h : ∀ x, x ∈ m → x.o ≠ o) : kindW (l ++ m) o = kindW l o := by
  unfold kindW
  rw [List.find?_append, List.find?_eq_none (l := m) |>.2 (fun x hx => by simpa using h x hx), Option.or_none]
theorem kindW_set {l : List Wl} {o : Nat} {k : Int} (o' : Nat) : kindW ((l.filter fun w => decide (w.o ≠ o)) ++ (if k = 0 then [] else [⟨o, k⟩])) o' = if o' = o then k else kindW l o' := by
  by_cases e : o' = o
  · subst e
    rw [if_pos rfl]
    have h1 : ∀ x, x ∈ l.filter (fun w => decide (w.o ≠ o')) → x.o ≠ o' := fun x hx => by simpa using (List.mem_filter.1 hx).2
    by_cases hk : k = 0
    · subst hk
      rw [if_pos rfl, List.append_nil]
      exact kindW_none h1
    · rw [if_neg hk]
      unfold kindW
      rw [List.find?_append, List.find?_eq_none.2 (fun x hx => by simpa using h1 x hx)]
      simp
  · rw [if_neg e, kindW_append]
    · exact kindW_filter fun x _ hx => by simp [hx, e]
    · intro x hx
      split at hx
      · cases hx
      · rw [List.mem_singleton] at hx
        subst hx
        exact fun e' => e e'.symm
theorem DK.file_set {d : DK} {o : Nat} {x : Og} (h : d.O[o]? = some x) : d.file o = x.f := by unfold DK.file; rw [h]; rfl
theorem DK.kind_set {d : DK} {o : Nat} {x : Og} (h : d.O[o]? = some x) : d.kind o = x.k := by unfold DK.kind; rw [h]; rfl
theorem updR_same {α : Type} (R : Nat → α) (f : Nat) : updR R f (R f) = R := funext fun g => by
  unfold updR
  split
  · rename_i e; rw [e]
  · rfl
/-- An opening gets a lock of another kind, or loses its own. -/
theorem Sim.put {s : DS} {d : DK} (h : Sim s d) (hs : s.Bas) {o : Nat} (hu : s.inUse o = true) {k : Int} (hk : d.kind o ≠ k) :
    Sim {s with W := updR s.W (s.O o) (setW (s.W (s.O o)) o k)} (d.put o k) := by
  have ho := DS.inUse_lt hs hu
  obtain ⟨x, hx⟩ := h.get ho
  have hk0 : x.k ≠ k := by rw [DK.kind_set hx] at hk; exact hk
  have hkx := h.K o x hx hu
  have hn : (⟨o, k⟩ : Wl) ∉ s.W (s.O o) := fun hm => by
    have := kindW_mem (hs.ws _) hm
    simp only at this
    rw [this] at hkx
    exact hk0 hkx
  have hset : setW (s.W (s.O o)) o k = ((s.W (s.O o)).filter fun w => decide (w.o ≠ o)) ++ (if k = 0 then [] else [⟨o, k⟩]) := by
    unfold setW; rw [if_neg hn]
  have hlt : o < d.O.length := by rw [h.N]; exact ho
  have get : ∀ (o' : Nat) (y : Og), (d.put o k).O[o']? = some y → (o' = o ∧ y = ⟨x.f, k, d.n + 1⟩) ∨ (o' ≠ o ∧ d.O[o']? = some y) := fun o' y hy => by
    have hy : (d.O.set o ⟨d.file o, k, d.n + 1⟩)[o']? = some y := hy
    rw [List.getElem?_set] at hy
    split at hy
    · rename_i e
      first | (rw [if_pos hlt] at hy; cases hy) | cases hy
      exact Or.inl ⟨e.symm, by rw [DK.file_set hx]⟩
    · rename_i e
      exact Or.inr ⟨fun e' => e e'.symm, hy⟩
  have hn0 := h.n
  refine ⟨h.A, h.G, ?_, ?_, h.C, h.Q, ?_, ?_, ?_, ?_, ?_⟩
  · show (d.O.set _ _).length = s.N
    rw [List.length_set]; exact h.N
  · intro o' y hy
    rcases get o' y hy with ⟨rfl, rfl⟩ | ⟨_, hy⟩
    · exact h.F _ x hx
    · exact h.F o' y hy
  · intro o' y hy hu'
    show y.k = kindW (updR s.W (s.O o) (setW (s.W (s.O o)) o k) (s.O o')) o'
    have hu' : s.inUse o' = true := hu'
    rcases get o' y hy with ⟨rfl, rfl⟩ | ⟨hne, hy⟩
    · unfold updR
      rw [if_pos rfl, hset, kindW_set, if_pos rfl]
    · have := h.K o' y hy hu'
      unfold updR
      split
      · rename_i e
        rw [hset, kindW_set, if_neg hne, ← e]; exact this
      · exact this
  · show 0 ≤ d.n + 1
    omega
  · intro o' y hy
    show 0 ≤ y.t ∧ y.t ≤ d.n + 1 ∧ _
    rcases get o' y hy with ⟨rfl, rfl⟩ | ⟨hne, hy⟩
    · simp only; exact ⟨by omega, by omega, fun _ => by omega⟩
    · have := h.T o' y hy
      exact ⟨by omega, by omega, this.2.2⟩
  · intro o1 o2 y1 y2 g1 g2 e1 e2
    rcases get o1 y1 g1 with ⟨rfl, rfl⟩ | ⟨n1, g1⟩
    · rcases get o2 y2 g2 with ⟨rfl, rfl⟩ | ⟨n2, g2⟩
      · rfl
      · have := (h.T o2 y2 g2).2.1
        simp only at e1; omega
    · rcases get o2 y2 g2 with ⟨rfl, rfl⟩ | ⟨n2, g2⟩
      · have := (h.T _ _ (by assumption : d.O[o1]? = some y1)).2.1
        simp only at e1; omega
      · exact h.D o1 o2 y1 y2 g1 g2 e1 e2
  · intro f
    show (updR s.W (s.O o) (setW (s.W (s.O o)) o k) f).Pairwise _
    unfold updR
    split
    · rename_i e
      subst e
      rw [hset, List.pairwise_append]
      refine ⟨?_, ?_, ?_⟩
      · refine ((h.W (s.O o)).filter _).imp_of_mem fun {a b} ha hb hab y1 y2 g1 g2 => ?_
        have ha : a.o ≠ o := by simpa using (List.mem_filter.1 ha).2
        have hb : b.o ≠ o := by simpa using (List.mem_filter.1 hb).2
        rcases get _ _ g1 with ⟨e, _⟩ | ⟨_, g1⟩
        · exact absurd e ha
        rcases get _ _ g2 with ⟨e, _⟩ | ⟨_, g2⟩
        · exact absurd e hb
        exact hab y1 y2 g1 g2
      · split
        · exact List.Pairwise.nil
        · exact List.pairwise_singleton _ _
      · intro a ha b hb y1 y2 g1 g2
        have ha : a.o ≠ o := by simpa using (List.mem_filter.1 ha).2
        split at hb
        · cases hb
        · rw [List.mem_singleton] at hb
          subst hb
          rcases get _ _ g1 with ⟨e, _⟩ | ⟨_, g1⟩
          · exact absurd e ha
          rcases get _ _ g2 with ⟨_, rfl⟩ | ⟨e, _⟩
          · have := (h.T _ _ g1).2.1
            simp only; omega
          · exact absurd rfl e
    · rename_i hf
      refine (h.W f).imp_of_mem fun {a b} ha hb hab y1 y2 g1 g2 => ?_
      have ha : a.o ≠ o := fun e => hf (by have := (hs.w _ _ ha).2.2; rw [e] at this; exact this.symm)
      have hb : b.o ≠ o := fun e => hf (by have := (hs.w _ _ hb).2.2; rw [e] at this; exact this.symm)
      rcases get _ _ g1 with ⟨e, _⟩ | ⟨_, g1⟩
      · exact absurd e ha
      rcases get _ _ g2 with ⟨e, _⟩ | ⟨_, g2⟩
      · exact absurd e hb
      exact hab y1 y2 g1 g2
/-- A lock of the kind that there is already makes nothing. -/
theorem Sim.put_same {s : DS} {d : DK} (h : Sim s d) (hs : s.Bas) {o : Nat} (hu : s.inUse o = true) {k : Int} (hk : d.kind o = k) : setW (s.W (s.O o)) o k = s.W (s.O o) := by
  have ho := DS.inUse_lt hs hu
  obtain ⟨x, hx⟩ := h.get ho
  have hkx := h.K o x hx hu
  rw [← DK.kind_set hx, hk] at hkx
  unfold setW
  split
  · rfl
  · rename_i hn
    by_cases h0 : k = 0
    · rw [if_pos h0, List.append_nil, List.filter_eq_self]
      intro w hw
      rw [decide_eq_true_eq]
      intro e
      subst e
      have h1 := kindW_mem (hs.ws _) hw
      have h2 := (hs.w _ _ hw).2.1
      omega
    · obtain ⟨w, hw, e1, e2⟩ := kindW_some (l := s.W (s.O o)) (o := o) (by omega)
      exact absurd (by cases w; simp_all) hn
theorem Sim.paint {s : DS} {d : DK} (h : Sim s d) (hs : s.Bas) {a : Ask} (ha : s.AskOk a) (hw : a.whole = false) {f i p : Nat} (hf : f < 3) (hi : i < 64) (hp : p < 6) :
    paintC d.C a f i p = cellR (updR s.R a.file (setR (s.R a.file) a.run) f) p i := by
  obtain ⟨r1, r2, r3⟩ := ha.rg hw
  obtain ⟨_, w2⟩ := setR_all (hs.wf a.file) (r := a.run) r1 r2 r3 ha.k
  have hc := h.C f i p hf hi hp
  unfold Go.Proofs.YtaicdjhblbobbaaGreat.paintC updR
  by_cases e : f = a.file
  · subst e
    rw [if_pos rfl, w2]
    show (if _ then a.k else _) = if (p : Int) = a.p ∧ a.f ≤ (i : Int) ∧ (i : Int) ≤ a.t then a.k else _
    by_cases g : (p : Int) = a.p ∧ a.f ≤ (i : Int) ∧ (i : Int) ≤ a.t
    · rw [if_pos g, if_pos ⟨rfl, g.2.1, g.2.2, g.1⟩]
    · rw [if_neg g, if_neg (fun g' => g ⟨g'.2.2.2, g'.2.1, g'.2.2.1⟩)]
      exact hc
  · rw [if_neg e, if_neg (fun g => e g.1)]
    exact hc
theorem setR_live {s : DS} (hs : s.Bas) {a : Ask} (ha : s.AskOk a) (hw : a.whole = false) : ∀ x, x ∈ setR (s.R a.file) a.run → x.p ∈ ps6 := fun x hx => by
  obtain ⟨r1, r2, r3⟩ := ha.rg hw
  obtain ⟨w1, w2⟩ := setR_all (hs.wf a.file) (r := a.run) r1 r2 r3 ha.k
  have hc := cellR_proc w1 hx
  rw [w2] at hc
  split at hc
  · rename_i g
    rw [g.1]; exact live_mem ha.l
  · obtain ⟨y, hy, e, _⟩ := cellR_some hc
    rw [← e]; exact live_mem (hs.lv _ _ hy)
/-- One has its lock: the tables tell it as the model does, with the same answer. -/
theorem Sim.take {s : DS} {d : DK} (h : Sim s d) (hs : s.Bas) {a : Ask} (ha : s.AskOk a) : Sim (s.take a).1 (d.take a).1 ∧ (d.take a).2 = (s.take a).2 := by
  unfold DK.take DS.take
  cases hw : a.whole with
  | true =>
    simp only [if_true, and_true]
    obtain ⟨h1, h2⟩ := ha.wh hw
    have hu : s.inUse a.o = true := DS.inUse_iff.2 ⟨a.p, live_mem ha.l, h1⟩
    rw [← h2]
    split
    · rename_i hk
      exact h.put hs hu hk
    · rename_i hk
      rw [h.put_same hs hu (Classical.not_not.1 hk), updR_same]
      exact h
  | false =>
    simp only [Bool.false_eq_true, if_false]
    obtain ⟨r1, r2, r3⟩ := ha.rg hw
    obtain ⟨w1, _⟩ := setR_all (hs.wf a.file) (r := a.run) r1 r2 r3 ha.k
    have hr : DK.runsOf (Go.Proofs.YtaicdjhblbobbaaGreat.paintC d.C a a.file) = setR (s.R a.file) a.run := by
      refine runsOf_eq w1 (setR_live hs ha hw) fun i p hi hp => ?_
      have := h.paint hs ha hw ha.file hi hp
      unfold updR at this
      rw [if_pos rfl] at this
      exact this
    rw [hr]
    split
    · exact ⟨h, rfl⟩
    · exact ⟨⟨h.A, h.G, h.N, h.F, fun f i p hf hi hp => h.paint hs ha hw hf hi hp, h.Q, h.K, h.n, h.T, h.D, h.W⟩, rfl⟩
theorem Sim.leave {s : DS} {d : DK} (h : Sim s d) (i : Nat) : Sim (s.leave i) {d with Q := d.Q.eraseIdx i} := by
  have := h.queue (s.Q.eraseIdx i)
  rw [h.Q]; exact this

/-- A lock of the whole file stands where the opening is in use still: the lists are swept, the tables stay. -/
theorem Sim.sweep {s : DS} {d : DK} (h : Sim s d) : Sim s.sweep d := by
  refine ⟨h.A, h.G, h.N, h.F, h.C, h.Q, fun o x hx hu => ?_, h.n, h.T, h.D, fun f => (h.W f).filter _⟩
  have hu : s.inUse o = true := hu
  show x.k = kindW ((s.W (s.O o)).filter fun w => s.inUse w.o) o
  rw [h.K o x hx hu]
  exact (kindW_filter fun y _ e => by rw [e]; exact hu).symm
def putG (G : Nat → Nat → Int) (p e : Nat) (v : Int) : Nat → Nat → Int := fun q i => if q = p ∧ i = e then v else G q i
def dropC (C : Nat → Nat → Nat → Int) (p f : Nat) : Nat → Nat → Nat → Int := fun g i q => if g = f ∧ q = p then 0 else C g i q
theorem inUse_of {s t : DS} (h : ∀ p e o, t.F p e = some o → ∃ q c, q ∈ ps6 ∧ c ∈ ds5 ∧ s.F q c = some o) {o : Nat} (hu : t.inUse o = true) : s.inUse o = true := by
  obtain ⟨p, _, hh⟩ := DS.inUse_iff.1 hu
  obtain ⟨e, _, hf⟩ := DS.has_iff.1 hh
  obtain ⟨q, c, hq, hc, hf⟩ := h p e o hf
  exact DS.inUse_iff.2 ⟨q, hq, DS.has_iff.2 ⟨c, hc, hf⟩⟩
theorem DS.Bas.dom {s : DS} (h : s.Bas) {p e : Int} {o : Nat} (hf : s.F p e = some o) : p ∈ ps6 ∧ e ∈ ds5 := by
  obtain ⟨a, b, c, _⟩ := h.f p e o hf
  exact ⟨live_mem a, mem_ds5.2 ⟨b, c⟩⟩
/-- One is forked. -/
theorem Sim.forked {s : DS} {d : DK} (h : Sim s d) (hs : s.Bas) {p c : Nat} (hp : p < 6) :
    Sim {s with L := updL s.L c true, F := copyF s.F p c 5} {d with A := updL d.A c true, G := fun q i => if q = c then d.G p i else d.G q i} := by
  refine ⟨fun i hi => ?_, fun q e hq he => ?_, h.N, h.F, h.C, h.Q, fun o x hx hu => ?_, h.n, h.T, h.D, h.W⟩
  · show updL d.A c true i = updL s.L c true i
    unfold updL
    split
    · rfl
    · exact h.A i hi
  · show (if q = c then d.G p e else d.G q e) = fdI (copyF s.F p c 5 q e)
    unfold copyF
    by_cases g : q = c
    · rw [if_pos g, if_pos ⟨by omega, by omega, by omega⟩]
      exact h.G p e hp he
    · rw [if_neg g, if_neg (fun g' => g (by omega))]
      exact h.G q e hq he
  · refine h.K o x hx (inUse_of (t := {s with L := updL s.L c true, F := copyF s.F p c 5}) (fun q e o hf => ?_) hu)
    have hf : copyF s.F p c 5 q e = some o := hf
    unfold copyF at hf
    split at hf
    · exact ⟨p, e, (hs.dom hf).1, (hs.dom hf).2, hf⟩
    · exact ⟨q, e, (hs.dom hf).1, (hs.dom hf).2, hf⟩
/-- One is gone. -/
theorem Sim.gone {s : DS} {d : DK} (h : Sim s d) (hs : s.Bas) {p : Nat} :
    Sim (s.gone p) {d with A := updL d.A p false, G := fun q i => if q = p then 0 else d.G q i, C := fun f i q => if q = p then 0 else d.C f i q, Q := d.Q.filter fun a => decide (a.p ≠ (p : Int))} := by
  unfold DS.gone
  refine Sim.sweep (s := {s with L := updL s.L (p : Int).toNat false, F := clearF s.F p, R := fun f => dropR (s.R f) p, Q := s.Q.filter fun a => decide (a.p ≠ (p : Int))})
    ⟨fun i hi => ?_, fun q e hq he => ?_, h.N, h.F, fun f i q hf hi hq => ?_, ?_, fun o x hx hu => ?_, h.n, h.T, h.D, h.W⟩
  · show updL d.A p false i = updL s.L (p : Int).toNat false i
    unfold updL
    rw [Int.toNat_natCast]
    split
    · rfl
    · exact h.A i hi
  · show (if q = p then 0 else d.G q e) = fdI (clearF s.F p q e)
    unfold clearF
    by_cases g : q = p
    · rw [if_pos g, if_pos (by omega)]; rfl
    · rw [if_neg g, if_neg (by omega)]
      exact h.G q e hq he
  · show (if q = p then 0 else d.C f i q) = cellR (dropR (s.R f) p) q i
    unfold dropR
    rw [(without_all (hs.wf f) p).2]
    by_cases g : q = p
    · rw [if_pos g, if_pos (by omega)]
    · rw [if_neg g, if_neg (by omega)]
      exact h.C f i q hf hi hq
  · show d.Q.filter _ = s.Q.filter _
    rw [h.Q]
  · refine h.K o x hx (inUse_of (fun q e o hf => ?_) hu)
    have hf : clearF s.F p q e = some o := hf
    unfold clearF at hf
    split at hf
    · cases hf
    · exact ⟨q, e, (hs.dom hf).1, (hs.dom hf).2, hf⟩
/-- A descriptor is closed. -/
theorem Sim.shut {s : DS} {d : DK} (h : Sim s d) (hs : s.Bas) {p e o : Nat} :
    Sim (s.shut p e o) {d with G := putG d.G p e 0, C := dropC d.C p (s.O o)} := by
  unfold DS.shut
  refine Sim.sweep (s := {s with F := updF s.F p e none, R := updR s.R (s.O o) (dropR (s.R (s.O o)) p)})
    ⟨h.A, fun q c hq hc => ?_, h.N, h.F, fun f i q hf hi hq => ?_, h.Q, fun o x hx hu => ?_, h.n, h.T, h.D, h.W⟩
  · show putG d.G p e 0 q c = fdI (updF s.F p e none q c)
    unfold putG updF
    by_cases g : q = p ∧ c = e
    · rw [if_pos g, if_pos (by omega)]; rfl
    · rw [if_neg g, if_neg (by omega)]
      exact h.G q c hq hc
  · show dropC d.C p (s.O o) f i q = cellR (updR s.R (s.O o) (dropR (s.R (s.O o)) p) f) q i
    have := h.C f i q hf hi hq
    unfold dropC updR
    by_cases g : f = s.O o
    · subst g
      rw [if_pos rfl]
      unfold dropR
      rw [(without_all (hs.wf _) p).2]
      by_cases g : q = p
      · rw [if_pos ⟨rfl, g⟩, if_pos (by omega)]
      · rw [if_neg (fun g' => g g'.2), if_neg (by omega)]
        exact this
    · rw [if_neg (fun g' => g g'.1), if_neg g]
      exact this
  · refine h.K o x hx (inUse_of (fun q c o hf => ?_) hu)
    have hf : updF s.F p e none q c = some o := hf
    unfold updF at hf
    split at hf
    · cases hf
    · exact ⟨q, c, (hs.dom hf).1, (hs.dom hf).2, hf⟩
/-- A descriptor is copied. -/
theorem Sim.copied {s : DS} {d : DK} (h : Sim s d) (hs : s.Bas) {p e o : Nat} {p0 e0 : Int} (h0 : s.F p0 e0 = some o) :
    Sim {s with F := updF s.F p e (some o)} {d with G := putG d.G p e ((o : Int) + 1)} := by
  refine ⟨h.A, fun q c hq hc => ?_, h.N, h.F, h.C, h.Q, fun o' x hx hu => ?_, h.n, h.T, h.D, h.W⟩
  · show putG d.G p e ((o : Int) + 1) q c = fdI (updF s.F p e (some o) q c)
    unfold putG updF
    by_cases g : q = p ∧ c = e
    · rw [if_pos g, if_pos (by omega)]; rfl
    · rw [if_neg g, if_neg (by omega)]
      exact h.G q c hq hc
  · refine h.K o' x hx (inUse_of (t := {s with F := updF s.F p e (some o)}) (fun q c o' hf => ?_) hu)
    have hf : updF s.F p e (some o) q c = some o' := hf
    unfold updF at hf
    split at hf
    · cases hf
      exact ⟨p0, e0, (hs.dom h0).1, (hs.dom h0).2, h0⟩
    · exact ⟨q, c, (hs.dom hf).1, (hs.dom hf).2, hf⟩
/-- A file is opened. -/
theorem Sim.opened {s : DS} {d : DK} (h : Sim s d) (hs : s.Bas) {p e f : Nat} :
    Sim {s with F := updF s.F p e (some s.N), O := updR s.O s.N f, N := s.N + 1} {d with O := d.O ++ [⟨f, 0, 0⟩], G := putG d.G p e ((d.O.length : Int) + 1)} := by
  have get : ∀ (o : Nat) (y : Og), (d.O ++ [⟨f, 0, 0⟩])[o]? = some y → (o = s.N ∧ y = ⟨f, 0, 0⟩) ∨ (o < s.N ∧ d.O[o]? = some y) := fun o y hy => by
    rw [List.getElem?_append] at hy
    split at hy
    · rename_i hl
      rw [h.N] at hl
      exact Or.inr ⟨hl, hy⟩
    · rename_i hl
      rw [List.getElem?_singleton] at hy
      split at hy
      · rename_i e
        cases hy
        exact Or.inl ⟨by rw [h.N] at e hl; omega, rfl⟩
      · cases hy
  have hO : ∀ o, o < s.N → updR s.O s.N f o = s.O o := fun o ho => by
    unfold updR; rw [if_neg (by omega)]
  refine ⟨h.A, fun q c hq hc => ?_, ?_, ?_, h.C, h.Q, ?_, h.n, ?_, ?_, ?_⟩
  · show putG d.G p e ((d.O.length : Int) + 1) q c = fdI (updF s.F p e (some s.N) q c)
    unfold putG updF
    by_cases g : q = p ∧ c = e
    · rw [if_pos g, if_pos (by omega), h.N]; rfl
    · rw [if_neg g, if_neg (by omega)]
      exact h.G q c hq hc
  · show (d.O ++ [_]).length = s.N + 1
    simp [h.N]
  · intro o y hy
    show y.f = (updR s.O s.N f o : Nat)
    rcases get o y hy with ⟨rfl, rfl⟩ | ⟨hl, hy⟩
    · unfold updR; rw [if_pos rfl]
    · rw [hO o hl]; exact h.F o y hy
  · intro o y hy hu
    show y.k = kindW (s.W (updR s.O s.N f o)) o
    rcases get o y hy with ⟨rfl, rfl⟩ | ⟨hl, hy⟩
    · refine (kindW_none fun w hw e => ?_).symm
      have := DS.inUse_lt hs (hs.w _ _ hw).1
      omega
    · rw [hO o hl]
      refine h.K o y hy ?_
      obtain ⟨q, hq, hh⟩ := DS.inUse_iff.1 hu
      obtain ⟨c, hc, hf⟩ := DS.has_iff.1 hh
      have hf : updF s.F p e (some s.N) q c = some o := hf
      unfold updF at hf
      split at hf
      · cases hf; omega
      · exact DS.inUse_iff.2 ⟨q, hq, DS.has_iff.2 ⟨c, hc, hf⟩⟩
  · intro o y hy
    rcases get o y hy with ⟨rfl, rfl⟩ | ⟨hl, hy⟩
    · exact ⟨Int.le_refl 0, h.n, fun e => absurd rfl e⟩
    · exact h.T o y hy
  · intro o1 o2 y1 y2 g1 g2 e1 e2
    rcases get o1 y1 g1 with ⟨rfl, rfl⟩ | ⟨n1, g1⟩
    · exact absurd rfl e2
    · rcases get o2 y2 g2 with ⟨rfl, rfl⟩ | ⟨n2, g2⟩
      · exact absurd e1 e2
      · exact h.D o1 o2 y1 y2 g1 g2 e1 e2
  · intro g
    refine (h.W g).imp_of_mem fun {a b} ha hb hab y1 y2 g1 g2 => ?_
    have ha := DS.inUse_lt hs (hs.w _ _ ha).1
    have hb := DS.inUse_lt hs (hs.w _ _ hb).1
    rcases get _ _ g1 with ⟨e, _⟩ | ⟨_, g1⟩
    · omega
    rcases get _ _ g2 with ⟨e, _⟩ | ⟨_, g2⟩
    · omega
    exact hab y1 y2 g1 g2

/-- The locks of a whole file, by when they were got. -/
def DK.holdsAt (d : DK) (f : Int) (t : Nat) : List Hd := ((List.range d.O.length).filter fun o => d.held o && decide (d.file o = f) && decide (d.at o = (t : Int) + 1)).map fun o => ⟨d.kind o, d.sharers o⟩
def DK.holds (d : DK) (f : Int) : List Hd := (List.range d.n.toNat).flatMap (d.holdsAt f)
theorem flat_congr {α β : Type} {l : List α} {f g : α → List β} (h : ∀ x, x ∈ l → f x = g x) : l.flatMap f = l.flatMap g := by
  induction l with
  | nil => rfl
  | cons y l ih => rw [List.flatMap_cons, List.flatMap_cons, h y List.mem_cons_self, ih fun x hx => h x (List.mem_cons_of_mem _ hx)]
theorem flat_sorted {α : Type} (κ : α → Int) : ∀ (n : Nat) (l : List α), l.Pairwise (fun x y => κ x < κ y) → (∀ x, x ∈ l → 0 < κ x ∧ κ x ≤ n) → (List.range n).flatMap (fun t : Nat => l.filter fun x => decide (κ x = (t : Int) + 1)) = l
  | 0, l, _, h => by
    cases l with
    | nil => rfl
    | cons x l => have := h x List.mem_cons_self; omega
  | n + 1, l, hp, h => by
    rw [List.range_succ, List.flatMap_append]
    have h1 : (List.range n).flatMap (fun t : Nat => l.filter fun x => decide (κ x = (t : Int) + 1)) = l.filter fun x => decide (κ x ≤ n) := by
      rw [← flat_sorted κ n (l.filter fun x => decide (κ x ≤ n)) (hp.filter _) (fun x hx => ⟨(h x (List.mem_filter.1 hx).1).1, by simpa using (List.mem_filter.1 hx).2⟩)]
      refine flat_congr fun t ht => ?_
      rw [List.mem_range] at ht
      rw [List.filter_filter]
      refine List.filter_congr fun x _ => ?_
      by_cases e : κ x = (t : Int) + 1
      · simp [e]; omega
      · simp [e]
    rw [h1]
    simp only [List.flatMap_cons, List.flatMap_nil, List.append_nil]
    clear h1
    induction l with
    | nil => rfl
    | cons y l ih =>
      obtain ⟨p1, p2⟩ := List.pairwise_cons.1 hp
      have hy := h y List.mem_cons_self
      by_cases e : κ y ≤ n
      · rw [List.filter_cons_of_pos (by simpa using e), List.filter_cons_of_neg (by simp; omega), List.cons_append, ih p2 fun x hx => h x (List.mem_cons_of_mem _ hx)]
      · have e' : κ y = (n : Int) + 1 := by omega
        rw [List.filter_cons_of_neg (by simpa using e), List.filter_cons_of_pos (by simpa using e')]
        have hl : l = [] := by
          cases l with
          | nil => rfl
          | cons z l =>
            have := p1 z List.mem_cons_self
            have := h z (by simp)
            omega
        subst hl
        rfl
theorem filter_range_one {n a : Nat} (ha : a < n) {g : Nat → Bool} (h : ∀ o, o < n → (g o = true ↔ o = a)) : (List.range n).filter g = [a] := by
  induction n with
  | zero => omega
  | succ n ih =>
    rw [List.range_succ, List.filter_append]
    by_cases e : a = n
    · subst e
      rw [List.filter_eq_nil_iff.2 (fun o ho hg => by rw [List.mem_range] at ho; have := (h o (by omega)).1 hg; omega)]
      rw [List.filter_cons_of_pos ((h a (by omega)).2 rfl)]; rfl
    · rw [ih (by omega) fun o ho => h o (by omega), List.filter_cons_of_neg (fun hg => e ((h n (by omega)).1 hg).symm)]; rfl
/-- The locks of whole files come out as the model tells them. -/
theorem Sim.holds {s : DS} {d : DK} (h : Sim s d) (hs : s.Bas) (f : Int) : d.holds f = s.holds f := by
  have mem : ∀ o, o < d.O.length → (d.held o = true ∧ d.file o = f ↔ fileB f = true ∧ ∃ w, w ∈ s.W f.toNat ∧ w.o = o) := fun o ho => by
    rw [h.N] at ho
    have hf := h.file ho
    have h3 := hs.o o
    rw [h.held hs]
    constructor
    · rintro ⟨⟨w, hw, e⟩, rfl⟩
      rw [hf]
      refine ⟨by unfold fileB; simp; omega, w, ?_, e⟩
      rw [Int.toNat_natCast]; exact hw
    · rintro ⟨hb, w, hw, rfl⟩
      unfold fileB at hb
      simp only [Bool.and_eq_true, decide_eq_true_eq] at hb
      have e := (hs.w _ _ hw).2.2
      exact ⟨⟨w, by rw [e]; exact hw, rfl⟩, by rw [hf, e]; omega⟩
  unfold DK.holds DS.holds
  by_cases hb : fileB f = true
  · rw [if_pos hb]
    have hg : ∀ w, w ∈ s.W f.toNat → w.o < d.O.length := fun w hw => by rw [h.N]; exact DS.inUse_lt hs (hs.w _ _ hw).1
    have hx : ∀ w, w ∈ s.W f.toNat → ∃ x, d.O[w.o]? = some x ∧ d.at w.o = x.t := fun w hw => by
      obtain ⟨x, hx⟩ := h.get (o := w.o) (by rw [← h.N]; exact hg w hw)
      exact ⟨x, hx, by unfold DK.at; rw [hx]; rfl⟩
    have hsort := flat_sorted (fun w : Wl => d.at w.o) d.n.toNat (s.W f.toNat) ((h.W f.toNat).imp_of_mem fun {a b} ha hb hab => by
      obtain ⟨x, x1, x2⟩ := hx a ha
      obtain ⟨y, y1, y2⟩ := hx b hb
      rw [x2, y2]; exact hab x y x1 y1) (fun w hw => by
      obtain ⟨x, x1, x2⟩ := hx w hw
      have := h.T w.o x x1
      have hk := h.kind hs hw
      rw [DK.kind_set x1] at hk
      have := (hs.w _ _ hw).2.1
      rw [x2]
      have hn := h.n
      exact ⟨this.elim (fun _ => (h.T w.o x x1).2.2 (by omega)) (fun _ => (h.T w.o x x1).2.2 (by omega)), by omega⟩)
    conv => rhs; rw [← hsort]
    rw [List.map_flatMap]
    refine flat_congr fun t _ => ?_
    unfold DK.holdsAt
    by_cases hw : ∃ w, w ∈ s.W f.toNat ∧ d.at w.o = (t : Int) + 1
    · obtain ⟨w, hw, hat⟩ := hw
      obtain ⟨x, x1, x2⟩ := hx w hw
      have one : ∀ v, v ∈ s.W f.toNat → d.at v.o = (t : Int) + 1 → v = w := fun v hv hvt => by
        obtain ⟨y, y1, y2⟩ := hx v hv
        have eo := h.D v.o w.o y x y1 x1 (by omega) (by omega)
        have k1 := kindW_mem (hs.ws f.toNat) hv
        have k2 := kindW_mem (hs.ws f.toNat) hw
        rw [eo] at k1
        cases v; cases w; simp_all
      rw [filter_range_one (a := w.o) (hg w hw)]
      · have : (s.W f.toNat).filter (fun x => decide (d.at x.o = (t : Int) + 1)) = [w] := by
          have hall : ∀ v, v ∈ (s.W f.toNat).filter (fun x => decide (d.at x.o = (t : Int) + 1)) → v = w := fun v hv => one v (List.mem_filter.1 hv).1 (by simpa using (List.mem_filter.1 hv).2)
          have hmem : w ∈ (s.W f.toNat).filter (fun x => decide (d.at x.o = (t : Int) + 1)) := List.mem_filter.2 ⟨hw, by simpa using hat⟩
          have hnd : ((s.W f.toNat).filter (fun x => decide (d.at x.o = (t : Int) + 1))).Pairwise fun x y => x.o ≠ y.o := (hs.ws f.toNat).filter _
          generalize (s.W f.toNat).filter (fun x => decide (d.at x.o = (t : Int) + 1)) = l at *
          cases l with
          | nil => cases hmem
          | cons a l =>
            cases l with
            | nil => rw [hall a List.mem_cons_self]
            | cons b l =>
              have e1 := hall a (by simp)
              have e2 := hall b (by simp)
              have := (List.pairwise_cons.1 hnd).1 b (by simp)
              rw [e1, e2] at this
              exact absurd rfl this
        rw [this]
        simp only [List.map_cons, List.map_nil]
        rw [h.kind hs hw, h.sharers hs]
      · intro o ho
        rw [Bool.and_eq_true, Bool.and_eq_true, decide_eq_true_eq, decide_eq_true_eq, mem o ho]
        constructor
        · rintro ⟨⟨_, v, hv, rfl⟩, e⟩
          rw [one v hv e]
        · rintro rfl
          exact ⟨⟨hb, w, hw, rfl⟩, hat⟩
    · rw [List.filter_eq_nil_iff.2, List.filter_eq_nil_iff.2]
      · rfl
      · intro w hm e
        exact hw ⟨w, hm, by simpa using e⟩
      · intro o ho e
        rw [List.mem_range] at ho
        rw [Bool.and_eq_true, Bool.and_eq_true, decide_eq_true_eq, decide_eq_true_eq, mem o ho] at e
        obtain ⟨⟨_, w, hm, rfl⟩, e⟩ := e
        exact hw ⟨w, hm, e⟩
  · rw [if_neg hb]
    rw [List.flatMap_eq_nil_iff]
    intro t _
    unfold DK.holdsAt
    rw [List.map_eq_nil_iff, List.filter_eq_nil_iff]
    intro o ho e
    rw [List.mem_range] at ho
    rw [Bool.and_eq_true, Bool.and_eq_true, decide_eq_true_eq, decide_eq_true_eq, mem o ho] at e
    exact hb e.1.1
theorem Sim.runs {s : DS} {d : DK} (h : Sim s d) (hs : s.Bas) (f : Int) : d.runs f = s.runs f := by
  unfold DK.runs DS.runs
  split
  · rename_i hb
    unfold fileB at hb
    simp only [Bool.and_eq_true, decide_eq_true_eq] at hb
    exact runsOf_eq (hs.wf _) (fun x hx => live_mem (hs.lv _ _ hx)) fun i p hi hp => h.C f.toNat i p (by omega) hi hp
  · rfl
end Go.Proofs.YtaicdjhblbobbaaGreat

/- Who is stuck, by the tables of the document's answer: what its loop keeps, and what it leaves. -/
namespace Go.Proofs.YtaicdjhblbobbaaGreat

/-- Stays one in the set c, whom so many wait ahead of? -/
def DK.stays (d : DK) (c : Nat → Bool) (a : Ask) (l : List Ask) : Bool := (d.way a l).any fun g => g.all fun q => c q.toNat
/-- Who is stuck is in; who is in waits. -/
structure InS (s : DS) (c : Nat → Bool) : Prop where
  sup : ∀ p : Nat, p < 6 → (p : Int) ∈ s.stuck → c p = true
  wait : ∀ p : Nat, p < 6 → c p = true → ∃ (i : Nat) (a : Ask), s.Q[i]? = some a ∧ a.p = p
def cnt6 (c : Nat → Bool) : Nat := (List.range 6).countP c
theorem cnt6_drop {c : Nat → Bool} {p : Nat} (hp : p < 6) (h : c p = true) : cnt6 (fun j => if j = p then false else c j) < cnt6 c := by
  unfold cnt6
  have hr : List.range 6 = [0, 1, 2, 3, 4, 5] := rfl
  rw [hr]
  simp only [List.countP_cons, List.countP_nil]
  match p, hp with
  | 0, _ | 1, _ | 2, _ | 3, _ | 4, _ | 5, _ => simp [h]
theorem DS.stuck_ps6 {s : DS} (hs : s.Bas) {p : Int} (h : p ∈ s.stuck) : p ∈ ps6 := by
  obtain ⟨i, a, h1, rfl⟩ := DS.stuck_waits h
  exact live_mem (hs.q a (List.mem_of_getElem? h1)).1.l
theorem InS.start (s : DS) : InS s fun p => s.Q.any fun a => decide (a.p = (p : Int)) where
  sup := fun p _ h => by
    obtain ⟨i, a, h1, h2⟩ := DS.stuck_waits h
    exact List.any_eq_true.2 ⟨a, List.mem_of_getElem? h1, by simpa using h2⟩
  wait := fun p _ h => by
    obtain ⟨a, ha, h2⟩ := List.any_eq_true.1 h
    obtain ⟨i, hi⟩ := List.getElem?_of_mem ha
    exact ⟨i, a, hi, by simpa using h2⟩
theorem ones_idx {l : List Ask} (h : l.Pairwise fun a b => a.p ≠ b.p) {i j : Nat} {a b : Ask} (hi : l[i]? = some a) (hj : l[j]? = some b) (e : a.p = b.p) : i = j ∧ a = b := by
  obtain ⟨hil, hie⟩ := List.getElem?_eq_some_iff.1 hi
  obtain ⟨hjl, hje⟩ := List.getElem?_eq_some_iff.1 hj
  have hp := List.pairwise_iff_getElem.1 h
  have : i = j := by
    rcases Nat.lt_trichotomy i j with g | g | g
    · exact absurd (by rw [hie, hje]; exact e) (hp i j hil hjl g)
    · exact g
    · exact absurd (by rw [hie, hje]; exact e.symm) (hp j i hjl hil g)
  subst this
  rw [hi] at hj
  cases hj
  exact ⟨rfl, rfl⟩
theorem DK.way_mem {s : DS} {d : DK} (hs : s.Bas) {a : Ask} {l : List Ask} (hl : ∀ b, b ∈ l → b ∈ s.Q) {g : List Int} (hg : g ∈ d.way a l) : ∀ q, q ∈ g → q ∈ ps6 := fun q hq => by
  unfold DK.way at hg
  rcases List.mem_append.1 hg with hg | hg
  · obtain ⟨b, hb, rfl⟩ := List.mem_map.1 hg
    rw [List.mem_singleton] at hq
    subst hq
    exact live_mem (hs.q b (hl b (List.mem_filter.1 hb).1)).1.l
  · split at hg
    · obtain ⟨o, _, rfl⟩ := List.mem_map.1 hg
      exact (List.mem_filter.1 hq).1
    · obtain ⟨r, hr, rfl⟩ := List.mem_map.1 hg
      rw [List.mem_singleton] at hq
      subst hq
      exact (List.mem_filter.1 hr).1
/-- One goes out that nothing keeps. -/
theorem InS.drop {s : DS} {d : DK} {c : Nat → Bool} (h : InS s c) (hs : s.Bas) (hd : Sim s d) {i : Nat} {a : Ask} (hi : s.Q[i]? = some a) (hn : d.stays c a (s.Q.take i) = false) : InS s fun j => if j = a.p.toNat then false else c j where
  sup := fun p hp hst => by
    have hk := (hs.q a (List.mem_of_getElem? hi)).1
    have hap := mem_ps6.1 (live_mem hk.l)
    split
    · rename_i e
      have e' : (p : Int) = a.p := by omega
      rw [e'] at hst
      obtain ⟨j, b, hj, hb, g, hg, hall⟩ := s.stuck_is _ hst
      obtain ⟨rfl, rfl⟩ := ones_idx hs.qn hj hi hb
      have : d.stays c b (s.Q.take j) = true := by
        unfold DK.stays
        refine List.any_eq_true.2 ⟨g, (hd.way hs hk _ g).2 hg, List.all_eq_true.2 fun q hq => ?_⟩
        have hqs := hall q hq
        have h6 := mem_ps6.1 (DS.stuck_ps6 hs hqs)
        exact h.sup q.toNat (by omega) (by rw [show ((q.toNat : Nat) : Int) = q by omega]; exact hqs)
      rw [this] at hn; cases hn
    · exact h.sup p hp hst
  wait := fun p hp hc => by
    split at hc
    · cases hc
    · exact h.wait p hp hc
/-- Where each that is in stays, they are just the stuck ones. -/
theorem InS.done {s : DS} {d : DK} {c : Nat → Bool} (h : InS s c) (hs : s.Bas) (hd : Sim s d) (hall : ∀ (i : Nat) (a : Ask), s.Q[i]? = some a → c a.p.toNat = true → d.stays c a (s.Q.take i) = true) {p : Nat} (hp : p < 6) : c p = decide ((p : Int) ∈ s.stuck) := by
  rw [Bool.eq_iff_iff, decide_eq_true_eq]
  refine ⟨fun hc => ?_, h.sup p hp⟩
  refine DS.stuck_greatest (X := fun q => q ∈ ps6 ∧ c q.toNat = true) ?_ ⟨mem_ps6.2 (by omega), by rw [Int.toNat_natCast]; exact hc⟩
  rintro q ⟨hq6, hqc⟩
  have h6 := mem_ps6.1 hq6
  obtain ⟨i, a, hi, ha⟩ := h.wait q.toNat (by omega) hqc
  have ha' : a.p = q := by omega
  have hst := hall i a hi (by rw [ha']; exact hqc)
  unfold DK.stays at hst
  obtain ⟨g, hg, hga⟩ := List.any_eq_true.1 hst
  refine ⟨i, a, hi, ha', g, (hd.way hs (hs.q a (List.mem_of_getElem? hi)).1 _ g).1 hg, fun r hr => ⟨DK.way_mem hs (fun b hb => List.mem_of_mem_take hb) hg r hr, List.all_eq_true.1 hga r hr⟩⟩
end Go.Proofs.YtaicdjhblbobbaaGreat

/- Settling, round by round, as the document's answer does it. -/
namespace Go.Proofs.YtaicdjhblbobbaaGreat

theorem DS.free_of {s : DS} {i : Nat} {a : Ask} (ha : s.Q[i]? = some a) (hw : s.way a (s.Q.take i) = []) (hb : ∀ (j : Nat) b, j < i → s.Q[j]? = some b → s.way b (s.Q.take j) ≠ []) : s.free? = some i := by
  cases e : s.free? with
  | none => exact absurd hw (DS.free?_none e i a ha)
  | some j =>
    obtain ⟨b, h1, h2, h3⟩ := DS.free?_some e
    rcases Nat.lt_trichotomy i j with g | g | g
    · exact absurd hw (h3 i a g ha)
    · rw [g]
    · exact absurd h2 (hb j b g h1)
theorem DS.free_none_of {s : DS} (hb : ∀ (j : Nat) b, s.Q[j]? = some b → s.way b (s.Q.take j) ≠ []) : s.free? = none := by
  cases e : s.free? with
  | none => rfl
  | some j =>
    obtain ⟨b, h1, h2, _⟩ := DS.free?_some e
    exact absurd h2 (hb j b h1)
theorem DS.last_of {s : DS} {i : Nat} {a : Ask} (ha : s.Q[i]? = some a) (hw : a.p ∈ s.stuck) (hb : ∀ (j : Nat) b, i < j → s.Q[j]? = some b → b.p ∉ s.stuck) : s.last? = some i := by
  cases e : s.last? with
  | none => rw [DS.last?_none e] at hw; cases hw
  | some j =>
    obtain ⟨b, h1, h2, h3⟩ := DS.last?_some e
    rcases Nat.lt_trichotomy i j with g | g | g
    · exact absurd h2 (hb j b g h1)
    · rw [g]
    · exact absurd hw (h3 i a g ha)
theorem DS.last_none_of {s : DS} (hb : ∀ (j : Nat) b, s.Q[j]? = some b → b.p ∉ s.stuck) : s.last? = none := by
  cases e : s.last? with
  | none => rfl
  | some j =>
    obtain ⟨b, h1, h2, _⟩ := DS.last?_some e
    exact absurd h2 (hb j b h1)
theorem DS.settle_free {s : DS} {i : Nat} {a : Ask} (h : s.free? = some i) (ha : s.Q[i]? = some a) : s.settle = ((((s.leave i).take a).1.settle).1, ⟨a.p, ((s.leave i).take a).2⟩ :: (((s.leave i).take a).1.settle).2) := by
  have hl := DS.leave_len ha
  unfold DS.settle
  rw [DS.take_Q, ← hl]
  conv => lhs; unfold DS.settleN
  simp only [h, ha, Option.getD_some]
theorem DS.settle_last {s : DS} {i : Nat} {a : Ask} (h : s.free? = none) (h2 : s.last? = some i) (ha : s.Q[i]? = some a) : s.settle = ((s.leave i).settle.1, ⟨a.p, 10⟩ :: (s.leave i).settle.2) := by
  have hl := DS.leave_len ha
  unfold DS.settle
  rw [← hl]
  conv => lhs; unfold DS.settleN
  simp only [h, h2, ha, Option.getD_some]
theorem DS.settle_end {s : DS} (h : s.free? = none) (h2 : s.last? = none) : s.settle = (s, []) := by
  unfold DS.settle
  cases s.Q.length with
  | zero => rfl
  | succ n => unfold DS.settleN; simp only [h, h2]
theorem DS.settle_empty {s : DS} (h : s.Q = []) : s.settle = (s, []) := by
  unfold DS.settle
  rw [h]
  rfl
/-- What one that nothing is in the way of leaves. -/
theorem DS.Bas.freed {s : DS} (h : s.Bas) {i : Nat} {a : Ask} (ha : s.Q[i]? = some a) (hw : s.way a (s.Q.take i) = []) : ((s.leave i).take a).1.Bas ∧ (s.leave i).AskOk a := by
  have hk := (h.q a (List.mem_of_getElem? ha)).1
  have hc : (s.leave i).Clear a := DS.Clear.of_way h hw
  exact ⟨(h.leave i).take (hk.congr rfl rfl rfl) hc, hk.congr rfl rfl rfl⟩
theorem DK.take_n (d : DK) (a : Ask) : (d.take a).1.n ≤ d.n + 1 ∧ (d.take a).1.Q = d.Q ∧ (d.take a).1.O.length = d.O.length := by
  unfold DK.take DK.put
  (repeat' split) <;> simp <;> omega
theorem find_map_range (f : Int → Bool) : ((List.range 6).find? fun q : Nat => f q).elim (-1) (fun q => (q : Int)) = ((ps6.filter f).head?).getD (-1) := by
  have e : ps6 = (List.range 6).map fun q : Nat => (q : Int) := rfl
  rw [List.head?_filter, e, List.find?_map]
  show _ = (Option.map _ ((List.range 6).find? fun q : Nat => f q)).getD (-1)
  cases (List.range 6).find? fun q : Nat => f q <;> rfl
theorem Sim.first {s : DS} {d : DK} (h : Sim s d) (hs : s.Bas) {a : Ask} (hf : a.file < 3) (hr : 0 ≤ a.f ∧ a.f ≤ a.t ∧ a.t ≤ 63) : ((List.range 6).find? fun q : Nat => d.hold a q).elim (-1) (fun q => (q : Int)) = ((holders (s.R a.file) a.run).head?).getD (-1) := by
  rw [find_map_range]
  congr 2
  unfold holders
  refine List.filter_congr fun q hq => ?_
  rw [Bool.eq_iff_iff, h.hold hs hf hr hq, mem_holders]
  unfold holders at *
  simp only [List.any_eq_true, Bool.and_eq_true, decide_eq_true_eq]
  exact ⟨fun ⟨_, x, hx, h1, h2⟩ => ⟨x, hx, h1, h2⟩, fun ⟨x, hx, h1, h2⟩ => ⟨hq, x, hx, h1, h2⟩⟩
/-- Replies that tell a number, and replies that tell who waits no more. -/
def Cl.num : Cl → Bool
  | .fork .. => true
  | .opn .. => true
  | .dup .. => true
  | .test .. => true
  | _ => false
theorem DS.step_num (s : DS) (c : Cl) (h : c.num = true) : (s.step c).2.d = [] := by
  cases c with
  | fork p => simp only [DS.step, DS.fork, rerr, rnum]; (repeat' split) <;> rfl
  | opn p f => simp only [DS.step, DS.opn, rerr, rnum]; (repeat' split) <;> rfl
  | dup p d => simp only [DS.step, DS.dup, rerr, rnum]; (repeat' split) <;> rfl
  | test p d k f l => simp only [DS.step, DS.test, rerr, rnum]; (repeat' split) <;> rfl
  | kill p => cases h
  | close p d => cases h
  | lock p d k f l w => cases h
  | whole p d k w => cases h
theorem DS.ask_n (s : DS) (a : Ask) (w : Bool) : (s.ask a w).2.n = 0 := by
  simp only [DS.ask, rerr, DS.settled]; (repeat' split) <;> rfl
theorem DS.step_done (s : DS) (c : Cl) (h : c.num = false) : (s.step c).2.n = 0 := by
  cases c with
  | fork p => cases h
  | opn p f => cases h
  | dup p d => cases h
  | test p d k f l => cases h
  | kill p => simp only [DS.step, DS.kill, rerr, DS.settled]; (repeat' split) <;> rfl
  | close p d => simp only [DS.step, DS.close, rerr, DS.settled]; (repeat' split) <;> rfl
  | lock p d k f l w => simp only [DS.step, DS.lock, rerr]; (repeat' split) <;> first | rfl | exact DS.ask_n _ _ _
  | whole p d k w => simp only [DS.step, DS.whole, rerr]; (repeat' split) <;> first | rfl | exact DS.ask_n _ _ _
end Go.Proofs.YtaicdjhblbobbaaGreat
