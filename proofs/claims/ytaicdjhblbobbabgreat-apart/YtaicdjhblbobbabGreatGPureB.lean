/- The program's way to say what the model says: who is in the way, in which order; the list of those that wait. -/
import Derived.Test.YtaicdjhblbobbabGreatGPure
import Derived.Lib.SlicesCompact
namespace Go.Proofs.YtaicdjhblbobbabGreat

theorem bitesB_symm (p k f t q l g u : Int) : bitesB p k f t q l g u = bitesB q l g u p k f t := by
  unfold bitesB meetsB
  rw [biteB_comm k l, Bool.and_comm (decide (f ≤ u))]
  congr 2
  exact decide_eq_decide.2 ⟨fun h e => h e.symm, fun h e => h e.symm⟩
theorem Rn.bites_symm (a b : Rn) : a.bites b = b.bites a := bitesB_symm _ _ _ _ _ _ _ _

theorem strict_ints : ∀ (l m : List Int), l.Pairwise (· < ·) → m.Pairwise (· < ·) → (∀ x, x ∈ l ↔ x ∈ m) → l = m
  | [], m, _, _, h => by
    cases m with
    | nil => rfl
    | cons y m => exact absurd ((h y).2 List.mem_cons_self) (by simp)
  | x :: l, [], _, _, h => absurd ((h x).1 List.mem_cons_self) (by simp)
  | x :: l, y :: m, hl, hm, h => by
    obtain ⟨h1, h2⟩ := List.pairwise_cons.1 hl
    obtain ⟨h3, h4⟩ := List.pairwise_cons.1 hm
    have hxy : x = y := by
      rcases List.mem_cons.1 ((h x).1 List.mem_cons_self) with e | e
      · exact e
      · rcases List.mem_cons.1 ((h y).2 List.mem_cons_self) with e' | e'
        · exact e'.symm
        · have := h3 x e; have := h1 y e'; omega
    subst hxy
    congr 1
    refine strict_ints l m h2 h4 fun z => ?_
    constructor
    · intro hz
      rcases List.mem_cons.1 ((h z).1 (List.mem_cons_of_mem _ hz)) with e | e
      · have := h1 z hz; omega
      · exact e
    · intro hz
      rcases List.mem_cons.1 ((h z).2 (List.mem_cons_of_mem _ hz)) with e | e
      · have := h3 z hz; omega
      · exact e
theorem compact_pw {zs : List Int} (hs : zs.Pairwise (· ≤ ·)) : (Lib.compact zs).Pairwise (· < ·) := by
  unfold Lib.compact Lib.compactUpTo
  rw [List.pairwise_map]
  refine List.Pairwise.imp_of_mem ?_ (List.Pairwise.filter _ List.pairwise_lt_range)
  intro i j hi hj hlt
  have hi' : i < zs.length := by simpa using (List.mem_filter.1 hi).1
  have hj' : j < zs.length := by simpa using (List.mem_filter.1 hj).1
  have hk := (List.mem_filter.1 hj).2
  have hle : ∀ a b, a ≤ b → (hb : b < zs.length) → zs.toArray[a]! ≤ zs.toArray[b]! := by
    intro a b hab hb
    have ha : a < zs.length := by omega
    have e1 : zs.toArray[a]! = zs[a] := by simp [ha]
    have e2 : zs.toArray[b]! = zs[b] := by simp [hb]
    rw [e1, e2]
    rcases Nat.lt_or_eq_of_le hab with h | rfl
    · exact List.pairwise_iff_getElem.1 hs a b ha hb h
    · exact Int.le_refl _
  unfold Lib.keeps at hk
  simp only [decide_eq_true_eq] at hk
  have h1 := hle i (j - 1) (by omega) (by omega)
  have h2 := hle (j - 1) j (by omega) hj'
  omega
theorem compact_mem {zs : List Int} {x : Int} : x ∈ Lib.compact zs ↔ x ∈ zs := by
  have e1 : ∀ a, (ha : a < zs.length) → zs.toArray[a]! = zs[a] := fun a ha => by simp [ha]
  unfold Lib.compact Lib.compactUpTo
  constructor
  · intro h
    obtain ⟨j, hj, rfl⟩ := List.mem_map.1 h
    have hj' : j < zs.length := by simpa using (List.mem_filter.1 hj).1
    rw [e1 j hj']
    exact List.getElem_mem hj'
  · intro h
    obtain ⟨j, hj, rfl⟩ := List.mem_iff_getElem.1 h
    rw [← e1 j hj]
    clear h
    induction j with
    | zero => exact List.mem_map.2 ⟨0, List.mem_filter.2 ⟨by simpa using hj, by simp [Lib.keeps]⟩, rfl⟩
    | succ j ih =>
      by_cases he : zs.toArray[j + 1]! = zs.toArray[j]!
      · rw [he]; exact ih (by omega)
      · exact List.mem_map.2 ⟨j + 1, List.mem_filter.2 ⟨by simpa using hj, by simp [Lib.keeps]; simpa using he⟩, rfl⟩
theorem ps6_pw : ps6.Pairwise (· < ·) := by decide
/-- Sorted, each once. -/
def onceI (zs : List Int) : List Int := Lib.compact (zs.mergeSort fun x y => decide (x ≤ y))
theorem onceI_pw (zs : List Int) : (onceI zs).Pairwise (· < ·) := by
  refine compact_pw ?_
  have := List.pairwise_mergeSort (le := fun x y : Int => decide (x ≤ y)) (fun a b c h1 h2 => by simp at *; omega) (fun a b => by simp; omega) zs
  exact this.imp (by simp)
theorem onceI_mem {zs : List Int} {x : Int} : x ∈ onceI zs ↔ x ∈ zs := by unfold onceI; rw [compact_mem, List.mem_mergeSort]
theorem onceI_ps6 {zs : List Int} (h : ∀ x, x ∈ zs → x ∈ ps6) : onceI zs = ps6.filter fun q => decide (q ∈ zs) := by
  refine strict_ints _ _ (onceI_pw zs) (ps6_pw.filter _) fun x => ?_
  rw [onceI_mem, List.mem_filter]
  simp only [decide_eq_true_eq]
  exact ⟨fun hx => ⟨h x hx, hx⟩, fun hx => hx.2⟩
/-- Those who bite, as the program finds them. -/
def bitersP (l : List Rn) (r : Rn) : List Int := (l.filter fun x => x.bites r).map (·.p)
theorem holders_eq {l : List Rn} {r : Rn} (h : ∀ x, x ∈ l → x.p ∈ ps6) : onceI (bitersP l r) = holders l r := by
  rw [onceI_ps6 (fun x hx => by obtain ⟨y, hy, rfl⟩ := List.mem_map.1 hx; exact h y (List.mem_filter.1 hy).1)]
  unfold holders
  refine List.filter_congr fun q _ => ?_
  rw [Bool.eq_iff_iff, decide_eq_true_eq]
  simp only [decide_eq_true_eq, List.any_eq_true, Bool.and_eq_true, bitersP, List.mem_map, List.mem_filter]
  constructor
  · rintro ⟨x, ⟨h1, h2⟩, h3⟩; exact ⟨x, h1, h3, by rw [Rn.bites_symm]; exact h2⟩
  · rintro ⟨x, h1, h2, h3⟩; exact ⟨x, ⟨h1, by rw [Rn.bites_symm]; exact h3⟩, h2⟩

/-- The two halves of what is asked for: the one that it is not about is empty. -/
def Ask.rn (a : Ask) : Rn := if a.whole then ⟨0, 0, 0, 0⟩ else a.run
def Ask.ow (a : Ask) : Option Nat := if a.whole then some a.o else none
def Ask.wk (a : Ask) : Int := if a.whole then a.k else 0
def bitesW (o : Option Nat) (k : Int) (o' : Option Nat) (k' : Int) : Bool := decide (o ≠ o') && biteB k k'
def bitesQ (b a : Ask) : Bool := decide (b.file = a.file) && (b.rn.bites a.rn || bitesW b.ow b.wk a.ow a.wk)
theorem bitesQ_eq {a b : Ask} (h : b.p ≠ a.p) : bitesQ b a = a.bites b := by
  unfold bitesQ Ask.bites bitesW Ask.rn Ask.ow Ask.wk Rn.bites bitesB Ask.run
  cases ha : a.whole <;> cases hb : b.whole <;> simp [biteB_zero, biteB_zero', h]
  · rw [biteB_comm b.k a.k]
    unfold meetsB
    rw [Bool.eq_iff_iff]; simp; constructor
    · rintro ⟨h1, ⟨h2, h3⟩, h4⟩; exact ⟨⟨h1.symm, h4⟩, h3, h2⟩
    · rintro ⟨⟨h1, h2⟩, h3, h4⟩; exact ⟨h1.symm, ⟨h4, h3⟩, h2⟩
  · rw [biteB_comm b.k a.k, Bool.eq_iff_iff]; simp; constructor
    · rintro ⟨h1, h2, h3⟩; exact ⟨⟨h1.symm, h3⟩, fun e => h2 e.symm⟩
    · rintro ⟨⟨h1, h2⟩, h3⟩; exact ⟨h1.symm, fun e => h3 e.symm, h2⟩
/-- What is in the way, in the program's order. -/
def DS.wayP (s : DS) (a : Ask) (ahead : List Ask) : List (List Int) :=
  ((holders (s.R a.file) a.rn).map fun p => [p]) ++ (((s.W a.file).filter fun w => bitesW (some w.o) w.k a.ow a.wk).map fun w => s.users w.o) ++ ((ahead.filter fun b => bitesQ b a).map fun b => [b.p])
theorem DS.mem_wayP {s : DS} {a : Ask} {l : List Ask} (h : ∀ b, b ∈ l → b.p ≠ a.p) {c : List Int} : c ∈ s.wayP a l ↔ c ∈ s.way a l := by
  have hq : (l.filter fun b => bitesQ b a) = l.filter a.bites := List.filter_congr fun b hb => bitesQ_eq (h b hb)
  unfold DS.wayP DS.way
  rw [hq]
  simp only [List.mem_append]
  have key : (c ∈ ((holders (s.R a.file) a.rn).map fun p => [p]) ∨ c ∈ ((s.W a.file).filter fun w => bitesW (some w.o) w.k a.ow a.wk).map fun w => s.users w.o) ↔
      c ∈ (if a.whole then ((s.W a.file).filter fun w => decide (w.o ≠ a.o) && biteB a.k w.k).map fun w => s.users w.o else (holders (s.R a.file) a.run).map fun q => [q]) := by
    cases ha : a.whole
    · have e1 : a.rn = a.run := by unfold Ask.rn; rw [ha]; rfl
      have e2 : ((s.W a.file).filter fun w => bitesW (some w.o) w.k a.ow a.wk) = [] := List.filter_eq_nil_iff.2 fun w _ => by simp [bitesW, Ask.wk, ha, biteB_zero']
      simp [e1, e2]
    · have e1 : holders (s.R a.file) a.rn = [] := by
        refine holders_of_clear fun x _ => ?_
        rw [Rn.not_bites]
        rintro ⟨_, _, _, h4⟩
        simp [Ask.rn, ha, biteB_zero] at h4
      have e2 : ((s.W a.file).filter fun w => bitesW (some w.o) w.k a.ow a.wk) = (s.W a.file).filter fun w => decide (w.o ≠ a.o) && biteB a.k w.k := List.filter_congr fun w _ => by
        simp [bitesW, Ask.ow, Ask.wk, ha, biteB_comm w.k a.k]
      rw [e1, e2]; simp
  rw [key, or_comm]
theorem DS.wayP_nil {s : DS} {a : Ask} {l : List Ask} (h : ∀ b, b ∈ l → b.p ≠ a.p) : s.wayP a l = [] ↔ s.way a l = [] := by
  simp only [List.eq_nil_iff_forall_not_mem, DS.mem_wayP h]
/-- All that wait, with what is in their way. -/
def DS.wts (s : DS) : List Wt := s.Q.zipIdx.map fun x => (x.1.p, s.wayP x.1 (s.Q.take x.2))
theorem DS.Ones.ahead {s : DS} (h : s.Ones) {i : Nat} {a : Ask} (ha : s.Q[i]? = some a) : ∀ b, b ∈ s.Q.take i → b.p ≠ a.p := fun b hb e => by
  obtain ⟨j, hj⟩ := List.mem_iff_getElem?.1 hb
  rw [List.getElem?_take] at hj
  split at hj
  · rename_i hlt
    have := h.same hj ha e
    omega
  · cases hj
theorem DS.wts_is {s : DS} (h : s.Ones) : Wts s s.wts := by
  refine ⟨by simp [DS.wts], fun i a x ha hx => ?_⟩
  unfold DS.wts at hx
  rw [List.getElem?_map, List.getElem?_zipIdx, ha] at hx
  simp at hx
  subst hx
  exact ⟨rfl, fun c => DS.mem_wayP (h.ahead ha)⟩

theorem DS.take_leave (s : DS) (i : Nat) (a : Ask) : (s.leave i).take a = ((s.take a).1.leave i, (s.take a).2) := by
  unfold DS.take DS.leave
  dsimp only
  split
  · rfl
  · split <;> rfl
theorem filter_erase : ∀ (l : List Ask) (i : Nat) (a : Ask), (l.map (·.p)).Nodup → l[i]? = some a → (l.filter fun b => decide (b.p ≠ a.p)) = l.eraseIdx i
  | [], i, a, _, h => by simp at h
  | b :: l, 0, a, hn, h => by
    simp at h
    subst h
    rw [List.map_cons, List.nodup_cons] at hn
    rw [List.filter_cons, if_neg (by simp)]
    simp only [List.eraseIdx_zero, List.tail_cons]
    refine List.filter_eq_self.2 fun x hx => ?_
    simp only [decide_eq_true_eq]
    exact fun e => hn.1 (List.mem_map.2 ⟨x, hx, e⟩)
  | b :: l, i + 1, a, hn, h => by
    rw [List.map_cons, List.nodup_cons] at hn
    have h' : l[i]? = some a := by simpa using h
    rw [List.filter_cons, if_pos (by simp; exact fun e => hn.1 (List.mem_map.2 ⟨a, List.mem_of_getElem? h', e.symm⟩)), List.eraseIdx_cons_succ, filter_erase l i a hn.2 h']
theorem DS.Ones.leave {s : DS} (h : s.Ones) {i : Nat} {a : Ask} (ha : s.Q[i]? = some a) : {s with Q := s.Q.filter fun b => decide (b.p ≠ a.p)} = s.leave i := by
  unfold DS.leave; rw [filter_erase s.Q i a h ha]
end Go.Proofs.YtaicdjhblbobbabGreat

/- The model's calls as the program makes them: first what changes, then who waits no more. -/
namespace Go.Proofs.YtaicdjhblbobbabGreat

theorem DS.Bas.ones {s : DS} (h : s.Bas) : s.Ones := by
  unfold DS.Ones
  rw [List.nodup_iff_pairwise_ne, List.pairwise_map]
  exact h.qn
/-- Whose waiting ends next, and how. -/
def DS.wake? (s : DS) : Option (Int × DS × Int) := match s.free? with
  | some i => let a := s.Q[i]?.getD default; some (a.p, s.take a)
  | none => match s.last? with
    | some i => some ((s.Q[i]?.getD default).p, s, 10)
    | none => none
theorem DS.settle_wake {s : DS} (h : s.Bas) : match s.wake? with
    | none => s.settle = (s, [])
    | some (p, t, e) => t.Bas ∧ t.Q = s.Q ∧ (∃ a, a ∈ s.Q ∧ a.p = p) ∧ DS.Bas {t with Q := t.Q.filter fun b => decide (b.p ≠ p)} ∧ (t.Q.filter fun b => decide (b.p ≠ p)).length < s.Q.length ∧
      s.settle = ((DS.settle {t with Q := t.Q.filter fun b => decide (b.p ≠ p)}).1, ⟨p, e⟩ :: (DS.settle {t with Q := t.Q.filter fun b => decide (b.p ≠ p)}).2) := by
  unfold DS.wake?
  cases hf : s.free? with
  | some i =>
    obtain ⟨a, ha, hw, _⟩ := DS.free?_some hf
    simp only [ha, Option.getD_some]
    have hm := List.mem_of_getElem? ha
    have hc : s.Clear a := DS.Clear.of_way h hw
    have hb : (s.take a).1.Bas := h.take (h.q a hm).1 hc
    have hq : (s.take a).1.Q = s.Q := DS.take_Q s a
    have he : {(s.take a).1 with Q := (s.take a).1.Q.filter fun b => decide (b.p ≠ a.p)} = (s.take a).1.leave i := hb.ones.leave (by rw [hq]; exact ha)
    refine ⟨hb, hq, ⟨a, hm, rfl⟩, ?_, ?_, ?_⟩
    · rw [he]; exact hb.leave i
    · have := congrArg (fun t : DS => t.Q.length) he
      simp only at this
      rw [this]
      have := DS.leave_len (s := (s.take a).1) (i := i) (by rw [hq]; exact ha)
      rw [hq] at this
      omega
    · rw [he]
      have hl := DS.leave_len (s := (s.take a).1) (i := i) (by rw [hq]; exact ha)
      rw [hq] at hl
      unfold DS.settle
      rw [← hl]
      conv => lhs; unfold DS.settleN
      simp only [hf, ha, Option.getD_some, DS.take_leave]
  | none =>
    cases hl : s.last? with
    | none =>
      simp only
      unfold DS.settle
      cases s.Q.length with
      | zero => rfl
      | succ n => unfold DS.settleN; simp only [hf, hl]
    | some i =>
      obtain ⟨a, ha, _, _⟩ := DS.last?_some hl
      simp only [ha, Option.getD_some]
      have he : {s with Q := s.Q.filter fun b => decide (b.p ≠ a.p)} = s.leave i := h.ones.leave ha
      have hlen := DS.leave_len (s := s) ha
      refine ⟨h, trivial, ⟨a, List.mem_of_getElem? ha, rfl⟩, ?_, ?_, ?_⟩
      · rw [he]; exact h.leave i
      · have := congrArg (fun t : DS => t.Q.length) he
        simp only at this
        rw [this]
        omega
      · rw [he]
        unfold DS.settle
        rw [← hlen]
        conv => lhs; unfold DS.settleN
        simp only [hf, hl, ha, Option.getD_some]
theorem DS.Inv.settle_nil {s : DS} (h : s.Inv) : s.settle = (s, []) := by
  have hf : s.free? = none := by
    cases hf : s.free? with
    | none => rfl
    | some i =>
      obtain ⟨a, ha, hw, _⟩ := DS.free?_some hf
      exact absurd hw (h.free i a ha)
  have hl : s.last? = none := by
    cases hl : s.last? with
    | none => rfl
    | some i =>
      obtain ⟨a, ha, hm, _⟩ := DS.last?_some hl
      rw [h.stk] at hm
      cases hm
  unfold DS.settle
  cases s.Q.length with
  | zero => rfl
  | succ n => unfold DS.settleN; simp only [hf, hl]

/-- What answer makes of a call's end: behind OK it settles. -/
def DS.done (s : DS) (n e : Int) : DS × Rp := if e = 0 then (s.settle.1, ⟨0, n, s.settle.2⟩) else (s, ⟨e, n, []⟩)
theorem DS.Inv.done_num {s : DS} (h : s.Inv) (n : Int) : s.done n 0 = (s, rnum n) := by
  unfold DS.done
  rw [if_pos rfl, h.settle_nil]
  rfl
theorem DS.done_err (s : DS) {e : Int} (h : e ≠ 0) : s.done 0 e = (s, rerr e) := by unfold DS.done; rw [if_neg h]; rfl
theorem DS.done_ok (s : DS) : s.done 0 0 = s.settled := rfl

theorem DS.way_zero {s : DS} {a : Ask} {l : List Ask} (h : a.k = 0) : s.way a l = [] := by
  refine List.eq_nil_iff_forall_not_mem.2 fun c hc => ?_
  rw [DS.mem_way] at hc
  rcases hc with ⟨b, h1, h2, rfl⟩ | ⟨h0, w, h1, h2, h3, rfl⟩ | ⟨h0, q', h1, rfl⟩
  · simp [Ask.bites, h, biteB_zero] at h2
  · rw [h, biteB_zero] at h3; cases h3
  · obtain ⟨_, x, hx, _, hb⟩ := mem_holders.1 h1
    rw [Rn.bites_iff] at hb
    simp [Ask.run, h, biteB_zero] at hb
/-- A lock that is asked for, up to the settling. -/
def DS.ask0 (s : DS) (a : Ask) (wait : Bool) : DS × Int :=
  if s.way a s.Q = [] then s.take a
  else if wait = false then (s, 8)
  else if a.p ∈ (DS.stuck {s with Q := s.Q ++ [a]}) then (s, 10)
  else ({s with Q := s.Q ++ [a]}, 11)
theorem DS.take_err {s : DS} {a : Ask} (h : (s.take a).2 ≠ 0) : (s.take a).1 = s := by
  unfold DS.take at h ⊢
  split at h
  · exact absurd rfl h
  · rename_i hw
    rw [if_neg hw]
    split at h
    · rename_i hl; rw [if_pos hl]
    · exact absurd rfl h
theorem DS.ask_eq (s : DS) (a : Ask) (wait : Bool) : s.ask a wait = (s.ask0 a wait).1.done 0 (s.ask0 a wait).2 := by
  unfold DS.ask DS.ask0
  by_cases hw : s.way a s.Q = []
  · rw [if_pos (Or.inr hw), if_pos hw]
    by_cases he : (s.take a).2 = 0
    · rw [if_neg (by simpa using he), he]; rfl
    · rw [if_pos he, DS.done_err _ he, DS.take_err he]
  · rw [if_neg (by rintro (h | h); exact hw (DS.way_zero h); exact hw h), if_neg hw]
    split
    · rw [DS.done_err _ (by simp)]
    · split
      · rw [DS.done_err _ (by simp)]
      · rw [DS.done_err _ (by simp)]
theorem DS.Bas.ask0 {s : DS} (h : s.Inv) {a : Ask} (ha : s.AskOk a) (hw : s.waits a.p = false) (wait : Bool) : (s.ask0 a wait).1.Bas := by
  have hi := h.ask ha hw wait
  unfold DS.ask0
  by_cases hway : s.way a s.Q = []
  · rw [if_pos hway]
    exact h.toBas.take ha (DS.Clear.of_way h.toBas hway)
  · have hk : a.k ≠ 0 := fun e => hway (DS.way_zero e)
    rw [if_neg hway]
    split
    · exact h.toBas
    · split
      · exact h.toBas
      · rename_i h1 h2
        exact (h.pend ha hk hw hway h2).toBas
end Go.Proofs.YtaicdjhblbobbabGreat
