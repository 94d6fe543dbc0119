/- Scripts of calls on a new Kernel of the model, played by computation. -/
import Derived.Test.YtaicdjhblbobbabGreatGPure
namespace Go.Proofs.YtaicdjhblbobbabGreat

/-- The state behind the calls. -/
def stC (c : List Cl) : DS := (DS.new.steps c).2
/-- The reply of one call more. -/
def rpC (c : List Cl) (x : Cl) : Rp := ((stC c).step x).2
theorem steps_append (s : DS) : ∀ (a b : List Cl), s.steps (a ++ b) = ((s.steps a).1 ++ ((s.steps a).2.steps b).1, ((s.steps a).2.steps b).2)
  | [], b => rfl
  | x :: a, b => by
    simp only [List.cons_append, DS.steps]
    rw [steps_append (s.step x).1 a b]
theorem stC_snoc (c : List Cl) (x : Cl) : stC (c ++ [x]) = ((stC c).step x).1 := by
  unfold stC
  rw [steps_append]
  rfl
theorem stC_inv (c : List Cl) : (stC c).Inv := by
  have : ∀ (c : List Cl) (s : DS), s.Inv → (s.steps c).2.Inv := fun c => by
    induction c with
    | nil => exact fun s h => h
    | cons x t ih => exact fun s h => ih _ (h.step x)
  exact this c _ DS.Inv.new
def forkC (i : Nat) : List Cl := List.replicate i (.fork 0)
def openC (i : Nat) : List Cl := (List.range i).map fun (j : Nat) => .opn (j : Int) 0
/-- n processes, each with its own opening of file 0 as descriptor 0. -/
def someC (n : Nat) : List Cl := forkC (n - 1) ++ openC n
theorem forkC_succ (i : Nat) : forkC (i + 1) = forkC i ++ [.fork 0] := by
  unfold forkC; exact List.replicate_succ'
theorem openC_succ (i : Nat) : openC (i + 1) = openC i ++ [.opn i 0] := by
  unfold openC; rw [List.range_succ, List.map_append]; rfl
theorem fork_reply : ∀ i : Fin 6, 1 ≤ i.val → rpC (forkC (i.val - 1)) (.fork 0) = rnum i.val := by decide +kernel
theorem open_reply : ∀ n : Fin 7, 2 ≤ n.val → ∀ i : Fin 6, i.val < n.val → rpC (forkC (n.val - 1) ++ openC i.val) (.opn i.val 0) = rnum 0 := by decide +kernel
/-- What is refused changes nothing. -/
theorem DS.ask_err {s : DS} {a : Ask} {wait : Bool} (h0 : (s.ask a wait).2.e ≠ 0) (h1 : (s.ask a wait).2.e ≠ 11) : (s.ask a wait).1 = s := by
  unfold DS.ask at *
  split at h0
  · split at h0
    · rename_i h2 h3
      rw [if_pos h2, if_pos h3]
    · exact absurd rfl h0
  · rename_i h2
    rw [if_neg h2] at h1 ⊢
    split at h1
    · rename_i h3; rw [if_pos h3]
    · rename_i h3
      rw [if_neg h3]
      split at h1
      · rename_i h4; rw [if_pos h4]
      · exact absurd rfl h1
theorem DS.step_err {s : DS} {c : Cl} (h0 : (s.step c).2.e ≠ 0) (h1 : (s.step c).2.e ≠ 11) : (s.step c).1 = s := by
  cases c with
  | fork p =>
    simp only [DS.step, DS.fork] at *
    split at h0
    · rename_i h; rw [if_pos h]
    · rename_i h
      rw [if_neg h]
      cases e : ps6.find? fun c => !s.L c.toNat with
      | none => rfl
      | some c => rw [e] at h0; exact absurd rfl h0
  | kill p =>
    simp only [DS.step, DS.kill] at *
    split at h0
    · rename_i h; rw [if_pos h]
    · exact absurd rfl h0
  | opn p f =>
    simp only [DS.step, DS.opn] at *
    split at h0
    · rename_i h; rw [if_pos h]
    · rename_i h
      rw [if_neg h]
      split at h0
      · rename_i h2; rw [if_pos h2]
      · rename_i h2
        rw [if_neg h2]
        cases e : s.least? p with
        | none => rfl
        | some c => rw [e] at h0; exact absurd rfl h0
  | dup p d =>
    simp only [DS.step, DS.dup] at *
    cases e : s.find p d with
    | error x => rfl
    | ok o =>
      rw [e] at h0
      simp only [] at h0 ⊢
      cases e2 : s.least? p with
      | none => rfl
      | some c => rw [e2] at h0; exact absurd rfl h0
  | close p d =>
    simp only [DS.step, DS.close] at *
    cases e : s.find p d with
    | error x => rfl
    | ok o => rw [e] at h0; exact absurd rfl h0
  | lock p d k f l w =>
    simp only [DS.step, DS.lock] at *
    cases e : s.find p d with
    | error x => rfl
    | ok o =>
      rw [e] at h0 h1
      simp only [] at h0 h1 ⊢
      split at h0
      · rename_i h2; rw [if_pos h2]
      · rename_i h2
        rw [if_neg h2] at h1 ⊢
        split at h0
        · rename_i h3; rw [if_pos h3]
        · rename_i h3
          rw [if_neg h3] at h1 ⊢
          exact DS.ask_err h0 h1
  | test p d k f l => rfl
  | whole p d k w =>
    simp only [DS.step, DS.whole] at *
    cases e : s.find p d with
    | error x => rfl
    | ok o =>
      rw [e] at h0 h1
      simp only [] at h0 h1 ⊢
      split at h0
      · rename_i h2; rw [if_pos h2]
      · rename_i h2
        rw [if_neg h2] at h1 ⊢
        exact DS.ask_err h0 h1
theorem stC_err {c : List Cl} {x : Cl} {e : Int} (h : rpC c x = rerr e) (h0 : e ≠ 0) (h1 : e ≠ 11) : ((stC c).step x).1 = stC c := by
  unfold rpC at h
  exact DS.step_err (by rw [h]; exact h0) (by rw [h]; exact h1)
/-- How a process stands: 1, 2, or 5 (it is there, and does not wait). -/
def DS.stateE (s : DS) (p : Int) : Int := if s.may p ≠ 0 then s.may p else 5
theorem test_state (s : DS) (p : Int) : s.step (.test p (-1) 2 0 0) = (s, rerr (s.stateE p)) := by
  simp only [DS.step, DS.test, DS.stateE]
  by_cases h : s.may p = 0
  · have : s.find p (-1) = .error 5 := by unfold DS.find; rw [if_neg (by omega), if_pos (by omega)]
    rw [this, if_neg (by omega)]
  · have : s.find p (-1) = .error (s.may p) := by unfold DS.find; rw [if_pos h]
    rw [this, if_pos h]
end Go.Proofs.YtaicdjhblbobbabGreat

/- The scripts of the statements Ring, Turns, Openings, Closed, Apart, Firm, played by computation. -/
namespace Go.Proofs.YtaicdjhblbobbabGreat

def range' (i : Nat) (f : Nat → Cl) : List Cl := (List.range i).map f
theorem range'_succ (i : Nat) (f : Nat → Cl) : range' (i + 1) f = range' i f ++ [f i] := by
  unfold range'; rw [List.range_succ, List.map_append]; rfl

/- Ring -/
def kindS (sh : Bool) : Int := if sh then 1 else 2
def ringOwn (i : Nat) : Cl := .lock i 0 2 (2 * i) 1 false
def ringAsk (sh : Bool) (i : Nat) : Cl := .lock i 0 (kindS sh) (2 * i + 2) 1 true
def freeP (p : Int) : Cl := .lock p 0 0 0 0 false
def ringA (n i : Nat) : List Cl := someC n ++ range' i ringOwn
def ringB (n : Nat) (sh : Bool) (i : Nat) : List Cl := ringA n n ++ range' i (ringAsk sh)
def ringC (n : Nat) (sh : Bool) : List Cl := ringB n sh (n - 1)
/-- i have let go: those from n - 1 down. -/
def ringD (n : Nat) (sh : Bool) (i : Nat) : List Cl := ringC n sh ++ range' i fun j => freeP ((n : Int) - 1 - j)
theorem ring_own : ∀ n : Fin 7, 2 ≤ n.val → ∀ i : Fin 6, i.val < n.val → rpC (ringA n.val i.val) (ringOwn i.val) = rnum 0 := by decide +kernel
theorem ring_ask : ∀ n : Fin 7, 2 ≤ n.val → ∀ sh : Bool, ∀ i : Fin 6, i.val + 1 < n.val → rpC (ringB n.val sh i.val) (ringAsk sh i.val) = rerr 11 := by decide +kernel
theorem ring_last1 : ∀ n : Fin 7, 2 ≤ n.val → ∀ sh : Bool, rpC (ringC n.val sh) (.lock ((n.val : Int) - 1) 0 (kindS sh) 0 1 true) = rerr 10 := by decide +kernel
theorem ring_last2 : ∀ n : Fin 7, 2 ≤ n.val → ∀ sh : Bool, rpC (ringC n.val sh) (.lock ((n.val : Int) - 1) 0 (kindS sh) 0 1 false) = rerr 8 := by decide +kernel
theorem ring_last3 : ∀ n : Fin 7, 2 ≤ n.val → ∀ sh : Bool, rpC (ringC n.val sh) (freeP 0) = rerr 2 := by decide +kernel
theorem ring_free : ∀ n : Fin 7, 2 ≤ n.val → ∀ sh : Bool, ∀ i : Fin 6, i.val + 1 < n.val → rpC (ringD n.val sh i.val) (freeP ((n.val : Int) - 1 - i.val)) = ⟨0, 0, [⟨(n.val : Int) - 2 - i.val, 0⟩]⟩ := by decide +kernel
theorem ring_end : ∀ n : Fin 7, 2 ≤ n.val → ∀ sh : Bool, (stC (ringD n.val sh (n.val - 1))).waiting = [] := by decide +kernel

/- Turns -/
def turnAsk (ks : List Bool) (j : Nat) : Cl := .lock ((j : Int) + 1) 0 (kindS (ks.getD j false)) 5 5 true
def turnsA (ks : List Bool) (i : Nat) : List Cl := someC (ks.length + 1) ++ [.lock 0 0 2 7 1 false] ++ range' i (turnAsk ks)
def turnsF (ks : List Bool) (p : Nat) : List Cl := turnsA ks ks.length ++ range' p fun j => freeP j
/-- Where the group that begins at at ends. -/
def nxt (ks : List Bool) (at' : Nat) : Nat := if ks.getD at' false then at' + ((ks.drop at').takeWhile id).length else at' + 1
def phasesN (ks : List Bool) : Nat → Nat → Nat → List (Nat × Nat)
  | 0, _, _ => []
  | n + 1, lo, a => (lo, a) :: if a < ks.length then phasesN ks n (a + 1) (nxt ks a) else []
def phases (ks : List Bool) : List (Nat × Nat) := phasesN ks 7 0 0
/-- The processes from a to b. -/
def procsFrom (a b : Nat) : List Int := (List.range (b - a)).map fun (j : Nat) => (((a + j : Nat)) : Int)
theorem procsFrom_get {a b j : Nat} (h : j < b - a) : (procsFrom a b)[j]? = some (((a + j : Nat)) : Int) := by
  unfold procsFrom
  rw [List.getElem?_map, List.getElem?_range h]
  rfl
theorem procsFrom_len (a b : Nat) : (procsFrom a b).length = b - a := by simp [procsFrom]
theorem procsFrom_succ (b : Nat) : procsFrom 0 (b + 1 + 1) = procsFrom 0 (b + 1) ++ [(b : Int) + 1] := by
  unfold procsFrom
  rw [Nat.sub_zero, Nat.sub_zero, List.range_succ, List.map_append]
  simp
def lists : Nat → List (List Bool)
  | 0 => [[]]
  | n + 1 => (lists n).flatMap fun l => [true :: l, false :: l]
theorem mem_lists : ∀ (l : List Bool), l ∈ lists l.length
  | [] => by simp [lists]
  | b :: l => by
    simp only [List.length_cons, lists, List.mem_flatMap]
    exact ⟨l, mem_lists l, by cases b <;> simp⟩
def turnsOk (ks : List Bool) : Bool :=
  decide (rpC (someC (ks.length + 1)) (.lock 0 0 2 7 1 false) = rnum 0) &&
  ((List.range ks.length).all fun i => decide (rpC (turnsA ks i) (turnAsk ks i) = rerr 11)) &&
  decide ((stC (turnsA ks ks.length)).waiting = procsFrom 1 (ks.length + 1)) &&
  (phases ks).all fun x => decide (x.2 ≤ ks.length) && decide (x.1 ≤ x.2) && (decide (x.2 = ks.length) ||
    (((List.range x.2).all fun p => decide (p < x.1) || decide (rpC (turnsF ks p) (freeP p) = rnum 0)) &&
     decide (rpC (turnsF ks x.2) (freeP x.2) = ⟨0, 0, (procsFrom (x.2 + 1) (nxt ks x.2 + 1)).map fun q => ⟨q, 0⟩⟩) &&
     decide ((stC (turnsF ks (x.2 + 1))).waiting = procsFrom (nxt ks x.2 + 1) (ks.length + 1)) &&
     decide ((x.2 + 1, nxt ks x.2) ∈ phases ks)))
theorem turns_all : ∀ m : Fin 6, 1 ≤ m.val → ∀ ks, ks ∈ lists m.val → turnsOk ks = true := by decide +kernel

/- Openings -/
def openD (dup : Bool) : List Cl := [.opn 0 1, .opn 0 1, .whole 0 0 2 false] ++ if dup then [.dup 0 0] else []
def openF (dup : Bool) (i : Nat) : List Cl := openD dup ++ range' i fun _ => .fork 0
def openW (dup : Bool) (n : Nat) : List Cl := openF dup n ++ [.whole 0 1 1 true]
def openK (dup : Bool) (n i : Nat) : List Cl := openW dup n ++ range' i fun j => .kill ((j : Int) + 1)
theorem open_a : rpC [] (.opn 0 1) = rnum 0 ∧ rpC [.opn 0 1] (.opn 0 1) = rnum 1 ∧ rpC [.opn 0 1, .opn 0 1] (.whole 0 0 2 false) = rnum 0 ∧ rpC [.opn 0 1, .opn 0 1, .whole 0 0 2 false] (.dup 0 0) = rnum 2 := by decide +kernel
theorem open_b : ∀ dup : Bool, rpC (openD dup) (.whole 0 1 1 true) = rerr 10 := by decide +kernel
theorem open_c : ∀ dup : Bool, ∀ i : Fin 4, rpC (openF dup i.val) (.fork 0) = rnum ((i.val : Int) + 1) := by decide +kernel
theorem open_d : ∀ dup : Bool, ∀ n : Fin 5, 1 ≤ n.val → (stC (openF dup n.val)).holds 1 = [⟨2, procsFrom 0 (n.val + 1)⟩] ∧ rpC (openF dup n.val) (.whole 0 1 1 true) = rerr 11 := by decide +kernel
theorem open_e : ∀ dup : Bool, ∀ n : Fin 5, 1 ≤ n.val → ∀ o : Fin 5, 1 ≤ o.val → o.val ≤ n.val → rpC (openW dup n.val) (.whole o.val 0 0 false) = ⟨0, 0, [⟨0, 0⟩]⟩ ∧ (stC (openW dup n.val ++ [.whole o.val 0 0 false])).holds 1 = [⟨1, procsFrom 0 (n.val + 1)⟩] ∧ (stC (openW dup n.val ++ [.whole o.val 0 0 false])).waiting = [] := by decide +kernel
theorem open_f : ∀ dup : Bool, ∀ n : Fin 5, 1 ≤ n.val → ∀ i : Fin 4, i.val + 1 < n.val → rpC (openK dup n.val i.val) (.kill ((i.val : Int) + 1)) = rnum 0 := by decide +kernel
theorem open_g : ∀ dup : Bool, ∀ n : Fin 5, 1 ≤ n.val → rpC (openK dup n.val (n.val - 1)) (.kill n.val) = ⟨0, 0, [⟨0, 10⟩]⟩ ∧ (stC (openK dup n.val (n.val - 1) ++ [.kill n.val])).waiting = [] := by decide +kernel

/- Closed -/
def cl0 : List Cl := someC 2
def cl1 (_a : Int) : List Cl := cl0 ++ [.opn 0 0]
def cl2 (a : Int) : List Cl := cl1 a ++ [.dup 0 0]
def cl3 (a : Int) : List Cl := cl2 a ++ [.opn 0 2]
def cl4 (a : Int) : List Cl := cl3 a ++ [.lock 0 0 2 a 2 false]
def cl5 (a : Int) : List Cl := cl4 a ++ [.lock 0 1 1 (a + 4) 2 false]
def cl6 (a : Int) : List Cl := cl5 a ++ [.lock 0 3 2 a 2 false]
def cl7 (a : Int) : List Cl := cl6 a ++ [.lock 1 0 1 (a + 4) 1 false]
def cl8 (a : Int) : List Cl := cl7 a ++ [.whole 0 0 1 false]
def closedR (a : Int) : Bool := decide (rpC (cl0) (.opn 0 0) = rnum 1) && decide (rpC (cl1 a) (.dup 0 0) = rnum 2) && decide (rpC (cl2 a) (.opn 0 2) = rnum 3) && decide (rpC (cl3 a) (.lock 0 0 2 a 2 false) = rnum 0) && decide (rpC (cl4 a) (.lock 0 1 1 (a + 4) 2 false) = rnum 0) && decide (rpC (cl5 a) (.lock 0 3 2 a 2 false) = rnum 0) && decide (rpC (cl6 a) (.lock 1 0 1 (a + 4) 1 false) = rnum 0) && decide (rpC (cl7 a) (.whole 0 0 1 false) = rnum 0)
theorem closed_rep : ∀ a : Fin 50, closedR (a.val : Int) = true := by decide +kernel
def closedOk (a d : Int) : Bool :=
  decide (rpC (cl8 a) (.close 0 d) = rnum 0) &&
  (let s := stC (cl8 a ++ [.close 0 d]); decide ((s.runs 0).map (·.p) = [1]) && decide ((s.runs 2).map (·.p) = [0]) && decide ((s.holds 0).length = 1)) &&
  decide (rpC (cl8 a ++ [.close 0 d]) (.close 0 d) = rerr 5) &&
  decide (rpC (cl8 a ++ [.close 0 d]) (.kill 0) = rnum 0) &&
  (let s := stC (cl8 a ++ [.close 0 d] ++ [.kill 0]); decide ((s.runs 0).length = 1) && decide ((s.runs 2).length = 0) && decide ((s.holds 0).length = 0))
theorem closed_all : ∀ a : Fin 50, ∀ d : Fin 3, closedOk (a.val : Int) (d.val : Int) = true := by decide +kernel
theorem map_one {l : List Rn} {p : Int} (h : l.map (·.p) = [p]) : ∃ r, l = [r] ∧ r.p = p := by
  match l, h with
  | [r], h => exact ⟨r, rfl, by simpa using h⟩

/- Apart -/
def apartC (a : Int) : List Cl := someC 3 ++ [.lock 0 0 2 a 3 false, .lock 1 0 2 a 1 true, .lock 2 0 2 (a + 1) 1 true, .opn 0 1, .whole 0 1 1 false]
def apartOk (a : Int) : Bool :=
  decide ((DS.new.steps (apartC a)).1.drop 5 = [rnum 0, rerr 11, rerr 11, rnum 1, rnum 0]) &&
  (let s := stC (apartC a); decide ((s.runs 0).length = 1) && decide (s.waiting = [1, 2]) && decide (s.holds 1 = [⟨1, [0]⟩])) &&
  decide (rpC (apartC a) (freeP 0) = ⟨0, 0, [⟨1, 0⟩, ⟨2, 0⟩]⟩) &&
  (let s := stC (apartC a ++ [freeP 0]); decide ((s.runs 0).length = 2) && decide (s.waiting = []))
theorem apart_all : ∀ a : Fin 40, apartOk (a.val : Int) = true := by decide +kernel

def ap0 : List Cl := someC 3
def ap1 (a : Int) : List Cl := ap0 ++ [.lock 0 0 2 a 3 false]
def ap2 (a : Int) : List Cl := ap1 a ++ [.lock 1 0 2 a 1 true]
def ap3 (a : Int) : List Cl := ap2 a ++ [.lock 2 0 2 (a + 1) 1 true]
def ap4 (a : Int) : List Cl := ap3 a ++ [.opn 0 1]
theorem apart_rep : ∀ a : Fin 40, rpC ap0 (.lock 0 0 2 a.val 3 false) = rnum 0 ∧ rpC (ap1 a.val) (.lock 1 0 2 a.val 1 true) = rerr 11 ∧ rpC (ap2 a.val) (.lock 2 0 2 (a.val + 1) 1 true) = rerr 11 ∧ rpC (ap3 a.val) (.opn 0 1) = rnum 1 ∧ rpC (ap4 a.val) (.whole 0 1 1 false) = rnum 0 ∧ ap4 a.val ++ [.whole 0 1 1 false] = apartC a.val := by
  have h : ∀ a : Fin 40, rpC ap0 (.lock 0 0 2 a.val 3 false) = rnum 0 ∧ rpC (ap1 a.val) (.lock 1 0 2 a.val 1 true) = rerr 11 ∧ rpC (ap2 a.val) (.lock 2 0 2 (a.val + 1) 1 true) = rerr 11 ∧ rpC (ap3 a.val) (.opn 0 1) = rnum 1 ∧ rpC (ap4 a.val) (.whole 0 1 1 false) = rnum 0 := by decide +kernel
  intro a
  obtain ⟨h1, h2, h3, h4, h5⟩ := h a
  exact ⟨h1, h2, h3, h4, h5, by simp [ap4, ap3, ap2, ap1, ap0, apartC]⟩
theorem apart_end (a : Fin 40) : ((stC (apartC a.val)).runs 0).length = 1 ∧ (stC (apartC a.val)).waiting = [1, 2] ∧ (stC (apartC a.val)).holds 1 = [⟨1, [0]⟩] ∧ rpC (apartC a.val) (freeP 0) = ⟨0, 0, [⟨1, 0⟩, ⟨2, 0⟩]⟩ ∧ ((stC (apartC a.val ++ [freeP 0])).runs 0).length = 2 ∧ (stC (apartC a.val ++ [freeP 0])).waiting = [] := by
  have h := apart_all a
  simp only [apartOk, Bool.and_eq_true, decide_eq_true_eq] at h
  obtain ⟨⟨⟨_, ⟨h1, h2⟩, h3⟩, h4⟩, h5, h6⟩ := h
  exact ⟨h1, h2, h3, h4, h5, h6⟩

/- Firm -/
def firmC : List Cl := someC 2 ++ [.lock 0 0 2 10 5 false, .whole 0 0 2 false, .lock 1 0 1 12 1 true]
def firmD (i : Nat) : List Cl := firmC ++ range' i fun _ => .dup 0 0
def firmF (i : Nat) : List Cl := firmD 4 ++ range' i fun _ => .fork 0
theorem firm_a : (DS.new.steps firmC).1.drop 3 = [rnum 0, rnum 0, rerr 11] := by decide +kernel
theorem firm_b : ∀ i : Fin 4, rpC (firmD i.val) (.dup 0 0) = rnum ((i.val : Int) + 1) := by decide +kernel
theorem firm_c : rpC (firmD 4) (.dup 0 0) = rerr 3 ∧ rpC (firmD 4) (.opn 0 0) = rerr 3 ∧ rpC (firmD 4) (.opn 0 9) = rerr 4 := by decide +kernel
theorem firm_d : ∀ i : Fin 4, rpC (firmF i.val) (.fork 0) = rnum ((i.val : Int) + 2) := by decide +kernel
theorem firm_e : rpC (firmF 4) (.fork 0) = rerr 3 ∧ (stC (firmF 4)).runs 0 = [⟨0, 2, 10, 14⟩] ∧ ((stC (firmF 4)).holds 0).map (fun h => h.ps.length) = [5] ∧ (stC (firmF 4)).waiting = [1] := by decide +kernel
end Go.Proofs.YtaicdjhblbobbabGreat
