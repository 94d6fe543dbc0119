/- The plain mathematics of runs: lists of runs by their first positions, cut and joined; no program in sight. -/
import Derived.Below
namespace Go.Proofs.Ytafgecmenadhdaa

def biteB (a b : Int) : Bool := if a = 0 ∨ b = 0 then false else decide (a = 2 ∨ b = 2)
def meetsB (f t g u : Int) : Bool := decide (f ≤ u) && decide (g ≤ t)
def bitesB (p k f t q l g u : Int) : Bool := decide (p ≠ q) && meetsB f t g u && biteB k l
def contB (p k f t q l g u : Int) : Bool := decide (p = q) && decide (k = l) && (decide (t + 1 = g) || decide (u + 1 = f))
def kindB (n : Int) : Bool := decide (0 ≤ n) && decide (n ≤ 2)
def cmpI (a b : Int) : Int := if a < b then -1 else if b < a then 1 else 0
/-- The order of two runs: by their first positions, then by their processes. -/
def orI (a b : Int) : Int := if a = 0 then b else a
def ordI (p f q g : Int) : Int := orI (cmpI f g) (cmpI p q)
def badS (f l : Int) : Bool := decide (f < 0) || decide (64 < f) || decide (l < -64) || decide (64 < l) || (decide (l = 0) && decide (63 < f)) || (decide (0 < l) && decide (64 < f + l)) || (decide (l < 0) && decide (f + l < 0))
def fromS (f l : Int) : Int := if l < 0 then f + l else f
def toS (f l : Int) : Int := if l = 0 then 63 else if 0 < l then f + l - 1 else f - 1
theorem bounds_ok {f l : Int} (h : badS f l = false) : 0 ≤ fromS f l ∧ fromS f l ≤ toS f l ∧ toS f l ≤ 63 := by
  simp [badS] at h
  unfold fromS toS
  (repeat' split) <;> omega
theorem cmpI_bd (a b : Int) : -1 ≤ cmpI a b ∧ cmpI a b ≤ 1 := by unfold cmpI; (repeat' split) <;> omega

/-- A run: the process, the kind, the first and the last position. -/
structure Rn where
  p : Int
  k : Int
  f : Int
  t : Int
  deriving DecidableEq, Inhabited
def Rn.ord (a b : Rn) : Int := ordI a.p a.f b.p b.f

/-- a stands ahead of b. -/
def Rn.lt (a b : Rn) : Prop := a.f < b.f ∨ (a.f = b.f ∧ a.p < b.p)
theorem ord_neg (a b : Rn) : a.ord b < 0 ↔ a.lt b := by
  unfold Rn.ord ordI orI cmpI Rn.lt
  (repeat' split) <;> omega
theorem Rn.lt_trans' {a b c : Rn} (h : ¬ b.lt a) (k : b.lt c) : a.lt c := by unfold Rn.lt at *; omega

/-- Sorted, weakly. -/
def Srt (l : List Rn) : Prop := l.Pairwise fun a b => ¬ b.lt a

/-- How many stand ahead of r. -/
def posR (l : List Rn) (r : Rn) : Nat := l.countP fun x => decide (x.ord r < 0)
/-- The list with one run more, at place i. -/
def insAt (l : List Rn) (i : Nat) (r : Rn) : List Rn := l.take i ++ r :: l.drop i
def insR (l : List Rn) (r : Rn) : List Rn := insAt l (posR l r) r

theorem posR_le (l : List Rn) (r : Rn) : posR l r ≤ l.length := List.countP_le_length
theorem Srt.boundary : ∀ (l : List Rn) (r : Rn), Srt l → (∀ t x, l[t]? = some x → t < posR l r → x.ord r < 0) ∧ (∀ t x, l[t]? = some x → posR l r ≤ t → 0 ≤ x.ord r)
  | [], r, _ => ⟨by simp, by simp⟩
  | a :: l, r, h => by
    have h' := List.pairwise_cons.1 h
    obtain ⟨ih1, ih2⟩ := Srt.boundary l r h'.2
    by_cases ha : a.ord r < 0
    · have e : posR (a :: l) r = posR l r + 1 := by simp [posR, ha]
      rw [e]
      refine ⟨fun t x hx ht => ?_, fun t x hx ht => ?_⟩
      · cases t with
        | zero => simp at hx; subst hx; exact ha
        | succ t => exact ih1 t x (by simpa using hx) (by omega)
      · cases t with
        | zero => omega
        | succ t => exact ih2 t x (by simpa using hx) (by omega)
    · have hall : ∀ x, x ∈ l → ¬ x.ord r < 0 := fun x hx hlt => by
        rw [ord_neg] at hlt ha
        exact ha (Rn.lt_trans' (h'.1 x hx) hlt)
      have e : posR (a :: l) r = 0 := by
        unfold posR
        rw [List.countP_eq_zero]
        intro x hx
        rcases List.mem_cons.1 hx with rfl | hx
        · simpa using ha
        · simpa using hall x hx
      rw [e]
      refine ⟨fun t x _ ht => absurd ht (Nat.not_lt_zero _), fun t x hx _ => ?_⟩
      have hm : x ∈ a :: l := List.mem_of_getElem? hx
      rcases List.mem_cons.1 hm with rfl | hm
      · omega
      · have := hall x hm; omega

theorem Srt.ins {l : List Rn} (h : Srt l) (r : Rn) : Srt (insR l r) := by
  obtain ⟨h1, h2⟩ := Srt.boundary l r h
  unfold insR insAt Srt
  rw [List.pairwise_append]
  have ht : ∀ x, x ∈ l.take (posR l r) → x.lt r := fun x hx => by
    obtain ⟨t, ht, rfl⟩ := List.getElem_of_mem hx
    rw [List.length_take] at ht
    rw [← ord_neg]
    exact h1 t _ (by rw [List.getElem_take]; exact List.getElem?_eq_getElem (by omega)) (by omega)
  have hd : ∀ x, x ∈ l.drop (posR l r) → ¬ x.lt r := fun x hx => by
    obtain ⟨t, ht, rfl⟩ := List.getElem_of_mem hx
    rw [List.length_drop] at ht
    rw [← ord_neg]
    have := h2 (posR l r + t) _ (List.getElem?_eq_getElem (by omega)) (by omega)
    rw [List.getElem_drop]
    omega
  refine ⟨List.Pairwise.sublist (List.take_sublist _ _) h, List.pairwise_cons.2 ⟨fun x hx => hd x hx, List.Pairwise.sublist (List.drop_sublist _ _) h⟩, fun a ha b hb => ?_⟩
  rcases List.mem_cons.1 hb with rfl | hb
  · have := ht a ha
    unfold Rn.lt at *; omega
  · have := ht a ha
    have := hd b hb
    unfold Rn.lt at *; omega
theorem length_insR (l : List Rn) (r : Rn) : (insR l r).length = l.length + 1 := by
  have := posR_le l r
  simp [insR, insAt]; omega
theorem mem_insR {l : List Rn} {r x : Rn} : x ∈ insR l r ↔ x = r ∨ x ∈ l := by
  unfold insR insAt
  rw [List.mem_append, List.mem_cons]
  conv => rhs; rw [← List.take_append_drop (posR l r) l, List.mem_append]
  constructor <;> (rintro h; rcases h with h | h | h) <;> simp [h]

/-- One round of cut: what is left of r without the hole's positions comes to rest. -/
def cutS (h : Rn) (rest : List Rn) (r : Rn) : List Rn :=
  if r.p ≠ h.p ∨ meetsB r.f r.t h.f h.t = false then insR rest r else
  let a := if r.f < h.f then insR rest ⟨r.p, r.k, r.f, h.f - 1⟩ else rest
  if h.t < r.t then insR a ⟨r.p, r.k, h.t + 1, r.t⟩ else a
def cutR (l : List Rn) (h : Rn) : List Rn := l.foldl (cutS h) []

/-- One round of join: o comes to rest, or r takes it in. -/
def joinS (s : List Rn × Rn) (o : Rn) : List Rn × Rn :=
  if contB o.p o.k o.f o.t s.2.p s.2.k s.2.f s.2.t = false then (insR s.1 o, s.2) else (s.1, ⟨s.2.p, s.2.k, min s.2.f o.f, max s.2.t o.t⟩)
def joinR (l : List Rn) (r : Rn) : List Rn := let s := l.foldl joinS ([], r); insR s.1 s.2
def setR (l : List Rn) (r : Rn) : List Rn := if r.k = 0 then cutR l r else joinR (cutR l r) r

theorem Srt.cutS {h : Rn} {rest : List Rn} (hr : Srt rest) (r : Rn) : Srt (cutS h rest r) := by
  unfold Go.Proofs.Ytafgecmenadhdaa.cutS
  split
  · exact hr.ins r
  · dsimp only
    split <;> split <;> first | exact (hr.ins _).ins _ | exact hr.ins _ | exact hr
theorem length_cutS (h : Rn) (rest : List Rn) (r : Rn) : (cutS h rest r).length ≤ rest.length + 2 := by
  unfold cutS
  split
  · rw [length_insR]; omega
  · dsimp only
    split <;> split <;> (try simp only [length_insR]) <;> omega
theorem Srt.cutR (l : List Rn) (h : Rn) : Srt (cutR l h) := by
  have : ∀ (l rest : List Rn), Srt rest → Srt (l.foldl (Go.Proofs.Ytafgecmenadhdaa.cutS h) rest) := fun l => by
    induction l with
    | nil => exact fun _ h => h
    | cons a t ih => exact fun rest hr => ih _ (hr.cutS a)
  exact this l [] List.Pairwise.nil
theorem length_cutR (l : List Rn) (h : Rn) : (cutR l h).length ≤ l.length * 2 := by
  have : ∀ (l rest : List Rn), (l.foldl (cutS h) rest).length ≤ rest.length + l.length * 2 := fun l => by
    induction l with
    | nil => exact fun _ => by simp
    | cons a t ih => exact fun rest => by have := ih (cutS h rest a); have := length_cutS h rest a; simp only [List.foldl_cons, List.length_cons]; omega
  have := this l []
  simpa [cutR] using this
end Go.Proofs.Ytafgecmenadhdaa
