/- The plain mathematics of runs: lists of runs by their first positions, cut and joined; no program in sight. -/
import Derived.Below
namespace Go.Proofs.YtaicdjhblbobbabGreat

def biteB (a b : Int) : Bool := if a = 0 ∨ b = 0 then false else decide (a = 2 ∨ b = 2)
def meetsB (f t g u : Int) : Bool := decide (f ≤ u) && decide (g ≤ t)
def bitesB (p k f t q l g u : Int) : Bool := decide (p ≠ q) && meetsB f t g u && biteB k l
def contB (p k f t q l g u : Int) : Bool := decide (p = q) && decide (k = l) && (decide (t + 1 = g) || decide (u + 1 = f))
def kindB (n : Int) : Bool := decide (0 ≤ n) && decide (n ≤ 2)
def cmpI (a b : Int) : Int := if a < b then -1 else if b < a then 1 else 0
/-- The order of two runs: by their first positions, then by their processes. -/
def orI (a b : Int) : Int := if a = 0 then b else a
def ordI (p f q g : Int) : Int := orI (cmpI f g) (cmpI p q)
def badS (f l : Int) : Bool := decide (f < 0) || decide (64 < f) || decide (l < -64) || decide (64 < l) || (decide (l = 0) && decide (63 < f)) || (decide (0 < l) && decide (64 < f + l)) || (decide (l < 0) && decide (f + l < 0))
def fromS (f l : Int) : Int := if l < 0 then f + l else f
def toS (f l : Int) : Int := if l = 0 then 63 else if 0 < l then f + l - 1 else f - 1
theorem bounds_ok {f l : Int} (h : badS f l = false) : 0 ≤ fromS f l ∧ fromS f l ≤ toS f l ∧ toS f l ≤ 63 := by
  simp [badS] at h
  unfold fromS toS
  (repeat' split) <;> omega
theorem cmpI_bd (a b : Int) : -1 ≤ cmpI a b ∧ cmpI a b ≤ 1 := by unfold cmpI; (repeat' split) <;> omega

def updF (F : Int → Int → Option Nat) (p d : Int) (o : Option Nat) : Int → Int → Option Nat := fun q e => if q = p ∧ e = d then o else F q e
def L0 : Nat → Bool := fun j => j == 0
def updL (L : Nat → Bool) (c : Nat) (v : Bool) : Nat → Bool := fun j => if j = c then v else L j
/-- What a process that was forked has: the descriptors below k. -/
def copyF (F : Int → Int → Option Nat) (p c : Int) (k : Nat) : Int → Int → Option Nat := fun q e => if q = c ∧ 0 ≤ e ∧ e < k then F p e else F q e
def liveB (L : Nat → Bool) (p : Int) : Bool := decide (0 ≤ p) && decide (p < 6) && L p.toNat
/-- A run: the process, the kind, the first and the last position. -/
structure Rn where
  p : Int
  k : Int
  f : Int
  t : Int
  deriving DecidableEq, Inhabited
def Rn.ord (a b : Rn) : Int := ordI a.p a.f b.p b.f

/-- a stands ahead of b. -/
def Rn.lt (a b : Rn) : Prop := a.f < b.f ∨ (a.f = b.f ∧ a.p < b.p)
theorem ord_neg (a b : Rn) : a.ord b < 0 ↔ a.lt b := by
  unfold Rn.ord ordI orI cmpI Rn.lt
  (repeat' split) <;> omega
theorem Rn.lt_trans' {a b c : Rn} (h : ¬ b.lt a) (k : b.lt c) : a.lt c := by unfold Rn.lt at *; omega

/-- Sorted, weakly. -/
def Srt (l : List Rn) : Prop := l.Pairwise fun a b => ¬ b.lt a

/-- How many stand ahead of r. -/
def posR (l : List Rn) (r : Rn) : Nat := l.countP fun x => decide (x.ord r < 0)
/-- The list with one run more, at place i. -/
def insAt (l : List Rn) (i : Nat) (r : Rn) : List Rn := l.take i ++ r :: l.drop i
def insR (l : List Rn) (r : Rn) : List Rn := insAt l (posR l r) r

theorem posR_le (l : List Rn) (r : Rn) : posR l r ≤ l.length := List.countP_le_length
theorem Srt.boundary : ∀ (l : List Rn) (r : Rn), Srt l → (∀ t x, l[t]? = some x → t < posR l r → x.ord r < 0) ∧ (∀ t x, l[t]? = some x → posR l r ≤ t → 0 ≤ x.ord r)
  | [], r, _ => ⟨by simp, by simp⟩
  | a :: l, r, h => by
    have h' := List.pairwise_cons.1 h
    obtain ⟨ih1, ih2⟩ := Srt.boundary l r h'.2
    by_cases ha : a.ord r < 0
    · have e : posR (a :: l) r = posR l r + 1 := by simp [posR, ha]
      rw [e]
      refine ⟨fun t x hx ht => ?_, fun t x hx ht => ?_⟩
      · cases t with
        | zero => simp at hx; subst hx; exact ha
        | succ t => exact ih1 t x (by simpa using hx) (by omega)
      · cases t with
        | zero => omega
        | succ t => exact ih2 t x (by simpa using hx) (by omega)
    · have hall : ∀ x, x ∈ l → ¬ x.ord r < 0 := fun x hx hlt => by
        rw [ord_neg] at hlt ha
        exact ha (Rn.lt_trans' (h'.1 x hx) hlt)
      have e : posR (a :: l) r = 0 := by
        unfold posR
        rw [List.countP_eq_zero]
        intro x hx
        rcases List.mem_cons.1 hx with rfl | hx
        · simpa using ha
        · simpa using hall x hx
      rw [e]
      refine ⟨fun t x _ ht => absurd ht (Nat.not_lt_zero _), fun t x hx _ => ?_⟩
      have hm : x ∈ a :: l := List.mem_of_getElem? hx
      rcases List.mem_cons.1 hm with rfl | hm
      · omega
      · have := hall x hm; omega

theorem Srt.ins {l : List Rn} (h : Srt l) (r : Rn) : Srt (insR l r) := by
  obtain ⟨h1, h2⟩ := Srt.boundary l r h
  unfold insR insAt Srt
  rw [List.pairwise_append]
  have ht : ∀ x, x ∈ l.take (posR l r) → x.lt r := fun x hx => by
    obtain ⟨t, ht, rfl⟩ := List.getElem_of_mem hx
    rw [List.length_take] at ht
    rw [← ord_neg]
    exact h1 t _ (by rw [List.getElem_take]; exact List.getElem?_eq_getElem (by omega)) (by omega)
  have hd : ∀ x, x ∈ l.drop (posR l r) → ¬ x.lt r := fun x hx => by
    obtain ⟨t, ht, rfl⟩ := List.getElem_of_mem hx
    rw [List.length_drop] at ht
    rw [← ord_neg]
    have := h2 (posR l r + t) _ (List.getElem?_eq_getElem (by omega)) (by omega)
    rw [List.getElem_drop]
    omega
  refine ⟨List.Pairwise.sublist (List.take_sublist _ _) h, List.pairwise_cons.2 ⟨fun x hx => hd x hx, List.Pairwise.sublist (List.drop_sublist _ _) h⟩, fun a ha b hb => ?_⟩
  rcases List.mem_cons.1 hb with rfl | hb
  · have := ht a ha
    unfold Rn.lt at *; omega
  · have := ht a ha
    have := hd b hb
    unfold Rn.lt at *; omega
theorem length_insR (l : List Rn) (r : Rn) : (insR l r).length = l.length + 1 := by
  have := posR_le l r
  simp [insR, insAt]; omega
theorem mem_insR {l : List Rn} {r x : Rn} : x ∈ insR l r ↔ x = r ∨ x ∈ l := by
  unfold insR insAt
  rw [List.mem_append, List.mem_cons]
  conv => rhs; rw [← List.take_append_drop (posR l r) l, List.mem_append]
  constructor <;> (rintro h; rcases h with h | h | h) <;> simp [h]

/-- One round of cut: what is left of r without the hole's positions comes to rest. -/
def cutS (h : Rn) (rest : List Rn) (r : Rn) : List Rn :=
  if r.p ≠ h.p ∨ meetsB r.f r.t h.f h.t = false then insR rest r else
  let a := if r.f < h.f then insR rest ⟨r.p, r.k, r.f, h.f - 1⟩ else rest
  if h.t < r.t then insR a ⟨r.p, r.k, h.t + 1, r.t⟩ else a
def cutR (l : List Rn) (h : Rn) : List Rn := l.foldl (cutS h) []

/-- One round of join: o comes to rest, or r takes it in. -/
def joinS (s : List Rn × Rn) (o : Rn) : List Rn × Rn :=
  if contB o.p o.k o.f o.t s.2.p s.2.k s.2.f s.2.t = false then (insR s.1 o, s.2) else (s.1, ⟨s.2.p, s.2.k, min s.2.f o.f, max s.2.t o.t⟩)
def joinR (l : List Rn) (r : Rn) : List Rn := let s := l.foldl joinS ([], r); insR s.1 s.2
def setR (l : List Rn) (r : Rn) : List Rn := if r.k = 0 then cutR l r else joinR (cutR l r) r

theorem Srt.cutS {h : Rn} {rest : List Rn} (hr : Srt rest) (r : Rn) : Srt (cutS h rest r) := by
  unfold Go.Proofs.YtaicdjhblbobbabGreat.cutS
  split
  · exact hr.ins r
  · dsimp only
    split <;> split <;> first | exact (hr.ins _).ins _ | exact hr.ins _ | exact hr
theorem length_cutS (h : Rn) (rest : List Rn) (r : Rn) : (cutS h rest r).length ≤ rest.length + 2 := by
  unfold cutS
  split
  · rw [length_insR]; omega
  · dsimp only
    split <;> split <;> (try simp only [length_insR]) <;> omega
theorem Srt.cutR (l : List Rn) (h : Rn) : Srt (cutR l h) := by
  have : ∀ (l rest : List Rn), Srt rest → Srt (l.foldl (Go.Proofs.YtaicdjhblbobbabGreat.cutS h) rest) := fun l => by
    induction l with
    | nil => exact fun _ h => h
    | cons a t ih => exact fun rest hr => ih _ (hr.cutS a)
  exact this l [] List.Pairwise.nil
theorem length_cutR (l : List Rn) (h : Rn) : (cutR l h).length ≤ l.length * 2 := by
  have : ∀ (l rest : List Rn), (l.foldl (cutS h) rest).length ≤ rest.length + l.length * 2 := fun l => by
    induction l with
    | nil => exact fun _ => by simp
    | cons a t ih => exact fun rest => by have := ih (cutS h rest a); have := length_cutS h rest a; simp only [List.foldl_cons, List.length_cons]; omega
  have := this l []
  simpa [cutR] using this
end Go.Proofs.YtaicdjhblbobbabGreat

/- Plain facts on join's rounds: sorted, bounded, small. -/
namespace Go.Proofs.YtaicdjhblbobbabGreat

/-- Its positions are small numbers. -/
def Rn.sm (r : Rn) : Prop := -100 ≤ r.f ∧ r.f ≤ 100 ∧ -100 ≤ r.t ∧ r.t ≤ 100
structure JoinOk (s : List Rn × Rn) (n : Nat) : Prop where
  srt : Srt s.1
  len : s.1.length ≤ n
  sm : s.2.sm
theorem JoinOk.step {s : List Rn × Rn} {n : Nat} (h : JoinOk s n) {o : Rn} (ho : o.sm) : JoinOk (joinS s o) (n + 1) := by
  unfold joinS
  split
  · exact ⟨h.srt.ins o, by rw [length_insR]; have := h.len; omega, h.sm⟩
  · refine ⟨h.srt, Nat.le_succ_of_le h.len, ?_⟩
    have := h.sm
    unfold Rn.sm at *
    simp only
    omega
theorem JoinOk.fold : ∀ (l : List Rn) (r : Rn), r.sm → (∀ x, x ∈ l → x.sm) → ∀ i, i ≤ l.length → JoinOk ((l.take i).foldl joinS ([], r)) i := fun l r hr hl i => by
  induction i with
  | zero => exact fun _ => ⟨List.Pairwise.nil, by simp, by simpa using hr⟩
  | succ i ih =>
    intro hi
    have hx : l[i]? = some l[i] := List.getElem?_eq_getElem (by omega)
    rw [List.take_add_one, hx]
    simp only [Option.toList_some, List.foldl_append, List.foldl_cons, List.foldl_nil]
    exact (ih (by omega)).step (hl _ (List.getElem_mem _))

end Go.Proofs.YtaicdjhblbobbabGreat

/- The plain theory of lists of runs: what a process has on a position; lists in good form are told by that alone; what a lock that comes or goes makes of it. -/
namespace Go.Proofs.YtaicdjhblbobbabGreat

/-- What process p has on position i. -/
def cellR (l : List Rn) (p i : Int) : Int := ((l.find? fun r => decide (r.p = p ∧ r.f ≤ i ∧ i ≤ r.t)).map (·.k)).getD 0
def Rn.fine (r : Rn) : Prop := 0 ≤ r.f ∧ r.f ≤ r.t ∧ r.t ≤ 63 ∧ (r.k = 1 ∨ r.k = 2)
/-- Two runs of one process have no position in common, and are not side by side with one kind. -/
def Rn.apart (a b : Rn) : Prop := a.p = b.p → (a.t < b.f ∨ b.t < a.f) ∧ (a.k = b.k → a.t + 1 ≠ b.f ∧ b.t + 1 ≠ a.f)
theorem Rn.apart.symm {a b : Rn} (h : a.apart b) : b.apart a := fun e => by
  obtain ⟨h1, h2⟩ := h e.symm
  exact ⟨by omega, fun hk => by have := h2 hk.symm; omega⟩
structure WF (l : List Rn) : Prop where
  srt : Srt l
  ok : ∀ x, x ∈ l → x.fine
  ap : l.Pairwise Rn.apart

theorem ap_mem {l : List Rn} (h : l.Pairwise Rn.apart) {x y : Rn} (hx : x ∈ l) (hy : y ∈ l) : x = y ∨ x.apart y := by
  induction l with
  | nil => cases hx
  | cons a t ih =>
    obtain ⟨h1, h2⟩ := List.pairwise_cons.1 h
    rcases List.mem_cons.1 hx with ex | hx' <;> rcases List.mem_cons.1 hy with ey | hy'
    · exact Or.inl (ex.trans ey.symm)
    · rw [ex]; exact Or.inr (h1 y hy')
    · rw [ey]; exact Or.inr (h1 x hx').symm
    · exact ih h2 hx' hy'
/-- Two runs that have a position in common for one process are one. -/
theorem ap_one {l : List Rn} (h : l.Pairwise Rn.apart) {x y : Rn} (hx : x ∈ l) (hy : y ∈ l) (hp : x.p = y.p) {i : Int} (h1 : x.f ≤ i) (h2 : i ≤ x.t) (h3 : y.f ≤ i) (h4 : i ≤ y.t) : x = y := by
  rcases ap_mem h hx hy with e | e
  · exact e
  · have := (e hp).1; omega

theorem cellR_mem {l : List Rn} (h : l.Pairwise Rn.apart) {x : Rn} (hx : x ∈ l) {i : Int} (h1 : x.f ≤ i) (h2 : i ≤ x.t) : cellR l x.p i = x.k := by
  unfold cellR
  cases hf : l.find? fun r => decide (r.p = x.p ∧ r.f ≤ i ∧ i ≤ r.t) with
  | none =>
    have := List.find?_eq_none.1 hf x hx
    simp at this; omega
  | some y =>
    have hy := List.mem_of_find?_eq_some hf
    have hc := List.find?_some hf
    simp at hc
    rw [ap_one h hy hx hc.1 hc.2.1 hc.2.2 h1 h2]
    rfl
theorem cellR_none {l : List Rn} {p i : Int} (h : ∀ x, x ∈ l → ¬ (x.p = p ∧ x.f ≤ i ∧ i ≤ x.t)) : cellR l p i = 0 := by
  unfold cellR
  rw [List.find?_eq_none.2 (fun x hx => by simpa using fun h1 h2 => by have := h x hx; simp [h1, h2] at this; omega)]
  rfl
theorem cellR_some {l : List Rn} {p i : Int} (h : cellR l p i ≠ 0) : ∃ x, x ∈ l ∧ x.p = p ∧ x.f ≤ i ∧ i ≤ x.t ∧ x.k = cellR l p i := by
  unfold cellR at *
  cases hf : l.find? fun r => decide (r.p = p ∧ r.f ≤ i ∧ i ≤ r.t) with
  | none => rw [hf] at h; exact absurd rfl h
  | some y =>
    have hc := List.find?_some hf
    simp at hc
    exact ⟨y, List.mem_of_find?_eq_some hf, hc.1, hc.2.1, hc.2.2, rfl⟩
/-- By cases: p has something on i by one run, or nothing. -/
theorem cellR_cases {l : List Rn} (h : l.Pairwise Rn.apart) (p i : Int) : (∃ x, x ∈ l ∧ x.p = p ∧ x.f ≤ i ∧ i ≤ x.t ∧ cellR l p i = x.k) ∨ ((∀ x, x ∈ l → ¬ (x.p = p ∧ x.f ≤ i ∧ i ≤ x.t)) ∧ cellR l p i = 0) := by
  by_cases hx : ∃ x, x ∈ l ∧ x.p = p ∧ x.f ≤ i ∧ i ≤ x.t
  · obtain ⟨x, h1, rfl, h3, h4⟩ := hx
    exact Or.inl ⟨x, h1, rfl, h3, h4, cellR_mem h h1 h3 h4⟩
  · have h0 : ∀ x, x ∈ l → ¬ (x.p = p ∧ x.f ≤ i ∧ i ≤ x.t) := fun x hx1 hx2 => hx ⟨x, hx1, hx2.1, hx2.2.1, hx2.2.2⟩
    exact Or.inr ⟨h0, cellR_none h0⟩

/-- A run is as long as it can be. -/
def MaxRun (c : Int → Int → Int) (x : Rn) : Prop := x.fine ∧ (∀ i, x.f ≤ i → i ≤ x.t → c x.p i = x.k) ∧ c x.p (x.f - 1) ≠ x.k ∧ c x.p (x.t + 1) ≠ x.k
theorem WF.max {l : List Rn} (h : WF l) {x : Rn} (hx : x ∈ l) : MaxRun (cellR l) x := by
  have hf := h.ok x hx
  have hf' := hf
  unfold Rn.fine at hf'
  refine ⟨hf, fun i h1 h2 => cellR_mem h.ap hx h1 h2, fun he => ?_, fun he => ?_⟩
  · obtain ⟨y, hy, hp, h1, h2, hk⟩ := cellR_some (l := l) (p := x.p) (i := x.f - 1) (by omega)
    rcases ap_mem h.ap hx hy with rfl | ha
    · omega
    · obtain ⟨a1, a2⟩ := ha hp.symm
      have := a2 (by rw [hk, he])
      have := h.ok y hy; unfold Rn.fine at this; omega
  · obtain ⟨y, hy, hp, h1, h2, hk⟩ := cellR_some (l := l) (p := x.p) (i := x.t + 1) (by omega)
    rcases ap_mem h.ap hx hy with rfl | ha
    · omega
    · obtain ⟨a1, a2⟩ := ha hp.symm
      have := a2 (by rw [hk, he])
      have := h.ok y hy; unfold Rn.fine at this; omega
theorem WF.of_max {l : List Rn} (h : WF l) {x : Rn} (hx : MaxRun (cellR l) x) : x ∈ l := by
  obtain ⟨hf, h1, h2, h3⟩ := hx
  unfold Rn.fine at hf
  have hc := h1 x.f (by omega) (by omega)
  obtain ⟨y, hy, hp, y1, y2, hk⟩ := cellR_some (l := l) (p := x.p) (i := x.f) (by omega)
  rw [hc] at hk
  obtain ⟨_, g1, g2, g3⟩ := h.max hy
  have e1 : y.f = x.f := by
    by_cases e : y.f = x.f
    · exact e
    · have := g1 (x.f - 1) (by omega) (by omega)
      rw [hp, hk] at this; exact absurd this h2
  have e2 : y.t = x.t := by
    rcases Int.lt_trichotomy y.t x.t with e | e | e
    · have := h1 (y.t + 1) (by omega) (by omega)
      rw [hp, hk] at g3; exact absurd this g3
    · exact e
    · have := g1 (x.t + 1) (by omega) (by omega)
      rw [hp, hk] at this; exact absurd this h3
  have : y = x := by cases y; cases x; simp_all
  rw [← this]; exact hy

theorem strict_eq : ∀ (l m : List Rn), l.Pairwise Rn.lt → m.Pairwise Rn.lt → (∀ x, x ∈ l ↔ x ∈ m) → l = m
  | [], [], _, _, _ => rfl
  | [], b :: m, _, _, h => absurd ((h b).2 List.mem_cons_self) (by simp)
  | a :: l, [], _, _, h => absurd ((h a).1 List.mem_cons_self) (by simp)
  | a :: l, b :: m, hl, hm, h => by
    obtain ⟨l1, l2⟩ := List.pairwise_cons.1 hl
    obtain ⟨m1, m2⟩ := List.pairwise_cons.1 hm
    have hab : a = b := by
      rcases List.mem_cons.1 ((h a).1 List.mem_cons_self) with e | e
      · exact e
      · rcases List.mem_cons.1 ((h b).2 List.mem_cons_self) with e' | e'
        · exact e'.symm
        · have x1 := m1 a e
          have x2 := l1 b e'
          unfold Rn.lt at x1 x2; omega
    subst hab
    have : l = m := strict_eq l m l2 m2 fun x => by
      have hx := h x
      simp only [List.mem_cons] at hx
      constructor
      · intro hxl
        rcases hx.1 (Or.inr hxl) with e | e
        · subst e; have := l1 _ hxl; unfold Rn.lt at this; omega
        · exact e
      · intro hxm
        rcases hx.2 (Or.inr hxm) with e | e
        · subst e; have := m1 _ hxm; unfold Rn.lt at this; omega
        · exact e
    rw [this]
theorem WF.strict {l : List Rn} (h : WF l) : l.Pairwise Rn.lt := by
  obtain ⟨hs, ho, ha⟩ := h
  unfold Srt at hs
  have hb := hs.and ha
  refine List.Pairwise.imp_of_mem ?_ hb
  intro a b hma hmb hab
  obtain ⟨h1, h2⟩ := hab
  have fa := ho a hma
  have fb := ho b hmb
  unfold Rn.fine at fa fb
  unfold Rn.lt at *
  by_cases hp : a.p = b.p
  · have := (h2 hp).1; omega
  · omega
/-- A list in good form is told by what the processes have on the positions. -/
theorem WF.ext {l m : List Rn} (hl : WF l) (hm : WF m) (h : ∀ p i, cellR l p i = cellR m p i) : l = m := by
  have e : cellR l = cellR m := funext fun p => funext fun i => h p i
  exact strict_eq l m hl.strict hm.strict fun x => ⟨fun hx => hm.of_max (e ▸ hl.max hx), fun hx => hl.of_max (e ▸ hm.max hx)⟩

theorem insR_perm (l : List Rn) (r : Rn) : (insR l r).Perm (r :: l) := by
  unfold insR insAt
  have := List.perm_middle (a := r) (l₁ := l.take (posR l r)) (l₂ := l.drop (posR l r))
  rw [List.take_append_drop] at this
  exact this

/-- What is left of r without the hole. -/
def pieces (h r : Rn) : List Rn :=
  if r.p ≠ h.p ∨ meetsB r.f r.t h.f h.t = false then [r] else
  (if r.f < h.f then [⟨r.p, r.k, r.f, h.f - 1⟩] else []) ++ (if h.t < r.t then [⟨r.p, r.k, h.t + 1, r.t⟩] else [])
theorem cutS_perm (h : Rn) (rest : List Rn) (r : Rn) : (cutS h rest r).Perm (pieces h r ++ rest) := by
  unfold cutS pieces
  split
  · exact insR_perm rest r
  · dsimp only
    split <;> split
    · refine (insR_perm _ _).trans (List.Perm.trans ?_ (List.Perm.swap _ _ _))
      exact List.Perm.cons _ (insR_perm _ _)
    · exact insR_perm _ _
    · exact insR_perm _ _
    · exact List.Perm.refl _
theorem cutR_perm (l : List Rn) (h : Rn) : (cutR l h).Perm (l.flatMap (pieces h)) := by
  have : ∀ (l rest : List Rn), (l.foldl (cutS h) rest).Perm (l.flatMap (pieces h) ++ rest) := fun l => by
    induction l with
    | nil => exact fun rest => List.Perm.refl _
    | cons a t ih =>
      intro rest
      refine (ih _).trans ?_
      rw [List.flatMap_cons, List.append_assoc]
      refine (List.Perm.append_left _ (cutS_perm h rest a)).trans ?_
      rw [← List.append_assoc, ← List.append_assoc]
      exact List.Perm.append_right _ List.perm_append_comm
  have := this l []
  rwa [List.append_nil] at this
theorem mem_pieces {h r x : Rn} (hf : r.f ≤ r.t) : x ∈ pieces h r → x.p = r.p ∧ x.k = r.k ∧ r.f ≤ x.f ∧ x.f ≤ x.t ∧ x.t ≤ r.t ∧ (x.p = h.p → x.t < h.f ∨ h.t < x.f) := by
  intro hx
  unfold pieces at hx
  split at hx
  · rename_i hc
    simp at hx; subst hx
    refine ⟨rfl, rfl, Int.le_refl _, hf, Int.le_refl _, fun hp => ?_⟩
    rcases hc with hc | hc
    · exact absurd hp hc
    · simp [meetsB] at hc; omega
  · rename_i hc
    simp [meetsB] at hc
    rw [List.mem_append] at hx
    rcases hx with hx | hx
    · split at hx
      · simp at hx; subst hx; simp; omega
      · cases hx
    · split at hx
      · simp at hx; subst hx; simp; omega
      · cases hx
theorem pieces_cov {h r : Rn} {p i : Int} (hr : r.p = p ∧ r.f ≤ i ∧ i ≤ r.t) (hn : ¬ (p = h.p ∧ h.f ≤ i ∧ i ≤ h.t)) : ∃ x, x ∈ pieces h r ∧ x.p = p ∧ x.f ≤ i ∧ i ≤ x.t := by
  obtain ⟨rfl, h1, h2⟩ := hr
  unfold pieces
  split
  · exact ⟨r, by simp, rfl, h1, h2⟩
  · rename_i hc
    simp at hc
    by_cases hlt : i < h.f
    · exact ⟨⟨r.p, r.k, r.f, h.f - 1⟩, by rw [if_pos (by omega)]; simp, rfl, h1, by simp only; omega⟩
    · exact ⟨⟨r.p, r.k, h.t + 1, r.t⟩, by rw [if_pos (c := h.t < r.t) (by omega)]; simp, rfl, by simp only; omega, h2⟩
theorem cutR_ap {l : List Rn} {h : Rn} (hl : ∀ x, x ∈ l → x.fine) (ha : l.Pairwise Rn.apart) (hh : h.f ≤ h.t) : (cutR l h).Pairwise Rn.apart := by
  rw [(cutR_perm l h).pairwise_iff (fun h => h.symm)]
  rw [List.pairwise_flatMap]
  refine ⟨fun r hr => ?_, ?_⟩
  · have hf := hl r hr
    unfold Rn.fine at hf
    unfold pieces
    split
    · simp
    · split <;> split <;> simp
      intro _
      exact ⟨by simp only; omega, fun _ => by simp only; omega⟩
  · refine List.Pairwise.imp_of_mem ?_ ha
    intro a b hma hmb hab x hx y hy hp
    have fa := hl a hma
    have fb := hl b hmb
    unfold Rn.fine at fa fb
    have mx := mem_pieces (by omega) hx
    have my := mem_pieces (by omega) hy
    have := hab (by rw [← mx.1, ← my.1]; exact hp)
    refine ⟨by omega, fun hk => ?_⟩
    have := this.2 (by rw [← mx.2.1, ← my.2.1]; exact hk)
    omega
theorem cutR_fine {l : List Rn} {h : Rn} (hl : ∀ x, x ∈ l → x.fine) : ∀ x, x ∈ cutR l h → x.fine ∧ (x.p = h.p → x.t < h.f ∨ h.t < x.f) := fun x hx => by
  rw [(cutR_perm l h).mem_iff, List.mem_flatMap] at hx
  obtain ⟨r, hr, hx⟩ := hx
  have hf := hl r hr
  unfold Rn.fine at hf
  have := mem_pieces (by omega) hx
  refine ⟨?_, this.2.2.2.2.2⟩
  unfold Rn.fine
  rw [this.2.1]; omega
theorem cellR_cut {l : List Rn} {h : Rn} (hl : ∀ x, x ∈ l → x.fine) (ha : l.Pairwise Rn.apart) (hh : h.f ≤ h.t) (p i : Int) : cellR (cutR l h) p i = if p = h.p ∧ h.f ≤ i ∧ i ≤ h.t then 0 else cellR l p i := by
  have hac := cutR_ap hl ha hh
  rcases cellR_cases hac p i with ⟨x, hx, hp, h1, h2, hc⟩ | ⟨hn, hc⟩
  · have hno := (cutR_fine hl x hx).2
    rw [if_neg (fun hh => by have := hno (by rw [hp]; exact hh.1); omega), hc]
    rw [(cutR_perm l h).mem_iff, List.mem_flatMap] at hx
    obtain ⟨r, hr, hx⟩ := hx
    have hf := hl r hr
    unfold Rn.fine at hf
    have m := mem_pieces (by omega) hx
    rw [← hp, m.1, m.2.1]
    exact (cellR_mem ha hr (by omega) (by omega)).symm
  · rw [hc]
    split
    · rfl
    · rename_i hn2
      symm
      refine cellR_none fun r hr hcov => ?_
      obtain ⟨x, hx, hx2⟩ := pieces_cov hcov hn2
      exact hn x (by rw [(cutR_perm l h).mem_iff, List.mem_flatMap]; exact ⟨r, hr, hx⟩) hx2

/-- o ends just ahead of r; o begins just behind it: for one process and kind. -/
def Rn.isL (r o : Rn) : Prop := o.p = r.p ∧ o.k = r.k ∧ o.t + 1 = r.f
def Rn.isR (r o : Rn) : Prop := o.p = r.p ∧ o.k = r.k ∧ r.t + 1 = o.f
theorem contB_iff (r o : Rn) : contB o.p o.k o.f o.t r.p r.k r.f r.t = true ↔ r.isL o ∨ r.isR o := by
  simp only [contB, Rn.isL, Rn.isR, Bool.and_eq_true, Bool.or_eq_true, decide_eq_true_eq]
  constructor
  · rintro ⟨⟨h1, h2⟩, h3 | h3⟩
    · exact Or.inl ⟨h1, h2, h3⟩
    · exact Or.inr ⟨h1, h2, h3⟩
  · rintro (⟨h1, h2, h3⟩ | ⟨h1, h2, h3⟩)
    · exact ⟨⟨h1, h2⟩, Or.inl h3⟩
    · exact ⟨⟨h1, h2⟩, Or.inr h3⟩
def contT (r o : Rn) : Bool := contB o.p o.k o.f o.t r.p r.k r.f r.t
/-- What stands behind some rounds of join. -/
structure JI (r : Rn) (pre : List Rn) (s : List Rn × Rn) : Prop where
  perm : s.1.Perm (pre.filter fun o => !contT r o)
  p : s.2.p = r.p
  k : s.2.k = r.k
  f : (s.2.f = r.f ∧ ∀ o, o ∈ pre → ¬ r.isL o) ∨ (∃ o, o ∈ pre ∧ r.isL o ∧ s.2.f = o.f)
  t : (s.2.t = r.t ∧ ∀ o, o ∈ pre → ¬ r.isR o) ∨ (∃ o, o ∈ pre ∧ r.isR o ∧ s.2.t = o.t)
theorem JI.step {r : Rn} {pre : List Rn} {s : List Rn × Rn} (h : JI r pre s) {o : Rn} (hr : r.f ≤ r.t) (ho : o.f ≤ o.t) (hpre : ∀ x, x ∈ pre → x.f ≤ x.t ∧ x.apart o) : JI r (pre ++ [o]) (joinS s o) := by
  have hsf : s.2.f ≤ r.f := by
    rcases h.f with ⟨e, _⟩ | ⟨x, hx, hL, e⟩
    · omega
    · have := hpre x hx; unfold Rn.isL at hL; omega
  have hst : r.t ≤ s.2.t := by
    rcases h.t with ⟨e, _⟩ | ⟨x, hx, hL, e⟩
    · omega
    · have := hpre x hx; unfold Rn.isR at hL; omega
  have hcont : contB o.p o.k o.f o.t s.2.p s.2.k s.2.f s.2.t = contT r o := by
    rw [Bool.eq_iff_iff, contB_iff, contT, contB_iff]
    constructor
    · rintro (⟨h1, h2, h3⟩ | ⟨h1, h2, h3⟩)
      · rw [h.p] at h1; rw [h.k] at h2
        rcases h.f with ⟨e, _⟩ | ⟨x, hx, hL, e⟩
        · exact Or.inl ⟨h1, h2, by omega⟩
        · have := (hpre x hx).2 (by rw [hL.1, h1])
          have := this.2 (by rw [hL.2.1, h2])
          omega
      · rw [h.p] at h1; rw [h.k] at h2
        rcases h.t with ⟨e, _⟩ | ⟨x, hx, hL, e⟩
        · exact Or.inr ⟨h1, h2, by omega⟩
        · have := (hpre x hx).2 (by rw [hL.1, h1])
          have := this.2 (by rw [hL.2.1, h2])
          omega
    · rintro (⟨h1, h2, h3⟩ | ⟨h1, h2, h3⟩)
      · refine Or.inl ⟨by rw [h.p]; exact h1, by rw [h.k]; exact h2, ?_⟩
        rcases h.f with ⟨e, _⟩ | ⟨x, hx, hL, e⟩
        · omega
        · have := (hpre x hx).2 (by rw [hL.1, h1])
          have hL3 := hL.2.2
          have := (hpre x hx).1
          omega
      · refine Or.inr ⟨by rw [h.p]; exact h1, by rw [h.k]; exact h2, ?_⟩
        rcases h.t with ⟨e, _⟩ | ⟨x, hx, hL, e⟩
        · omega
        · have := (hpre x hx).2 (by rw [hL.1, h1])
          have hL3 := hL.2.2
          have := (hpre x hx).1
          omega
  unfold joinS
  rw [hcont]
  cases hc : contT r o
  · rw [if_pos rfl]
    have hno : ¬ (r.isL o ∨ r.isR o) := fun hh => by rw [← contB_iff] at hh; unfold contT at hc; rw [hh] at hc; cases hc
    refine ⟨?_, h.p, h.k, ?_, ?_⟩
    · rw [List.filter_append]
      simp only [List.filter_cons, hc, Bool.not_false, if_true, List.filter_nil]
      refine (insR_perm _ _).trans ?_
      exact (List.Perm.cons _ h.perm).trans (List.perm_append_singleton _ _).symm
    · rcases h.f with ⟨e, hn⟩ | ⟨x, hx, hL, e⟩
      · exact Or.inl ⟨e, fun y hy => by rcases List.mem_append.1 hy with hy | hy; exact hn y hy; simp at hy; subst hy; exact fun hh => hno (Or.inl hh)⟩
      · exact Or.inr ⟨x, List.mem_append_left _ hx, hL, e⟩
    · rcases h.t with ⟨e, hn⟩ | ⟨x, hx, hL, e⟩
      · exact Or.inl ⟨e, fun y hy => by rcases List.mem_append.1 hy with hy | hy; exact hn y hy; simp at hy; subst hy; exact fun hh => hno (Or.inr hh)⟩
      · exact Or.inr ⟨x, List.mem_append_left _ hx, hL, e⟩
  · rw [if_neg (by simp)]
    have hyes : r.isL o ∨ r.isR o := by rw [← contB_iff]; exact hc
    refine ⟨?_, h.p, h.k, ?_, ?_⟩
    · rw [List.filter_append]
      simp only [List.filter_cons, hc, Bool.not_true, Bool.false_eq_true, if_false, List.filter_nil, List.append_nil]
      exact h.perm
    · rcases hyes with hL | hR
      · refine Or.inr ⟨o, by simp, hL, ?_⟩
        unfold Rn.isL at hL
        simp only
        rcases h.f with ⟨e, hn⟩ | ⟨x, hx, hL2, e⟩
        · omega
        · have := (hpre x hx).2 (by rw [hL2.1, hL.1])
          have h3 := hL2.2.2
          have := (hpre x hx).1
          omega
      · unfold Rn.isR at hR
        have e1 : min s.2.f o.f = s.2.f := by omega
        simp only [e1]
        rcases h.f with ⟨e, hn⟩ | ⟨x, hx, hL2, e⟩
        · exact Or.inl ⟨e, fun y hy => by rcases List.mem_append.1 hy with hy | hy; exact hn y hy; simp at hy; subst hy; exact fun hh => by unfold Rn.isL at hh; omega⟩
        · exact Or.inr ⟨x, List.mem_append_left _ hx, hL2, e⟩
    · rcases hyes with hL | hR
      · unfold Rn.isL at hL
        have e1 : max s.2.t o.t = s.2.t := by omega
        simp only [e1]
        rcases h.t with ⟨e, hn⟩ | ⟨x, hx, hL2, e⟩
        · exact Or.inl ⟨e, fun y hy => by rcases List.mem_append.1 hy with hy | hy; exact hn y hy; simp at hy; subst hy; exact fun hh => by unfold Rn.isR at hh; omega⟩
        · exact Or.inr ⟨x, List.mem_append_left _ hx, hL2, e⟩
      · refine Or.inr ⟨o, by simp, hR, ?_⟩
        unfold Rn.isR at hR
        simp only
        rcases h.t with ⟨e, hn⟩ | ⟨x, hx, hL2, e⟩
        · omega
        · have := (hpre x hx).2 (by rw [hL2.1, hR.1])
          have h3 := hL2.2.2
          have := (hpre x hx).1
          omega
theorem JI.all {l : List Rn} {r : Rn} (hl : ∀ x, x ∈ l → x.fine) (ha : l.Pairwise Rn.apart) (hr : r.f ≤ r.t) : JI r l (l.foldl joinS ([], r)) := by
  have : ∀ (suf pre : List Rn) (s : List Rn × Rn), JI r pre s → (∀ x, x ∈ pre ++ suf → x.fine) → (pre ++ suf).Pairwise Rn.apart → JI r (pre ++ suf) (suf.foldl joinS s) := fun suf => by
    induction suf with
    | nil => intro pre s h _ _; simpa using h
    | cons o t ih =>
      intro pre s h hf hp
      have e : pre ++ o :: t = (pre ++ [o]) ++ t := by simp
      rw [e] at hf hp ⊢
      refine ih (pre ++ [o]) _ (h.step hr ?_ ?_) hf hp
      · have := hf o (by simp); unfold Rn.fine at this; omega
      · intro x hx
        have := hf x (by simp [hx])
        unfold Rn.fine at this
        refine ⟨by omega, ?_⟩
        rw [List.append_assoc, List.pairwise_append] at hp
        exact hp.2.2 x hx o (by simp)
  have := this l [] ([], r) ⟨List.Perm.refl _, rfl, rfl, Or.inl ⟨rfl, by simp⟩, Or.inl ⟨rfl, by simp⟩⟩ (by simpa using hl) (by simpa using ha)
  simpa using this

/-- A lock joined to a list that has nothing of the process on its positions. -/
theorem joinR_all {l : List Rn} {r : Rn} (hl : ∀ x, x ∈ l → x.fine) (ha : l.Pairwise Rn.apart) (hr : r.fine) (hd : ∀ x, x ∈ l → x.p = r.p → x.t < r.f ∨ r.t < x.f) :
    WF (joinR l r) ∧ ∀ p i, cellR (joinR l r) p i = if p = r.p ∧ r.f ≤ i ∧ i ≤ r.t then r.k else cellR l p i := by
  have hrf := hr
  unfold Rn.fine at hrf
  have J := JI.all hl ha (r := r) (by omega)
  obtain ⟨s, hs⟩ : ∃ s, s = l.foldl joinS ([], r) := ⟨_, rfl⟩
  have ej : joinR l r = insR s.1 s.2 := by rw [hs]; rfl
  rw [← hs] at J
  have hperm : (joinR l r).Perm (s.2 :: l.filter fun o => !contT r o) := by
    rw [ej]; exact (insR_perm _ _).trans (List.Perm.cons _ J.perm)
  have hmem : ∀ x, x ∈ joinR l r ↔ x = s.2 ∨ (x ∈ l ∧ ¬ (r.isL x ∨ r.isR x)) := fun x => by
    rw [hperm.mem_iff, List.mem_cons, List.mem_filter, ← contB_iff]
    simp [contT]
  -- what the joined run is
  have hfl : (s.2.f = r.f ∧ ∀ o, o ∈ l → ¬ r.isL o) ∨ (∃ o, o ∈ l ∧ o.p = r.p ∧ o.k = r.k ∧ o.t + 1 = r.f ∧ s.2.f = o.f ∧ 0 ≤ o.f ∧ o.f ≤ o.t) := by
    rcases J.f with h | ⟨o, ho, hL, e⟩
    · exact Or.inl h
    · have := hl o ho; unfold Rn.fine at this
      exact Or.inr ⟨o, ho, hL.1, hL.2.1, hL.2.2, e, by omega, by omega⟩
  have hfr : (s.2.t = r.t ∧ ∀ o, o ∈ l → ¬ r.isR o) ∨ (∃ o, o ∈ l ∧ o.p = r.p ∧ o.k = r.k ∧ r.t + 1 = o.f ∧ s.2.t = o.t ∧ o.t ≤ 63 ∧ o.f ≤ o.t) := by
    rcases J.t with h | ⟨o, ho, hL, e⟩
    · exact Or.inl h
    · have := hl o ho; unfold Rn.fine at this
      exact Or.inr ⟨o, ho, hL.1, hL.2.1, hL.2.2, e, by omega, by omega⟩
  have hsfine : s.2.fine := by
    unfold Rn.fine
    rw [J.k]
    rcases hfl with ⟨e, _⟩ | ⟨o, _, _, _, _, e, _, _⟩ <;> rcases hfr with ⟨e', _⟩ | ⟨o', _, _, _, _, e', _, _⟩ <;> omega
  have hap : ∀ x, x ∈ l → ¬ (r.isL x ∨ r.isR x) → s.2.apart x := fun x hx hno hp => by
    rw [J.p] at hp
    have hxf := hl x hx
    unfold Rn.fine at hxf
    have hdx := hd x hx hp.symm
    refine ⟨?_, fun hk => ?_⟩
    · rcases hfl with ⟨e, _⟩ | ⟨o, ho, hop, hok, h3, e, _, _⟩ <;> rcases hfr with ⟨e', _⟩ | ⟨o', ho', hop', hok', h3', e', _, _⟩
      · omega
      · have := ap_mem ha hx ho'
        rcases this with rfl | hh
        · exact absurd (Or.inr ⟨hop', hok', h3'⟩) hno
        · have := (hh (by omega)).1; omega
      · have := ap_mem ha hx ho
        rcases this with rfl | hh
        · exact absurd (Or.inl ⟨hop, hok, h3⟩) hno
        · have := (hh (by omega)).1; omega
      · have h1 := ap_mem ha hx ho
        have h2 := ap_mem ha hx ho'
        rcases h1 with rfl | hh
        · exact absurd (Or.inl ⟨hop, hok, h3⟩) hno
        · rcases h2 with rfl | hh'
          · exact absurd (Or.inr ⟨hop', hok', h3'⟩) hno
          · have := (hh (by omega)).1; have := (hh' (by omega)).1; omega
    · rw [J.k] at hk
      constructor
      · rcases hfr with ⟨e', hn⟩ | ⟨o', ho', hop', hok', h3', e', _, _⟩
        · intro h; exact hno (Or.inr ⟨hp.symm, hk.symm, by omega⟩)
        · rcases ap_mem ha ho' hx with rfl | hh
          · exact absurd (Or.inr ⟨hop', hok', h3'⟩) hno
          · have := (hh (by omega)).2 (by omega); omega
      · rcases hfl with ⟨e, hn⟩ | ⟨o, ho, hop, hok, h3, e, _, _⟩
        · intro h; exact hno (Or.inl ⟨hp.symm, hk.symm, by omega⟩)
        · rcases ap_mem ha ho hx with rfl | hh
          · exact absurd (Or.inl ⟨hop, hok, h3⟩) hno
          · have := (hh (by omega)).2 (by omega); omega
  have hapj : (joinR l r).Pairwise Rn.apart := by
    rw [hperm.pairwise_iff (fun h => h.symm), List.pairwise_cons]
    refine ⟨fun x hx => ?_, List.Pairwise.filter _ ha⟩
    rw [List.mem_filter] at hx
    exact hap x hx.1 (by rw [← contB_iff]; have := hx.2; simpa [contT] using this)
  refine ⟨⟨?_, fun x hx => ?_, hapj⟩, fun p i => ?_⟩
  · have hS : Srt s.1 := by
      rw [hs]
      have : ∀ (l : List Rn) (s : List Rn × Rn), Srt s.1 → Srt (l.foldl joinS s).1 := fun l => by
        induction l with
        | nil => exact fun _ h => h
        | cons a t ih => exact fun s h => ih _ (by unfold joinS; split; exact h.ins a; exact h)
      exact this l ([], r) List.Pairwise.nil
    rw [ej]; exact hS.ins _
  · rcases (hmem x).1 hx with rfl | hx
    · exact hsfine
    · exact hl x hx.1
  · have hin : s.2 ∈ joinR l r := (hmem s.2).2 (Or.inl rfl)
    by_cases hc : p = r.p ∧ s.2.f ≤ i ∧ i ≤ s.2.t
    · obtain ⟨rfl, h1, h2⟩ := hc
      have e1 := cellR_mem hapj hin h1 h2
      rw [J.p, J.k] at e1
      rw [e1]
      by_cases hri : r.f ≤ i ∧ i ≤ r.t
      · rw [if_pos ⟨rfl, hri⟩]
      · rw [if_neg (fun h => hri h.2)]
        by_cases hlt : i < r.f
        · rcases hfl with ⟨e, _⟩ | ⟨o, ho, hop, hok, h3, e, _, _⟩
          · omega
          · have := cellR_mem ha ho (i := i) (by omega) (by omega)
            rw [hop, hok] at this; exact this.symm
        · rcases hfr with ⟨e, _⟩ | ⟨o, ho, hop, hok, h3, e, _, _⟩
          · omega
          · have := cellR_mem ha ho (i := i) (by omega) (by omega)
            rw [hop, hok] at this; exact this.symm
    · have hrs : s.2.f ≤ r.f ∧ r.t ≤ s.2.t := by
        rcases hfl with ⟨e, _⟩ | ⟨o, ho, hop, hok, h3, e, _, _⟩ <;> rcases hfr with ⟨e', _⟩ | ⟨o', ho', hop', hok', h3', e', _, _⟩ <;> omega
      rw [if_neg (fun h => hc ⟨h.1, by omega, by omega⟩)]
      rcases cellR_cases ha p i with ⟨x, hx, hp, h1, h2, he⟩ | ⟨hn, he⟩
      · rw [he]
        have hno : ¬ (r.isL x ∨ r.isR x) := fun hh => by
          rcases hh with hL | hR
          · rcases hfl with ⟨e, hn⟩ | ⟨o, ho, hop, hok, h3, e, _, _⟩
            · exact hn x hx hL
            · have := ap_one ha hx ho (by rw [hL.1, hop]) (i := x.t) (by have := hl x hx; unfold Rn.fine at this; omega) (by omega) (by have := hL.2.2; omega) (by have := hL.2.2; omega)
              subst this
              exact hc ⟨by rw [← hp]; exact hop, by omega, by omega⟩
          · rcases hfr with ⟨e, hn⟩ | ⟨o, ho, hop, hok, h3, e, _, _⟩
            · exact hn x hx hR
            · have := ap_one ha hx ho (by rw [hR.1, hop]) (i := x.f) (by omega) (by have := hl x hx; unfold Rn.fine at this; omega) (by have := hR.2.2; omega) (by have := hR.2.2; omega)
              subst this
              exact hc ⟨by rw [← hp]; exact hop, by omega, by omega⟩
        rw [← hp]
        exact cellR_mem hapj ((hmem x).2 (Or.inr ⟨hx, hno⟩)) h1 h2
      · rw [he]
        refine cellR_none fun x hx hcov => ?_
        rcases (hmem x).1 hx with rfl | hx
        · exact hc ⟨by rw [← J.p]; exact hcov.1.symm, hcov.2.1, hcov.2.2⟩
        · exact hn x hx.1 hcov

/-- A lock that comes or goes: the list stays in good form; p has it on its positions, and all else is as it was. -/
theorem setR_all {l : List Rn} (hl : WF l) {r : Rn} (h0 : 0 ≤ r.f) (h1 : r.f ≤ r.t) (h2 : r.t ≤ 63) (hk : r.k = 0 ∨ r.k = 1 ∨ r.k = 2) :
    WF (setR l r) ∧ ∀ p i, cellR (setR l r) p i = if p = r.p ∧ r.f ≤ i ∧ i ≤ r.t then r.k else cellR l p i := by
  have hac := cutR_ap (h := r) hl.ok hl.ap h1
  have hfc := cutR_fine (h := r) hl.ok
  have hcc := cellR_cut (h := r) hl.ok hl.ap h1
  unfold setR
  split
  · rename_i he
    refine ⟨⟨Srt.cutR l r, fun x hx => (hfc x hx).1, hac⟩, fun p i => ?_⟩
    rw [hcc, he]
  · rename_i he
    obtain ⟨w1, w2⟩ := joinR_all (r := r) (fun x hx => (hfc x hx).1) hac (by unfold Rn.fine; omega) (fun x hx hp => (hfc x hx).2 hp)
    refine ⟨w1, fun p i => ?_⟩
    rw [w2]
    split
    · rfl
    · rename_i hn
      rw [hcc, if_neg hn]
/-- All locks of a process go. -/
theorem without_all {l : List Rn} (hl : WF l) (q : Int) : WF (cutR l ⟨q, 0, 0, 63⟩) ∧ ∀ p i, cellR (cutR l ⟨q, 0, 0, 63⟩) p i = if p = q then 0 else cellR l p i := by
  have h1 : (Rn.mk q 0 0 63).f ≤ (Rn.mk q 0 0 63).t := by simp
  refine ⟨⟨Srt.cutR l _, fun x hx => (cutR_fine hl.ok x hx).1, cutR_ap hl.ok hl.ap h1⟩, fun p i => ?_⟩
  rw [cellR_cut hl.ok hl.ap h1]
  simp only
  by_cases hp : p = q
  · rw [if_pos hp]
    split
    · rfl
    · rename_i hn
      refine cellR_none fun x hx hcov => ?_
      have := hl.ok x hx; unfold Rn.fine at this
      exact hn ⟨hp, by omega, by omega⟩
  · rw [if_neg hp, if_neg (fun h => hp h.1)]
end Go.Proofs.YtaicdjhblbobbabGreat

/- The document as plain mathematics: processes, descriptors, locks, who waits, and each call; no program in sight. -/
namespace Go.Proofs.YtaicdjhblbobbabGreat

/-- A lock that is asked for: of positions, or (whole) of a file, for the opening o. -/
structure Ask where
  p : Int
  k : Int
  file : Nat
  whole : Bool
  o : Nat
  f : Int
  t : Int
  deriving DecidableEq, Inhabited
/-- A lock of a whole file: the opening, the kind. -/
structure Wl where
  o : Nat
  k : Int
  deriving DecidableEq, Inhabited
/-- Who waits no more, and how. -/
structure Dn where
  p : Int
  e : Int
  deriving DecidableEq, Inhabited
/-- A reply. -/
structure Rp where
  e : Int
  n : Int
  d : List Dn
  deriving DecidableEq, Inhabited

/-- Which processes live; the opening of each descriptor; an opening's file; how many openings were made; the runs and the locks of the whole of each file; who waits. -/
structure DS where
  L : Nat → Bool
  F : Int → Int → Option Nat
  O : Nat → Nat
  N : Nat
  R : Nat → List Rn
  W : Nat → List Wl
  Q : List Ask

def DS.new : DS := ⟨L0, fun _ _ => none, fun _ => 0, 0, fun _ => [], fun _ => [], []⟩
def ps6 : List Int := [0, 1, 2, 3, 4, 5]
def ds5 : List Int := [0, 1, 2, 3, 4]

def DS.waits (s : DS) (p : Int) : Bool := s.Q.any fun a => decide (a.p = p)
/-- May p call: 0, or its error. -/
def DS.may (s : DS) (p : Int) : Int := if liveB s.L p = false then 1 else if s.waits p then 2 else 0
/-- The opening of a descriptor; a number that is none has none. -/
def DS.has (s : DS) (o : Nat) (p : Int) : Bool := ds5.any fun d => decide (s.F p d = some o)
def DS.users (s : DS) (o : Nat) : List Int := ps6.filter (s.has o)
def DS.inUse (s : DS) (o : Nat) : Bool := ps6.any (s.has o)

/-- Does the lock a bite b, with which another waits? -/
def Ask.bites (a b : Ask) : Bool := (a.whole == b.whole) && decide (a.file = b.file) && biteB a.k b.k && (if a.whole then decide (a.o ≠ b.o) else meetsB a.f a.t b.f b.t)
def Ask.run (a : Ask) : Rn := ⟨a.p, a.k, a.f, a.t⟩
def Rn.bites (a r : Rn) : Bool := bitesB a.p a.k a.f a.t r.p r.k r.f r.t
/-- The processes that have a lock on a position that bites. -/
def holders (l : List Rn) (r : Rn) : List Int := ps6.filter fun q => l.any fun x => decide (x.p = q) && r.bites x
/-- What is in the way of a, when those of ahead wait ahead of it: for each thing those who could let it go. -/
def DS.way (s : DS) (a : Ask) (ahead : List Ask) : List (List Int) :=
  ((ahead.filter a.bites).map fun b => [b.p]) ++
  (if a.whole then ((s.W a.file).filter fun w => decide (w.o ≠ a.o) && biteB a.k w.k).map fun w => s.users w.o
   else (holders (s.R a.file) a.run).map fun q => [q])

/-- Stays p in the set X? -/
def DS.stays (s : DS) (X : List Int) (i : Nat) (a : Ask) : Bool := (s.way a (s.Q.take i)).any fun c => c.all fun q => decide (q ∈ X)
def DS.prune (s : DS) (X : List Int) : List Int := ((s.Q.zipIdx.filter fun x => decide (x.1.p ∈ X) && s.stays X x.2 x.1).map fun x => x.1.p)
def DS.pruneN (s : DS) : Nat → List Int → List Int
  | 0, X => X
  | n + 1, X => DS.pruneN s n (s.prune X)
/-- The greatest stuck set. -/
def DS.stuck (s : DS) : List Int := s.pruneN s.Q.length (s.Q.map (·.p))

def setW (l : List Wl) (o : Nat) (k : Int) : List Wl :=
  if (⟨o, k⟩ : Wl) ∈ l then l else (l.filter fun w => decide (w.o ≠ o)) ++ (if k = 0 then [] else [⟨o, k⟩])
def updR {α : Type} (R : Nat → α) (f : Nat) (l : α) : Nat → α := fun g => if g = f then l else R g
/-- One has its lock. -/
def DS.take (s : DS) (a : Ask) : DS × Int :=
  if a.whole then ({s with W := updR s.W a.file (setW (s.W a.file) a.o a.k)}, 0)
  else if 12 < (setR (s.R a.file) a.run).length then (s, 9) else ({s with R := updR s.R a.file (setR (s.R a.file) a.run)}, 0)
def DS.leave (s : DS) (i : Nat) : DS := {s with Q := s.Q.eraseIdx i}
/-- The first that has nothing in its way. -/
def DS.free? (s : DS) : Option Nat := (List.range s.Q.length).find? fun i => match s.Q[i]? with | some a => (s.way a (s.Q.take i)).isEmpty | none => false
/-- The last of the stuck ones. -/
def DS.last? (s : DS) : Option Nat := (List.range s.Q.length).reverse.find? fun i => match s.Q[i]? with | some a => decide (a.p ∈ s.stuck) | none => false
def DS.settleN : Nat → DS → DS × List Dn
  | 0, s => (s, [])
  | n + 1, s => match s.free? with
    | some i =>
      let a := s.Q[i]?.getD default
      let x := (s.leave i).take a
      let y := DS.settleN n x.1
      (y.1, ⟨a.p, x.2⟩ :: y.2)
    | none => match s.last? with
      | some i =>
        let a := s.Q[i]?.getD default
        let y := DS.settleN n (s.leave i)
        (y.1, ⟨a.p, 10⟩ :: y.2)
      | none => (s, [])
def DS.settle (s : DS) : DS × List Dn := DS.settleN s.Q.length s

def rerr (e : Int) : Rp := ⟨e, 0, []⟩
def rnum (n : Int) : Rp := ⟨0, n, []⟩
def DS.settled (s : DS) : DS × Rp := let x := s.settle; (x.1, ⟨0, 0, x.2⟩)

def DS.fork (s : DS) (p : Int) : DS × Rp :=
  if s.may p ≠ 0 then (s, rerr (s.may p)) else
  match ps6.find? fun c => !s.L c.toNat with
  | none => (s, rerr 3)
  | some c => ({s with L := updL s.L c.toNat true, F := copyF s.F p c 5}, rnum c)
/-- The locks of openings of which there is no descriptor any more go. -/
def DS.sweep (s : DS) : DS := {s with W := fun f => (s.W f).filter fun w => s.inUse w.o}
def clearF (F : Int → Int → Option Nat) (p : Int) : Int → Int → Option Nat := fun q e => if q = p then none else F q e
def dropR (l : List Rn) (p : Int) : List Rn := cutR l ⟨p, 0, 0, 63⟩
def DS.gone (s : DS) (p : Int) : DS := DS.sweep {s with L := updL s.L p.toNat false, F := clearF s.F p, R := fun f => dropR (s.R f) p, Q := s.Q.filter fun a => decide (a.p ≠ p)}
def DS.kill (s : DS) (p : Int) : DS × Rp := if liveB s.L p = false then (s, rerr 1) else (s.gone p).settled
/-- The least free descriptor. -/
def DS.least? (s : DS) (p : Int) : Option Int := ds5.find? fun d => (s.F p d).isNone
def DS.opn (s : DS) (p file : Int) : DS × Rp :=
  if s.may p ≠ 0 then (s, rerr (s.may p)) else if ¬ (0 ≤ file ∧ file < 3) then (s, rerr 4) else
  match s.least? p with
  | none => (s, rerr 3)
  | some d => ({s with F := updF s.F p d (some s.N), O := updR s.O s.N file.toNat, N := s.N + 1}, rnum d)
/-- The opening that a call speaks of, or its error. -/
def DS.find (s : DS) (p d : Int) : Except Int Nat :=
  if s.may p ≠ 0 then .error (s.may p) else if ¬ (0 ≤ d ∧ d < 5) then .error 5 else match s.F p d with | none => .error 5 | some o => .ok o
def DS.dup (s : DS) (p d : Int) : DS × Rp :=
  match s.find p d with
  | .error e => (s, rerr e)
  | .ok o => match s.least? p with
    | none => (s, rerr 3)
    | some e => ({s with F := updF s.F p e (some o)}, rnum e)
def DS.shut (s : DS) (p d : Int) (o : Nat) : DS := DS.sweep {s with F := updF s.F p d none, R := updR s.R (s.O o) (dropR (s.R (s.O o)) p)}
def DS.close (s : DS) (p d : Int) : DS × Rp :=
  match s.find p d with
  | .error e => (s, rerr e)
  | .ok o => (s.shut p d o).settled
/-- A lock that is asked for now. -/
def DS.ask (s : DS) (a : Ask) (wait : Bool) : DS × Rp :=
  if a.k = 0 ∨ s.way a s.Q = [] then
    if (s.take a).2 ≠ 0 then (s, rerr (s.take a).2) else (s.take a).1.settled
  else if wait = false then (s, rerr 8)
  else if a.p ∈ (DS.stuck {s with Q := s.Q ++ [a]}) then (s, rerr 10)
  else ({s with Q := s.Q ++ [a]}, rerr 11)
def DS.lock (s : DS) (p d k f l : Int) (wait : Bool) : DS × Rp :=
  match s.find p d with
  | .error e => (s, rerr e)
  | .ok o => if kindB k = false then (s, rerr 6) else if badS f l = true then (s, rerr 7) else
    s.ask ⟨p, k, s.O o, false, o, fromS f l, toS f l⟩ wait
def DS.whole (s : DS) (p d k : Int) (wait : Bool) : DS × Rp :=
  match s.find p d with
  | .error e => (s, rerr e)
  | .ok o => if kindB k = false then (s, rerr 6) else s.ask ⟨p, k, s.O o, true, o, 0, 0⟩ wait
def DS.test (s : DS) (p d k f l : Int) : Rp :=
  match s.find p d with
  | .error e => rerr e
  | .ok o => if kindB k = false ∨ k = 0 then rerr 6 else if badS f l = true then rerr 7 else
    match holders (s.R (s.O o)) ⟨p, k, fromS f l, toS f l⟩ with
    | [] => rnum (-1)
    | q :: _ => rnum q
def fileB (f : Int) : Bool := decide (0 ≤ f) && decide (f < 3)
def DS.runs (s : DS) (file : Int) : List Rn := if fileB file then s.R file.toNat else []
/-- A lock of the whole file that is told. -/
structure Hd where
  k : Int
  ps : List Int
  deriving DecidableEq, Inhabited
def DS.holds (s : DS) (file : Int) : List Hd := if fileB file then (s.W file.toNat).map fun w => ⟨w.k, s.users w.o⟩ else []
def DS.waiting (s : DS) : List Int := s.Q.map (·.p)

/-- A call, by raw numbers. -/
inductive Cl where
  | fork (p : Int) | kill (p : Int) | opn (p f : Int) | dup (p d : Int) | close (p d : Int)
  | lock (p d k f l : Int) (w : Bool) | test (p d k f l : Int) | whole (p d k : Int) (w : Bool)
def DS.step (s : DS) : Cl → DS × Rp
  | .fork p => s.fork p
  | .kill p => s.kill p
  | .opn p f => s.opn p f
  | .dup p d => s.dup p d
  | .close p d => s.close p d
  | .lock p d k f l w => s.lock p d k f l w
  | .test p d k f l => (s, s.test p d k f l)
  | .whole p d k w => s.whole p d k w
/-- The calls of a list, one after the other: the replies, and the state in the end. -/
def DS.steps : DS → List Cl → List Rp × DS
  | s, [] => ([], s)
  | s, c :: t => let x := s.step c; let y := DS.steps x.1 t; (x.2 :: y.1, y.2)
end Go.Proofs.YtaicdjhblbobbabGreat

/- The greatest stuck set of the model, and what settling leaves. -/
namespace Go.Proofs.YtaicdjhblbobbabGreat

/-- A set of processes that wait is stuck. -/
def DS.IsStuck (s : DS) (X : Int → Prop) : Prop := ∀ p, X p → ∃ (i : Nat) (a : Ask), s.Q[i]? = some a ∧ a.p = p ∧ ∃ c, c ∈ s.way a (s.Q.take i) ∧ ∀ q, q ∈ c → X q

theorem DS.stays_iff {s : DS} {X : List Int} {i : Nat} {a : Ask} : s.stays X i a = true ↔ ∃ c, c ∈ s.way a (s.Q.take i) ∧ ∀ q, q ∈ c → q ∈ X := by
  unfold DS.stays
  simp only [List.any_eq_true, List.all_eq_true, decide_eq_true_eq]
theorem DS.stays_mono {s : DS} {X Y : List Int} (h : ∀ q, q ∈ X → q ∈ Y) {i : Nat} {a : Ask} (hs : s.stays X i a = true) : s.stays Y i a = true := by
  rw [DS.stays_iff] at hs ⊢
  obtain ⟨c, hc, hq⟩ := hs
  exact ⟨c, hc, fun q hm => h q (hq q hm)⟩
theorem DS.mem_prune {s : DS} {X : List Int} {p : Int} : p ∈ s.prune X ↔ p ∈ X ∧ ∃ i a, s.Q[i]? = some a ∧ a.p = p ∧ s.stays X i a = true := by
  unfold DS.prune
  rw [List.mem_map]
  constructor
  · rintro ⟨⟨a, i⟩, h, rfl⟩
    rw [List.mem_filter, List.mk_mem_zipIdx_iff_getElem?] at h
    simp only [Bool.and_eq_true, decide_eq_true_eq] at h
    exact ⟨h.2.1, i, a, h.1, rfl, h.2.2⟩
  · rintro ⟨hx, i, a, h, rfl, hs⟩
    refine ⟨(a, i), ?_, rfl⟩
    rw [List.mem_filter, List.mk_mem_zipIdx_iff_getElem?]
    exact ⟨h, by simp [hx, hs]⟩
theorem DS.prune_sub {s : DS} {X : List Int} {p : Int} (h : p ∈ s.prune X) : p ∈ X := (DS.mem_prune.1 h).1
/-- Pruning twice leaves a part of what pruning once left. -/
theorem DS.prune_sublist {s : DS} {X Y : List Int} (h : ∀ q, q ∈ X → q ∈ Y) : (s.prune X).Sublist (s.prune Y) := by
  unfold DS.prune
  refine List.Sublist.map _ ?_
  have e : (s.Q.zipIdx.filter fun x => decide (x.1.p ∈ X) && s.stays X x.2 x.1) = ((s.Q.zipIdx.filter fun x => decide (x.1.p ∈ Y) && s.stays Y x.2 x.1).filter fun x => decide (x.1.p ∈ X) && s.stays X x.2 x.1) := by
    rw [List.filter_filter]
    refine List.filter_congr ?_
    intro x _
    by_cases hx : x.1.p ∈ X
    · by_cases hs : s.stays X x.2 x.1 = true
      · simp [hx, hs, h _ hx, DS.stays_mono h hs]
      · simp [hs]
    · simp [hx]
  rw [e]
  exact List.filter_sublist
theorem DS.prune_length {s : DS} (X : List Int) : (s.prune X).length ≤ s.Q.length := by
  unfold DS.prune
  rw [List.length_map]
  refine Nat.le_trans (List.length_filter_le _ _) ?_
  rw [List.length_zipIdx]; exact Nat.le_refl _
theorem DS.pruneN_succ (s : DS) : ∀ (n : Nat) (X : List Int), s.pruneN (n + 1) X = s.prune (s.pruneN n X)
  | 0, _ => rfl
  | n + 1, X => by
    show s.pruneN (n + 1) (s.prune X) = s.prune (s.pruneN (n + 1) X)
    rw [DS.pruneN_succ s n (s.prune X)]
    rfl
theorem DS.pruneN_sub (s : DS) (X : List Int) : ∀ n, ∀ q, q ∈ s.pruneN (n + 1) X → q ∈ s.pruneN n X := fun n q hq => by
  rw [DS.pruneN_succ] at hq
  exact DS.prune_sub hq
/-- Behind as many rounds as there are that wait pruning changes nothing any more. -/
theorem DS.pruneN_fix (s : DS) : ∀ n, n ≤ s.Q.length → s.prune (s.pruneN n (s.Q.map (·.p))) = s.pruneN n (s.Q.map (·.p)) ∨ (s.pruneN n (s.Q.map (·.p))).length + n ≤ s.Q.length
  | 0, _ => Or.inr (by simp [DS.pruneN])
  | n + 1, hn => by
    have hsub : (s.pruneN (n + 1) (s.Q.map (·.p))).Sublist (s.pruneN n (s.Q.map (·.p))) := by
      cases n with
      | zero =>
        rw [DS.pruneN_succ]
        show (s.prune (s.Q.map (·.p))).Sublist (s.Q.map (·.p))
        unfold DS.prune
        have : s.Q.map (·.p) = s.Q.zipIdx.map (fun x => x.1.p) := by
          rw [show (fun x : Ask × Nat => x.1.p) = (fun a : Ask => a.p) ∘ Prod.fst from rfl, ← List.map_map, List.zipIdx_map_fst]
        rw [this]
        exact List.Sublist.map _ (List.filter_sublist)
      | succ m =>
        rw [DS.pruneN_succ s (m + 1), DS.pruneN_succ s m]
        refine DS.prune_sublist fun q hq => DS.prune_sub hq
    rcases DS.pruneN_fix s n (by omega) with h | h
    · left
      rw [DS.pruneN_succ, h, h]
    · by_cases he : (s.pruneN (n + 1) (s.Q.map (·.p))).length = (s.pruneN n (s.Q.map (·.p))).length
      · left
        have e := hsub.eq_of_length he
        rw [DS.pruneN_succ] at e ⊢
        rw [e, e]
      · right
        have := hsub.length_le
        omega
theorem DS.stuck_fix (s : DS) : s.prune s.stuck = s.stuck := by
  rcases DS.pruneN_fix s s.Q.length (Nat.le_refl _) with h | h
  · exact h
  · have h0 : s.stuck = [] := List.eq_nil_of_length_eq_zero (by unfold DS.stuck; omega)
    rw [h0]
    cases h1 : s.prune [] with
    | nil => rfl
    | cons a t => have : a ∈ s.prune [] := by rw [h1]; simp
                  exact absurd (DS.prune_sub this) (by simp)
theorem DS.stuck_is (s : DS) : s.IsStuck (· ∈ s.stuck) := fun p hp => by
  have hp : p ∈ s.stuck := hp
  rw [← DS.stuck_fix] at hp
  obtain ⟨_, i, a, h1, h2, h3⟩ := DS.mem_prune.1 hp
  exact ⟨i, a, h1, h2, DS.stays_iff.1 h3⟩
theorem DS.stuck_greatest {s : DS} {X : Int → Prop} (h : s.IsStuck X) {p : Int} (hp : X p) : p ∈ s.stuck := by
  have : ∀ n, ∀ q, X q → q ∈ s.pruneN n (s.Q.map (·.p)) := fun n => by
    induction n with
    | zero =>
      intro q hq
      obtain ⟨i, a, h1, h2, _⟩ := h q hq
      exact List.mem_map.2 ⟨a, List.mem_of_getElem? h1, h2⟩
    | succ n ih =>
      intro q hq
      rw [DS.pruneN_succ]
      obtain ⟨i, a, h1, h2, c, h3, h4⟩ := h q hq
      exact DS.mem_prune.2 ⟨ih q hq, i, a, h1, h2, DS.stays_iff.2 ⟨c, h3, fun r hr => ih r (h4 r hr)⟩⟩
  exact this _ p hp
theorem DS.mem_stuck {s : DS} {p : Int} : p ∈ s.stuck ↔ ∃ X : Int → Prop, s.IsStuck X ∧ X p :=
  ⟨fun h => ⟨_, s.stuck_is, h⟩, fun ⟨_, h, hp⟩ => DS.stuck_greatest h hp⟩
/-- Who is stuck waits. -/
theorem DS.stuck_waits {s : DS} {p : Int} (h : p ∈ s.stuck) : ∃ (i : Nat) (a : Ask), s.Q[i]? = some a ∧ a.p = p := by
  obtain ⟨i, a, h1, h2, _⟩ := s.stuck_is p h
  exact ⟨i, a, h1, h2⟩

theorem DS.take_Q (s : DS) (a : Ask) : (s.take a).1.Q = s.Q := by
  unfold DS.take
  (repeat' split) <;> rfl
theorem DS.take_F (s : DS) (a : Ask) : (s.take a).1.F = s.F := by
  unfold DS.take
  (repeat' split) <;> rfl
theorem DS.take_L (s : DS) (a : Ask) : (s.take a).1.L = s.L := by
  unfold DS.take
  (repeat' split) <;> rfl
theorem DS.take_O (s : DS) (a : Ask) : (s.take a).1.O = s.O := by
  unfold DS.take
  (repeat' split) <;> rfl
theorem DS.take_N (s : DS) (a : Ask) : (s.take a).1.N = s.N := by
  unfold DS.take
  (repeat' split) <;> rfl
theorem DS.free?_some {s : DS} {i : Nat} (h : s.free? = some i) : ∃ a, s.Q[i]? = some a ∧ s.way a (s.Q.take i) = [] ∧ ∀ j b, j < i → s.Q[j]? = some b → s.way b (s.Q.take j) ≠ [] := by
  unfold DS.free? at h
  rw [List.find?_range_eq_some] at h
  obtain ⟨h1, h2, h3⟩ := h
  have hl : i < s.Q.length := by simpa using h2
  refine ⟨s.Q[i], List.getElem?_eq_getElem hl, ?_, ?_⟩
  · rw [List.getElem?_eq_getElem hl] at h1
    simpa using h1
  · intro j b hj hb
    have := h3 j hj
    rw [hb] at this
    simpa using this
theorem DS.free?_none {s : DS} (h : s.free? = none) : ∀ i a, s.Q[i]? = some a → s.way a (s.Q.take i) ≠ [] := fun i a ha => by
  unfold DS.free? at h
  rw [List.find?_range_eq_none] at h
  have hl : i < s.Q.length := by
    rcases Nat.lt_or_ge i s.Q.length with h' | h'
    · exact h'
    · rw [List.getElem?_eq_none h'] at ha; cases ha
  have := h i hl
  rw [ha] at this
  simpa using this
theorem DS.last?_some {s : DS} {i : Nat} (h : s.last? = some i) : ∃ a, s.Q[i]? = some a ∧ a.p ∈ s.stuck ∧ ∀ j b, i < j → s.Q[j]? = some b → b.p ∉ s.stuck := by
  unfold DS.last? at h
  rw [List.find?_eq_some_iff_append] at h
  obtain ⟨h1, as, bs, h2, h3⟩ := h
  have hm : i ∈ (List.range s.Q.length).reverse := by rw [h2]; simp
  have hl : i < s.Q.length := by simpa using hm
  refine ⟨s.Q[i], List.getElem?_eq_getElem hl, ?_, ?_⟩
  · rw [List.getElem?_eq_getElem hl] at h1
    simpa using h1
  · intro j b hj hb
    have hjl : j < s.Q.length := (List.getElem?_eq_some_iff.1 hb).1
    have hja : j ∈ as := by
      have hjm : j ∈ (List.range s.Q.length).reverse := by simpa using hjl
      rw [h2, List.mem_append, List.mem_cons] at hjm
      rcases hjm with h' | h' | h'
      · exact h'
      · omega
      · have hpw : ((List.range s.Q.length).reverse).Pairwise (· > ·) := by
          rw [List.pairwise_reverse]
          exact List.pairwise_lt_range
        rw [h2, List.pairwise_append] at hpw
        have := List.pairwise_cons.1 hpw.2.1
        have := this.1 j h'
        omega
    have := h3 j hja
    rw [hb] at this
    simpa using this
theorem DS.last?_none {s : DS} (h : s.last? = none) : s.stuck = [] := by
  unfold DS.last? at h
  rw [List.find?_eq_none] at h
  cases e : s.stuck with
  | nil => rfl
  | cons p t =>
    have hp : p ∈ s.stuck := by rw [e]; simp
    obtain ⟨i, a, h1, h2⟩ := DS.stuck_waits hp
    have hl : i < s.Q.length := (List.getElem?_eq_some_iff.1 h1).1
    have := h i (by simpa using hl)
    rw [h1] at this
    simp [h2, hp] at this

/-- All that settling leaves alone, and what it does in each round: a property that each round keeps is kept. -/
theorem DS.settleN_keeps {P : DS → Prop} (hf : ∀ s i a, P s → s.Q[i]? = some a → s.way a (s.Q.take i) = [] → P ((s.leave i).take a).1)
    (hs : ∀ s i a, P s → s.Q[i]? = some a → s.free? = none → a.p ∈ s.stuck → P (s.leave i)) : ∀ (n : Nat) (s : DS), P s → P (DS.settleN n s).1
  | 0, s, h => h
  | n + 1, s, h => by
    unfold DS.settleN
    cases e : s.free? with
    | some i =>
      obtain ⟨a, h1, h2, _⟩ := DS.free?_some e
      simp only [h1, Option.getD_some]
      exact DS.settleN_keeps hf hs n _ (hf s i a h h1 h2)
    | none =>
      cases e2 : s.last? with
      | none => exact h
      | some i =>
        obtain ⟨a, h1, h2, _⟩ := DS.last?_some e2
        simp only []
        exact DS.settleN_keeps hf hs n _ (hs s i a h h1 e h2)
theorem DS.leave_len {s : DS} {i : Nat} {a : Ask} (h : s.Q[i]? = some a) : (s.leave i).Q.length + 1 = s.Q.length := by
  have hl : i < s.Q.length := (List.getElem?_eq_some_iff.1 h).1
  simp only [DS.leave]
  rw [List.length_eraseIdx]
  simp only [hl, if_true]; omega
/-- Behind settling nobody waits with nothing in its way, and nobody is stuck. -/
theorem DS.settleN_done : ∀ (n : Nat) (s : DS), s.Q.length ≤ n → (DS.settleN n s).1.free? = none ∧ (DS.settleN n s).1.last? = none
  | 0, s, h => by
    have hq : s.Q = [] := List.eq_nil_of_length_eq_zero (by omega)
    simp [DS.settleN, DS.free?, DS.last?, hq]
  | n + 1, s, h => by
    unfold DS.settleN
    cases e : s.free? with
    | some i =>
      obtain ⟨a, h1, h2, _⟩ := DS.free?_some e
      simp only [h1, Option.getD_some]
      refine DS.settleN_done n _ ?_
      rw [DS.take_Q]
      have := DS.leave_len h1
      omega
    | none =>
      cases e2 : s.last? with
      | none => exact ⟨e, e2⟩
      | some i =>
        obtain ⟨a, h1, h2, _⟩ := DS.last?_some e2
        simp only []
        refine DS.settleN_done n _ ?_
        have := DS.leave_len h1
        omega
theorem erase_perm {α : Type} : ∀ (l : List α) (i : Nat) (a : α), l[i]? = some a → (a :: l.eraseIdx i).Perm l
  | [], i, a, h => by simp at h
  | b :: l, 0, a, h => by simp at h; subst h; simp
  | b :: l, i + 1, a, h => by
    have ih := erase_perm l i a (by simpa using h)
    rw [List.eraseIdx_cons_succ]
    exact (List.Perm.swap b a _).trans (List.Perm.cons b ih)
/-- Who waits no more, and who still does, are together those who waited. -/
theorem DS.settleN_perm : ∀ (n : Nat) (s : DS), ((DS.settleN n s).1.Q.map (·.p) ++ (DS.settleN n s).2.map (·.p)).Perm (s.Q.map (·.p))
  | 0, s => by simp [DS.settleN]
  | n + 1, s => by
    have key : ∀ (i : Nat) (a : Ask) (t : DS) (_ : s.Q[i]? = some a) (_ : t.Q = (s.leave i).Q) (e : Int), ((DS.settleN n t).1.Q.map (·.p) ++ (⟨a.p, e⟩ :: (DS.settleN n t).2 : List Dn).map (·.p)).Perm (s.Q.map (·.p)) := by
      intro i a t h1 ht e
      have ih := DS.settleN_perm n t
      rw [List.map_cons]
      refine List.perm_middle.trans ?_
      refine (List.Perm.cons a.p ih).trans ?_
      rw [ht]
      have hl : i < s.Q.length := (List.getElem?_eq_some_iff.1 h1).1
      have h2 : s.Q[i] = a := (List.getElem?_eq_some_iff.1 h1).2
      have := (erase_perm s.Q i a h1).map (·.p)
      rw [List.map_cons] at this
      exact this
    unfold DS.settleN
    cases e : s.free? with
    | some i =>
      obtain ⟨a, h1, h2, _⟩ := DS.free?_some e
      simp only [h1, Option.getD_some]
      exact key i a _ h1 (DS.take_Q _ _) _
    | none =>
      cases e2 : s.last? with
      | none => simp
      | some i =>
        obtain ⟨a, h1, h2, _⟩ := DS.last?_some e2
        simp only [h1, Option.getD_some]
        exact key i a _ h1 rfl _
end Go.Proofs.YtaicdjhblbobbabGreat

/- What holds of every state that calls lead to: locks do not bite, who waits has something in its way, nobody is stuck. -/
namespace Go.Proofs.YtaicdjhblbobbabGreat

theorem biteB_comm (a b : Int) : biteB a b = biteB b a := by
  unfold biteB
  by_cases h : a = 0 ∨ b = 0
  · rw [if_pos h, if_pos h.symm]
  · rw [if_neg h, if_neg (fun h' => h h'.symm)]
    exact decide_eq_decide.2 or_comm
theorem biteB_zero (b : Int) : biteB 0 b = false := by simp [biteB]
theorem biteB_zero' (b : Int) : biteB b 0 = false := by simp [biteB]
theorem Rn.bites_iff {a b : Rn} : a.bites b = true ↔ a.p ≠ b.p ∧ a.f ≤ b.t ∧ b.f ≤ a.t ∧ biteB a.k b.k = true := by
  unfold Rn.bites bitesB meetsB
  simp only [Bool.and_eq_true, decide_eq_true_eq]
  constructor
  · rintro ⟨⟨h1, h2, h3⟩, h4⟩; exact ⟨h1, h2, h3, h4⟩
  · rintro ⟨h1, h2, h3, h4⟩; exact ⟨⟨h1, h2, h3⟩, h4⟩
theorem Rn.not_bites {a b : Rn} : a.bites b = false ↔ ¬ (a.p ≠ b.p ∧ a.f ≤ b.t ∧ b.f ≤ a.t ∧ biteB a.k b.k = true) := by
  rw [← Rn.bites_iff]; simp
theorem live_mem {L : Nat → Bool} {p : Int} (h : liveB L p = true) : p ∈ ps6 := by
  unfold liveB at h
  simp only [Bool.and_eq_true, decide_eq_true_eq] at h
  have : p = 0 ∨ p = 1 ∨ p = 2 ∨ p = 3 ∨ p = 4 ∨ p = 5 := by omega
  unfold ps6
  rcases this with h | h | h | h | h | h <;> simp [h]
theorem mem_ps6 {p : Int} : p ∈ ps6 ↔ 0 ≤ p ∧ p < 6 := by
  unfold ps6
  simp only [List.mem_cons, List.not_mem_nil, or_false]
  omega
theorem mem_ds5 {p : Int} : p ∈ ds5 ↔ 0 ≤ p ∧ p < 5 := by
  unfold ds5
  simp only [List.mem_cons, List.not_mem_nil, or_false]
  omega
/-- Nothing of a list bites, told by positions. -/
def NB (l : List Rn) : Prop := ∀ p q i, p ≠ q → biteB (cellR l p i) (cellR l q i) = false
theorem nb_cells {l : List Rn} (hl : WF l) : (∀ x y, x ∈ l → y ∈ l → x.bites y = false) ↔ NB l := by
  constructor
  · intro h p q i hpq
    rcases cellR_cases hl.ap p i with ⟨x, hx, rfl, h1, h2, h3⟩ | ⟨_, h3⟩
    · rcases cellR_cases hl.ap q i with ⟨y, hy, rfl, g1, g2, g3⟩ | ⟨_, g3⟩
      · rw [h3, g3]
        have := h x y hx hy
        rw [Rn.not_bites] at this
        cases e : biteB x.k y.k with
        | false => rfl
        | true => exact absurd ⟨hpq, by omega, by omega, e⟩ this
      · rw [g3, biteB_zero']
    · rw [h3, biteB_zero]
  · intro h x y hx hy
    rw [Rn.not_bites]
    rintro ⟨h1, h2, h3, h4⟩
    have fx := hl.ok x hx
    have fy := hl.ok y hy
    unfold Rn.fine at fx fy
    have := h x.p y.p (max x.f y.f) h1
    rw [cellR_mem hl.ap hx (by omega) (by omega), cellR_mem hl.ap hy (by omega) (by omega)] at this
    rw [this] at h4; cases h4
/-- A lock is free of a list: nothing there bites it. -/
theorem clear_cells {l : List Rn} (hl : WF l) {r : Rn} (hr : r.f ≤ r.t) : (∀ x, x ∈ l → r.bites x = false) ↔ ∀ q i, q ≠ r.p → r.f ≤ i → i ≤ r.t → biteB r.k (cellR l q i) = false := by
  constructor
  · intro h q i hq h1 h2
    rcases cellR_cases hl.ap q i with ⟨y, hy, rfl, g1, g2, g3⟩ | ⟨_, g3⟩
    · rw [g3]
      have := h y hy
      rw [Rn.not_bites] at this
      cases e : biteB r.k y.k with
      | false => rfl
      | true => exact absurd ⟨fun e => hq e.symm, by omega, by omega, e⟩ this
    · rw [g3, biteB_zero']
  · intro h x hx
    rw [Rn.not_bites]
    rintro ⟨h1, h2, h3, h4⟩
    have fx := hl.ok x hx
    unfold Rn.fine at fx
    have := h x.p (max r.f x.f) (fun e => h1 e.symm) (by omega) (by omega)
    rw [cellR_mem hl.ap hx (by omega) (by omega)] at this
    rw [this] at h4; cases h4
theorem cellR_proc {l : List Rn} (hl : WF l) {x : Rn} (hx : x ∈ l) : cellR l x.p x.f ≠ 0 := by
  have := hl.ok x hx
  unfold Rn.fine at this
  rw [cellR_mem hl.ap hx (Int.le_refl _) this.2.1]
  omega
theorem dropR_filter {l : List Rn} (hl : WF l) (p : Int) : dropR l p = l.filter fun x => decide (x.p ≠ p) := by
  obtain ⟨h1, h2⟩ := without_all hl p
  have hf : WF (l.filter fun x => decide (x.p ≠ p)) := ⟨List.Pairwise.sublist List.filter_sublist hl.srt, fun x hx => hl.ok x (List.mem_filter.1 hx).1, List.Pairwise.sublist List.filter_sublist hl.ap⟩
  unfold dropR
  refine WF.ext h1 hf fun q i => ?_
  rw [h2]
  split
  · rename_i h
    subst h
    refine (cellR_none fun x hx hc => ?_).symm
    have := (List.mem_filter.1 hx).2
    simp at this
    exact this hc.1
  · rename_i h
    rcases cellR_cases hl.ap q i with ⟨x, hx, rfl, g1, g2, g3⟩ | ⟨g, g3⟩
    · rw [g3]
      exact (cellR_mem hf.ap (List.mem_filter.2 ⟨hx, by simpa using h⟩) g1 g2).symm
    · rw [g3]
      exact (cellR_none fun x hx hc => g x (List.mem_filter.1 hx).1 hc).symm

/-- A valid ask. -/
structure DS.AskOk (s : DS) (a : Ask) : Prop where
  l : liveB s.L a.p = true
  k : a.k = 0 ∨ a.k = 1 ∨ a.k = 2
  file : a.file < 3
  wh : a.whole = true → s.has a.o a.p = true ∧ s.O a.o = a.file
  rg : a.whole = false → 0 ≤ a.f ∧ a.f ≤ a.t ∧ a.t ≤ 63
/-- All but waiting. -/
structure DS.Bas (s : DS) : Prop where
  f : ∀ p d o, s.F p d = some o → liveB s.L p = true ∧ 0 ≤ d ∧ d < 5 ∧ o < s.N
  o : ∀ o, s.O o < 3
  wf : ∀ f, WF (s.R f)
  len : ∀ f, (s.R f).length ≤ 12
  lv : ∀ f x, x ∈ s.R f → liveB s.L x.p = true
  nb : ∀ f x y, x ∈ s.R f → y ∈ s.R f → x.bites y = false
  w : ∀ f x, x ∈ s.W f → s.inUse x.o = true ∧ (x.k = 1 ∨ x.k = 2) ∧ s.O x.o = f
  wn : ∀ f, (s.W f).Pairwise fun x y => x.o ≠ y.o ∧ biteB x.k y.k = false
  qn : s.Q.Pairwise fun a b => a.p ≠ b.p
  q : ∀ a, a ∈ s.Q → s.AskOk a ∧ a.k ≠ 0
structure DS.Inv (s : DS) : Prop extends s.Bas where
  free : ∀ i a, s.Q[i]? = some a → s.way a (s.Q.take i) ≠ []
  stk : s.stuck = []

/-- Nothing that is locked bites a. -/
def DS.Clear (s : DS) (a : Ask) : Prop := (a.whole = true → ∀ w, w ∈ s.W a.file → w.o ≠ a.o → biteB a.k w.k = false) ∧ (a.whole = false → ∀ x, x ∈ s.R a.file → a.run.bites x = false)
theorem holders_nil {l : List Rn} {r : Rn} (hl : ∀ x, x ∈ l → x.p ∈ ps6) (h : holders l r = []) : ∀ x, x ∈ l → r.bites x = false := fun x hx => by
  unfold holders at h
  rw [List.filter_eq_nil_iff] at h
  have := h x.p (hl x hx)
  simp only [List.any_eq_true, Bool.and_eq_true, decide_eq_true_eq] at this
  cases e : r.bites x with
  | false => rfl
  | true => exact absurd ⟨x, hx, rfl, e⟩ this
theorem holders_of_clear {l : List Rn} {r : Rn} (h : ∀ x, x ∈ l → r.bites x = false) : holders l r = [] := by
  unfold holders
  rw [List.filter_eq_nil_iff]
  intro q _
  simp only [List.any_eq_true, Bool.and_eq_true, decide_eq_true_eq]
  rintro ⟨x, hx, _, hb⟩
  rw [h x hx] at hb; cases hb
theorem DS.Clear.of_way {s : DS} (h : s.Bas) {a : Ask} {l : List Ask} (hw : s.way a l = []) : s.Clear a := by
  unfold DS.way at hw
  rw [List.append_eq_nil_iff] at hw
  refine ⟨fun e w hm ho => ?_, fun e => ?_⟩
  · have h2 := hw.2
    rw [if_pos e, List.map_eq_nil_iff, List.filter_eq_nil_iff] at h2
    have := h2 w hm
    simp only [Bool.and_eq_true, decide_eq_true_eq] at this
    cases e : biteB a.k w.k with
    | false => rfl
    | true => exact absurd ⟨ho, e⟩ this
  · have h2 := hw.2
    rw [if_neg (by simp [e]), List.map_eq_nil_iff] at h2
    exact holders_nil (fun x hx => live_mem (h.lv _ x hx)) h2
theorem DS.Clear.of_zero {s : DS} {a : Ask} (h : a.k = 0) : s.Clear a := ⟨fun _ w _ _ => by rw [h]; exact biteB_zero _, fun _ x _ => by rw [Rn.not_bites]; rintro ⟨_, _, _, h4⟩; simp [Ask.run, h, biteB_zero] at h4⟩

theorem DS.inUse_iff {s : DS} {o : Nat} : s.inUse o = true ↔ ∃ p, p ∈ ps6 ∧ s.has o p = true := by
  unfold DS.inUse; simp
theorem DS.has_iff {s : DS} {o : Nat} {p : Int} : s.has o p = true ↔ ∃ d, d ∈ ds5 ∧ s.F p d = some o := by
  unfold DS.has; simp
theorem DS.AskOk.congr {s t : DS} {a : Ask} (h : s.AskOk a) (hL : t.L = s.L) (hF : t.F = s.F) (hO : t.O = s.O) : t.AskOk a :=
  ⟨by rw [hL]; exact h.l, h.k, h.file, fun e => by unfold DS.has; rw [hF, hO]; exact h.wh e, h.rg⟩
theorem mem_setW {l : List Wl} {o : Nat} {k : Int} {x : Wl} (h : x ∈ setW l o k) : (x ∈ l ∧ (x.o ≠ o ∨ x = ⟨o, k⟩)) ∨ (x = ⟨o, k⟩ ∧ k ≠ 0) ∨ (x ∈ l ∧ (⟨o, k⟩ : Wl) ∈ l) := by
  unfold setW at h
  split at h
  · rename_i hm; exact Or.inr (Or.inr ⟨h, hm⟩)
  · rw [List.mem_append] at h
    rcases h with h | h
    · rw [List.mem_filter] at h
      exact Or.inl ⟨h.1, Or.inl (by simpa using h.2)⟩
    · split at h
      · cases h
      · rename_i hk
        simp at h
        exact Or.inr (Or.inl ⟨h, hk⟩)

theorem DS.Bas.take {s : DS} (h : s.Bas) {a : Ask} (ha : s.AskOk a) (hc : s.Clear a) : (s.take a).1.Bas := by
  unfold DS.take
  split
  · rename_i hw
    obtain ⟨hu, ho⟩ := ha.wh hw
    have hall : ∀ x, x ∈ setW (s.W a.file) a.o a.k → s.inUse x.o = true ∧ (x.k = 1 ∨ x.k = 2) ∧ s.O x.o = a.file := by
      intro x hx
      rcases mem_setW hx with ⟨hm, _⟩ | ⟨rfl, hk⟩ | ⟨hm, _⟩
      · exact h.w _ x hm
      · refine ⟨DS.inUse_iff.2 ⟨a.p, live_mem ha.l, hu⟩, ?_, ho⟩
        have := ha.k; show a.k = 1 ∨ a.k = 2; omega
      · exact h.w _ x hm
    refine ⟨h.f, h.o, h.wf, h.len, h.lv, h.nb, ?_, ?_, h.qn, fun b hb => ⟨(h.q b hb).1.congr rfl rfl rfl, (h.q b hb).2⟩⟩
    · intro f x hx
      simp only [updR] at hx
      split at hx
      · rename_i e
        subst e
        exact hall x hx
      · exact h.w f x hx
    · intro f
      simp only [updR]
      split
      · rename_i e
        subst e
        unfold setW
        split
        · exact h.wn _
        · rw [List.pairwise_append]
          refine ⟨List.Pairwise.sublist List.filter_sublist (h.wn _), ?_, ?_⟩
          · split <;> simp
          · intro x hx y hy
            split at hy
            · cases hy
            · simp at hy
              subst hy
              rw [List.mem_filter] at hx
              have hne : x.o ≠ a.o := by simpa using hx.2
              exact ⟨hne, by rw [biteB_comm]; exact hc.1 hw x hx.1 hne⟩
      · exact h.wn f
  · rename_i hw
    have hw : a.whole = false := by simpa using hw
    obtain ⟨r0, r1, r2⟩ := ha.rg hw
    obtain ⟨s1, s2⟩ := setR_all (h.wf a.file) (r := a.run) r0 r1 r2 ha.k
    split
    · exact h
    · rename_i hlen
      refine ⟨h.f, h.o, ?_, ?_, ?_, ?_, h.w, h.wn, h.qn, fun b hb => ⟨(h.q b hb).1.congr rfl rfl rfl, (h.q b hb).2⟩⟩
      · intro f; simp only [updR]; split
        · exact s1
        · exact h.wf f
      · intro f; simp only [updR]; split
        · omega
        · exact h.len f
      · intro f x hx
        simp only [updR] at hx
        split at hx
        · have hne := cellR_proc s1 hx
          rw [s2] at hne
          split at hne
          · rename_i e
            rw [e.1]; exact ha.l
          · obtain ⟨y, hy, hp, _⟩ := cellR_some hne
            rw [← hp]; exact h.lv _ y hy
        · exact h.lv f x hx
      · intro f
        simp only [updR]
        split
        · rw [nb_cells s1]
          have hnb := (nb_cells (h.wf a.file)).1 (h.nb a.file)
          have hcl := (clear_cells (h.wf a.file) (r := a.run) r1).1 (hc.2 hw)
          intro p q i hpq
          rw [s2, s2]
          split
          · rename_i e1
            rw [if_neg (fun e2 => hpq (e1.1.trans e2.1.symm))]
            exact hcl q i (fun e => hpq (e1.1.trans e.symm)) e1.2.1 e1.2.2
          · split
            · rename_i e2
              rw [biteB_comm]
              exact hcl p i (fun e => hpq (e.trans e2.1.symm)) e2.2.1 e2.2.2
            · exact hnb p q i hpq
        · exact h.nb f
theorem DS.Bas.leave {s : DS} (h : s.Bas) (i : Nat) : (s.leave i).Bas :=
  ⟨h.f, h.o, h.wf, h.len, h.lv, h.nb, h.w, h.wn, List.Pairwise.sublist (List.eraseIdx_sublist _ _) h.qn,
   fun b hb => ⟨(h.q b ((List.eraseIdx_sublist _ _).subset hb)).1.congr rfl rfl rfl, (h.q b ((List.eraseIdx_sublist _ _).subset hb)).2⟩⟩
theorem DS.Bas.settle {s : DS} (h : s.Bas) : s.settle.1.Inv := by
  have hb : s.settle.1.Bas := by
    refine DS.settleN_keeps (P := DS.Bas) ?_ ?_ _ _ h
    · intro t i a ht hq hway
      have hm := List.mem_of_getElem? hq
      have hc : (t.leave i).Clear a := DS.Clear.of_way ht hway
      exact (ht.leave i).take ((ht.q a hm).1.congr rfl rfl rfl) hc
    · intro t i a ht _ _ _
      exact ht.leave i
  obtain ⟨h1, h2⟩ := DS.settleN_done s.Q.length s (Nat.le_refl _)
  exact ⟨hb, DS.free?_none h1, DS.last?_none h2⟩
theorem DS.Bas.settled {s : DS} (h : s.Bas) : s.settled.1.Inv := h.settle
end Go.Proofs.YtaicdjhblbobbabGreat

/- Each call keeps the invariant of the model; some process that does not wait is there whenever one is that does. -/
namespace Go.Proofs.YtaicdjhblbobbabGreat

theorem DS.mem_users {s : DS} {o : Nat} {p : Int} : p ∈ s.users o ↔ p ∈ ps6 ∧ s.has o p = true := by
  unfold DS.users; rw [List.mem_filter]
theorem DS.mem_way {s : DS} {a : Ask} {l : List Ask} {c : List Int} : c ∈ s.way a l ↔ (∃ b, b ∈ l ∧ a.bites b = true ∧ c = [b.p]) ∨ (a.whole = true ∧ ∃ w, w ∈ s.W a.file ∧ w.o ≠ a.o ∧ biteB a.k w.k = true ∧ c = s.users w.o) ∨ (a.whole = false ∧ ∃ q, q ∈ holders (s.R a.file) a.run ∧ c = [q]) := by
  unfold DS.way
  rw [List.mem_append, List.mem_map]
  have e1 : (∃ b, b ∈ l.filter a.bites ∧ [b.p] = c) ↔ (∃ b, b ∈ l ∧ a.bites b = true ∧ c = [b.p]) := by
    constructor
    · rintro ⟨b, h1, h2⟩; rw [List.mem_filter] at h1; exact ⟨b, h1.1, h1.2, h2.symm⟩
    · rintro ⟨b, h1, h2, h3⟩; exact ⟨b, List.mem_filter.2 ⟨h1, h2⟩, h3.symm⟩
  rw [e1]
  cases hw : a.whole with
  | true =>
    simp only [if_true, List.mem_map, List.mem_filter, Bool.and_eq_true, decide_eq_true_eq]
    constructor
    · rintro (h | ⟨w, ⟨h1, h2, h3⟩, h4⟩)
      · exact Or.inl h
      · exact Or.inr (Or.inl ⟨trivial, w, h1, h2, h3, h4.symm⟩)
    · rintro (h | ⟨_, w, h1, h2, h3, h4⟩ | ⟨h, _⟩)
      · exact Or.inl h
      · exact Or.inr ⟨w, ⟨h1, h2, h3⟩, h4.symm⟩
      · cases h
  | false =>
    simp only [Bool.false_eq_true, if_false, List.mem_map]
    constructor
    · rintro (h | ⟨q, h1, h2⟩)
      · exact Or.inl h
      · exact Or.inr (Or.inr ⟨trivial, q, h1, h2.symm⟩)
    · rintro (h | ⟨h, _⟩ | ⟨_, q, h1, h2⟩)
      · exact Or.inl h
      · cases h
      · exact Or.inr ⟨q, h1, h2.symm⟩
theorem mem_holders {l : List Rn} {r : Rn} {q : Int} : q ∈ holders l r ↔ q ∈ ps6 ∧ ∃ x, x ∈ l ∧ x.p = q ∧ r.bites x = true := by
  unfold holders
  rw [List.mem_filter]
  simp only [List.any_eq_true, Bool.and_eq_true, decide_eq_true_eq]
theorem nil_of_not_mem {α : Type} {l : List α} (h : ∀ x, x ∉ l) : l = [] := List.eq_nil_iff_forall_not_mem.2 h

/-- More descriptors, more processes, more openings: all that waited waits on, and nobody is stuck. -/
theorem DS.Inv.grow {s t : DS} (h : s.Inv) (hQ : t.Q = s.Q) (hR : t.R = s.R) (hW : t.W = s.W) (hL : ∀ p, liveB s.L p = true → liveB t.L p = true)
    (hF : ∀ p d o, s.F p d = some o → t.F p d = some o) (hO : ∀ o, o < s.N → t.O o = s.O o) (hO3 : ∀ o, t.O o < 3)
    (hf : ∀ p d o, t.F p d = some o → liveB t.L p = true ∧ 0 ≤ d ∧ d < 5 ∧ o < t.N) : t.Inv := by
  have hhas : ∀ o p, s.has o p = true → t.has o p = true := fun o p hh => by
    rw [DS.has_iff] at hh ⊢
    obtain ⟨d, h1, h2⟩ := hh
    exact ⟨d, h1, hF _ _ _ h2⟩
  have hlt : ∀ o p, s.has o p = true → o < s.N := fun o p hh => by
    rw [DS.has_iff] at hh
    obtain ⟨d, h1, h2⟩ := hh
    exact (h.f _ _ _ h2).2.2.2
  have hway : ∀ a l c, c ∈ t.way a l → ∃ c0, c0 ∈ s.way a l ∧ ∀ q, q ∈ c0 → q ∈ c := fun a l c hc => by
    rw [DS.mem_way] at hc
    rcases hc with ⟨b, h1, h2, h3⟩ | ⟨h0, w, h1, h2, h3, h4⟩ | ⟨h0, q, h1, h2⟩
    · exact ⟨c, DS.mem_way.2 (Or.inl ⟨b, h1, h2, h3⟩), fun _ hq => hq⟩
    · refine ⟨s.users w.o, DS.mem_way.2 (Or.inr (Or.inl ⟨h0, w, hW ▸ h1, h2, h3, rfl⟩)), fun q hq => ?_⟩
      rw [h4]
      rw [DS.mem_users] at hq ⊢
      exact ⟨hq.1, hhas _ _ hq.2⟩
    · exact ⟨c, DS.mem_way.2 (Or.inr (Or.inr ⟨h0, q, hR ▸ h1, h2⟩)), fun _ hq => hq⟩
  have hway' : ∀ a l, s.way a l ≠ [] → t.way a l ≠ [] := fun a l hne hn => by
    apply hne
    refine nil_of_not_mem fun c hc => ?_
    rw [DS.mem_way] at hc
    have : ∃ c', c' ∈ t.way a l := by
      rcases hc with ⟨b, h1, h2, h3⟩ | ⟨h0, w, h1, h2, h3, h4⟩ | ⟨h0, q, h1, h2⟩
      · exact ⟨_, DS.mem_way.2 (Or.inl ⟨b, h1, h2, rfl⟩)⟩
      · exact ⟨_, DS.mem_way.2 (Or.inr (Or.inl ⟨h0, w, hW ▸ h1, h2, h3, rfl⟩))⟩
      · exact ⟨_, DS.mem_way.2 (Or.inr (Or.inr ⟨h0, q, hR ▸ h1, rfl⟩))⟩
    obtain ⟨c', hc'⟩ := this
    rw [hn] at hc'; cases hc'
  refine ⟨⟨hf, hO3, fun f => hR ▸ h.wf f, fun f => hR ▸ h.len f, fun f x hx => hL _ (h.lv f x (hR ▸ hx)), fun f x y hx hy => h.nb f x y (hR ▸ hx) (hR ▸ hy), ?_, fun f => hW ▸ h.wn f, hQ ▸ h.qn, ?_⟩, ?_, ?_⟩
  · intro f x hx
    rw [hW] at hx
    obtain ⟨h1, h2, h3⟩ := h.w f x hx
    rw [DS.inUse_iff] at h1
    obtain ⟨p, hp, hh⟩ := h1
    exact ⟨DS.inUse_iff.2 ⟨p, hp, hhas _ _ hh⟩, h2, by rw [hO _ (hlt _ _ hh)]; exact h3⟩
  · intro a ha
    rw [hQ] at ha
    obtain ⟨h1, h2⟩ := h.q a ha
    exact ⟨⟨hL _ h1.l, h1.k, h1.file, fun e => ⟨hhas _ _ (h1.wh e).1, by rw [hO _ (hlt _ _ (h1.wh e).1)]; exact (h1.wh e).2⟩, h1.rg⟩, h2⟩
  · intro i a ha
    rw [hQ] at ha ⊢
    exact hway' _ _ (h.free i a ha)
  · refine nil_of_not_mem fun p hp => ?_
    have : s.IsStuck (· ∈ t.stuck) := fun q hq => by
      obtain ⟨i, a, h1, h2, c, h3, h4⟩ := t.stuck_is q hq
      rw [hQ] at h1 h3
      obtain ⟨c0, h5, h6⟩ := hway _ _ _ h3
      exact ⟨i, a, h1, h2, c0, h5, fun r hr => h4 r (h6 r hr)⟩
    have := DS.stuck_greatest this hp
    rw [h.stk] at this; cases this

theorem DS.may_ok {s : DS} {p : Int} (h : s.may p = 0) : liveB s.L p = true ∧ s.waits p = false := by
  unfold DS.may at h
  cases hl : liveB s.L p with
  | false => rw [if_pos hl] at h; cases h
  | true =>
    rw [if_neg (by simp [hl])] at h
    cases hw : s.waits p with
    | false => exact ⟨rfl, rfl⟩
    | true => rw [if_pos hw] at h; cases h
theorem DS.waits_iff {s : DS} {p : Int} : s.waits p = true ↔ ∃ a, a ∈ s.Q ∧ a.p = p := by
  unfold DS.waits; simp
theorem DS.not_waits {s : DS} {p : Int} (h : s.waits p = false) {a : Ask} (ha : a ∈ s.Q) : a.p ≠ p := fun e => by
  have := DS.waits_iff.2 ⟨a, ha, e⟩
  rw [h] at this; cases this
theorem liveB_upd {L : Nat → Bool} {c p : Int} (h : liveB L p = true) : liveB (updL L c.toNat true) p = true := by
  unfold liveB updL at *
  simp only [Bool.and_eq_true, decide_eq_true_eq] at h ⊢
  refine ⟨h.1, ?_⟩
  split
  · rfl
  · exact h.2
theorem DS.Inv.fork {s : DS} (h : s.Inv) (p : Int) : (s.fork p).1.Inv := by
  unfold DS.fork
  split
  · exact h
  · rename_i hm
    have hm : s.may p = 0 := by simpa using hm
    obtain ⟨hl, hw⟩ := DS.may_ok hm
    cases e : ps6.find? fun c => !s.L c.toNat with
    | none => exact h
    | some c =>
      have hc : c ∈ ps6 := List.mem_of_find?_eq_some e
      have hd : s.L c.toNat = false := by simpa using List.find?_some e
      rw [mem_ps6] at hc
      have hlc : liveB s.L c = false := by simp [liveB, hd]
      have hnone : ∀ d, s.F c d = none := fun d => by
        cases e' : s.F c d with
        | none => rfl
        | some o => have := (h.f _ _ _ e').1; rw [hlc] at this; cases this
      have hlv : liveB (updL s.L c.toNat true) c = true := by simp [liveB, updL]; omega
      refine h.grow rfl rfl rfl (fun q hq => liveB_upd hq) ?_ (fun _ _ => rfl) h.o ?_
      · intro q d o hq
        show copyF s.F p c 5 q d = some o
        unfold copyF
        rw [if_neg]
        · exact hq
        · rintro ⟨rfl, _⟩; rw [hnone] at hq; cases hq
      · intro q d o hq
        have hq : copyF s.F p c 5 q d = some o := hq
        unfold copyF at hq
        split at hq
        · rename_i hc'
          obtain ⟨_, h2, h3, h4⟩ := h.f _ _ _ hq
          exact ⟨by rw [hc'.1]; exact hlv, h2, h3, h4⟩
        · obtain ⟨h1, h2, h3, h4⟩ := h.f _ _ _ hq
          exact ⟨liveB_upd h1, h2, h3, h4⟩
theorem DS.least?_some {s : DS} {p d : Int} (h : s.least? p = some d) : 0 ≤ d ∧ d < 5 ∧ s.F p d = none := by
  unfold DS.least? at h
  have h1 := List.mem_of_find?_eq_some h
  have h2 := List.find?_some h
  rw [mem_ds5] at h1
  exact ⟨h1.1, h1.2, by simpa using h2⟩
theorem DS.Inv.opn {s : DS} (h : s.Inv) (p f : Int) : (s.opn p f).1.Inv := by
  unfold DS.opn
  split
  · exact h
  · rename_i hm
    have hm : s.may p = 0 := by simpa using hm
    obtain ⟨hl, hw⟩ := DS.may_ok hm
    split
    · exact h
    · rename_i hf
      have hf : 0 ≤ f ∧ f < 3 := by simpa using hf
      cases e : s.least? p with
      | none => exact h
      | some d =>
        obtain ⟨d0, d1, d2⟩ := DS.least?_some e
        refine h.grow rfl rfl rfl (fun q hq => hq) ?_ ?_ ?_ ?_
        · intro q d' o hq
          show updF s.F p d (some s.N) q d' = some o
          unfold updF
          rw [if_neg]
          · exact hq
          · rintro ⟨rfl, rfl⟩; rw [d2] at hq; cases hq
        · intro o ho
          show updR s.O s.N f.toNat o = s.O o
          unfold updR
          rw [if_neg (by omega)]
        · intro o
          show updR s.O s.N f.toNat o < 3
          unfold updR
          split
          · omega
          · exact h.o o
        · intro q d' o hq
          have hq : updF s.F p d (some s.N) q d' = some o := hq
          show _ ∧ _ ∧ _ ∧ o < s.N + 1
          unfold updF at hq
          split at hq
          · rename_i e'
            simp at hq
            rw [e'.1, e'.2]
            exact ⟨hl, d0, d1, by omega⟩
          · obtain ⟨h1, h2, h3, h4⟩ := h.f _ _ _ hq
            exact ⟨h1, h2, h3, by omega⟩
theorem DS.find_ok {s : DS} {p d : Int} {o : Nat} (h : s.find p d = .ok o) : s.may p = 0 ∧ 0 ≤ d ∧ d < 5 ∧ s.F p d = some o := by
  unfold DS.find at h
  split at h
  · cases h
  · rename_i hm
    split at h
    · cases h
    · rename_i hd
      cases e : s.F p d with
      | none => rw [e] at h; cases h
      | some o' =>
        rw [e] at h
        simp at h
        subst h
        exact ⟨by simpa using hm, (Decidable.of_not_not hd).1, (Decidable.of_not_not hd).2, rfl⟩
theorem DS.Inv.dup {s : DS} (h : s.Inv) (p d : Int) : (s.dup p d).1.Inv := by
  unfold DS.dup
  cases e : s.find p d with
  | error x => exact h
  | ok o =>
    obtain ⟨hm, d0, d1, hF⟩ := DS.find_ok e
    obtain ⟨hl, hw⟩ := DS.may_ok hm
    simp only []
    cases e2 : s.least? p with
    | none => exact h
    | some d' =>
      obtain ⟨g0, g1, g2⟩ := DS.least?_some e2
      refine h.grow rfl rfl rfl (fun q hq => hq) ?_ (fun _ _ => rfl) h.o ?_
      · intro q e' o' hq
        show updF s.F p d' (some o) q e' = some o'
        unfold updF
        rw [if_neg]
        · exact hq
        · rintro ⟨rfl, rfl⟩; rw [g2] at hq; cases hq
      · intro q e' o' hq
        have hq : updF s.F p d' (some o) q e' = some o' := hq
        unfold updF at hq
        split at hq
        · rename_i e''
          simp at hq
          rw [e''.1, e''.2]
          exact ⟨hl, g0, g1, hq ▸ (h.f _ _ _ hF).2.2.2⟩
        · exact h.f _ _ _ hq

theorem DS.has_congr {s t : DS} {o : Nat} {p : Int} (h : ∀ d, t.F p d = s.F p d) : t.has o p = s.has o p := by
  unfold DS.has; simp only [h]
theorem DS.Bas.dropped {s : DS} (h : s.Bas) (p : Int) (f : Nat) : WF (dropR (s.R f) p) ∧ (dropR (s.R f) p).length ≤ 12 ∧ (∀ x, x ∈ dropR (s.R f) p → x ∈ s.R f ∧ x.p ≠ p) := by
  refine ⟨(without_all (h.wf f) p).1, ?_, ?_⟩
  · rw [dropR_filter (h.wf f)]
    exact Nat.le_trans (List.length_filter_le _ _) (h.len f)
  · intro x hx
    rw [dropR_filter (h.wf f), List.mem_filter] at hx
    exact ⟨hx.1, by simpa using hx.2⟩
theorem DS.sweep_has (s : DS) (o : Nat) (p : Int) : s.sweep.has o p = s.has o p := rfl
theorem DS.sweep_inUse (s : DS) (o : Nat) : s.sweep.inUse o = s.inUse o := rfl
theorem DS.Bas.gone {s : DS} (h : s.Bas) (p : Int) (hp : liveB s.L p = true) : (s.gone p).Bas := by
  have hL : ∀ q, q ≠ p → liveB s.L q = true → liveB (updL s.L p.toNat false) q = true := fun q hq hl => by
    unfold liveB updL at *
    simp only [Bool.and_eq_true, decide_eq_true_eq] at hl hp ⊢
    rw [if_neg (by omega)]; exact hl
  have hhas : ∀ o q, q ≠ p → (s.gone p).has o q = s.has o q := fun o q hq => DS.has_congr fun d => by
    show clearF s.F p q d = s.F q d
    unfold clearF; rw [if_neg hq]
  refine ⟨?_, h.o, fun f => (h.dropped p f).1, fun f => (h.dropped p f).2.1, ?_, ?_, ?_, ?_, List.Pairwise.sublist List.filter_sublist h.qn, ?_⟩
  · intro q d o hq
    have hq : clearF s.F p q d = some o := hq
    unfold clearF at hq
    split at hq
    · cases hq
    · rename_i hne
      obtain ⟨h1, h2⟩ := h.f _ _ _ hq
      exact ⟨hL q hne h1, h2⟩
  · intro f x hx
    obtain ⟨h1, h2⟩ := (h.dropped p f).2.2 x hx
    exact hL _ h2 (h.lv f x h1)
  · intro f x y hx hy
    exact h.nb f x y ((h.dropped p f).2.2 x hx).1 ((h.dropped p f).2.2 y hy).1
  · intro f x hx
    have hx : x ∈ (s.W f).filter fun w => (s.gone p).inUse w.o := hx
    rw [List.mem_filter] at hx
    obtain ⟨_, h2, h3⟩ := h.w f x hx.1
    exact ⟨hx.2, h2, h3⟩
  · intro f
    exact List.Pairwise.sublist List.filter_sublist (h.wn f)
  · intro a ha
    have ha : a ∈ s.Q.filter fun a => decide (a.p ≠ p) := ha
    rw [List.mem_filter] at ha
    have hne : a.p ≠ p := by simpa using ha.2
    obtain ⟨h1, h2⟩ := h.q a ha.1
    exact ⟨⟨hL _ hne h1.l, h1.k, h1.file, fun e => ⟨by rw [hhas _ _ hne]; exact (h1.wh e).1, (h1.wh e).2⟩, h1.rg⟩, h2⟩
theorem DS.Inv.kill {s : DS} (h : s.Inv) (p : Int) : (s.kill p).1.Inv := by
  unfold DS.kill
  split
  · exact h
  · rename_i hp
    exact (h.toBas.gone p (by simpa using hp)).settled
theorem DS.Bas.shut {s : DS} (h : s.Bas) {p d : Int} {o : Nat} (hw : s.waits p = false) : (s.shut p d o).Bas := by
  have hhas : ∀ o' q, q ≠ p → (s.shut p d o).has o' q = s.has o' q := fun o' q hq => DS.has_congr fun d' => by
    show updF s.F p d none q d' = s.F q d'
    unfold updF; rw [if_neg (fun e => hq e.1)]
  have hR : ∀ f, WF ((s.shut p d o).R f) ∧ ((s.shut p d o).R f).length ≤ 12 ∧ ∀ x, x ∈ (s.shut p d o).R f → x ∈ s.R f := fun f => by
    show WF (updR s.R _ _ f) ∧ (updR s.R _ _ f).length ≤ 12 ∧ ∀ x, x ∈ updR s.R _ _ f → x ∈ s.R f
    unfold updR
    split
    · rename_i e
      obtain ⟨h1, h2, h3⟩ := h.dropped p (s.O o)
      exact ⟨h1, h2, fun x hx => e ▸ (h3 x hx).1⟩
    · exact ⟨h.wf f, h.len f, fun x hx => hx⟩
  refine ⟨?_, h.o, fun f => (hR f).1, fun f => (hR f).2.1, fun f x hx => h.lv f x ((hR f).2.2 x hx), fun f x y hx hy => h.nb f x y ((hR f).2.2 x hx) ((hR f).2.2 y hy), ?_, ?_, h.qn, ?_⟩
  · intro q d' o' hq
    have hq : updF s.F p d none q d' = some o' := hq
    unfold updF at hq
    split at hq
    · cases hq
    · exact h.f _ _ _ hq
  · intro f x hx
    have hx : x ∈ (s.W f).filter fun w => (s.shut p d o).inUse w.o := hx
    rw [List.mem_filter] at hx
    obtain ⟨_, h2, h3⟩ := h.w f x hx.1
    exact ⟨hx.2, h2, h3⟩
  · intro f
    exact List.Pairwise.sublist List.filter_sublist (h.wn f)
  · intro a ha
    obtain ⟨h1, h2⟩ := h.q a ha
    have hne := DS.not_waits hw ha
    exact ⟨⟨h1.l, h1.k, h1.file, fun e => ⟨by rw [hhas _ _ hne]; exact (h1.wh e).1, (h1.wh e).2⟩, h1.rg⟩, h2⟩
theorem DS.Inv.close {s : DS} (h : s.Inv) (p d : Int) : (s.close p d).1.Inv := by
  unfold DS.close
  cases e : s.find p d with
  | error x => exact h
  | ok o =>
    obtain ⟨hm, _⟩ := DS.find_ok e
    exact (h.toBas.shut (DS.may_ok hm).2).settled

theorem DS.Inv.pend {s : DS} (h : s.Inv) {a : Ask} (ha : s.AskOk a) (hk : a.k ≠ 0) (hw : s.waits a.p = false) (hway : s.way a s.Q ≠ []) (hs : a.p ∉ (DS.stuck {s with Q := s.Q ++ [a]})) : DS.Inv {s with Q := s.Q ++ [a]} := by
  refine ⟨⟨h.f, h.o, h.wf, h.len, h.lv, h.nb, h.w, h.wn, ?_, ?_⟩, ?_, ?_⟩
  · show (s.Q ++ [a]).Pairwise fun a b => a.p ≠ b.p
    rw [List.pairwise_append]
    refine ⟨h.qn, by simp, fun x hx y hy => ?_⟩
    simp at hy; subst hy
    exact DS.not_waits hw hx
  · intro b hb
    have hb : b ∈ s.Q ++ [a] := hb
    rw [List.mem_append] at hb
    rcases hb with hb | hb
    · exact ⟨(h.q b hb).1.congr rfl rfl rfl, (h.q b hb).2⟩
    · simp at hb; subst hb
      exact ⟨ha.congr rfl rfl rfl, hk⟩
  · intro i b hb
    have hb : (s.Q ++ [a])[i]? = some b := hb
    show s.way b ((s.Q ++ [a]).take i) ≠ []
    rcases Nat.lt_or_ge i s.Q.length with hi | hi
    · rw [List.getElem?_append_left hi] at hb
      rw [List.take_append_of_le_length (by omega)]
      exact h.free i b hb
    · rw [List.getElem?_append_right hi] at hb
      have hi' : i - s.Q.length = 0 := by
        cases e : i - s.Q.length with
        | zero => rfl
        | succ n => rw [e] at hb; simp at hb
      rw [hi'] at hb
      simp at hb; subst hb
      have : i = s.Q.length := by omega
      rw [this, List.take_left']
      · exact hway
      · rfl
  · refine nil_of_not_mem fun p hp => ?_
    have hst : s.IsStuck (· ∈ DS.stuck {s with Q := s.Q ++ [a]}) := fun q hq => by
      obtain ⟨i, b, h1, h2, c, h3, h4⟩ := DS.stuck_is {s with Q := s.Q ++ [a]} q hq
      have h1 : (s.Q ++ [a])[i]? = some b := h1
      have h3 : c ∈ s.way b ((s.Q ++ [a]).take i) := h3
      rcases Nat.lt_or_ge i s.Q.length with hi | hi
      · rw [List.getElem?_append_left hi] at h1
        rw [List.take_append_of_le_length (by omega)] at h3
        exact ⟨i, b, h1, h2, c, h3, h4⟩
      · rw [List.getElem?_append_right hi] at h1
        have hi' : i - s.Q.length = 0 := by
          cases e : i - s.Q.length with
          | zero => rfl
          | succ n => rw [e] at h1; simp at h1
        rw [hi'] at h1
        simp at h1; subst h1
        rw [h2] at hs
        exact absurd hq hs
    have := DS.stuck_greatest hst hp
    rw [h.stk] at this; cases this
theorem DS.Inv.ask {s : DS} (h : s.Inv) {a : Ask} (ha : s.AskOk a) (hw : s.waits a.p = false) (wait : Bool) : (s.ask a wait).1.Inv := by
  unfold DS.ask
  split
  · rename_i hc
    split
    · exact h
    · refine (h.toBas.take ha ?_).settled
      rcases hc with hc | hc
      · exact DS.Clear.of_zero hc
      · exact DS.Clear.of_way h.toBas hc
  · rename_i hc
    rw [not_or] at hc
    split
    · exact h
    · split
      · exact h
      · rename_i hs
        exact h.pend ha hc.1 hw hc.2 hs
theorem kindB_ok {k : Int} (h : ¬ kindB k = false) : k = 0 ∨ k = 1 ∨ k = 2 := by
  unfold kindB at h
  simp at h
  omega
theorem DS.AskOk.lock {s : DS} (h : s.Bas) {p d k f l : Int} {o : Nat} (e : s.find p d = .ok o) (hk : ¬ kindB k = false) (hr : ¬ badS f l = true) : s.AskOk ⟨p, k, s.O o, false, o, fromS f l, toS f l⟩ := by
  obtain ⟨hm, d0, d1, hF⟩ := DS.find_ok e
  exact ⟨(DS.may_ok hm).1, kindB_ok hk, h.o o, (fun e => by cases e), (fun _ => bounds_ok (by simpa using hr))⟩
theorem DS.AskOk.whole {s : DS} (h : s.Bas) {p d k : Int} {o : Nat} (e : s.find p d = .ok o) (hk : ¬ kindB k = false) : s.AskOk ⟨p, k, s.O o, true, o, 0, 0⟩ := by
  obtain ⟨hm, d0, d1, hF⟩ := DS.find_ok e
  exact ⟨(DS.may_ok hm).1, kindB_ok hk, h.o o, (fun _ => ⟨DS.has_iff.2 ⟨d, mem_ds5.2 ⟨d0, d1⟩, hF⟩, rfl⟩), (fun e => by cases e)⟩
theorem DS.Inv.lock {s : DS} (h : s.Inv) (p d k f l : Int) (wait : Bool) : (s.lock p d k f l wait).1.Inv := by
  unfold DS.lock
  cases e : s.find p d with
  | error x => exact h
  | ok o =>
    simp only []
    split
    · exact h
    · rename_i hk
      split
      · exact h
      · rename_i hr
        exact h.ask (DS.AskOk.lock h.toBas e hk hr) (DS.may_ok (DS.find_ok e).1).2 wait
theorem DS.Inv.whole {s : DS} (h : s.Inv) (p d k : Int) (wait : Bool) : (s.whole p d k wait).1.Inv := by
  unfold DS.whole
  cases e : s.find p d with
  | error x => exact h
  | ok o =>
    simp only []
    split
    · exact h
    · rename_i hk
      exact h.ask (DS.AskOk.whole h.toBas e hk) (DS.may_ok (DS.find_ok e).1).2 wait
theorem DS.Inv.step {s : DS} (h : s.Inv) (c : Cl) : (s.step c).1.Inv := by
  cases c with
  | fork p => exact h.fork p
  | kill p => exact h.kill p
  | opn p f => exact h.opn p f
  | dup p d => exact h.dup p d
  | close p d => exact h.close p d
  | lock p d k f l w => exact h.lock p d k f l w
  | test p d k f l => exact h
  | whole p d k w => exact h.whole p d k w
theorem DS.Inv.new : DS.new.Inv where
  f := fun p d o h => by cases h
  o := fun _ => by show 0 < 3; decide
  wf := fun _ => ⟨List.Pairwise.nil, (fun _ h => by cases h), List.Pairwise.nil⟩
  len := fun _ => by show 0 ≤ 12; decide
  lv := fun _ _ h => by cases h
  nb := fun _ _ _ h => by cases h
  w := fun _ _ h => by cases h
  wn := fun _ => List.Pairwise.nil
  qn := List.Pairwise.nil
  q := fun _ h => by cases h
  free := fun i a h => by simp [DS.new] at h
  stk := rfl

/-- Some process that does not wait is there whenever one is that does. -/
theorem DS.Inv.someone {s : DS} (h : s.Inv) (hq : s.Q ≠ []) : ∃ p, liveB s.L p = true ∧ s.waits p = false := by
  rcases Classical.em (∃ p, liveB s.L p = true ∧ s.waits p = false) with h' | h'
  · exact h'
  · exfalso
    have hall : ∀ p, liveB s.L p = true → s.waits p = true := fun p hp => by
      cases e : s.waits p with
      | true => rfl
      | false => exact absurd ⟨p, hp, e⟩ h'
    have hst : s.IsStuck (fun p => liveB s.L p = true) := fun p hp => by
      obtain ⟨a, ha, hap⟩ := DS.waits_iff.1 (hall p hp)
      obtain ⟨i, hi, he⟩ := List.getElem_of_mem ha
      have hi' : s.Q[i]? = some a := by rw [List.getElem?_eq_getElem hi, he]
      have hne := h.free i a hi'
      obtain ⟨c, hc⟩ := List.exists_mem_of_ne_nil _ hne
      refine ⟨i, a, hi', hap, c, hc, fun q hqc => ?_⟩
      rw [DS.mem_way] at hc
      rcases hc with ⟨b, h1, h2, rfl⟩ | ⟨h0, w, h1, h2, h3, rfl⟩ | ⟨h0, q', h1, rfl⟩
      · simp at hqc; subst hqc
        exact (h.q b (List.mem_of_mem_take h1)).1.l
      · rw [DS.mem_users, DS.has_iff] at hqc
        obtain ⟨_, d, _, hF⟩ := hqc
        exact (h.f _ _ _ hF).1
      · simp at hqc; subst hqc
        obtain ⟨_, x, hx, rfl, _⟩ := mem_holders.1 h1
        exact h.lv _ x hx
    obtain ⟨a, ha⟩ := List.exists_mem_of_ne_nil _ hq
    have := DS.stuck_greatest hst (h.q a ha).1.l
    rw [h.stk] at this; cases this
end Go.Proofs.YtaicdjhblbobbabGreat

/- Which of those that wait are stuck, as the program finds them: who is not bound is left out, again and again. -/
namespace Go.Proofs.YtaicdjhblbobbabGreat

/-- One that waits, and for each thing in its way those who could let it go. -/
abbrev Wt := Int × List (List Int)
def Wt.bound (ps : List Int) (x : Wt) : Bool := x.2.any fun c => c.all fun q => decide (q ∈ ps)
def boundF (l : List Wt) : List Wt := l.filter (Wt.bound (l.map (·.1)))
def greatN : Nat → List Wt → List Wt
  | 0, l => l
  | n + 1, l => greatN n (boundF l)
def greatF (l : List Wt) : List Wt := greatN l.length l
theorem boundF_len (l : List Wt) : (boundF l).length ≤ l.length := List.length_filter_le _ _
theorem boundF_same {l : List Wt} (h : (boundF l).length = l.length) : boundF l = l := List.filter_eq_self.2 (List.length_filter_eq_length_iff.1 h)
theorem greatN_same {l : List Wt} (h : boundF l = l) : ∀ n, greatN n l = l
  | 0 => rfl
  | n + 1 => by unfold greatN; rw [h]; exact greatN_same h n
theorem greatN_add : ∀ (a b : Nat) (l : List Wt), greatN (a + b) l = greatN b (greatN a l)
  | 0, b, l => by simp [greatN]
  | a + 1, b, l => by rw [Nat.add_right_comm]; exact greatN_add a b (boundF l)
theorem greatN_succ (n : Nat) (l : List Wt) : greatN (n + 1) l = boundF (greatN n l) := greatN_add n 1 l
theorem greatN_fix : ∀ (n : Nat) (l : List Wt), l.length ≤ n → boundF (greatN n l) = greatN n l
  | 0, l, h => by
    have : l = [] := List.eq_nil_of_length_eq_zero (by omega)
    subst this; rfl
  | n + 1, l, h => by
    by_cases he : (boundF l).length = l.length
    · rw [greatN_same (boundF_same he)]; exact boundF_same he
    · have := boundF_len l
      exact greatN_fix n (boundF l) (by omega)
theorem greatF_fix (l : List Wt) : boundF (greatF l) = greatF l := greatN_fix _ _ (Nat.le_refl _)
theorem greatF_done {l : List Wt} {n : Nat} (hn : n ≤ l.length) (h : boundF (greatN n l) = greatN n l) : greatF l = greatN n l := by
  unfold greatF
  obtain ⟨k, hk⟩ : ∃ k, l.length = n + k := ⟨l.length - n, by omega⟩
  rw [hk, greatN_add, greatN_same h]
theorem greatN_filter : ∀ (n : Nat) (l : List Wt), ∃ f : Wt → Bool, greatN n l = l.filter f
  | 0, l => ⟨fun _ => true, (List.filter_eq_self.2 fun _ _ => rfl).symm⟩
  | n + 1, l => by
    obtain ⟨f, hf⟩ := greatN_filter n (boundF l)
    refine ⟨fun x => Wt.bound (l.map (·.1)) x && f x, ?_⟩
    unfold greatN
    rw [hf, boundF, List.filter_filter]
    exact List.filter_congr fun x _ => by rw [Bool.and_comm]
theorem greatF_sub {l : List Wt} {x : Wt} (h : x ∈ greatF l) : x ∈ l := by
  obtain ⟨f, hf⟩ := greatN_filter l.length l
  unfold greatF at h
  rw [hf] at h
  exact (List.mem_filter.1 h).1

/-- The list has, of each one that waits, what is in its way. -/
structure Wts (s : DS) (l : List Wt) : Prop where
  len : l.length = s.Q.length
  at' : ∀ i a x, s.Q[i]? = some a → l[i]? = some x → x.1 = a.p ∧ ∀ c, c ∈ x.2 ↔ c ∈ s.way a (s.Q.take i)
theorem Wts.ask {s : DS} {l : List Wt} (h : Wts s l) {i : Nat} {x : Wt} (hx : l[i]? = some x) : ∃ a, s.Q[i]? = some a ∧ x.1 = a.p ∧ ∀ c, c ∈ x.2 ↔ c ∈ s.way a (s.Q.take i) := by
  have hi : i < l.length := (List.getElem?_eq_some_iff.1 hx).1
  have ha : s.Q[i]? = some (s.Q[i]'(by rw [← h.len]; exact hi)) := List.getElem?_eq_getElem _
  exact ⟨_, ha, h.at' i _ x ha hx⟩
theorem Wts.wt {s : DS} {l : List Wt} (h : Wts s l) {i : Nat} {a : Ask} (ha : s.Q[i]? = some a) : ∃ x, l[i]? = some x ∧ x.1 = a.p ∧ ∀ c, c ∈ x.2 ↔ c ∈ s.way a (s.Q.take i) := by
  have hi : i < s.Q.length := (List.getElem?_eq_some_iff.1 ha).1
  have hx : l[i]? = some (l[i]'(by rw [h.len]; exact hi)) := List.getElem?_eq_getElem _
  exact ⟨_, hx, h.at' i a _ ha hx⟩
def DS.Ones (s : DS) : Prop := (s.Q.map (·.p)).Nodup
theorem DS.Ones.same {s : DS} (h : s.Ones) {i j : Nat} {a b : Ask} (hi : s.Q[i]? = some a) (hj : s.Q[j]? = some b) (e : a.p = b.p) : i = j := by
  have hi' : (s.Q.map (·.p))[i]? = some a.p := by rw [List.getElem?_map, hi]; rfl
  have hj' : (s.Q.map (·.p))[j]? = some a.p := by rw [List.getElem?_map, hj, e]; rfl
  have hlt := (List.getElem?_eq_some_iff.1 hi').1
  exact (List.getElem?_inj hlt h).1 (hi'.trans hj'.symm)
theorem greatF_stuck {s : DS} (ho : s.Ones) {l : List Wt} (h : Wts s l) {x : Wt} : x ∈ greatF l ↔ x ∈ l ∧ x.1 ∈ s.stuck := by
  constructor
  · intro hx
    refine ⟨greatF_sub hx, ?_⟩
    refine DS.stuck_greatest (X := fun p => p ∈ (greatF l).map (·.1)) ?_ (List.mem_map.2 ⟨x, hx, rfl⟩)
    intro p hp
    obtain ⟨y, hy, rfl⟩ := List.mem_map.1 hp
    obtain ⟨i, hi⟩ := List.mem_iff_getElem?.1 (greatF_sub hy)
    obtain ⟨a, ha, e1, e2⟩ := h.ask hi
    have hb : y ∈ boundF (greatF l) := by rw [greatF_fix]; exact hy
    have hb2 := (List.mem_filter.1 hb).2
    unfold Wt.bound at hb2
    obtain ⟨c, hc, hall⟩ := List.any_eq_true.1 hb2
    exact ⟨i, a, ha, e1.symm, c, (e2 c).1 hc, fun q hq => by simpa using List.all_eq_true.1 hall q hq⟩
  · rintro ⟨hx, hs⟩
    have key : ∀ (n : Nat) (m : List Wt), (∀ y, y ∈ l → y.1 ∈ s.stuck → y ∈ m) → ∀ y, y ∈ l → y.1 ∈ s.stuck → y ∈ greatN n m := by
      intro n
      induction n with
      | zero => exact fun m hm => hm
      | succ n ih =>
        intro m hm
        refine ih (boundF m) fun y hy hys => ?_
        refine List.mem_filter.2 ⟨hm y hy hys, ?_⟩
        obtain ⟨i, a, ha, e, c, hc, hq⟩ := s.stuck_is _ hys
        obtain ⟨j, hj⟩ := List.mem_iff_getElem?.1 hy
        obtain ⟨b, hb, e1, e2⟩ := h.ask hj
        obtain rfl := ho.same ha hb (e.trans e1)
        obtain rfl : a = b := by rw [ha] at hb; exact Option.some.inj hb
        unfold Wt.bound
        refine List.any_eq_true.2 ⟨c, (e2 c).2 hc, List.all_eq_true.2 fun q hqc => ?_⟩
        have hqs := hq q hqc
        obtain ⟨k, b, hk, ek⟩ := DS.stuck_waits hqs
        obtain ⟨z, hz, ez, _⟩ := h.wt hk
        have : q ∈ m.map (·.1) := List.mem_map.2 ⟨z, hm z (List.mem_of_getElem? hz) (by rw [ez, ek]; exact hqs), by rw [ez, ek]⟩
        simpa using this
    exact key _ l (fun y hy _ => hy) x hx hs
/-- The last of the stuck ones. -/
def lastP (l : List Wt) : Option Int := ((greatF l).getLast?).map (·.1)
theorem greatF_eq {s : DS} (ho : s.Ones) {l : List Wt} (h : Wts s l) : greatF l = l.filter fun x => decide (x.1 ∈ s.stuck) := by
  obtain ⟨f, hf⟩ := greatN_filter l.length l
  have hg : greatF l = l.filter f := hf
  rw [hg]
  refine List.filter_congr fun x hx => ?_
  have := greatF_stuck ho h (x := x)
  rw [hg] at this
  simp only [List.mem_filter, hx, true_and] at this
  rw [Bool.eq_iff_iff, this]
  simp
theorem lastP_eq {s : DS} (ho : s.Ones) {l : List Wt} (h : Wts s l) : lastP l = s.last?.map fun i => (s.Q[i]?.getD default).p := by
  unfold lastP
  rw [greatF_eq ho h]
  cases hl : s.last? with
  | none =>
    rw [DS.last?_none hl]
    simp
  | some i =>
    obtain ⟨a, ha, hs, hlast⟩ := DS.last?_some hl
    obtain ⟨x, hx, e1, _⟩ := h.wt ha
    have hi : i < l.length := (List.getElem?_eq_some_iff.1 hx).1
    have hsplit : l = l.take i ++ x :: l.drop (i + 1) := by
      have : l[i] = x := (List.getElem?_eq_some_iff.1 hx).2
      rw [← this, List.getElem_cons_drop, List.take_append_drop]
    have hdrop : (l.drop (i + 1)).filter (fun x => decide (x.1 ∈ s.stuck)) = [] := by
      refine List.filter_eq_nil_iff.2 fun y hy => ?_
      obtain ⟨j, hj⟩ := List.mem_iff_getElem?.1 hy
      rw [List.getElem?_drop] at hj
      obtain ⟨b, hb, eb, _⟩ := h.ask hj
      have := hlast (i + 1 + j) b (by omega) hb
      simpa [eb] using this
    rw [hsplit, List.filter_append, List.filter_cons, if_pos (by simpa [e1] using hs), hdrop]
    simp [ha, e1]
theorem lastP_mem {s : DS} (ho : s.Ones) {l : List Wt} (h : Wts s l) {a : Ask} (ha : s.Q.getLast? = some a) : lastP l = some a.p ↔ a.p ∈ s.stuck := by
  rw [lastP_eq ho h]
  have hn : s.Q[s.Q.length - 1]? = some a := by rw [← List.getLast?_eq_getElem?]; exact ha
  constructor
  · intro hs
    cases hl : s.last? with
    | none => rw [hl] at hs; cases hs
    | some i =>
      rw [hl] at hs
      obtain ⟨b, hb, hs', _⟩ := DS.last?_some hl
      simp [hb] at hs
      rw [← hs]; exact hs'
  · intro hs
    cases hl : s.last? with
    | none => rw [DS.last?_none hl] at hs; cases hs
    | some i =>
      obtain ⟨b, hb, hs', hlast⟩ := DS.last?_some hl
      have hi : i < s.Q.length := (List.getElem?_eq_some_iff.1 hb).1
      by_cases he : i < s.Q.length - 1
      · exact absurd hs (hlast _ a he hn)
      · have : i = s.Q.length - 1 := by omega
        subst this
        simp [hn]
end Go.Proofs.YtaicdjhblbobbabGreat
