/- The plain mathematics of runs: lists of runs by their first positions, cut and joined; no program in sight. -/
import Derived.Below
namespace Go.Proofs.YtaicdjhblbobbaaGreat

def biteB (a b : Int) : Bool := if a = 0 ∨ b = 0 then false else decide (a = 2 ∨ b = 2)
def meetsB (f t g u : Int) : Bool := decide (f ≤ u) && decide (g ≤ t)
def bitesB (p k f t q l g u : Int) : Bool := decide (p ≠ q) && meetsB f t g u && biteB k l
def contB (p k f t q l g u : Int) : Bool := decide (p = q) && decide (k = l) && (decide (t + 1 = g) || decide (u + 1 = f))
def kindB (n : Int) : Bool := decide (0 ≤ n) && decide (n ≤ 2)
def cmpI (a b : Int) : Int := if a < b then -1 else if b < a then 1 else 0
/-- The order of two runs: by their first positions, then by their processes. -/
def orI (a b : Int) : Int := if a = 0 then b else a
def ordI (p f q g : Int) : Int := orI (cmpI f g) (cmpI p q)
def badS (f l : Int) : Bool := decide (f < 0) || decide (64 < f) || decide (l < -64) || decide (64 < l) || (decide (l = 0) && decide (63 < f)) || (decide (0 < l) && decide (64 < f + l)) || (decide (l < 0) && decide (f + l < 0))
def fromS (f l : Int) : Int := if l < 0 then f + l else f
def toS (f l : Int) : Int := if l = 0 then 63 else if 0 < l then f + l - 1 else f - 1
theorem bounds_ok {f l : Int} (h : badS f l = false) : 0 ≤ fromS f l ∧ fromS f l ≤ toS f l ∧ toS f l ≤ 63 := by
  simp [badS] at h
  unfold fromS toS
  (repeat' split) <;> omega
def updF (F : Int → Int → Option Nat) (p d : Int) (o : Option Nat) : Int → Int → Option Nat := fun q e => if q = p ∧ e = d then o else F q e
def L0 : Nat → Bool := fun j => j == 0
def updL (L : Nat → Bool) (c : Nat) (v : Bool) : Nat → Bool := fun j => if j = c then v else L j
/-- What a process that was forked has: the descriptors below k. -/
def copyF (F : Int → Int → Option Nat) (p c : Int) (k : Nat) : Int → Int → Option Nat := fun q e => if q = c ∧ 0 ≤ e ∧ e < k then F p e else F q e
def liveB (L : Nat → Bool) (p : Int) : Bool := decide (0 ≤ p) && decide (p < 6) && L p.toNat
/-- A run: the process, the kind, the first and the last position. -/
structure Rn where
  p : Int
  k : Int
  f : Int
  t : Int
  deriving DecidableEq, Inhabited
def Rn.ord (a b : Rn) : Int := ordI a.p a.f b.p b.f

/-- a stands ahead of b. -/
def Rn.lt (a b : Rn) : Prop := a.f < b.f ∨ (a.f = b.f ∧ a.p < b.p)
theorem ord_neg (a b : Rn) : a.ord b < 0 ↔ a.lt b := by
  unfold Rn.ord ordI orI cmpI Rn.lt
  (repeat' split) <;> omega
theorem Rn.lt_trans' {a b c : Rn} (h : ¬ b.lt a) (k : b.lt c) : a.lt c := by unfold Rn.lt at *; omega

/-- Sorted, weakly. -/
def Srt (l : List Rn) : Prop := l.Pairwise fun a b => ¬ b.lt a

/-- How many stand ahead of r. -/
def posR (l : List Rn) (r : Rn) : Nat := l.countP fun x => decide (x.ord r < 0)
/-- The list with one run more, at place i. -/
def insAt (l : List Rn) (i : Nat) (r : Rn) : List Rn := l.take i ++ r :: l.drop i
def insR (l : List Rn) (r : Rn) : List Rn := insAt l (posR l r) r

theorem posR_le (l : List Rn) (r : Rn) : posR l r ≤ l.length := List.countP_le_length
theorem Srt.boundary : ∀ (l : List Rn) (r : Rn), Srt l → (∀ t x, l[t]? = some x → t < posR l r → x.ord r < 0) ∧ (∀ t x, l[t]? = some x → posR l r ≤ t → 0 ≤ x.ord r)
  | [], r, _ => ⟨by simp, by simp⟩
  | a :: l, r, h => by
    have h' := List.pairwise_cons.1 h
    obtain ⟨ih1, ih2⟩ := Srt.boundary l r h'.2
    by_cases ha : a.ord r < 0
    · have e : posR (a :: l) r = posR l r + 1 := by simp [posR, ha]
      rw [e]
      refine ⟨fun t x hx ht => ?_, fun t x hx ht => ?_⟩
      · cases t with
        | zero => simp at hx; subst hx; exact ha
        | succ t => exact ih1 t x (by simpa using hx) (by omega)
      · cases t with
        | zero => omega
        | succ t => exact ih2 t x (by simpa using hx) (by omega)
    · have hall : ∀ x, x ∈ l → ¬ x.ord r < 0 := fun x hx hlt => by
        rw [ord_neg] at hlt ha
        exact ha (Rn.lt_trans' (h'.1 x hx) hlt)
      have e : posR (a :: l) r = 0 := by
        unfold posR
        rw [List.countP_eq_zero]
        intro x hx
        rcases List.mem_cons.1 hx with rfl | hx
        · simpa using ha
        · simpa using hall x hx
      rw [e]
      refine ⟨fun t x _ ht => absurd ht (Nat.not_lt_zero _), fun t x hx _ => ?_⟩
      have hm : x ∈ a :: l := List.mem_of_getElem? hx
      rcases List.mem_cons.1 hm with rfl | hm
      · omega
      · have := hall x hm; omega

theorem Srt.ins {l : List Rn} (h : Srt l) (r : Rn) : Srt (insR l r) := by
  obtain ⟨h1, h2⟩ := Srt.boundary l r h
  unfold insR insAt Srt
  rw [List.pairwise_append]
  have ht : ∀ x, x ∈ l.take (posR l r) → x.lt r := fun x hx => by
    obtain ⟨t, ht, rfl⟩ := List.getElem_of_mem hx
    rw [List.length_take] at ht
    rw [← ord_neg]
    exact h1 t _ (by rw [List.getElem_take]; exact List.getElem?_eq_getElem (by omega)) (by omega)
  have hd : ∀ x, x ∈ l.drop (posR l r) → ¬ x.lt r := fun x hx => by
    obtain ⟨t, ht, rfl⟩ := List.getElem_of_mem hx
    rw [List.length_drop] at ht
    rw [← ord_neg]
    have := h2 (posR l r + t) _ (List.getElem?_eq_getElem (by omega)) (by omega)
    rw [List.getElem_drop]
    omega
  refine ⟨List.Pairwise.sublist (List.take_sublist _ _) h, List.pairwise_cons.2 ⟨fun x hx => hd x hx, List.Pairwise.sublist (List.drop_sublist _ _) h⟩, fun a ha b hb => ?_⟩
  rcases List.mem_cons.1 hb with rfl | hb
  · have := ht a ha
    unfold Rn.lt at *; omega
  · have := ht a ha
    have := hd b hb
    unfold Rn.lt at *; omega
theorem length_insR (l : List Rn) (r : Rn) : (insR l r).length = l.length + 1 := by
  have := posR_le l r
  simp [insR, insAt]; omega
theorem mem_insR {l : List Rn} {r x : Rn} : x ∈ insR l r ↔ x = r ∨ x ∈ l := by
  unfold insR insAt
  rw [List.mem_append, List.mem_cons]
  conv => rhs; rw [← List.take_append_drop (posR l r) l, List.mem_append]
  constructor <;> (rintro h; rcases h with h | h | h) <;> simp [h]

/-- One round of cut: what is left of r without the hole's positions comes to rest. -/
def cutS (h : Rn) (rest : List Rn) (r : Rn) : List Rn :=
  if r.p ≠ h.p ∨ meetsB r.f r.t h.f h.t = false then insR rest r else
  let a := if r.f < h.f then insR rest ⟨r.p, r.k, r.f, h.f - 1⟩ else rest
  if h.t < r.t then insR a ⟨r.p, r.k, h.t + 1, r.t⟩ else a
def cutR (l : List Rn) (h : Rn) : List Rn := l.foldl (cutS h) []

/-- One round of join: o comes to rest, or r takes it in. -/
def joinS (s : List Rn × Rn) (o : Rn) : List Rn × Rn :=
  if contB o.p o.k o.f o.t s.2.p s.2.k s.2.f s.2.t = false then (insR s.1 o, s.2) else (s.1, ⟨s.2.p, s.2.k, min s.2.f o.f, max s.2.t o.t⟩)
def joinR (l : List Rn) (r : Rn) : List Rn := let s := l.foldl joinS ([], r); insR s.1 s.2
def setR (l : List Rn) (r : Rn) : List Rn := if r.k = 0 then cutR l r else joinR (cutR l r) r

theorem Srt.cutS {h : Rn} {rest : List Rn} (hr : Srt rest) (r : Rn) : Srt (cutS h rest r) := by
  unfold Go.Proofs.YtaicdjhblbobbaaGreat.cutS
  split
  · exact hr.ins r
  · dsimp only
    split <;> split <;> first | exact (hr.ins _).ins _ | exact hr.ins _ | exact hr
theorem length_cutS (h : Rn) (rest : List Rn) (r : Rn) : (cutS h rest r).length ≤ rest.length + 2 := by
  unfold cutS
  split
  · rw [length_insR]; omega
  · dsimp only
    split <;> split <;> (try simp only [length_insR]) <;> omega
theorem Srt.cutR (l : List Rn) (h : Rn) : Srt (cutR l h) := by
  have : ∀ (l rest : List Rn), Srt rest → Srt (l.foldl (Go.Proofs.YtaicdjhblbobbaaGreat.cutS h) rest) := fun l => by
    induction l with
    | nil => exact fun _ h => h
    | cons a t ih => exact fun rest hr => ih _ (hr.cutS a)
  exact this l [] List.Pairwise.nil
theorem length_cutR (l : List Rn) (h : Rn) : (cutR l h).length ≤ l.length * 2 := by
  have : ∀ (l rest : List Rn), (l.foldl (cutS h) rest).length ≤ rest.length + l.length * 2 := fun l => by
    induction l with
    | nil => exact fun _ => by simp
    | cons a t ih => exact fun rest => by have := ih (cutS h rest a); have := length_cutS h rest a; simp only [List.foldl_cons, List.length_cons]; omega
  have := this l []
  simpa [cutR] using this
end Go.Proofs.YtaicdjhblbobbaaGreat

/- Plain facts on join's rounds: sorted, bounded, small. -/
namespace Go.Proofs.YtaicdjhblbobbaaGreat

/-- Its positions are small numbers. -/
def Rn.sm (r : Rn) : Prop := -100 ≤ r.f ∧ r.f ≤ 100 ∧ -100 ≤ r.t ∧ r.t ≤ 100
structure JoinOk (s : List Rn × Rn) (n : Nat) : Prop where
  srt : Srt s.1
  len : s.1.length ≤ n
  sm : s.2.sm
theorem JoinOk.step {s : List Rn × Rn} {n : Nat} (h : JoinOk s n) {o : Rn} (ho : o.sm) : JoinOk (joinS s o) (n + 1) := by
  unfold joinS
  split
  · exact ⟨h.srt.ins o, by rw [length_insR]; have := h.len; omega, h.sm⟩
  · refine ⟨h.srt, Nat.le_succ_of_le h.len, ?_⟩
    have := h.sm
    unfold Rn.sm at *
    simp only
    omega
theorem JoinOk.fold : ∀ (l : List Rn) (r : Rn), r.sm → (∀ x, x ∈ l → x.sm) → ∀ i, i ≤ l.length → JoinOk ((l.take i).foldl joinS ([], r)) i := fun l r hr hl i => by
  induction i with
  | zero => exact fun _ => ⟨List.Pairwise.nil, by simp, by simpa using hr⟩
  | succ i ih =>
    intro hi
    have hx : l[i]? = some l[i] := List.getElem?_eq_getElem (by omega)
    rw [List.take_add_one, hx]
    simp only [Option.toList_some, List.foldl_append, List.foldl_cons, List.foldl_nil]
    exact (ih (by omega)).step (hl _ (List.getElem_mem _))

end Go.Proofs.YtaicdjhblbobbaaGreat

/- The plain theory of lists of runs: what a process has on a position; lists in good form are told by that alone; what a lock that comes or goes makes of it. -/
namespace Go.Proofs.YtaicdjhblbobbaaGreat

/-- What process p has on position i. -/
def cellR (l : List Rn) (p i : Int) : Int := ((l.find? fun r => decide (r.p = p ∧ r.f ≤ i ∧ i ≤ r.t)).map (·.k)).getD 0
def Rn.fine (r : Rn) : Prop := 0 ≤ r.f ∧ r.f ≤ r.t ∧ r.t ≤ 63 ∧ (r.k = 1 ∨ r.k = 2)
/-- Two runs of one process have no position in common, and are not side by side with one kind. -/
def Rn.apart (a b : Rn) : Prop := a.p = b.p → (a.t < b.f ∨ b.t < a.f) ∧ (a.k = b.k → a.t + 1 ≠ b.f ∧ b.t + 1 ≠ a.f)
theorem Rn.apart.symm {a b : Rn} (h : a.apart b) : b.apart a := fun e => by
  obtain ⟨h1, h2⟩ := h e.symm
  exact ⟨by omega, fun hk => by have := h2 hk.symm; omega⟩
structure WF (l : List Rn) : Prop where
  srt : Srt l
  ok : ∀ x, x ∈ l → x.fine
  ap : l.Pairwise Rn.apart

theorem ap_mem {l : List Rn} (h : l.Pairwise Rn.apart) {x y : Rn} (hx : x ∈ l) (hy : y ∈ l) : x = y ∨ x.apart y := by
  induction l with
  | nil => cases hx
  | cons a t ih =>
    obtain ⟨h1, h2⟩ := List.pairwise_cons.1 h
    rcases List.mem_cons.1 hx with ex | hx' <;> rcases List.mem_cons.1 hy with ey | hy'
    · exact Or.inl (ex.trans ey.symm)
    · rw [ex]; exact Or.inr (h1 y hy')
    · rw [ey]; exact Or.inr (h1 x hx').symm
    · exact ih h2 hx' hy'
/-- Two runs that have a position in common for one process are one. -/
theorem ap_one {l : List Rn} (h : l.Pairwise Rn.apart) {x y : Rn} (hx : x ∈ l) (hy : y ∈ l) (hp : x.p = y.p) {i : Int} (h1 : x.f ≤ i) (h2 : i ≤ x.t) (h3 : y.f ≤ i) (h4 : i ≤ y.t) : x = y := by
  rcases ap_mem h hx hy with e | e
  · exact e
  · have := (e hp).1; omega

theorem cellR_mem {l : List Rn} (h : l.Pairwise Rn.apart) {x : Rn} (hx : x ∈ l) {i : Int} (h1 : x.f ≤ i) (h2 : i ≤ x.t) : cellR l x.p i = x.k := by
  unfold cellR
  cases hf : l.find? fun r => decide (r.p = x.p ∧ r.f ≤ i ∧ i ≤ r.t) with
  | none =>
    have := List.find?_eq_none.1 hf x hx
    simp at this; omega
  | some y =>
    have hy := List.mem_of_find?_eq_some hf
    have hc := List.find?_some hf
    simp at hc
    rw [ap_one h hy hx hc.1 hc.2.1 hc.2.2 h1 h2]
    rfl
theorem cellR_none {l : List Rn} {p i : Int} (h : ∀ x, x ∈ l → ¬ (x.p = p ∧ x.f ≤ i ∧ i ≤ x.t)) : cellR l p i = 0 := by
  unfold cellR
  rw [List.find?_eq_none.2 (fun x hx => by simpa using fun h1 h2 => by have := h x hx; simp [h1, h2] at this; omega)]
  rfl
theorem cellR_some {l : List Rn} {p i : Int} (h : cellR l p i ≠ 0) : ∃ x, x ∈ l ∧ x.p = p ∧ x.f ≤ i ∧ i ≤ x.t ∧ x.k = cellR l p i := by
  unfold cellR at *
  cases hf : l.find? fun r => decide (r.p = p ∧ r.f ≤ i ∧ i ≤ r.t) with
  | none => rw [hf] at h; exact absurd rfl h
  | some y =>
    have hc := List.find?_some hf
    simp at hc
    exact ⟨y, List.mem_of_find?_eq_some hf, hc.1, hc.2.1, hc.2.2, rfl⟩
/-- By cases: p has something on i by one run, or nothing. -/
theorem cellR_cases {l : List Rn} (h : l.Pairwise Rn.apart) (p i : Int) : (∃ x, x ∈ l ∧ x.p = p ∧ x.f ≤ i ∧ i ≤ x.t ∧ cellR l p i = x.k) ∨ ((∀ x, x ∈ l → ¬ (x.p = p ∧ x.f ≤ i ∧ i ≤ x.t)) ∧ cellR l p i = 0) := by
  by_cases hx : ∃ x, x ∈ l ∧ x.p = p ∧ x.f ≤ i ∧ i ≤ x.t
  · obtain ⟨x, h1, rfl, h3, h4⟩ := hx
    exact Or.inl ⟨x, h1, rfl, h3, h4, cellR_mem h h1 h3 h4⟩
  · have h0 : ∀ x, x ∈ l → ¬ (x.p = p ∧ x.f ≤ i ∧ i ≤ x.t) := fun x hx1 hx2 => hx ⟨x, hx1, hx2.1, hx2.2.1, hx2.2.2⟩
    exact Or.inr ⟨h0, cellR_none h0⟩

/-- A run is as long as it can be. -/
def MaxRun (c : Int → Int → Int) (x : Rn) : Prop := x.fine ∧ (∀ i, x.f ≤ i → i ≤ x.t → c x.p i = x.k) ∧ c x.p (x.f - 1) ≠ x.k ∧ c x.p (x.t + 1) ≠ x.k
theorem WF.max {l : List Rn} (h : WF l) {x : Rn} (hx : x ∈ l) : MaxRun (cellR l) x := by
  have hf := h.ok x hx
  have hf' := hf
  unfold Rn.fine at hf'
  refine ⟨hf, fun i h1 h2 => cellR_mem h.ap hx h1 h2, fun he => ?_, fun he => ?_⟩
  · obtain ⟨y, hy, hp, h1, h2, hk⟩ := cellR_some (l := l) (p := x.p) (i := x.f - 1) (by omega)
    rcases ap_mem h.ap hx hy with rfl | ha
    · omega
    · obtain ⟨a1, a2⟩ := ha hp.symm
      have := a2 (by rw [hk, he])
      have := h.ok y hy; unfold Rn.fine at this; omega
  · obtain ⟨y, hy, hp, h1, h2, hk⟩ := cellR_some (l := l) (p := x.p) (i := x.t + 1) (by omega)
    rcases ap_mem h.ap hx hy with rfl | ha
    · omega
    · obtain ⟨a1, a2⟩ := ha hp.symm
      have := a2 (by rw [hk, he])
      have := h.ok y hy; unfold Rn.fine at this; omega
theorem WF.of_max {l : List Rn} (h : WF l) {x : Rn} (hx : MaxRun (cellR l) x) : x ∈ l := by
  obtain ⟨hf, h1, h2, h3⟩ := hx
  unfold Rn.fine at hf
  have hc := h1 x.f (by omega) (by omega)
  obtain ⟨y, hy, hp, y1, y2, hk⟩ := cellR_some (l := l) (p := x.p) (i := x.f) (by omega)
  rw [hc] at hk
  obtain ⟨_, g1, g2, g3⟩ := h.max hy
  have e1 : y.f = x.f := by
    by_cases e : y.f = x.f
    · exact e
    · have := g1 (x.f - 1) (by omega) (by omega)
      rw [hp, hk] at this; exact absurd this h2
  have e2 : y.t = x.t := by
    rcases Int.lt_trichotomy y.t x.t with e | e | e
    · have := h1 (y.t + 1) (by omega) (by omega)
      rw [hp, hk] at g3; exact absurd this g3
    · exact e
    · have := g1 (x.t + 1) (by omega) (by omega)
      rw [hp, hk] at this; exact absurd this h3
  have : y = x := by cases y; cases x; simp_all
  rw [← this]; exact hy

theorem strict_eq : ∀ (l m : List Rn), l.Pairwise Rn.lt → m.Pairwise Rn.lt → (∀ x, x ∈ l ↔ x ∈ m) → l = m
  | [], [], _, _, _ => rfl
  | [], b :: m, _, _, h => absurd ((h b).2 List.mem_cons_self) (by simp)
  | a :: l, [], _, _, h => absurd ((h a).1 List.mem_cons_self) (by simp)
  | a :: l, b :: m, hl, hm, h => by
    obtain ⟨l1, l2⟩ := List.pairwise_cons.1 hl
    obtain ⟨m1, m2⟩ := List.pairwise_cons.1 hm
    have hab : a = b := by
      rcases List.mem_cons.1 ((h a).1 List.mem_cons_self) with e | e
      · exact e
      · rcases List.mem_cons.1 ((h b).2 List.mem_cons_self) with e' | e'
        · exact e'.symm
        · have x1 := m1 a e
          have x2 := l1 b e'
          unfold Rn.lt at x1 x2; omega
    subst hab
    have : l = m := strict_eq l m l2 m2 fun x => by
      have hx := h x
      simp only [List.mem_cons] at hx
      constructor
      · intro hxl
        rcases hx.1 (Or.inr hxl) with e | e
        · subst e; have := l1 _ hxl; unfold Rn.lt at this; omega
        · exact e
      · intro hxm
        rcases hx.2 (Or.inr hxm) with e | e
        · subst e; have := m1 _ hxm; unfold Rn.lt at this; omega
        · exact e
    rw [this]
theorem WF.strict {l : List Rn} (h : WF l) : l.Pairwise Rn.lt := by
  obtain ⟨hs, ho, ha⟩ := h
  unfold Srt at hs
  have hb := hs.and ha
  refine List.Pairwise.imp_of_mem ?_ hb
  intro a b hma hmb hab
  obtain ⟨h1, h2⟩ := hab
  have fa := ho a hma
  have fb := ho b hmb
  unfold Rn.fine at fa fb
  unfold Rn.lt at *
  by_cases hp : a.p = b.p
  · have := (h2 hp).1; omega
  · omega
/-- A list in good form is told by what the processes have on the positions. -/
theorem WF.ext {l m : List Rn} (hl : WF l) (hm : WF m) (h : ∀ p i, cellR l p i = cellR m p i) : l = m := by
  have e : cellR l = cellR m := funext fun p => funext fun i => h p i
  exact strict_eq l m hl.strict hm.strict fun x => ⟨fun hx => hm.of_max (e ▸ hl.max hx), fun hx => hl.of_max (e ▸ hm.max hx)⟩

theorem insR_perm (l : List Rn) (r : Rn) : (insR l r).Perm (r :: l) := by
  unfold insR insAt
  have := List.perm_middle (a := r) (l₁ := l.take (posR l r)) (l₂ := l.drop (posR l r))
  rw [List.take_append_drop] at this
  exact this

/-- What is left of r without the hole. -/
def pieces (h r : Rn) : List Rn :=
  if r.p ≠ h.p ∨ meetsB r.f r.t h.f h.t = false then [r] else
  (if r.f < h.f then [⟨r.p, r.k, r.f, h.f - 1⟩] else []) ++ (if h.t < r.t then [⟨r.p, r.k, h.t + 1, r.t⟩] else [])
theorem cutS_perm (h : Rn) (rest : List Rn) (r : Rn) : (cutS h rest r).Perm (pieces h r ++ rest) := by
  unfold cutS pieces
  split
  · exact insR_perm rest r
  · dsimp only
    split <;> split
    · refine (insR_perm _ _).trans (List.Perm.trans ?_ (List.Perm.swap _ _ _))
      exact List.Perm.cons _ (insR_perm _ _)
    · exact insR_perm _ _
    · exact insR_perm _ _
    · exact List.Perm.refl _
theorem cutR_perm (l : List Rn) (h : Rn) : (cutR l h).Perm (l.flatMap (pieces h)) := by
  have : ∀ (l rest : List Rn), (l.foldl (cutS h) rest).Perm (l.flatMap (pieces h) ++ rest) := fun l => by
    induction l with
    | nil => exact fun rest => List.Perm.refl _
    | cons a t ih =>
      intro rest
      refine (ih _).trans ?_
      rw [List.flatMap_cons, List.append_assoc]
      refine (List.Perm.append_left _ (cutS_perm h rest a)).trans ?_
      rw [← List.append_assoc, ← List.append_assoc]
      exact List.Perm.append_right _ List.perm_append_comm
  have := this l []
  rwa [List.append_nil] at this
theorem mem_pieces {h r x : Rn} (hf : r.f ≤ r.t) : x ∈ pieces h r → x.p = r.p ∧ x.k = r.k ∧ r.f ≤ x.f ∧ x.f ≤ x.t ∧ x.t ≤ r.t ∧ (x.p = h.p → x.t < h.f ∨ h.t < x.f) := by
  intro hx
  unfold pieces at hx
  split at hx
  · rename_i hc
    simp at hx; subst hx
    refine ⟨rfl, rfl, Int.le_refl _, hf, Int.le_refl _, fun hp => ?_⟩
    rcases hc with hc | hc
    · exact absurd hp hc
    · simp [meetsB] at hc; omega
  · rename_i hc
    simp [meetsB] at hc
    rw [List.mem_append] at hx
    rcases hx with hx | hx
    · split at hx
      · simp at hx; subst hx; simp; omega
      · cases hx
    · split at hx
      · simp at hx; subst hx; simp; omega
      · cases hx
theorem pieces_cov {h r : Rn} {p i : Int} (hr : r.p = p ∧ r.f ≤ i ∧ i ≤ r.t) (hn : ¬ (p = h.p ∧ h.f ≤ i ∧ i ≤ h.t)) : ∃ x, x ∈ pieces h r ∧ x.p = p ∧ x.f ≤ i ∧ i ≤ x.t := by
  obtain ⟨rfl, h1, h2⟩ := hr
  unfold pieces
  split
  · exact ⟨r, by simp, rfl, h1, h2⟩
  · rename_i hc
    simp at hc
    by_cases hlt : i < h.f
    · exact ⟨⟨r.p, r.k, r.f, h.f - 1⟩, by rw [if_pos (by omega)]; simp, rfl, h1, by simp only; omega⟩
    · exact ⟨⟨r.p, r.k, h.t + 1, r.t⟩, by rw [if_pos (c := h.t < r.t) (by omega)]; simp, rfl, by simp only; omega, h2⟩
theorem cutR_ap {l : List Rn} {h : Rn} (hl : ∀ x, x ∈ l → x.fine) (ha : l.Pairwise Rn.apart) (hh : h.f ≤ h.t) : (cutR l h).Pairwise Rn.apart := by
  rw [(cutR_perm l h).pairwise_iff (fun h => h.symm)]
  rw [List.pairwise_flatMap]
  refine ⟨fun r hr => ?_, ?_⟩
  · have hf := hl r hr
    unfold Rn.fine at hf
    unfold pieces
    split
    · simp
    · split <;> split <;> simp
      intro _
      exact ⟨by simp only; omega, fun _ => by simp only; omega⟩
  · refine List.Pairwise.imp_of_mem ?_ ha
    intro a b hma hmb hab x hx y hy hp
    have fa := hl a hma
    have fb := hl b hmb
    unfold Rn.fine at fa fb
    have mx := mem_pieces (by omega) hx
    have my := mem_pieces (by omega) hy
    have := hab (by rw [← mx.1, ← my.1]; exact hp)
    refine ⟨by omega, fun hk => ?_⟩
    have := this.2 (by rw [← mx.2.1, ← my.2.1]; exact hk)
    omega
theorem cutR_fine {l : List Rn} {h : Rn} (hl : ∀ x, x ∈ l → x.fine) : ∀ x, x ∈ cutR l h → x.fine ∧ (x.p = h.p → x.t < h.f ∨ h.t < x.f) := fun x hx => by
  rw [(cutR_perm l h).mem_iff, List.mem_flatMap] at hx
  obtain ⟨r, hr, hx⟩ := hx
  have hf := hl r hr
  unfold Rn.fine at hf
  have := mem_pieces (by omega) hx
  refine ⟨?_, this.2.2.2.2.2⟩
  unfold Rn.fine
  rw [this.2.1]; omega
theorem cellR_cut {l : List Rn} {h : Rn} (hl : ∀ x, x ∈ l → x.fine) (ha : l.Pairwise Rn.apart) (hh : h.f ≤ h.t) (p i : Int) : cellR (cutR l h) p i = if p = h.p ∧ h.f ≤ i ∧ i ≤ h.t then 0 else cellR l p i := by
  have hac := cutR_ap hl ha hh
  rcases cellR_cases hac p i with ⟨x, hx, hp, h1, h2, hc⟩ | ⟨hn, hc⟩
  · have hno := (cutR_fine hl x hx).2
    rw [if_neg (fun hh => by have := hno (by rw [hp]; exact hh.1); omega), hc]
    rw [(cutR_perm l h).mem_iff, List.mem_flatMap] at hx
    obtain ⟨r, hr, hx⟩ := hx
    have hf := hl r hr
    unfold Rn.fine at hf
    have m := mem_pieces (by omega) hx
    rw [← hp, m.1, m.2.1]
    exact (cellR_mem ha hr (by omega) (by omega)).symm
  · rw [hc]
    split
    · rfl
    · rename_i hn2
      symm
      refine cellR_none fun r hr hcov => ?_
      obtain ⟨x, hx, hx2⟩ := pieces_cov hcov hn2
      exact hn x (by rw [(cutR_perm l h).mem_iff, List.mem_flatMap]; exact ⟨r, hr, hx⟩) hx2

/-- o ends just ahead of r; o begins just behind it: for one process and kind. -/
def Rn.isL (r o : Rn) : Prop := o.p = r.p ∧ o.k = r.k ∧ o.t + 1 = r.f
def Rn.isR (r o : Rn) : Prop := o.p = r.p ∧ o.k = r.k ∧ r.t + 1 = o.f
theorem contB_iff (r o : Rn) : contB o.p o.k o.f o.t r.p r.k r.f r.t = true ↔ r.isL o ∨ r.isR o := by
  simp only [contB, Rn.isL, Rn.isR, Bool.and_eq_true, Bool.or_eq_true, decide_eq_true_eq]
  constructor
  · rintro ⟨⟨h1, h2⟩, h3 | h3⟩
    · exact Or.inl ⟨h1, h2, h3⟩
    · exact Or.inr ⟨h1, h2, h3⟩
  · rintro (⟨h1, h2, h3⟩ | ⟨h1, h2, h3⟩)
    · exact ⟨⟨h1, h2⟩, Or.inl h3⟩
    · exact ⟨⟨h1, h2⟩, Or.inr h3⟩
def contT (r o : Rn) : Bool := contB o.p o.k o.f o.t r.p r.k r.f r.t
/-- What stands behind some rounds of join. -/
structure JI (r : Rn) (pre : List Rn) (s : List Rn × Rn) : Prop where
  perm : s.1.Perm (pre.filter fun o => !contT r o)
  p : s.2.p = r.p
  k : s.2.k = r.k
  f : (s.2.f = r.f ∧ ∀ o, o ∈ pre → ¬ r.isL o) ∨ (∃ o, o ∈ pre ∧ r.isL o ∧ s.2.f = o.f)
  t : (s.2.t = r.t ∧ ∀ o, o ∈ pre → ¬ r.isR o) ∨ (∃ o, o ∈ pre ∧ r.isR o ∧ s.2.t = o.t)
theorem JI.step {r : Rn} {pre : List Rn} {s : List Rn × Rn} (h : JI r pre s) {o : Rn} (hr : r.f ≤ r.t) (ho : o.f ≤ o.t) (hpre : ∀ x, x ∈ pre → x.f ≤ x.t ∧ x.apart o) : JI r (pre ++ [o]) (joinS s o) := by
  have hsf : s.2.f ≤ r.f := by
    rcases h.f with ⟨e, _⟩ | ⟨x, hx, hL, e⟩
    · omega
    · have := hpre x hx; unfold Rn.isL at hL; omega
  have hst : r.t ≤ s.2.t := by
    rcases h.t with ⟨e, _⟩ | ⟨x, hx, hL, e⟩
    · omega
    · have := hpre x hx; unfold Rn.isR at hL; omega
  have hcont : contB o.p o.k o.f o.t s.2.p s.2.k s.2.f s.2.t = contT r o := by
    rw [Bool.eq_iff_iff, contB_iff, contT, contB_iff]
    constructor
    · rintro (⟨h1, h2, h3⟩ | ⟨h1, h2, h3⟩)
      · rw [h.p] at h1; rw [h.k] at h2
        rcases h.f with ⟨e, _⟩ | ⟨x, hx, hL, e⟩
        · exact Or.inl ⟨h1, h2, by omega⟩
        · have := (hpre x hx).2 (by rw [hL.1, h1])
          have := this.2 (by rw [hL.2.1, h2])
          omega
      · rw [h.p] at h1; rw [h.k] at h2
        rcases h.t with ⟨e, _⟩ | ⟨x, hx, hL, e⟩
        · exact Or.inr ⟨h1, h2, by omega⟩
        · have := (hpre x hx).2 (by rw [hL.1, h1])
          have := this.2 (by rw [hL.2.1, h2])
          omega
    · rintro (⟨h1, h2, h3⟩ | ⟨h1, h2, h3⟩)
      · refine Or.inl ⟨by rw [h.p]; exact h1, by rw [h.k]; exact h2, ?_⟩
        rcases h.f with ⟨e, _⟩ | ⟨x, hx, hL, e⟩
        · omega
        · have := (hpre x hx).2 (by rw [hL.1, h1])
          have hL3 := hL.2.2
          have := (hpre x hx).1
          omega
      · refine Or.inr ⟨by rw [h.p]; exact h1, by rw [h.k]; exact h2, ?_⟩
        rcases h.t with ⟨e, _⟩ | ⟨x, hx, hL, e⟩
        · omega
        · have := (hpre x hx).2 (by rw [hL.1, h1])
          have hL3 := hL.2.2
          have := (hpre x hx).1
          omega
  unfold joinS
  rw [hcont]
  cases hc : contT r o
  · rw [if_pos rfl]
    have hno : ¬ (r.isL o ∨ r.isR o) := fun hh => by rw [← contB_iff] at hh; unfold contT at hc; rw [hh] at hc; cases hc
    refine ⟨?_, h.p, h.k, ?_, ?_⟩
    · rw [List.filter_append]
      simp only [List.filter_cons, hc, Bool.not_false, if_true, List.filter_nil]
      refine (insR_perm _ _).trans ?_
      exact (List.Perm.cons _ h.perm).trans (List.perm_append_singleton _ _).symm
    · rcases h.f with ⟨e, hn⟩ | ⟨x, hx, hL, e⟩
      · exact Or.inl ⟨e, fun y hy => by rcases List.mem_append.1 hy with hy | hy; exact hn y hy; simp at hy; subst hy; exact fun hh => hno (Or.inl hh)⟩
      · exact Or.inr ⟨x, List.mem_append_left _ hx, hL, e⟩
    · rcases h.t with ⟨e, hn⟩ | ⟨x, hx, hL, e⟩
      · exact Or.inl ⟨e, fun y hy => by rcases List.mem_append.1 hy with hy | hy; exact hn y hy; simp at hy; subst hy; exact fun hh => hno (Or.inr hh)⟩
      · exact Or.inr ⟨x, List.mem_append_left _ hx, hL, e⟩
  · rw [if_neg (by simp)]
    have hyes : r.isL o ∨ r.isR o := by rw [← contB_iff]; exact hc
    refine ⟨?_, h.p, h.k, ?_, ?_⟩
    · rw [List.filter_append]
      simp only [List.filter_cons, hc, Bool.not_true, Bool.false_eq_true, if_false, List.filter_nil, List.append_nil]
      exact h.perm
    · rcases hyes with hL | hR
      · refine Or.inr ⟨o, by simp, hL, ?_⟩
        unfold Rn.isL at hL
        simp only
        rcases h.f with ⟨e, hn⟩ | ⟨x, hx, hL2, e⟩
        · omega
        · have := (hpre x hx).2 (by rw [hL2.1, hL.1])
          have h3 := hL2.2.2
          have := (hpre x hx).1
          omega
      · unfold Rn.isR at hR
        have e1 : min s.2.f o.f = s.2.f := by omega
        simp only [e1]
        rcases h.f with ⟨e, hn⟩ | ⟨x, hx, hL2, e⟩
        · exact Or.inl ⟨e, fun y hy => by rcases List.mem_append.1 hy with hy | hy; exact hn y hy; simp at hy; subst hy; exact fun hh => by unfold Rn.isL at hh; omega⟩
        · exact Or.inr ⟨x, List.mem_append_left _ hx, hL2, e⟩
    · rcases hyes with hL | hR
      · unfold Rn.isL at hL
        have e1 : max s.2.t o.t = s.2.t := by omega
        simp only [e1]
        rcases h.t with ⟨e, hn⟩ | ⟨x, hx, hL2, e⟩
        · exact Or.inl ⟨e, fun y hy => by rcases List.mem_append.1 hy with hy | hy; exact hn y hy; simp at hy; subst hy; exact fun hh => by unfold Rn.isR at hh; omega⟩
        · exact Or.inr ⟨x, List.mem_append_left _ hx, hL2, e⟩
      · refine Or.inr ⟨o, by simp, hR, ?_⟩
        unfold Rn.isR at hR
        simp only
        rcases h.t with ⟨e, hn⟩ | ⟨x, hx, hL2, e⟩
        · omega
        · have := (hpre x hx).2 (by rw [hL2.1, hR.1])
          have h3 := hL2.2.2
          have := (hpre x hx).1
          omega
theorem JI.all {l : List Rn} {r : Rn} (hl : ∀ x, x ∈ l → x.fine) (ha : l.Pairwise Rn.apart) (hr : r.f ≤ r.t) : JI r l (l.foldl joinS ([], r)) := by
  have : ∀ (suf pre : List Rn) (s : List Rn × Rn), JI r pre s → (∀ x, x ∈ pre ++ suf → x.fine) → (pre ++ suf).Pairwise Rn.apart → JI r (pre ++ suf) (suf.foldl joinS s) := fun suf => by
    induction suf with
    | nil => intro pre s h _ _; simpa using h
    | cons o t ih =>
      intro pre s h hf hp
      have e : pre ++ o :: t = (pre ++ [o]) ++ t := by simp
      rw [e] at hf hp ⊢
      refine ih (pre ++ [o]) _ (h.step hr ?_ ?_) hf hp
      · have := hf o (by simp); unfold Rn.fine at this; omega
      · intro x hx
        have := hf x (by simp [hx])
        unfold Rn.fine at this
        refine ⟨by omega, ?_⟩
        rw [List.append_assoc, List.pairwise_append] at hp
        exact hp.2.2 x hx o (by simp)
  have := this l [] ([], r) ⟨List.Perm.refl _, rfl, rfl, Or.inl ⟨rfl, by simp⟩, Or.inl ⟨rfl, by simp⟩⟩ (by simpa using hl) (by simpa using ha)
  simpa using this

/-- A lock joined to a list that has nothing of the process on its positions. -/
theorem joinR_all {l : List Rn} {r : Rn} (hl : ∀ x, x ∈ l → x.fine) (ha : l.Pairwise Rn.apart) (hr : r.fine) (hd : ∀ x, x ∈ l → x.p = r.p → x.t < r.f ∨ r.t < x.f) :
    WF (joinR l r) ∧ ∀ p i, cellR (joinR l r) p i = if p = r.p ∧ r.f ≤ i ∧ i ≤ r.t then r.k else cellR l p i := by
  have hrf := hr
  unfold Rn.fine at hrf
  have J := JI.all hl ha (r := r) (by omega)
  obtain ⟨s, hs⟩ : ∃ s, s = l.foldl joinS ([], r) := ⟨_, rfl⟩
  have ej : joinR l r = insR s.1 s.2 := by rw [hs]; rfl
  rw [← hs] at J
  have hperm : (joinR l r).Perm (s.2 :: l.filter fun o => !contT r o) := by
    rw [ej]; exact (insR_perm _ _).trans (List.Perm.cons _ J.perm)
  have hmem : ∀ x, x ∈ joinR l r ↔ x = s.2 ∨ (x ∈ l ∧ ¬ (r.isL x ∨ r.isR x)) := fun x => by
    rw [hperm.mem_iff, List.mem_cons, List.mem_filter, ← contB_iff]
    simp [contT]
  -- what the joined run is
  have hfl : (s.2.f = r.f ∧ ∀ o, o ∈ l → ¬ r.isL o) ∨ (∃ o, o ∈ l ∧ o.p = r.p ∧ o.k = r.k ∧ o.t + 1 = r.f ∧ s.2.f = o.f ∧ 0 ≤ o.f ∧ o.f ≤ o.t) := by
    rcases J.f with h | ⟨o, ho, hL, e⟩
    · exact Or.inl h
    · have := hl o ho; unfold Rn.fine at this
      exact Or.inr ⟨o, ho, hL.1, hL.2.1, hL.2.2, e, by omega, by omega⟩
  have hfr : (s.2.t = r.t ∧ ∀ o, o ∈ l → ¬ r.isR o) ∨ (∃ o, o ∈ l ∧ o.p = r.p ∧ o.k = r.k ∧ r.t + 1 = o.f ∧ s.2.t = o.t ∧ o.t ≤ 63 ∧ o.f ≤ o.t) := by
    rcases J.t with h | ⟨o, ho, hL, e⟩
    · exact Or.inl h
    · have := hl o ho; unfold Rn.fine at this
      exact Or.inr ⟨o, ho, hL.1, hL.2.1, hL.2.2, e, by omega, by omega⟩
  have hsfine : s.2.fine := by
    unfold Rn.fine
    rw [J.k]
    rcases hfl with ⟨e, _⟩ | ⟨o, _, _, _, _, e, _, _⟩ <;> rcases hfr with ⟨e', _⟩ | ⟨o', _, _, _, _, e', _, _⟩ <;> omega
  have hap : ∀ x, x ∈ l → ¬ (r.isL x ∨ r.isR x) → s.2.apart x := fun x hx hno hp => by
    rw [J.p] at hp
    have hxf := hl x hx
    unfold Rn.fine at hxf
    have hdx := hd x hx hp.symm
    refine ⟨?_, fun hk => ?_⟩
    · rcases hfl with ⟨e, _⟩ | ⟨o, ho, hop, hok, h3, e, _, _⟩ <;> rcases hfr with ⟨e', _⟩ | ⟨o', ho', hop', hok', h3', e', _, _⟩
      · omega
      · have := ap_mem ha hx ho'
        rcases this with rfl | hh
        · exact absurd (Or.inr ⟨hop', hok', h3'⟩) hno
        · have := (hh (by omega)).1; omega
      · have := ap_mem ha hx ho
        rcases this with rfl | hh
        · exact absurd (Or.inl ⟨hop, hok, h3⟩) hno
        · have := (hh (by omega)).1; omega
      · have h1 := ap_mem ha hx ho
        have h2 := ap_mem ha hx ho'
        rcases h1 with rfl | hh
        · exact absurd (Or.inl ⟨hop, hok, h3⟩) hno
        · rcases h2 with rfl | hh'
          · exact absurd (Or.inr ⟨hop', hok', h3'⟩) hno
          · have := (hh (by omega)).1; have := (hh' (by omega)).1; omega
    · rw [J.k] at hk
      constructor
      · rcases hfr with ⟨e', hn⟩ | ⟨o', ho', hop', hok', h3', e', _, _⟩
        · intro h; exact hno (Or.inr ⟨hp.symm, hk.symm, by omega⟩)
        · rcases ap_mem ha ho' hx with rfl | hh
          · exact absurd (Or.inr ⟨hop', hok', h3'⟩) hno
          · have := (hh (by omega)).2 (by omega); omega
      · rcases hfl with ⟨e, hn⟩ | ⟨o, ho, hop, hok, h3, e, _, _⟩
        · intro h; exact hno (Or.inl ⟨hp.symm, hk.symm, by omega⟩)
        · rcases ap_mem ha ho hx with rfl | hh
          · exact absurd (Or.inl ⟨hop, hok, h3⟩) hno
          · have := (hh (by omega)).2 (by omega); omega
  have hapj : (joinR l r).Pairwise Rn.apart := by
    rw [hperm.pairwise_iff (fun h => h.symm), List.pairwise_cons]
    refine ⟨fun x hx => ?_, List.Pairwise.filter _ ha⟩
    rw [List.mem_filter] at hx
    exact hap x hx.1 (by rw [← contB_iff]; have := hx.2; simpa [contT] using this)
  refine ⟨⟨?_, fun x hx => ?_, hapj⟩, fun p i => ?_⟩
  · have hS : Srt s.1 := by
      rw [hs]
      have : ∀ (l : List Rn) (s : List Rn × Rn), Srt s.1 → Srt (l.foldl joinS s).1 := fun l => by
        induction l with
        | nil => exact fun _ h => h
        | cons a t ih => exact fun s h => ih _ (by unfold joinS; split; exact h.ins a; exact h)
      exact this l ([], r) List.Pairwise.nil
    rw [ej]; exact hS.ins _
  · rcases (hmem x).1 hx with rfl | hx
    · exact hsfine
    · exact hl x hx.1
  · have hin : s.2 ∈ joinR l r := (hmem s.2).2 (Or.inl rfl)
    by_cases hc : p = r.p ∧ s.2.f ≤ i ∧ i ≤ s.2.t
    · obtain ⟨rfl, h1, h2⟩ := hc
      have e1 := cellR_mem hapj hin h1 h2
      rw [J.p, J.k] at e1
      rw [e1]
      by_cases hri : r.f ≤ i ∧ i ≤ r.t
      · rw [if_pos ⟨rfl, hri⟩]
      · rw [if_neg (fun h => hri h.2)]
        by_cases hlt : i < r.f
        · rcases hfl with ⟨e, _⟩ | ⟨o, ho, hop, hok, h3, e, _, _⟩
          · omega
          · have := cellR_mem ha ho (i := i) (by omega) (by omega)
            rw [hop, hok] at this; exact this.symm
        · rcases hfr with ⟨e, _⟩ | ⟨o, ho, hop, hok, h3, e, _, _⟩
          · omega
          · have := cellR_mem ha ho (i := i) (by omega) (by omega)
            rw [hop, hok] at this; exact this.symm
    · have hrs : s.2.f ≤ r.f ∧ r.t ≤ s.2.t := by
        rcases hfl with ⟨e, _⟩ | ⟨o, ho, hop, hok, h3, e, _, _⟩ <;> rcases hfr with ⟨e', _⟩ | ⟨o', ho', hop', hok', h3', e', _, _⟩ <;> omega
      rw [if_neg (fun h => hc ⟨h.1, by omega, by omega⟩)]
      rcases cellR_cases ha p i with ⟨x, hx, hp, h1, h2, he⟩ | ⟨hn, he⟩
      · rw [he]
        have hno : ¬ (r.isL x ∨ r.isR x) := fun hh => by
          rcases hh with hL | hR
          · rcases hfl with ⟨e, hn⟩ | ⟨o, ho, hop, hok, h3, e, _, _⟩
            · exact hn x hx hL
            · have := ap_one ha hx ho (by rw [hL.1, hop]) (i := x.t) (by have := hl x hx; unfold Rn.fine at this; omega) (by omega) (by have := hL.2.2; omega) (by have := hL.2.2; omega)
              subst this
              exact hc ⟨by rw [← hp]; exact hop, by omega, by omega⟩
          · rcases hfr with ⟨e, hn⟩ | ⟨o, ho, hop, hok, h3, e, _, _⟩
            · exact hn x hx hR
            · have := ap_one ha hx ho (by rw [hR.1, hop]) (i := x.f) (by omega) (by have := hl x hx; unfold Rn.fine at this; omega) (by have := hR.2.2; omega) (by have := hR.2.2; omega)
              subst this
              exact hc ⟨by rw [← hp]; exact hop, by omega, by omega⟩
        rw [← hp]
        exact cellR_mem hapj ((hmem x).2 (Or.inr ⟨hx, hno⟩)) h1 h2
      · rw [he]
        refine cellR_none fun x hx hcov => ?_
        rcases (hmem x).1 hx with rfl | hx
        · exact hc ⟨by rw [← J.p]; exact hcov.1.symm, hcov.2.1, hcov.2.2⟩
        · exact hn x hx.1 hcov

/-- A lock that comes or goes: the list stays in good form; p has it on its positions, and all else is as it was. -/
theorem setR_all {l : List Rn} (hl : WF l) {r : Rn} (h0 : 0 ≤ r.f) (h1 : r.f ≤ r.t) (h2 : r.t ≤ 63) (hk : r.k = 0 ∨ r.k = 1 ∨ r.k = 2) :
    WF (setR l r) ∧ ∀ p i, cellR (setR l r) p i = if p = r.p ∧ r.f ≤ i ∧ i ≤ r.t then r.k else cellR l p i := by
  have hac := cutR_ap (h := r) hl.ok hl.ap h1
  have hfc := cutR_fine (h := r) hl.ok
  have hcc := cellR_cut (h := r) hl.ok hl.ap h1
  unfold setR
  split
  · rename_i he
    refine ⟨⟨Srt.cutR l r, fun x hx => (hfc x hx).1, hac⟩, fun p i => ?_⟩
    rw [hcc, he]
  · rename_i he
    obtain ⟨w1, w2⟩ := joinR_all (r := r) (fun x hx => (hfc x hx).1) hac (by unfold Rn.fine; omega) (fun x hx hp => (hfc x hx).2 hp)
    refine ⟨w1, fun p i => ?_⟩
    rw [w2]
    split
    · rfl
    · rename_i hn
      rw [hcc, if_neg hn]
/-- All locks of a process go. -/
theorem without_all {l : List Rn} (hl : WF l) (q : Int) : WF (cutR l ⟨q, 0, 0, 63⟩) ∧ ∀ p i, cellR (cutR l ⟨q, 0, 0, 63⟩) p i = if p = q then 0 else cellR l p i := by
  have h1 : (Rn.mk q 0 0 63).f ≤ (Rn.mk q 0 0 63).t := by simp
  refine ⟨⟨Srt.cutR l _, fun x hx => (cutR_fine hl.ok x hx).1, cutR_ap hl.ok hl.ap h1⟩, fun p i => ?_⟩
  rw [cellR_cut hl.ok hl.ap h1]
  simp only
  by_cases hp : p = q
  · rw [if_pos hp]
    split
    · rfl
    · rename_i hn
      refine cellR_none fun x hx hcov => ?_
      have := hl.ok x hx; unfold Rn.fine at this
      exact hn ⟨hp, by omega, by omega⟩
  · rw [if_neg hp, if_neg (fun h => hp h.1)]
end Go.Proofs.YtaicdjhblbobbaaGreat

/- The document as plain mathematics: processes, descriptors, locks, who waits, and each call; no program in sight. -/
namespace Go.Proofs.YtaicdjhblbobbaaGreat

/-- A lock that is asked for: of positions, or (whole) of a file, for the opening o. -/
structure Ask where
  p : Int
  k : Int
  file : Nat
  whole : Bool
  o : Nat
  f : Int
  t : Int
  deriving DecidableEq, Inhabited
/-- A lock of a whole file: the opening, the kind. -/
structure Wl where
  o : Nat
  k : Int
  deriving DecidableEq, Inhabited
/-- Who waits no more, and how. -/
structure Dn where
  p : Int
  e : Int
  deriving DecidableEq, Inhabited
/-- A reply. -/
structure Rp where
  e : Int
  n : Int
  d : List Dn
  deriving DecidableEq, Inhabited

/-- Which processes live; the opening of each descriptor; an opening's file; how many openings were made; the runs and the locks of the whole of each file; who waits. -/
structure DS where
  L : Nat → Bool
  F : Int → Int → Option Nat
  O : Nat → Nat
  N : Nat
  R : Nat → List Rn
  W : Nat → List Wl
  Q : List Ask

def DS.new : DS := ⟨L0, fun _ _ => none, fun _ => 0, 0, fun _ => [], fun _ => [], []⟩
def ps6 : List Int := [0, 1, 2, 3, 4, 5]
def ds5 : List Int := [0, 1, 2, 3, 4]

def DS.waits (s : DS) (p : Int) : Bool := s.Q.any fun a => decide (a.p = p)
/-- May p call: 0, or its error. -/
def DS.may (s : DS) (p : Int) : Int := if liveB s.L p = false then 1 else if s.waits p then 2 else 0
/-- The opening of a descriptor; a number that is none has none. -/
def DS.has (s : DS) (o : Nat) (p : Int) : Bool := ds5.any fun d => decide (s.F p d = some o)
def DS.users (s : DS) (o : Nat) : List Int := ps6.filter (s.has o)
def DS.inUse (s : DS) (o : Nat) : Bool := ps6.any (s.has o)

/-- Does the lock a bite b, with which another waits? -/
def Ask.bites (a b : Ask) : Bool := (a.whole == b.whole) && decide (a.file = b.file) && biteB a.k b.k && (if a.whole then decide (a.o ≠ b.o) else meetsB a.f a.t b.f b.t)
def Ask.run (a : Ask) : Rn := ⟨a.p, a.k, a.f, a.t⟩
def Rn.bites (a r : Rn) : Bool := bitesB a.p a.k a.f a.t r.p r.k r.f r.t
/-- The processes that have a lock on a position that bites. -/
def holders (l : List Rn) (r : Rn) : List Int := ps6.filter fun q => l.any fun x => decide (x.p = q) && r.bites x
/-- What is in the way of a, when those of ahead wait ahead of it: for each thing those who could let it go. -/
def DS.way (s : DS) (a : Ask) (ahead : List Ask) : List (List Int) :=
  ((ahead.filter a.bites).map fun b => [b.p]) ++
  (if a.whole then ((s.W a.file).filter fun w => decide (w.o ≠ a.o) && biteB a.k w.k).map fun w => s.users w.o
   else (holders (s.R a.file) a.run).map fun q => [q])

/-- Stays p in the set X? -/
def DS.stays (s : DS) (X : List Int) (i : Nat) (a : Ask) : Bool := (s.way a (s.Q.take i)).any fun c => c.all fun q => decide (q ∈ X)
def DS.prune (s : DS) (X : List Int) : List Int := ((s.Q.zipIdx.filter fun x => decide (x.1.p ∈ X) && s.stays X x.2 x.1).map fun x => x.1.p)
def DS.pruneN (s : DS) : Nat → List Int → List Int
  | 0, X => X
  | n + 1, X => DS.pruneN s n (s.prune X)
/-- The greatest stuck set. -/
def DS.stuck (s : DS) : List Int := s.pruneN s.Q.length (s.Q.map (·.p))

def setW (l : List Wl) (o : Nat) (k : Int) : List Wl :=
  if (⟨o, k⟩ : Wl) ∈ l then l else (l.filter fun w => decide (w.o ≠ o)) ++ (if k = 0 then [] else [⟨o, k⟩])
def updR {α : Type} (R : Nat → α) (f : Nat) (l : α) : Nat → α := fun g => if g = f then l else R g
/-- One has its lock. -/
def DS.take (s : DS) (a : Ask) : DS × Int :=
  if a.whole then ({s with W := updR s.W a.file (setW (s.W a.file) a.o a.k)}, 0)
  else if 12 < (setR (s.R a.file) a.run).length then (s, 9) else ({s with R := updR s.R a.file (setR (s.R a.file) a.run)}, 0)
def DS.leave (s : DS) (i : Nat) : DS := {s with Q := s.Q.eraseIdx i}
/-- The first that has nothing in its way. -/
def DS.free? (s : DS) : Option Nat := (List.range s.Q.length).find? fun i => match s.Q[i]? with | some a => (s.way a (s.Q.take i)).isEmpty | none => false
/-- The last of the stuck ones. -/
def DS.last? (s : DS) : Option Nat := (List.range s.Q.length).reverse.find? fun i => match s.Q[i]? with | some a => decide (a.p ∈ s.stuck) | none => false
def DS.settleN : Nat → DS → DS × List Dn
  | 0, s => (s, [])
  | n + 1, s => match s.free? with
    | some i =>
      let a := s.Q[i]?.getD default
      let x := (s.leave i).take a
      let y := DS.settleN n x.1
      (y.1, ⟨a.p, x.2⟩ :: y.2)
    | none => match s.last? with
      | some i =>
        let a := s.Q[i]?.getD default
        let y := DS.settleN n (s.leave i)
        (y.1, ⟨a.p, 10⟩ :: y.2)
      | none => (s, [])
def DS.settle (s : DS) : DS × List Dn := DS.settleN s.Q.length s

def rerr (e : Int) : Rp := ⟨e, 0, []⟩
def rnum (n : Int) : Rp := ⟨0, n, []⟩
def DS.settled (s : DS) : DS × Rp := let x := s.settle; (x.1, ⟨0, 0, x.2⟩)

def DS.fork (s : DS) (p : Int) : DS × Rp :=
  if s.may p ≠ 0 then (s, rerr (s.may p)) else
  match ps6.find? fun c => !s.L c.toNat with
  | none => (s, rerr 3)
  | some c => ({s with L := updL s.L c.toNat true, F := copyF s.F p c 5}, rnum c)
/-- The locks of openings of which there is no descriptor any more go. -/
def DS.sweep (s : DS) : DS := {s with W := fun f => (s.W f).filter fun w => s.inUse w.o}
def clearF (F : Int → Int → Option Nat) (p : Int) : Int → Int → Option Nat := fun q e => if q = p then none else F q e
def dropR (l : List Rn) (p : Int) : List Rn := cutR l ⟨p, 0, 0, 63⟩
def DS.gone (s : DS) (p : Int) : DS := DS.sweep {s with L := updL s.L p.toNat false, F := clearF s.F p, R := fun f => dropR (s.R f) p, Q := s.Q.filter fun a => decide (a.p ≠ p)}
def DS.kill (s : DS) (p : Int) : DS × Rp := if liveB s.L p = false then (s, rerr 1) else (s.gone p).settled
/-- The least free descriptor. -/
def DS.least? (s : DS) (p : Int) : Option Int := ds5.find? fun d => (s.F p d).isNone
def DS.opn (s : DS) (p file : Int) : DS × Rp :=
  if s.may p ≠ 0 then (s, rerr (s.may p)) else if ¬ (0 ≤ file ∧ file < 3) then (s, rerr 4) else
  match s.least? p with
  | none => (s, rerr 3)
  | some d => ({s with F := updF s.F p d (some s.N), O := updR s.O s.N file.toNat, N := s.N + 1}, rnum d)
/-- The opening that a call speaks of, or its error. -/
def DS.find (s : DS) (p d : Int) : Except Int Nat :=
  if s.may p ≠ 0 then .error (s.may p) else if ¬ (0 ≤ d ∧ d < 5) then .error 5 else match s.F p d with | none => .error 5 | some o => .ok o
def DS.dup (s : DS) (p d : Int) : DS × Rp :=
  match s.find p d with
  | .error e => (s, rerr e)
  | .ok o => match s.least? p with
    | none => (s, rerr 3)
    | some e => ({s with F := updF s.F p e (some o)}, rnum e)
def DS.shut (s : DS) (p d : Int) (o : Nat) : DS := DS.sweep {s with F := updF s.F p d none, R := updR s.R (s.O o) (dropR (s.R (s.O o)) p)}
def DS.close (s : DS) (p d : Int) : DS × Rp :=
  match s.find p d with
  | .error e => (s, rerr e)
  | .ok o => (s.shut p d o).settled
/-- A lock that is asked for now. -/
def DS.ask (s : DS) (a : Ask) (wait : Bool) : DS × Rp :=
  if a.k = 0 ∨ s.way a s.Q = [] then
    if (s.take a).2 ≠ 0 then (s, rerr (s.take a).2) else (s.take a).1.settled
  else if wait = false then (s, rerr 8)
  else if a.p ∈ (DS.stuck {s with Q := s.Q ++ [a]}) then (s, rerr 10)
  else ({s with Q := s.Q ++ [a]}, rerr 11)
def DS.lock (s : DS) (p d k f l : Int) (wait : Bool) : DS × Rp :=
  match s.find p d with
  | .error e => (s, rerr e)
  | .ok o => if kindB k = false then (s, rerr 6) else if badS f l = true then (s, rerr 7) else
    s.ask ⟨p, k, s.O o, false, o, fromS f l, toS f l⟩ wait
def DS.whole (s : DS) (p d k : Int) (wait : Bool) : DS × Rp :=
  match s.find p d with
  | .error e => (s, rerr e)
  | .ok o => if kindB k = false then (s, rerr 6) else s.ask ⟨p, k, s.O o, true, o, 0, 0⟩ wait
def DS.test (s : DS) (p d k f l : Int) : Rp :=
  match s.find p d with
  | .error e => rerr e
  | .ok o => if kindB k = false ∨ k = 0 then rerr 6 else if badS f l = true then rerr 7 else
    match holders (s.R (s.O o)) ⟨p, k, fromS f l, toS f l⟩ with
    | [] => rnum (-1)
    | q :: _ => rnum q
def fileB (f : Int) : Bool := decide (0 ≤ f) && decide (f < 3)
def DS.runs (s : DS) (file : Int) : List Rn := if fileB file then s.R file.toNat else []
/-- A lock of the whole file that is told. -/
structure Hd where
  k : Int
  ps : List Int
  deriving DecidableEq, Inhabited
def DS.holds (s : DS) (file : Int) : List Hd := if fileB file then (s.W file.toNat).map fun w => ⟨w.k, s.users w.o⟩ else []
def DS.waiting (s : DS) : List Int := s.Q.map (·.p)

/-- A call, by raw numbers. -/
inductive Cl where
  | fork (p : Int) | kill (p : Int) | opn (p f : Int) | dup (p d : Int) | close (p d : Int)
  | lock (p d k f l : Int) (w : Bool) | test (p d k f l : Int) | whole (p d k : Int) (w : Bool)
def DS.step (s : DS) : Cl → DS × Rp
  | .fork p => s.fork p
  | .kill p => s.kill p
  | .opn p f => s.opn p f
  | .dup p d => s.dup p d
  | .close p d => s.close p d
  | .lock p d k f l w => s.lock p d k f l w
  | .test p d k f l => (s, s.test p d k f l)
  | .whole p d k w => s.whole p d k w
/-- The calls of a list, one after the other: the replies, and the state in the end. -/
def DS.steps : DS → List Cl → List Rp × DS
  | s, [] => ([], s)
  | s, c :: t => let x := s.step c; let y := DS.steps x.1 t; (x.2 :: y.1, y.2)
end Go.Proofs.YtaicdjhblbobbaaGreat

/- The greatest stuck set of the model, and what settling leaves. -/
namespace Go.Proofs.YtaicdjhblbobbaaGreat

/-- A set of processes that wait is stuck. -/
def DS.IsStuck (s : DS) (X : Int → Prop) : Prop := ∀ p, X p → ∃ (i : Nat) (a : Ask), s.Q[i]? = some a ∧ a.p = p ∧ ∃ c, c ∈ s.way a (s.Q.take i) ∧ ∀ q, q ∈ c → X q

theorem DS.stays_iff {s : DS} {X : List Int} {i : Nat} {a : Ask} : s.stays X i a = true ↔ ∃ c, c ∈ s.way a (s.Q.take i) ∧ ∀ q, q ∈ c → q ∈ X := by
  unfold DS.stays
  simp only [List.any_eq_true, List.all_eq_true, decide_eq_true_eq]
theorem DS.stays_mono {s : DS} {X Y : List Int} (h : ∀ q, q ∈ X → q ∈ Y) {i : Nat} {a : Ask} (hs : s.stays X i a = true) : s.stays Y i a = true := by
  rw [DS.stays_iff] at hs ⊢
  obtain ⟨c, hc, hq⟩ := hs
  exact ⟨c, hc, fun q hm => h q (hq q hm)⟩
theorem DS.mem_prune {s : DS} {X : List Int} {p : Int} : p ∈ s.prune X ↔ p ∈ X ∧ ∃ i a, s.Q[i]? = some a ∧ a.p = p ∧ s.stays X i a = true := by
  unfold DS.prune
  rw [List.mem_map]
  constructor
  · rintro ⟨⟨a, i⟩, h, rfl⟩
    rw [List.mem_filter, List.mk_mem_zipIdx_iff_getElem?] at h
    simp only [Bool.and_eq_true, decide_eq_true_eq] at h
    exact ⟨h.2.1, i, a, h.1, rfl, h.2.2⟩
  · rintro ⟨hx, i, a, h, rfl, hs⟩
    refine ⟨(a, i), ?_, rfl⟩
    rw [List.mem_filter, List.mk_mem_zipIdx_iff_getElem?]
    exact ⟨h, by simp [hx, hs]⟩
theorem DS.prune_sub {s : DS} {X : List Int} {p : Int} (h : p ∈ s.prune X) : p ∈ X := (DS.mem_prune.1 h).1
/-- Pruning twice leaves a part of what pruning once left. -/
theorem DS.prune_sublist {s : DS} {X Y : List Int} (h : ∀ q, q ∈ X → q ∈ Y) : (s.prune X).Sublist (s.prune Y) := by
  unfold DS.prune
  refine List.Sublist.map _ ?_
  have e : (s.Q.zipIdx.filter fun x => decide (x.1.p ∈ X) && s.stays X x.2 x.1) = ((s.Q.zipIdx.filter fun x => decide (x.1.p ∈ Y) && s.stays Y x.2 x.1).filter fun x => decide (x.1.p ∈ X) && s.stays X x.2 x.1) := by
    rw [List.filter_filter]
    refine List.filter_congr ?_
    intro x _
    by_cases hx : x.1.p ∈ X
    · by_cases hs : s.stays X x.2 x.1 = true
      · simp [hx, hs, h _ hx, DS.stays_mono h hs]
      · simp [hs]
    · simp [hx]
  rw [e]
  exact List.filter_sublist
theorem DS.pruneN_succ (s : DS) : ∀ (n : Nat) (X : List Int), s.pruneN (n + 1) X = s.prune (s.pruneN n X)
  | 0, _ => rfl
  | n + 1, X => by
    show s.pruneN (n + 1) (s.prune X) = s.prune (s.pruneN (n + 1) X)
    rw [DS.pruneN_succ s n (s.prune X)]
    rfl
/-- Behind as many rounds as there are that wait pruning changes nothing any more. -/
theorem DS.pruneN_fix (s : DS) : ∀ n, n ≤ s.Q.length → s.prune (s.pruneN n (s.Q.map (·.p))) = s.pruneN n (s.Q.map (·.p)) ∨ (s.pruneN n (s.Q.map (·.p))).length + n ≤ s.Q.length
  | 0, _ => Or.inr (by simp [DS.pruneN])
  | n + 1, hn => by
    have hsub : (s.pruneN (n + 1) (s.Q.map (·.p))).Sublist (s.pruneN n (s.Q.map (·.p))) := by
      cases n with
      | zero =>
        rw [DS.pruneN_succ]
        show (s.prune (s.Q.map (·.p))).Sublist (s.Q.map (·.p))
        unfold DS.prune
        have : s.Q.map (·.p) = s.Q.zipIdx.map (fun x => x.1.p) := by
          rw [show (fun x : Ask × Nat => x.1.p) = (fun a : Ask => a.p) ∘ Prod.fst from rfl, ← List.map_map, List.zipIdx_map_fst]
        rw [this]
        exact List.Sublist.map _ (List.filter_sublist)
      | succ m =>
        rw [DS.pruneN_succ s (m + 1), DS.pruneN_succ s m]
        refine DS.prune_sublist fun q hq => DS.prune_sub hq
    rcases DS.pruneN_fix s n (by omega) with h | h
    · left
      rw [DS.pruneN_succ, h, h]
    · by_cases he : (s.pruneN (n + 1) (s.Q.map (·.p))).length = (s.pruneN n (s.Q.map (·.p))).length
      · left
        have e := hsub.eq_of_length he
        rw [DS.pruneN_succ] at e ⊢
        rw [e, e]
      · right
        have := hsub.length_le
        omega
theorem DS.stuck_fix (s : DS) : s.prune s.stuck = s.stuck := by
  rcases DS.pruneN_fix s s.Q.length (Nat.le_refl _) with h | h
  · exact h
  · have h0 : s.stuck = [] := List.eq_nil_of_length_eq_zero (by unfold DS.stuck; omega)
    rw [h0]
    cases h1 : s.prune [] with
    | nil => rfl
    | cons a t => have : a ∈ s.prune [] := by rw [h1]; simp
                  exact absurd (DS.prune_sub this) (by simp)
theorem DS.stuck_is (s : DS) : s.IsStuck (· ∈ s.stuck) := fun p hp => by
  have hp : p ∈ s.stuck := hp
  rw [← DS.stuck_fix] at hp
  obtain ⟨_, i, a, h1, h2, h3⟩ := DS.mem_prune.1 hp
  exact ⟨i, a, h1, h2, DS.stays_iff.1 h3⟩
theorem DS.stuck_greatest {s : DS} {X : Int → Prop} (h : s.IsStuck X) {p : Int} (hp : X p) : p ∈ s.stuck := by
  have : ∀ n, ∀ q, X q → q ∈ s.pruneN n (s.Q.map (·.p)) := fun n => by
    induction n with
    | zero =>
      intro q hq
      obtain ⟨i, a, h1, h2, _⟩ := h q hq
      exact List.mem_map.2 ⟨a, List.mem_of_getElem? h1, h2⟩
    | succ n ih =>
      intro q hq
      rw [DS.pruneN_succ]
      obtain ⟨i, a, h1, h2, c, h3, h4⟩ := h q hq
      exact DS.mem_prune.2 ⟨ih q hq, i, a, h1, h2, DS.stays_iff.2 ⟨c, h3, fun r hr => ih r (h4 r hr)⟩⟩
  exact this _ p hp
/-- Who is stuck waits. -/
theorem DS.stuck_waits {s : DS} {p : Int} (h : p ∈ s.stuck) : ∃ (i : Nat) (a : Ask), s.Q[i]? = some a ∧ a.p = p := by
  obtain ⟨i, a, h1, h2, _⟩ := s.stuck_is p h
  exact ⟨i, a, h1, h2⟩

theorem DS.take_Q (s : DS) (a : Ask) : (s.take a).1.Q = s.Q := by
  unfold DS.take
  (repeat' split) <;> rfl
theorem DS.take_N (s : DS) (a : Ask) : (s.take a).1.N = s.N := by
  unfold DS.take
  (repeat' split) <;> rfl
theorem DS.free?_some {s : DS} {i : Nat} (h : s.free? = some i) : ∃ a, s.Q[i]? = some a ∧ s.way a (s.Q.take i) = [] ∧ ∀ j b, j < i → s.Q[j]? = some b → s.way b (s.Q.take j) ≠ [] := by
  unfold DS.free? at h
  rw [List.find?_range_eq_some] at h
  obtain ⟨h1, h2, h3⟩ := h
  have hl : i < s.Q.length := by simpa using h2
  refine ⟨s.Q[i], List.getElem?_eq_getElem hl, ?_, ?_⟩
  · rw [List.getElem?_eq_getElem hl] at h1
    simpa using h1
  · intro j b hj hb
    have := h3 j hj
    rw [hb] at this
    simpa using this
theorem DS.free?_none {s : DS} (h : s.free? = none) : ∀ i a, s.Q[i]? = some a → s.way a (s.Q.take i) ≠ [] := fun i a ha => by
  unfold DS.free? at h
  rw [List.find?_range_eq_none] at h
  have hl : i < s.Q.length := by
    rcases Nat.lt_or_ge i s.Q.length with h' | h'
    · exact h'
    · rw [List.getElem?_eq_none h'] at ha; cases ha
  have := h i hl
  rw [ha] at this
  simpa using this
theorem DS.last?_some {s : DS} {i : Nat} (h : s.last? = some i) : ∃ a, s.Q[i]? = some a ∧ a.p ∈ s.stuck ∧ ∀ j b, i < j → s.Q[j]? = some b → b.p ∉ s.stuck := by
  unfold DS.last? at h
  rw [List.find?_eq_some_iff_append] at h
  obtain ⟨h1, as, bs, h2, h3⟩ := h
  have hm : i ∈ (List.range s.Q.length).reverse := by rw [h2]; simp
  have hl : i < s.Q.length := by simpa using hm
  refine ⟨s.Q[i], List.getElem?_eq_getElem hl, ?_, ?_⟩
  · rw [List.getElem?_eq_getElem hl] at h1
    simpa using h1
  · intro j b hj hb
    have hjl : j < s.Q.length := (List.getElem?_eq_some_iff.1 hb).1
    have hja : j ∈ as := by
      have hjm : j ∈ (List.range s.Q.length).reverse := by simpa using hjl
      rw [h2, List.mem_append, List.mem_cons] at hjm
      rcases hjm with h' | h' | h'
      · exact h'
      · omega
      · have hpw : ((List.range s.Q.length).reverse).Pairwise (· > ·) := by
          rw [List.pairwise_reverse]
          exact List.pairwise_lt_range
        rw [h2, List.pairwise_append] at hpw
        have := List.pairwise_cons.1 hpw.2.1
        have := this.1 j h'
        omega
    have := h3 j hja
    rw [hb] at this
    simpa using this
theorem DS.last?_none {s : DS} (h : s.last? = none) : s.stuck = [] := by
  unfold DS.last? at h
  rw [List.find?_eq_none] at h
  cases e : s.stuck with
  | nil => rfl
  | cons p t =>
    have hp : p ∈ s.stuck := by rw [e]; simp
    obtain ⟨i, a, h1, h2⟩ := DS.stuck_waits hp
    have hl : i < s.Q.length := (List.getElem?_eq_some_iff.1 h1).1
    have := h i (by simpa using hl)
    rw [h1] at this
    simp [h2, hp] at this

/-- All that settling leaves alone, and what it does in each round: a property that each round keeps is kept. -/
theorem DS.settleN_keeps {P : DS → Prop} (hf : ∀ s i a, P s → s.Q[i]? = some a → s.way a (s.Q.take i) = [] → P ((s.leave i).take a).1)
    (hs : ∀ s i a, P s → s.Q[i]? = some a → s.free? = none → a.p ∈ s.stuck → P (s.leave i)) : ∀ (n : Nat) (s : DS), P s → P (DS.settleN n s).1
  | 0, s, h => h
  | n + 1, s, h => by
    unfold DS.settleN
    cases e : s.free? with
    | some i =>
      obtain ⟨a, h1, h2, _⟩ := DS.free?_some e
      simp only [h1, Option.getD_some]
      exact DS.settleN_keeps hf hs n _ (hf s i a h h1 h2)
    | none =>
      cases e2 : s.last? with
      | none => exact h
      | some i =>
        obtain ⟨a, h1, h2, _⟩ := DS.last?_some e2
        simp only []
        exact DS.settleN_keeps hf hs n _ (hs s i a h h1 e h2)
theorem DS.leave_len {s : DS} {i : Nat} {a : Ask} (h : s.Q[i]? = some a) : (s.leave i).Q.length + 1 = s.Q.length := by
  have hl : i < s.Q.length := (List.getElem?_eq_some_iff.1 h).1
  simp only [DS.leave]
  rw [List.length_eraseIdx]
  simp only [hl, if_true]; omega
/-- Behind settling nobody waits with nothing in its way, and nobody is stuck. -/
theorem DS.settleN_done : ∀ (n : Nat) (s : DS), s.Q.length ≤ n → (DS.settleN n s).1.free? = none ∧ (DS.settleN n s).1.last? = none
  | 0, s, h => by
    have hq : s.Q = [] := List.eq_nil_of_length_eq_zero (by omega)
    simp [DS.settleN, DS.free?, DS.last?, hq]
  | n + 1, s, h => by
    unfold DS.settleN
    cases e : s.free? with
    | some i =>
      obtain ⟨a, h1, h2, _⟩ := DS.free?_some e
      simp only [h1, Option.getD_some]
      refine DS.settleN_done n _ ?_
      rw [DS.take_Q]
      have := DS.leave_len h1
      omega
    | none =>
      cases e2 : s.last? with
      | none => exact ⟨e, e2⟩
      | some i =>
        obtain ⟨a, h1, h2, _⟩ := DS.last?_some e2
        simp only []
        refine DS.settleN_done n _ ?_
        have := DS.leave_len h1
        omega
theorem erase_perm {α : Type} : ∀ (l : List α) (i : Nat) (a : α), l[i]? = some a → (a :: l.eraseIdx i).Perm l
  | [], i, a, h => by simp at h
  | b :: l, 0, a, h => by simp at h; subst h; simp
  | b :: l, i + 1, a, h => by
    have ih := erase_perm l i a (by simpa using h)
    rw [List.eraseIdx_cons_succ]
    exact (List.Perm.swap b a _).trans (List.Perm.cons b ih)
/-- Who waits no more, and who still does, are together those who waited. -/
theorem DS.settleN_perm : ∀ (n : Nat) (s : DS), ((DS.settleN n s).1.Q.map (·.p) ++ (DS.settleN n s).2.map (·.p)).Perm (s.Q.map (·.p))
  | 0, s => by simp [DS.settleN]
  | n + 1, s => by
    have key : ∀ (i : Nat) (a : Ask) (t : DS) (_ : s.Q[i]? = some a) (_ : t.Q = (s.leave i).Q) (e : Int), ((DS.settleN n t).1.Q.map (·.p) ++ (⟨a.p, e⟩ :: (DS.settleN n t).2 : List Dn).map (·.p)).Perm (s.Q.map (·.p)) := by
      intro i a t h1 ht e
      have ih := DS.settleN_perm n t
      rw [List.map_cons]
      refine List.perm_middle.trans ?_
      refine (List.Perm.cons a.p ih).trans ?_
      rw [ht]
      have hl : i < s.Q.length := (List.getElem?_eq_some_iff.1 h1).1
      have h2 : s.Q[i] = a := (List.getElem?_eq_some_iff.1 h1).2
      have := (erase_perm s.Q i a h1).map (·.p)
      rw [List.map_cons] at this
      exact this
    unfold DS.settleN
    cases e : s.free? with
    | some i =>
      obtain ⟨a, h1, h2, _⟩ := DS.free?_some e
      simp only [h1, Option.getD_some]
      exact key i a _ h1 (DS.take_Q _ _) _
    | none =>
      cases e2 : s.last? with
      | none => simp
      | some i =>
        obtain ⟨a, h1, h2, _⟩ := DS.last?_some e2
        simp only [h1, Option.getD_some]
        exact key i a _ h1 rfl _
end Go.Proofs.YtaicdjhblbobbaaGreat

/- What holds of every state that calls lead to: locks do not bite, who waits has something in its way, nobody is stuck. -/
namespace Go.Proofs.YtaicdjhblbobbaaGreat

theorem biteB_comm (a b : Int) : biteB a b = biteB b a := by
  unfold biteB
  by_cases h : a = 0 ∨ b = 0
  · rw [if_pos h, if_pos h.symm]
  · rw [if_neg h, if_neg (fun h' => h h'.symm)]
    exact decide_eq_decide.2 or_comm
theorem biteB_zero (b : Int) : biteB 0 b = false := by simp [biteB]
theorem biteB_zero' (b : Int) : biteB b 0 = false := by simp [biteB]
theorem Rn.bites_iff {a b : Rn} : a.bites b = true ↔ a.p ≠ b.p ∧ a.f ≤ b.t ∧ b.f ≤ a.t ∧ biteB a.k b.k = true := by
  unfold Rn.bites bitesB meetsB
  simp only [Bool.and_eq_true, decide_eq_true_eq]
  constructor
  · rintro ⟨⟨h1, h2, h3⟩, h4⟩; exact ⟨h1, h2, h3, h4⟩
  · rintro ⟨h1, h2, h3, h4⟩; exact ⟨⟨h1, h2, h3⟩, h4⟩
theorem Rn.not_bites {a b : Rn} : a.bites b = false ↔ ¬ (a.p ≠ b.p ∧ a.f ≤ b.t ∧ b.f ≤ a.t ∧ biteB a.k b.k = true) := by
  rw [← Rn.bites_iff]; simp
theorem live_mem {L : Nat → Bool} {p : Int} (h : liveB L p = true) : p ∈ ps6 := by
  unfold liveB at h
  simp only [Bool.and_eq_true, decide_eq_true_eq] at h
  have : p = 0 ∨ p = 1 ∨ p = 2 ∨ p = 3 ∨ p = 4 ∨ p = 5 := by omega
  unfold ps6
  rcases this with h | h | h | h | h | h <;> simp [h]
theorem mem_ps6 {p : Int} : p ∈ ps6 ↔ 0 ≤ p ∧ p < 6 := by
  unfold ps6
  simp only [List.mem_cons, List.not_mem_nil, or_false]
  omega
theorem mem_ds5 {p : Int} : p ∈ ds5 ↔ 0 ≤ p ∧ p < 5 := by
  unfold ds5
  simp only [List.mem_cons, List.not_mem_nil, or_false]
  omega
/-- Nothing of a list bites, told by positions. -/
def NB (l : List Rn) : Prop := ∀ p q i, p ≠ q → biteB (cellR l p i) (cellR l q i) = false
theorem nb_cells {l : List Rn} (hl : WF l) : (∀ x y, x ∈ l → y ∈ l → x.bites y = false) ↔ NB l := by
  constructor
  · intro h p q i hpq
    rcases cellR_cases hl.ap p i with ⟨x, hx, rfl, h1, h2, h3⟩ | ⟨_, h3⟩
    · rcases cellR_cases hl.ap q i with ⟨y, hy, rfl, g1, g2, g3⟩ | ⟨_, g3⟩
      · rw [h3, g3]
        have := h x y hx hy
        rw [Rn.not_bites] at this
        cases e : biteB x.k y.k with
        | false => rfl
        | true => exact absurd ⟨hpq, by omega, by omega, e⟩ this
      · rw [g3, biteB_zero']
    · rw [h3, biteB_zero]
  · intro h x y hx hy
    rw [Rn.not_bites]
    rintro ⟨h1, h2, h3, h4⟩
    have fx := hl.ok x hx
    have fy := hl.ok y hy
    unfold Rn.fine at fx fy
    have := h x.p y.p (max x.f y.f) h1
    rw [cellR_mem hl.ap hx (by omega) (by omega), cellR_mem hl.ap hy (by omega) (by omega)] at this
    rw [this] at h4; cases h4
/-- A lock is free of a list: nothing there bites it. -/
theorem clear_cells {l : List Rn} (hl : WF l) {r : Rn} (hr : r.f ≤ r.t) : (∀ x, x ∈ l → r.bites x = false) ↔ ∀ q i, q ≠ r.p → r.f ≤ i → i ≤ r.t → biteB r.k (cellR l q i) = false := by
  constructor
  · intro h q i hq h1 h2
    rcases cellR_cases hl.ap q i with ⟨y, hy, rfl, g1, g2, g3⟩ | ⟨_, g3⟩
    · rw [g3]
      have := h y hy
      rw [Rn.not_bites] at this
      cases e : biteB r.k y.k with
      | false => rfl
      | true => exact absurd ⟨fun e => hq e.symm, by omega, by omega, e⟩ this
    · rw [g3, biteB_zero']
  · intro h x hx
    rw [Rn.not_bites]
    rintro ⟨h1, h2, h3, h4⟩
    have fx := hl.ok x hx
    unfold Rn.fine at fx
    have := h x.p (max r.f x.f) (fun e => h1 e.symm) (by omega) (by omega)
    rw [cellR_mem hl.ap hx (by omega) (by omega)] at this
    rw [this] at h4; cases h4
theorem cellR_proc {l : List Rn} (hl : WF l) {x : Rn} (hx : x ∈ l) : cellR l x.p x.f ≠ 0 := by
  have := hl.ok x hx
  unfold Rn.fine at this
  rw [cellR_mem hl.ap hx (Int.le_refl _) this.2.1]
  omega
theorem dropR_filter {l : List Rn} (hl : WF l) (p : Int) : dropR l p = l.filter fun x => decide (x.p ≠ p) := by
  obtain ⟨h1, h2⟩ := without_all hl p
  have hf : WF (l.filter fun x => decide (x.p ≠ p)) := ⟨List.Pairwise.sublist List.filter_sublist hl.srt, fun x hx => hl.ok x (List.mem_filter.1 hx).1, List.Pairwise.sublist List.filter_sublist hl.ap⟩
  unfold dropR
  refine WF.ext h1 hf fun q i => ?_
  rw [h2]
  split
  · rename_i h
    subst h
    refine (cellR_none fun x hx hc => ?_).symm
    have := (List.mem_filter.1 hx).2
    simp at this
    exact this hc.1
  · rename_i h
    rcases cellR_cases hl.ap q i with ⟨x, hx, rfl, g1, g2, g3⟩ | ⟨g, g3⟩
    · rw [g3]
      exact (cellR_mem hf.ap (List.mem_filter.2 ⟨hx, by simpa using h⟩) g1 g2).symm
    · rw [g3]
      exact (cellR_none fun x hx hc => g x (List.mem_filter.1 hx).1 hc).symm

/-- A valid ask. -/
structure DS.AskOk (s : DS) (a : Ask) : Prop where
  l : liveB s.L a.p = true
  k : a.k = 0 ∨ a.k = 1 ∨ a.k = 2
  file : a.file < 3
  wh : a.whole = true → s.has a.o a.p = true ∧ s.O a.o = a.file
  rg : a.whole = false → 0 ≤ a.f ∧ a.f ≤ a.t ∧ a.t ≤ 63
/-- All but waiting. -/
structure DS.Bas (s : DS) : Prop where
  f : ∀ p d o, s.F p d = some o → liveB s.L p = true ∧ 0 ≤ d ∧ d < 5 ∧ o < s.N
  o : ∀ o, s.O o < 3
  wf : ∀ f, WF (s.R f)
  len : ∀ f, (s.R f).length ≤ 12
  lv : ∀ f x, x ∈ s.R f → liveB s.L x.p = true
  nb : ∀ f x y, x ∈ s.R f → y ∈ s.R f → x.bites y = false
  w : ∀ f x, x ∈ s.W f → s.inUse x.o = true ∧ (x.k = 1 ∨ x.k = 2) ∧ s.O x.o = f
  wn : ∀ f, (s.W f).Pairwise fun x y => x.o ≠ y.o ∧ biteB x.k y.k = false
  qn : s.Q.Pairwise fun a b => a.p ≠ b.p
  q : ∀ a, a ∈ s.Q → s.AskOk a ∧ a.k ≠ 0
structure DS.Inv (s : DS) : Prop extends s.Bas where
  free : ∀ i a, s.Q[i]? = some a → s.way a (s.Q.take i) ≠ []
  stk : s.stuck = []

/-- Nothing that is locked bites a. -/
def DS.Clear (s : DS) (a : Ask) : Prop := (a.whole = true → ∀ w, w ∈ s.W a.file → w.o ≠ a.o → biteB a.k w.k = false) ∧ (a.whole = false → ∀ x, x ∈ s.R a.file → a.run.bites x = false)
theorem holders_nil {l : List Rn} {r : Rn} (hl : ∀ x, x ∈ l → x.p ∈ ps6) (h : holders l r = []) : ∀ x, x ∈ l → r.bites x = false := fun x hx => by
  unfold holders at h
  rw [List.filter_eq_nil_iff] at h
  have := h x.p (hl x hx)
  simp only [List.any_eq_true, Bool.and_eq_true, decide_eq_true_eq] at this
  cases e : r.bites x with
  | false => rfl
  | true => exact absurd ⟨x, hx, rfl, e⟩ this
theorem holders_of_clear {l : List Rn} {r : Rn} (h : ∀ x, x ∈ l → r.bites x = false) : holders l r = [] := by
  unfold holders
  rw [List.filter_eq_nil_iff]
  intro q _
  simp only [List.any_eq_true, Bool.and_eq_true, decide_eq_true_eq]
  rintro ⟨x, hx, _, hb⟩
  rw [h x hx] at hb; cases hb
theorem DS.Clear.of_way {s : DS} (h : s.Bas) {a : Ask} {l : List Ask} (hw : s.way a l = []) : s.Clear a := by
  unfold DS.way at hw
  rw [List.append_eq_nil_iff] at hw
  refine ⟨fun e w hm ho => ?_, fun e => ?_⟩
  · have h2 := hw.2
    rw [if_pos e, List.map_eq_nil_iff, List.filter_eq_nil_iff] at h2
    have := h2 w hm
    simp only [Bool.and_eq_true, decide_eq_true_eq] at this
    cases e : biteB a.k w.k with
    | false => rfl
    | true => exact absurd ⟨ho, e⟩ this
  · have h2 := hw.2
    rw [if_neg (by simp [e]), List.map_eq_nil_iff] at h2
    exact holders_nil (fun x hx => live_mem (h.lv _ x hx)) h2
theorem DS.Clear.of_zero {s : DS} {a : Ask} (h : a.k = 0) : s.Clear a := ⟨fun _ w _ _ => by rw [h]; exact biteB_zero _, fun _ x _ => by rw [Rn.not_bites]; rintro ⟨_, _, _, h4⟩; simp [Ask.run, h, biteB_zero] at h4⟩

theorem DS.inUse_iff {s : DS} {o : Nat} : s.inUse o = true ↔ ∃ p, p ∈ ps6 ∧ s.has o p = true := by
  unfold DS.inUse; simp
theorem DS.has_iff {s : DS} {o : Nat} {p : Int} : s.has o p = true ↔ ∃ d, d ∈ ds5 ∧ s.F p d = some o := by
  unfold DS.has; simp
theorem DS.AskOk.congr {s t : DS} {a : Ask} (h : s.AskOk a) (hL : t.L = s.L) (hF : t.F = s.F) (hO : t.O = s.O) : t.AskOk a :=
  ⟨by rw [hL]; exact h.l, h.k, h.file, fun e => by unfold DS.has; rw [hF, hO]; exact h.wh e, h.rg⟩
theorem mem_setW {l : List Wl} {o : Nat} {k : Int} {x : Wl} (h : x ∈ setW l o k) : (x ∈ l ∧ (x.o ≠ o ∨ x = ⟨o, k⟩)) ∨ (x = ⟨o, k⟩ ∧ k ≠ 0) ∨ (x ∈ l ∧ (⟨o, k⟩ : Wl) ∈ l) := by
  unfold setW at h
  split at h
  · rename_i hm; exact Or.inr (Or.inr ⟨h, hm⟩)
  · rw [List.mem_append] at h
    rcases h with h | h
    · rw [List.mem_filter] at h
      exact Or.inl ⟨h.1, Or.inl (by simpa using h.2)⟩
    · split at h
      · cases h
      · rename_i hk
        simp at h
        exact Or.inr (Or.inl ⟨h, hk⟩)

theorem DS.Bas.take {s : DS} (h : s.Bas) {a : Ask} (ha : s.AskOk a) (hc : s.Clear a) : (s.take a).1.Bas := by
  unfold DS.take
  split
  · rename_i hw
    obtain ⟨hu, ho⟩ := ha.wh hw
    have hall : ∀ x, x ∈ setW (s.W a.file) a.o a.k → s.inUse x.o = true ∧ (x.k = 1 ∨ x.k = 2) ∧ s.O x.o = a.file := by
      intro x hx
      rcases mem_setW hx with ⟨hm, _⟩ | ⟨rfl, hk⟩ | ⟨hm, _⟩
      · exact h.w _ x hm
      · refine ⟨DS.inUse_iff.2 ⟨a.p, live_mem ha.l, hu⟩, ?_, ho⟩
        have := ha.k; show a.k = 1 ∨ a.k = 2; omega
      · exact h.w _ x hm
    refine ⟨h.f, h.o, h.wf, h.len, h.lv, h.nb, ?_, ?_, h.qn, fun b hb => ⟨(h.q b hb).1.congr rfl rfl rfl, (h.q b hb).2⟩⟩
    · intro f x hx
      simp only [updR] at hx
      split at hx
      · rename_i e
        subst e
        exact hall x hx
      · exact h.w f x hx
    · intro f
      simp only [updR]
      split
      · rename_i e
        subst e
        unfold setW
        split
        · exact h.wn _
        · rw [List.pairwise_append]
          refine ⟨List.Pairwise.sublist List.filter_sublist (h.wn _), ?_, ?_⟩
          · split <;> simp
          · intro x hx y hy
            split at hy
            · cases hy
            · simp at hy
              subst hy
              rw [List.mem_filter] at hx
              have hne : x.o ≠ a.o := by simpa using hx.2
              exact ⟨hne, by rw [biteB_comm]; exact hc.1 hw x hx.1 hne⟩
      · exact h.wn f
  · rename_i hw
    have hw : a.whole = false := by simpa using hw
    obtain ⟨r0, r1, r2⟩ := ha.rg hw
    obtain ⟨s1, s2⟩ := setR_all (h.wf a.file) (r := a.run) r0 r1 r2 ha.k
    split
    · exact h
    · rename_i hlen
      refine ⟨h.f, h.o, ?_, ?_, ?_, ?_, h.w, h.wn, h.qn, fun b hb => ⟨(h.q b hb).1.congr rfl rfl rfl, (h.q b hb).2⟩⟩
      · intro f; simp only [updR]; split
        · exact s1
        · exact h.wf f
      · intro f; simp only [updR]; split
        · omega
        · exact h.len f
      · intro f x hx
        simp only [updR] at hx
        split at hx
        · have hne := cellR_proc s1 hx
          rw [s2] at hne
          split at hne
          · rename_i e
            rw [e.1]; exact ha.l
          · obtain ⟨y, hy, hp, _⟩ := cellR_some hne
            rw [← hp]; exact h.lv _ y hy
        · exact h.lv f x hx
      · intro f
        simp only [updR]
        split
        · rw [nb_cells s1]
          have hnb := (nb_cells (h.wf a.file)).1 (h.nb a.file)
          have hcl := (clear_cells (h.wf a.file) (r := a.run) r1).1 (hc.2 hw)
          intro p q i hpq
          rw [s2, s2]
          split
          · rename_i e1
            rw [if_neg (fun e2 => hpq (e1.1.trans e2.1.symm))]
            exact hcl q i (fun e => hpq (e1.1.trans e.symm)) e1.2.1 e1.2.2
          · split
            · rename_i e2
              rw [biteB_comm]
              exact hcl p i (fun e => hpq (e.trans e2.1.symm)) e2.2.1 e2.2.2
            · exact hnb p q i hpq
        · exact h.nb f
theorem DS.Bas.leave {s : DS} (h : s.Bas) (i : Nat) : (s.leave i).Bas :=
  ⟨h.f, h.o, h.wf, h.len, h.lv, h.nb, h.w, h.wn, List.Pairwise.sublist (List.eraseIdx_sublist _ _) h.qn,
   fun b hb => ⟨(h.q b ((List.eraseIdx_sublist _ _).subset hb)).1.congr rfl rfl rfl, (h.q b ((List.eraseIdx_sublist _ _).subset hb)).2⟩⟩
theorem DS.Bas.settle {s : DS} (h : s.Bas) : s.settle.1.Inv := by
  have hb : s.settle.1.Bas := by
    refine DS.settleN_keeps (P := DS.Bas) ?_ ?_ _ _ h
    · intro t i a ht hq hway
      have hm := List.mem_of_getElem? hq
      have hc : (t.leave i).Clear a := DS.Clear.of_way ht hway
      exact (ht.leave i).take ((ht.q a hm).1.congr rfl rfl rfl) hc
    · intro t i a ht _ _ _
      exact ht.leave i
  obtain ⟨h1, h2⟩ := DS.settleN_done s.Q.length s (Nat.le_refl _)
  exact ⟨hb, DS.free?_none h1, DS.last?_none h2⟩
theorem DS.Bas.settled {s : DS} (h : s.Bas) : s.settled.1.Inv := h.settle
end Go.Proofs.YtaicdjhblbobbaaGreat
