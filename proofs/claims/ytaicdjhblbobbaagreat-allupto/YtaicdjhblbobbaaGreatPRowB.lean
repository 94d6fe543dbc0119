/- Rows that are read: their form, their cells, that new memory is nothing to them. -/
import Derived.Test.YtaicdjhblbobbaaGreatPBits
import Derived.Laws.AppendOwn
import Derived.Laws.OwnMore
import Derived.Lib.AppendZeros
import Derived.Test.YtaicdjhblbobbaaGreatPInvStep
namespace Go.Proofs.YtaicdjhblbobbaaGreat
open Go.RowKit

theorem own_form {w : World} {base : Nat} {e : TypeId} {sz : Nat} {v : Value} {n : Nat} {xs : List Value} (h : w.ownsRow base e sz v n xs) : ∃ a c, v = .slice a n c := by
  rcases h.2 with ⟨h1, h2⟩ | ⟨g, cap, cur, h1, _⟩
  · exact ⟨none, 0, by rw [h1, h2]⟩
  · exact ⟨_, _, h1⟩
theorem own_some {w : World} {base : Nat} {e : TypeId} {sz : Nat} {a : Option Addr} {n c : Nat} {xs : List Value} (h : w.ownsRow base e sz (.slice a n c) n xs) (hn : 0 < n) :
    ∃ g, a = some ⟨g, 0, none⟩ ∧ base ≤ g ∧ g < w.heap.size ∧ n ≤ c ∧ ∀ j, j < n * sz → w.cell? ⟨g, j, none⟩ = xs[j]? := by
  rcases h.2 with ⟨h1, h2⟩ | ⟨g, cap, cur, h1, hb, hg, hnc, _⟩
  · omega
  · cases h1
    exact ⟨g, rfl, hb, (Array.getElem?_eq_some_iff.1 hg).1, hnc, fun j hj => h.cellAt j hj⟩
theorem own_blk {w w' : World} {base : Nat} {e : TypeId} {sz : Nat} {v : Value} {n : Nat} {xs : List Value} (h : w.ownsRow base e sz v n xs) (hb : ∀ b, v.ownBlock = some b → w'.heap[b]? = w.heap[b]?) : w'.ownsRow base e sz v n xs := by
  refine ⟨h.1, ?_⟩
  rcases h.2 with hv | ⟨g, cap, cur, hv, hg, hblk, hr⟩
  · exact Or.inl hv
  · subst hv
    exact Or.inr ⟨g, cap, cur, rfl, hg, by rw [hb g rfl]; exact hblk, hr⟩
theorem own_below {w w' : World} {base : Nat} {e : TypeId} {sz : Nat} {v : Value} {n : Nat} {xs : List Value} (h : w.ownsRow base e sz v n xs) (hb : Below w.heap.size w w') : w'.ownsRow base e sz v n xs :=
  own_blk h fun b e => hb.block b (h.lt b e).2
theorem own_mono {w : World} {base base' : Nat} {e : TypeId} {sz : Nat} {v : Value} {n : Nat} {xs : List Value} (h : w.ownsRow base e sz v n xs) (hb : base' ≤ base) : w.ownsRow base' e sz v n xs := by
  refine ⟨h.1, ?_⟩
  rcases h.2 with hv | ⟨g, cap, cur, hv, hg, hr⟩
  · exact Or.inl hv
  · exact Or.inr ⟨g, cap, cur, hv, by omega, hr⟩
/-- The type of the block of a row. -/
theorem own_tag {w : World} {base : Nat} {e : TypeId} {sz : Nat} {v : Value} {n : Nat} {xs : List Value} (h : w.ownsRow base e sz v n xs) {b : Nat} (hb : v.ownBlock = some b) : ∃ cur, w.heap[b]? = some (.cells cur e (0, 0)) := by
  rcases h.2 with ⟨h1, h2⟩ | ⟨g, cap, cur, h1, _, hg, _⟩
  · subst h1; cases hb
  · subst h1; cases hb; exact ⟨_, hg⟩
def ints (l : List Int) : List Value := l.map fun x => .int .i64 x
theorem ints_get {l : List Int} {i : Nat} {x : Int} (h : l[i]? = some x) : (ints l)[i]? = some (.int .i64 x) := by simp [ints, h]
theorem ints_snoc (l : List Int) (x : Int) : ints (l ++ [x]) = ints l ++ [.int .i64 x] := by simp [ints]
theorem info_get {t : TypeId} {z : Value} {s b : Nat} (h : (Tryz.prog.info? t).map (fun i => (i.zero, i.size, i.bytes)) = some (some z, s, b)) : ∃ i, Tryz.prog.info? t = some i ∧ i.zero = some z ∧ i.size = s ∧ i.bytes = b := by
  cases e : Tryz.prog.info? t with
  | none => rw [e] at h; cases h
  | some i =>
    rw [e] at h
    simp at h
    exact ⟨i, rfl, h.1, h.2.1, h.2.2⟩
theorem bcells {W w1 : World} (hb : Below W.heap.size W w1) : (∀ b o, b < W.heap.size → w1.cell? ⟨b, o, none⟩ = W.cell? ⟨b, o, none⟩) ∧ (∀ b o, b < W.heap.size → w1.frozen? ⟨b, o, none⟩ = W.frozen? ⟨b, o, none⟩) :=
  ⟨fun b o h => hb.cell (p := ⟨b, o, none⟩) h, fun b o h => hb.frozen (p := ⟨b, o, none⟩) h⟩
/-- A list of fixed cells, element after element. -/
theorem flat_get {α : Type} (f : α → List Value) (k : Nat) (hk : ∀ x, (f x).length = k) : ∀ (l : List α) (i j : Nat) (x : α), l[i]? = some x → j < k → (l.flatMap f)[i * k + j]? = (f x)[j]?
  | [], i, j, x, h, _ => by simp at h
  | y :: l, 0, j, x, h, hj => by
    simp at h
    subst h
    rw [List.flatMap_cons, Nat.zero_mul, Nat.zero_add, List.getElem?_append_left (by rw [hk]; exact hj)]
  | y :: l, i + 1, j, x, h, hj => by
    have := flat_get f k hk l i j x (by simpa using h) hj
    rw [List.flatMap_cons, List.getElem?_append_right (by rw [hk, Nat.add_mul]; omega), hk, ← this]
    congr 1
    rw [Nat.add_mul]; omega
theorem flat_len {α : Type} (f : α → List Value) (k : Nat) (hk : ∀ x, (f x).length = k) (l : List α) : (l.flatMap f).length = l.length * k := by
  induction l with
  | nil => simp
  | cons a t ih => rw [List.flatMap_cons, List.length_append, ih, hk, List.length_cons, Nat.add_mul]; omega
end Go.Proofs.YtaicdjhblbobbaaGreat

/- How lists and replies lie in memory; what a call may change. -/
namespace Go.Proofs.YtaicdjhblbobbaaGreat
open Go.RowKit

def Dn.cells (d : Dn) : List Value := [.int .i64 d.p, .int .i64 d.e]
def flatD (l : List Dn) : List Value := l.flatMap Dn.cells
def rcells (r : Rn) : List Value := [.int .i64 r.p, .int .i64 r.k, .int .i64 r.f, .int .i64 r.t]
def flatR (l : List Rn) : List Value := l.flatMap rcells
/-- The cells of a list of locks of a whole file, their lists of processes being vs. -/
def flatH : List Hd → List Value → List Value
  | h :: t, v :: vs => .int .i64 h.k :: v :: flatH t vs
  | _, _ => []

/-- Of what was there only blocks of P changed; of the blocks P' those that were there are of P. -/
structure Upd (P P' : Nat → Prop) (w w' : World) : Prop where
  os : w'.os = w.os
  tape : w'.tape = w.tape
  output : w'.output = w.output
  size : w.heap.size ≤ w'.heap.size
  block : ∀ k, k < w.heap.size → ¬ P k → w'.heap[k]? = w.heap[k]?
  old : ∀ k, k < w.heap.size → P' k → P k
/-- A list that came out: new memory, none of the Kernel's own. -/
structure Told (w w' : World) (P : Nat → Prop) (t : TypeId) (sz : Nat) (v : Value) (n : Nat) (xs : List Value) : Prop where
  own : w'.ownsRow w.heap.size t sz v n xs
  far : ∀ b, v.ownBlock = some b → ¬ P b

def kptr (kb : Nat) : Value := .pointer (some ⟨kb, 0, none⟩)
def i64 (x : Int) : Prop := -9223372036854775808 ≤ x ∧ x ≤ 9223372036854775807
/-- A reply, as a value; v its list. -/
def rpV (r : Rp) (v : Value) : Value := .agg #[.int .i64 r.e, .int .i64 r.n, v]
end Go.Proofs.YtaicdjhblbobbaaGreat

/- What the statements need of the program: a Kernel at a block, the blocks that are its own, its state in the model; each call answers as the model. -/
namespace Go.Proofs.YtaicdjhblbobbaaGreat
open Go.RowKit

def Cl.fn : Cl → Nat
  | .fork .. => 32
  | .kill .. => 28
  | .opn .. => 23
  | .dup .. => 24
  | .close .. => 26
  | .lock .. => 18
  | .test .. => 22
  | .whole .. => 25
def Cl.args (kb : Nat) : Cl → Array Value
  | .fork p => #[kptr kb, .int .i64 p]
  | .kill p => #[kptr kb, .int .i64 p]
  | .opn p f => #[kptr kb, .int .i64 p, .int .i64 f]
  | .dup p d => #[kptr kb, .int .i64 p, .int .i64 d]
  | .close p d => #[kptr kb, .int .i64 p, .int .i64 d]
  | .lock p d k f l w => #[kptr kb, .int .i64 p, .int .i64 d, .int .i64 k, .int .i64 f, .int .i64 l, .bool w]
  | .test p d k f l => #[kptr kb, .int .i64 p, .int .i64 d, .int .i64 k, .int .i64 f, .int .i64 l]
  | .whole p d k w => #[kptr kb, .int .i64 p, .int .i64 d, .int .i64 k, .bool w]
def Cl.rng : Cl → Prop
  | .fork p => i64 p
  | .kill p => i64 p
  | .opn p f => i64 p ∧ i64 f
  | .dup p d => i64 p ∧ i64 d
  | .close p d => i64 p ∧ i64 d
  | .lock p d k f l _ => i64 p ∧ i64 d ∧ i64 k ∧ i64 f ∧ i64 l
  | .test p d k f l => i64 p ∧ i64 d ∧ i64 k ∧ i64 f ∧ i64 l
  | .whole p d k _ => i64 p ∧ i64 d ∧ i64 k

structure Face (rep : World → Nat → (Nat → Prop) → DS → Prop) : Prop where
  frame : ∀ {w w' : World} {kb : Nat} {P : Nat → Prop} {s : DS}, rep w kb P s → w.heap.size ≤ w'.heap.size → (∀ b, P b → w'.heap[b]? = w.heap[b]?) → rep w' kb P s
  lt : ∀ {w : World} {kb : Nat} {P : Nat → Prop} {s : DS}, rep w kb P s → ∀ b, P b → b < w.heap.size
  inv : ∀ {w : World} {kb : Nat} {P : Nat → Prop} {s : DS}, rep w kb P s → s.Inv
  new : ∀ w, Calls Tryz.prog 31 #[] w fun e w' => ∃ kb P, e = .returned (kptr kb) ∧ rep w' kb P DS.new ∧ Upd (fun _ => False) P w w'
  step : ∀ {w : World} {kb : Nat} {P : Nat → Prop} {s : DS} (c : Cl), c.rng → rep w kb P s →
    Calls Tryz.prog c.fn (c.args kb) w fun e w' => ∃ P' v, e = .returned (rpV (s.step c).2 v) ∧ Told w w' P' 57 2 v (s.step c).2.d.length (flatD (s.step c).2.d) ∧ rep w' kb P' (s.step c).1 ∧ Upd P P' w w'
  runs : ∀ {w : World} {kb : Nat} {P : Nat → Prop} {s : DS} (f : Int), i64 f → rep w kb P s →
    Calls Tryz.prog 21 #[kptr kb, .int .i64 f] w fun e w' => ∃ P' v, e = .returned v ∧ Told w w' P' 41 4 v (s.runs f).length (flatR (s.runs f)) ∧ rep w' kb P' s ∧ Upd P P' w w'
  holds : ∀ {w : World} {kb : Nat} {P : Nat → Prop} {s : DS} (f : Int), i64 f → rep w kb P s →
    Calls Tryz.prog 27 #[kptr kb, .int .i64 f] w fun e w' => ∃ P' v vs, e = .returned v ∧ vs.length = (s.holds f).length ∧ Told w w' P' 55 2 v (s.holds f).length (flatH (s.holds f) vs) ∧
      (∀ (i : Nat) h u, (s.holds f)[i]? = some h → vs[i]? = some u → Told w w' P' 3 1 u h.ps.length (ints h.ps)) ∧
      (v :: vs).Pairwise (fun x y => ∀ b, x.ownBlock = some b → y.ownBlock ≠ some b) ∧ rep w' kb P' s ∧ Upd P P' w w'
  waiting : ∀ {w : World} {kb : Nat} {P : Nat → Prop} {s : DS}, rep w kb P s →
    Calls Tryz.prog 36 #[kptr kb] w fun e w' => ∃ P' v, e = .returned v ∧ Told w w' P' 3 1 v s.waiting.length (ints s.waiting) ∧ rep w' kb P' s ∧ Upd P P' w w'

theorem Upd.below {P P' : Nat → Prop} {w w' : World} {B : Nat} (h : Upd P P' w w') (hP : ∀ b, P b → B ≤ b) (hB : B ≤ w.heap.size) : Below B w w' :=
  ⟨h.os, h.tape, h.output, h.size, fun k hk => h.block k (by omega) (fun hp => by have := hP k hp; omega)⟩
/-- The blocks lie at or above B still. -/
theorem Upd.above {P P' : Nat → Prop} {w w' : World} {B : Nat} (h : Upd P P' w w') (hP : ∀ b, P b → B ≤ b) (hB : B ≤ w.heap.size) : ∀ b, P' b → B ≤ b := fun b hb => by
  rcases Nat.lt_or_ge b w.heap.size with hl | hl
  · exact hP b (h.old b hl hb)
  · omega
/-- A block that was there and was none of the Kernel's is none still. -/
theorem Upd.still {P P' : Nat → Prop} {w w' : World} (h : Upd P P' w w') {b : Nat} (hb : b < w.heap.size) (hn : ¬ P b) : ¬ P' b := fun hp => hn (h.old b hb hp)
section
variable {rep : World → Nat → (Nat → Prop) → DS → Prop} (K : Face rep)
include K
/-- New memory, or changes in memory that is none of the Kernel's, are nothing to it. -/
theorem Face.below {w w' : World} {kb : Nat} {P : Nat → Prop} {s : DS} (h : rep w kb P s) (hb : Below w.heap.size w w') : rep w' kb P s :=
  K.frame h hb.size fun b hp => hb.block b (K.lt h b hp)
theorem Face.setCell {w : World} {kb : Nat} {P : Nat → Prop} {s : DS} (h : rep w kb P s) {a : Addr} (ha : ¬ P a.block) (v : Value) : rep (w.setCell a v) kb P s :=
  K.frame h (by simp) fun b hp => Below.heap_setCell _ _ _ _ (fun e => ha (e ▸ hp))
theorem Face.alloc {w : World} {kb : Nat} {P : Nat → Prop} {s : DS} (h : rep w kb P s) (o : Obj) : rep (w.alloc o) kb P s :=
  K.below h ((Below.refl _ _).alloc (Nat.le_refl _) _)
end
end Go.Proofs.YtaicdjhblbobbaaGreat

/- Over any program that answers as the model: the small functions of package holdskeep. -/
namespace Go.Proofs.YtaicdjhblbobbaaGreat
open Go.RowKit

/-- In the world w, that came of w0, there is a Kernel at kb whose memory is younger than w0. -/
structure KW (rep : World → Nat → (Nat → Prop) → DS → Prop) (w0 w : World) (kb : Nat) (P : Nat → Prop) (s : DS) : Prop where
  r : rep w kb P s
  b : Below w0.heap.size w0 w
  p : ∀ b, P b → w0.heap.size ≤ b
theorem Told.slice {w w' : World} {P : Nat → Prop} {t : TypeId} {sz : Nat} {v : Value} {n : Nat} {xs : List Value} (h : Told w w' P t sz v n xs) : ∃ a cp, v = .slice a n cp := by
  rcases h.own.2 with ⟨hv, h0⟩ | ⟨g, cap, cur, hv, _⟩
  · exact ⟨none, 0, by rw [h0]; exact hv⟩
  · exact ⟨_, _, hv⟩
section
variable {rep : World → Nat → (Nat → Prop) → DS → Prop} (K : Face rep) {w0 w : World} {kb : Nat} {P : Nat → Prop} {s : DS}
include K
theorem KW.upd {w' : World} {P' : Nat → Prop} {s' : DS} (h : KW rep w0 w kb P s) (hr : rep w' kb P' s') (hu : Upd P P' w w') : KW rep w0 w' kb P' s' := by
  have _ := K
  exact ⟨hr, h.b.trans (hu.below h.p h.b.size), hu.above h.p h.b.size⟩
theorem KW.below {w' : World} (h : KW rep w0 w kb P s) (hb : Below w.heap.size w w') : KW rep w0 w' kb P s := ⟨K.below h.r hb, h.b.trans (hb.mono h.b.size), h.p⟩
theorem KW.alloc (h : KW rep w0 w kb P s) (o : Obj) : KW rep w0 (w.alloc o) kb P s := h.below K ((Below.refl _ _).alloc (Nat.le_refl _) _)
theorem KW.set (h : KW rep w0 w kb P s) {a : Addr} (ha : ¬ P a.block) (hb : w0.heap.size ≤ a.block) (v : Value) : KW rep w0 (w.setCell a v) kb P s :=
  ⟨K.setCell h.r ha v, h.b.setCell hb _, h.p⟩
theorem KW.drew (h : KW rep w0 w kb P s) (n : Nat) : KW rep w0 (w.drewN n) kb P s := ⟨K.frame h.r (Nat.le_refl _) (fun _ _ => rfl), below_drewN h.b n, h.p⟩
/-- A call, by the script so far. -/
theorem KW.call {c : List Cl} (h : KW rep w0 w kb P (stC c)) (x : Cl) (hx : x.rng) {r : Rp} (hr : rpC c x = r) :
    Calls Tryz.prog x.fn (x.args kb) w fun e w' => ∃ P' a cp, e = .returned (rpV r (.slice a r.d.length cp)) ∧ Told w w' P' 57 2 (.slice a r.d.length cp) r.d.length (flatD r.d) ∧ KW rep w0 w' kb P' (stC (c ++ [x])) ∧ Upd P P' w w' := by
  subst hr
  refine (K.step x hx h.r).mono ?_
  rintro e w' ⟨P', v, rfl, ht, hr, hu⟩
  obtain ⟨a, cp, rfl⟩ := ht.slice
  exact ⟨P', a, cp, rfl, ht, by rw [stC_snoc]; exact h.upd K hr hu, hu⟩
/-- A call that is refused. -/
theorem KW.err {c : List Cl} (h : KW rep w0 w kb P (stC c)) (x : Cl) (hx : x.rng) {e0 : Int} (hr : rpC c x = rerr e0) (h0 : e0 ≠ 0) (h1 : e0 ≠ 11) :
    Calls Tryz.prog x.fn (x.args kb) w fun e w' => ∃ P' a cp, e = .returned (.agg #[.int .i64 e0, .int .i64 0, .slice a 0 cp]) ∧ KW rep w0 w' kb P' (stC c) ∧ Upd P P' w w' := by
  have hs := stC_err hr h0 h1
  refine (h.call K x hx hr).mono ?_
  rintro e w' ⟨P', a, cp, rfl, ht, hr, hu⟩
  rw [stC_snoc, hs] at hr
  exact ⟨P', a, cp, rfl, hr, hu⟩
/-- A call that tells a number, or Pending. -/
theorem KW.num {c : List Cl} (h : KW rep w0 w kb P (stC c)) (x : Cl) (hx : x.rng) {e0 n0 : Int} (hr : rpC c x = ⟨e0, n0, []⟩) :
    Calls Tryz.prog x.fn (x.args kb) w fun e w' => ∃ P' a cp, e = .returned (.agg #[.int .i64 e0, .int .i64 n0, .slice a 0 cp]) ∧ KW rep w0 w' kb P' (stC (c ++ [x])) ∧ Upd P P' w w' := by
  refine (h.call K x hx hr).mono ?_
  rintro e w' ⟨P', a, cp, rfl, ht, hr, hu⟩
  exact ⟨P', a, cp, rfl, hr, hu⟩

end
end Go.Proofs.YtaicdjhblbobbaaGreat

/- append onto a list of one's own: the list lies behind it where it lay, or in new memory. -/
namespace Go.Proofs.YtaicdjhblbobbaaGreat
open Go.RowKit

theorem append_run {P : Program} (w : World) (base : Nat) (t ty e : TypeId) (i : TypeInfo) (z : Value) (size bytes : Nat) (ht : P.underlying t = some (.slice e)) (hi : P.info? e = some i) (hz : i.zero = some z)
    (hsize : i.size = size) (hby : i.bytes = bytes) (hzs : z.cells.size = size) (hsz : 0 < size)
    (v : Value) (n : Nat) (xs : List Value) (hown : w.ownsRow base e size v n xs)
    (a : Addr) (m c : Nat) (news : List Value) (hl : news.length = m * size) (hnews : ∀ j u, news[j]? = some u → w.cell? (a.add j) = some u) (h1 : ∀ u ∈ news, u.oneCell' = true)
    (h63 : n + m ≤ maxLen) (hbytes : (n + m) * bytes ≤ 140737488355328) (hbase : base ≤ w.heap.size) :
    ∃ v' w', (Builtin.append_ #[t, t] ty #[v, .slice (some a) m c]).run P w = .ok v' w' ∧ w'.ownsRow base e size v' (n + m) (xs ++ news) ∧ w.grownBy w' v.ownBlock ∧ ∀ b, v'.ownBlock = some b → v.ownBlock = some b ∨ w.heap.size ≤ b := by
  obtain ⟨v', w', hr, h2, h3, h4⟩ := run_append_own (P := P) w base t ty e i z size bytes ht hi hz hsize hby hzs hsz v n xs hown a m c news hl hnews h1 h63 hbytes hbase
  refine ⟨v', w', hr, h2, h3, ?_⟩
  rcases hown.2 with ⟨rfl, rfl⟩ | ⟨g, cap, cur, rfl, hbg, hg, hnc, hcm, hcs, htake⟩
  · intro b hb
    right
    have hx : xs = [] := List.eq_nil_of_length_eq_zero (by simpa using hown.1)
    subst hx
    obtain ⟨v2, w2, hr2, k2, _⟩ := run_append_own (P := P) w w.heap.size t ty e i z size bytes ht hi hz hsize hby hzs hsz _ 0 [] (World.ownsRow_nil _ _ _ _) a m c news hl hnews h1 h63 hbytes (Nat.le_refl _)
    rw [hr2] at hr
    cases hr
    exact (k2.lt b hb).1
  · subst hsize
    subst hby
    by_cases hroom : n + m ≤ cap
    · have hfit : n * i.size + news.length ≤ cur.size := by rw [hl, hcs, ← Nat.add_mul]; exact Nat.mul_le_mul_right _ hroom
      have hr2 := run_append_room (P := P) w t ty e i ht hi g n cap cur hg a m c news hl hnews h1 hroom hfit
      rw [hr2] at hr
      cases hr
      exact fun b hb => Or.inl hb
    · have hsmall : n + m ≤ 9223372036854775807 := by simp only [maxLen] at h63; omega
      have hr2 := run_append_grow (P := P) w t ty e i z ht hi hz ⟨g, 0, none⟩ n cap xs hown.1 (hown.cells (g := g) rfl) a m c news hl hnews (by omega) (by omega) (growslice_fits (by omega) hbytes)
      rw [hr2] at hr
      cases hr
      intro b hb
      cases hb
      exact Or.inr (Nat.le_refl _)
end Go.Proofs.YtaicdjhblbobbaaGreat

/- Rows of marks: a list that its owner wrote full, and the longer ones that were made of it. -/
namespace Go.Proofs.YtaicdjhblbobbaaGreat
open Go.RowKit

theorem take_len {cur : Array Value} {m : Nat} (h : m ≤ cur.size) : (cur.toList.take m).length = m := by
  rw [List.length_take]
  exact Nat.min_eq_left (by simpa using h)
/-- A row of k elements; the first i of them are the mark cs. -/
def Mk (w : World) (t : TypeId) (cs : List Value) (v : Value) (k i : Nat) : Prop :=
  (v = .slice none 0 0 ∧ k = 0) ∨
  ∃ g cap cur, v = .slice (some ⟨g, 0, none⟩) k cap ∧ w.heap[g]? = some (.cells cur t (0, 0)) ∧ k ≤ cap ∧ cap ≤ maxLen ∧ cur.size = cap * cs.length ∧ ∀ j, j < i * cs.length → cur[j]? = cs[j % cs.length]?
theorem Mk.of_own {w : World} {base : Nat} {t : TypeId} {cs : List Value} {v : Value} {n : Nat} {xs : List Value} (h : w.ownsRow base t cs.length v n xs) : Mk w t cs v n 0 := by
  rcases h.2 with ⟨h1, h2⟩ | ⟨g, cap, cur, h1, _, h3, h4, h5, h6, _⟩
  · exact Or.inl ⟨h1, h2⟩
  · exact Or.inr ⟨g, cap, cur, h1, h3, h4, h5, h6, fun j hj => by omega⟩
theorem Mk.own {w : World} {t : TypeId} {cs : List Value} {v : Value} {k i : Nat} (h : Mk w t cs v k i) : ∃ xs, w.ownsRow 0 t cs.length v k xs := by
  rcases h with ⟨rfl, rfl⟩ | ⟨g, cap, cur, rfl, h3, h4, h5, h6, _⟩
  · exact ⟨[], World.ownsRow_nil _ _ _ _⟩
  · refine ⟨cur.toList.take (k * cs.length), ?_, Or.inr ⟨g, cap, cur, rfl, Nat.zero_le _, h3, h4, h5, h6, rfl⟩⟩
    exact take_len (by rw [h6]; exact Nat.mul_le_mul_right _ h4)
theorem Mk.blk {w w' : World} {t : TypeId} {cs : List Value} {v : Value} {k i : Nat} (h : Mk w t cs v k i) (hb : ∀ b, v.ownBlock = some b → w'.heap[b]? = w.heap[b]?) : Mk w' t cs v k i := by
  rcases h with h | ⟨g, cap, cur, rfl, h3, h4, h5, h6, h7⟩
  · exact Or.inl h
  · exact Or.inr ⟨g, cap, cur, rfl, (hb g rfl).trans h3, h4, h5, h6, h7⟩
theorem Mk.lt {w : World} {t : TypeId} {cs : List Value} {v : Value} {k i : Nat} (h : Mk w t cs v k i) {b : Nat} (hb : v.ownBlock = some b) : b < w.heap.size := by
  rcases h with ⟨rfl, _⟩ | ⟨g, cap, cur, rfl, h3, _⟩
  · cases hb
  · cases hb; exact (Array.getElem?_eq_some_iff.1 h3).1
theorem Mk.tag {w : World} {t : TypeId} {cs : List Value} {v : Value} {k i : Nat} (h : Mk w t cs v k i) {b : Nat} (hb : v.ownBlock = some b) : ∃ cur, w.heap[b]? = some (.cells cur t (0, 0)) := by
  rcases h with ⟨rfl, _⟩ | ⟨g, cap, cur, rfl, h3, _⟩
  · cases hb
  · cases hb; exact ⟨cur, h3⟩
/-- The row's form, where it has an element. -/
theorem Mk.elem {w : World} {t : TypeId} {cs : List Value} {v : Value} {k i : Nat} (h : Mk w t cs v k i) (hk : 0 < k) : ∃ g cap, v = .slice (some ⟨g, 0, none⟩) k cap ∧ g < w.heap.size ∧ k ≤ cap ∧ (∀ j, j < i * cs.length → w.cell? ⟨g, j, none⟩ = cs[j % cs.length]?) ∧ (∀ j, j < k * cs.length → (w.cell? ⟨g, j, none⟩).isSome = true) ∧ ∀ j, w.frozen? ⟨g, j, none⟩ = false := by
  rcases h with ⟨_, h2⟩ | ⟨g, cap, cur, rfl, h3, h4, h5, h6, h7⟩
  · omega
  · refine ⟨g, cap, rfl, (Array.getElem?_eq_some_iff.1 h3).1, h4, fun j hj => ?_, fun j hj => ?_, fun j => by simp [World.frozen?, h3]⟩
    · simp only [World.cell?, h3]; exact h7 j hj
    · simp only [World.cell?, h3]
      have : j < cur.size := by rw [h6]; exact Nat.lt_of_lt_of_le hj (Nat.mul_le_mul_right _ h4)
      simp [this]
theorem Mk.form {w : World} {t : TypeId} {cs : List Value} {v : Value} {k i : Nat} (h : Mk w t cs v k i) : ∃ a c, v = .slice a k c := by
  rcases h with ⟨rfl, rfl⟩ | ⟨g, cap, cur, rfl, _⟩
  · exact ⟨_, _, rfl⟩
  · exact ⟨_, _, rfl⟩
def marks (cs : List Value) (m : Nat) : List Value := (List.range (m * cs.length)).map fun j => cs[j % cs.length]?.getD undef
theorem marks_len (cs : List Value) (m : Nat) : (marks cs m).length = m * cs.length := by simp [marks]
theorem marks_get {cs : List Value} {m j : Nat} (hc : 0 < cs.length) (hj : j < m * cs.length) : (marks cs m)[j]? = cs[j % cs.length]? := by
  have : j % cs.length < cs.length := Nat.mod_lt _ hc
  simp [marks, hj, this]
theorem marks_mem {cs : List Value} {m : Nat} (hc : 0 < cs.length) {u : Value} (h : u ∈ marks cs m) : u ∈ cs := by
  obtain ⟨j, hj⟩ := List.getElem?_of_mem h
  have hl : j < m * cs.length := by rw [← marks_len cs m]; exact (List.getElem?_eq_some_iff.1 hj).1
  rw [marks_get hc hl] at hj
  exact List.mem_of_getElem? hj
/-- More marks: the row itself, the longer one, and all others that share the block read as before. -/
theorem mk_append {P : Program} (w : World) {t ty e : TypeId} {i : TypeInfo} {z : Value} {bytes : Nat} {cs : List Value} (ht : P.underlying t = some (.slice e)) (hi : P.info? e = some i) (hz : i.zero = some z)
    (hsize : i.size = cs.length) (hby : i.bytes = bytes) (hzs : z.cells.size = cs.length) (hc0 : 0 < cs.length) (h1 : ∀ u ∈ cs, u.oneCell' = true)
    {v : Value} {n : Nat} (hown : Mk w e cs v n n) (a : Addr) {m c : Nat} (hm : 0 < m) (hnews : ∀ j, j < m * cs.length → w.cell? (a.add j) = cs[j % cs.length]?)
    (h63 : n + m ≤ maxLen) (hbytes : (n + m) * bytes ≤ 140737488355328) :
    ∃ v' w', (Builtin.append_ #[t, t] ty #[v, .slice (some a) m c]).run P w = .ok v' w' ∧ Mk w' e cs v' (n + m) (n + m) ∧ (∀ u k j, Mk w e cs u k j → Mk w' e cs u k j) ∧ w.grownBy w' v.ownBlock ∧ ∀ b, v'.ownBlock = some b → v.ownBlock = some b ∨ w.heap.size ≤ b := by
  have hnews' : ∀ j u, (marks cs m)[j]? = some u → w.cell? (a.add j) = some u := fun j u hj => by
    have hl : j < m * cs.length := by rw [← marks_len cs m]; exact (List.getElem?_eq_some_iff.1 hj).1
    rw [hnews j hl, ← hj, marks_get hc0 hl]
  have h1' : ∀ u ∈ marks cs m, u.oneCell' = true := fun u hu => h1 u (marks_mem hc0 hu)
  rcases hown with ⟨rfl, rfl⟩ | ⟨g, cap, cur, rfl, hg, hnc, hcm, hcs, htake⟩
  · obtain ⟨v', w', hr, h2, h3, _⟩ := run_append_own (P := P) w w.heap.size t ty e i z cs.length bytes ht hi hz hsize hby hzs hc0 (.slice none 0 0) 0 [] (World.ownsRow_nil _ _ _ _) a m c (marks cs m) (marks_len cs m) hnews' h1' h63 hbytes (Nat.le_refl _)
    refine ⟨v', w', hr, ?_, fun u k j hu => hu.blk fun b hb => h3.block b (hu.lt hb) (by simp [Value.ownBlock]), h3, fun b hb => Or.inr (h2.lt b hb).1⟩
    rcases h2.2 with ⟨_, h⟩ | ⟨g, cap, cur, k1, _, k3, k4, k5, k6, k7⟩
    · omega
    · refine Or.inr ⟨g, cap, cur, k1, k3, k4, k5, k6, fun j hj => ?_⟩
      rw [Nat.zero_add] at hj k7
      rw [List.nil_append] at k7
      rw [← marks_get hc0 hj, ← k7, List.getElem?_take_of_lt hj]
      simp
  · by_cases hroom : n + m ≤ cap
    · have hfit : n * i.size + (marks cs m).length ≤ cur.size := by rw [marks_len, hcs, hsize, ← Nat.add_mul]; exact Nat.mul_le_mul_right _ hroom
      have hr := run_append_room (P := P) w t ty e i ht hi g n cap cur hg a m c (marks cs m) (by rw [marks_len, hsize]) hnews' h1' hroom hfit
      have hsz : ∀ X : Array Value, X = (cur.toList.take (n * i.size) ++ marks cs m ++ cur.toList.drop (n * i.size + (marks cs m).length)).toArray → X.size = cur.size ∧ ∀ j, X[j]? = if n * cs.length ≤ j ∧ j < (n + m) * cs.length then cs[j % cs.length]? else cur[j]? := fun X hX => by
        rw [hsize, marks_len] at hfit hX
        subst hX
        have ht : (cur.toList.take (n * cs.length)).length = n * cs.length := take_len (by omega)
        refine ⟨?_, fun j => ?_⟩
        · simp only [List.size_toArray, List.length_append, ht, marks_len, List.length_drop, Array.length_toList]
          omega
        · rw [List.getElem?_toArray, List.append_assoc, List.getElem?_append, ht]
          split
          · rename_i hj
            rw [if_neg (by omega), List.getElem?_take_of_lt hj]
            simp
          · rename_i hj
            rw [List.getElem?_append, marks_len]
            have e1 : (n + m) * cs.length = n * cs.length + m * cs.length := Nat.add_mul _ _ _
            split
            · rename_i hj2
              rw [if_pos ⟨by omega, by omega⟩, marks_get hc0 hj2]
              have : j % cs.length = (j - n * cs.length) % cs.length := by
                conv => lhs; rw [show j = (j - n * cs.length) + n * cs.length by omega]
                exact Nat.add_mul_mod_self_right _ _ _
              rw [this]
            · rename_i hj2
              rw [if_neg (by omega), List.getElem?_drop]
              rw [show n * cs.length + m * cs.length + (j - n * cs.length - m * cs.length) = j by omega]
              simp
      generalize hX : (cur.toList.take (n * i.size) ++ marks cs m ++ cur.toList.drop (n * i.size + (marks cs m).length)).toArray = X at hr
      obtain ⟨x1, x2⟩ := hsz X hX.symm
      have hgl : g < w.heap.size := (Array.getElem?_eq_some_iff.1 hg).1
      have hnew : (w.setRow g X).heap[g]? = some (.cells X e (0, 0)) := by
        simp [World.setRow, Array.getElem?_modify, hg]
      have hold : ∀ b, b ≠ g → (w.setRow g X).heap[b]? = w.heap[b]? := fun b hb => by
        simp only [World.setRow, Array.getElem?_modify]
        rw [if_neg (fun e => hb e.symm)]
      refine ⟨_, _, hr, Or.inr ⟨g, cap, X, rfl, hnew, hroom, hcm, x1.trans hcs, fun j hj => ?_⟩, fun u k j hu => ?_, ⟨rfl, rfl, rfl, by simp [World.setRow], fun b _ hb => hold b (fun e => hb (by simp [Value.ownBlock, e]))⟩, fun b hb => Or.inl hb⟩
      · rw [x2]
        split
        · rfl
        · rename_i hn
          exact htake j (by omega)
      · rcases hu with hu | ⟨g2, cap2, cur2, rfl, k3, k4, k5, k6, k7⟩
        · exact Or.inl hu
        · by_cases hgg : g2 = g
          · subst hgg
            rw [hg] at k3
            cases k3
            refine Or.inr ⟨_, cap2, X, rfl, hnew, k4, k5, x1.trans k6, fun q hq => ?_⟩
            rw [x2]
            split
            · rfl
            · exact k7 q hq
          · exact Or.inr ⟨_, cap2, cur2, rfl, (hold _ hgg).trans k3, k4, k5, k6, k7⟩
    · have hsmall : n + m ≤ 9223372036854775807 := by simp only [maxLen] at h63; omega
      subst hby
      have hxs : (cur.toList.take (n * cs.length)).length = n * cs.length := take_len (by rw [hcs]; exact Nat.mul_le_mul_right _ hnc)
      have hr0 : w.ownsRow 0 e cs.length (.slice (some ⟨g, 0, none⟩) n cap) n (cur.toList.take (n * cs.length)) := ⟨hxs, Or.inr ⟨g, cap, cur, rfl, Nat.zero_le _, hg, hnc, hcm, hcs, rfl⟩⟩
      obtain ⟨v', w', hr, h2, h3, _⟩ := run_append_own (P := P) w 0 t ty e i z cs.length i.bytes ht hi hz hsize rfl hzs hc0 _ n _ hr0 a m c (marks cs m) (marks_len cs m) hnews' h1' h63 hbytes (Nat.zero_le _)
      have hr2 := run_append_grow (P := P) (ty := ty) w t e i z ht hi hz ⟨g, 0, none⟩ n cap (cur.toList.take (n * cs.length)) (by rw [hxs, hsize]) (hr0.cells (g := g) rfl) a m c (marks cs m) (by rw [marks_len, hsize]) hnews' (by omega) (by omega) (growslice_fits (by omega) hbytes)
      rw [hr2] at hr
      cases hr
      have hblk : ∀ b, b < w.heap.size → (w.drew.alloc (.cells ((cur.toList.take (n * cs.length)).toArray ++ (marks cs m).toArray ++ Builtin.zeroCells z.cells (grownCap w (n + m) cap e - (n + m))) e)).heap[b]? = w.heap[b]? := fun b hb => by first | exact heap_alloc_old w.drew _ hb | exact heap_alloc_old w.drew _ b hb
      refine ⟨_, _, hr2, ?_, fun u k j hu => hu.blk fun b hb => hblk b (hu.lt hb), h3, fun b hb => ?_⟩
      · rcases h2.2 with ⟨h, _⟩ | ⟨g2, cap2, cur2, k1, _, k3, k4, k5, k6, k7⟩
        · cases h
        · refine Or.inr ⟨g2, cap2, cur2, k1, k3, k4, k5, k6, fun j hj => ?_⟩
          have e1 : (n + m) * cs.length = n * cs.length + m * cs.length := Nat.add_mul _ _ _
          have : cur2[j]? = (cur2.toList.take ((n + m) * cs.length))[j]? := by rw [List.getElem?_take_of_lt hj]; simp
          rw [this, k7, List.getElem?_append, hxs]
          split
          · rename_i hj2
            rw [List.getElem?_take_of_lt hj2]
            rw [← htake j hj2]; simp
          · rename_i hj2
            rw [marks_get hc0 (by omega)]
            have : j % cs.length = (j - n * cs.length) % cs.length := by
              conv => lhs; rw [show j = (j - n * cs.length) + n * cs.length by omega]
              exact Nat.add_mul_mod_self_right _ _ _
            rw [this]
      · cases hb
        exact Or.inr (Nat.le_refl _)
end Go.Proofs.YtaicdjhblbobbaaGreat
