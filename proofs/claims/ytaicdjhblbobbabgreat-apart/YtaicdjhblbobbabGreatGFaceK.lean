/- What the statements need of the program: a Kernel at a block, the blocks that are its own, its state in the model; each call answers as the model. -/
import Derived.Test.YtaicdjhblbobbabGreatGFaceD
import Derived.Test.YtaicdjhblbobbabGreatGScene
namespace Go.Proofs.YtaicdjhblbobbabGreat
open Go.RowKit

def Cl.fn : Cl → Nat
  | .fork .. => 18
  | .kill .. => 26
  | .opn .. => 9
  | .dup .. => 27
  | .close .. => 28
  | .lock .. => 7
  | .test .. => 0
  | .whole .. => 10
def Cl.args (kb : Nat) : Cl → Array Value
  | .fork p => #[kptr kb, .int .i64 p]
  | .kill p => #[kptr kb, .int .i64 p]
  | .opn p f => #[kptr kb, .int .i64 p, .int .i64 f]
  | .dup p d => #[kptr kb, .int .i64 p, .int .i64 d]
  | .close p d => #[kptr kb, .int .i64 p, .int .i64 d]
  | .lock p d k f l w => #[kptr kb, .int .i64 p, .int .i64 d, .int .i64 k, .int .i64 f, .int .i64 l, .bool w]
  | .test p d k f l => #[kptr kb, .int .i64 p, .int .i64 d, .int .i64 k, .int .i64 f, .int .i64 l]
  | .whole p d k w => #[kptr kb, .int .i64 p, .int .i64 d, .int .i64 k, .bool w]
def Cl.rng : Cl → Prop
  | .fork p => i64 p
  | .kill p => i64 p
  | .opn p f => i64 p ∧ i64 f
  | .dup p d => i64 p ∧ i64 d
  | .close p d => i64 p ∧ i64 d
  | .lock p d k f l _ => i64 p ∧ i64 d ∧ i64 k ∧ i64 f ∧ i64 l
  | .test .. => False
  | .whole p d k _ => i64 p ∧ i64 d ∧ i64 k

structure Face (rep : World → Nat → (Nat → Prop) → DS → Prop) : Prop where
  frame : ∀ {w w' : World} {kb : Nat} {P : Nat → Prop} {s : DS}, rep w kb P s → w.heap.size ≤ w'.heap.size → (∀ b, P b → w'.heap[b]? = w.heap[b]?) → rep w' kb P s
  lt : ∀ {w : World} {kb : Nat} {P : Nat → Prop} {s : DS}, rep w kb P s → ∀ b, P b → b < w.heap.size
  inv : ∀ {w : World} {kb : Nat} {P : Nat → Prop} {s : DS}, rep w kb P s → s.Inv
  new : ∀ w, Calls Tryz.prog 17 #[] w fun e w' => ∃ kb P, e = .returned (kptr kb) ∧ rep w' kb P DS.new ∧ Upd (fun _ => False) P w w'
  step : ∀ {w : World} {kb : Nat} {P : Nat → Prop} {s : DS} (c : Cl), c.rng → rep w kb P s →
    Calls Tryz.prog c.fn (c.args kb) w fun e w' => ∃ P' v, e = .returned (rpV (s.step c).2 v) ∧ Told w w' P' 78 2 v (s.step c).2.d.length (flatD (s.step c).2.d) ∧ rep w' kb P' (s.step c).1 ∧ Upd P P' w w'
  runs : ∀ {w : World} {kb : Nat} {P : Nat → Prop} {s : DS} (f : Int), i64 f → rep w kb P s →
    Calls Tryz.prog 12 #[kptr kb, .int .i64 f] w fun e w' => ∃ P' v, e = .returned v ∧ Told w w' P' 45 4 v (s.runs f).length (flatR (s.runs f)) ∧ rep w' kb P' s ∧ Upd P P' w w'
  holds : ∀ {w : World} {kb : Nat} {P : Nat → Prop} {s : DS} (f : Int), i64 f → rep w kb P s →
    Calls Tryz.prog 14 #[kptr kb, .int .i64 f] w fun e w' => ∃ P' v vs, e = .returned v ∧ vs.length = (s.holds f).length ∧ Told w w' P' 43 2 v (s.holds f).length (flatH (s.holds f) vs) ∧
      (∀ (i : Nat) h u, (s.holds f)[i]? = some h → vs[i]? = some u → Told w w' P' 3 1 u h.ps.length (ints h.ps)) ∧
      (v :: vs).Pairwise (fun x y => ∀ b, x.ownBlock = some b → y.ownBlock ≠ some b) ∧ rep w' kb P' s ∧ Upd P P' w w'
  waiting : ∀ {w : World} {kb : Nat} {P : Nat → Prop} {s : DS}, rep w kb P s →
    Calls Tryz.prog 13 #[kptr kb] w fun e w' => ∃ P' v, e = .returned v ∧ Told w w' P' 3 1 v s.waiting.length (ints s.waiting) ∧ rep w' kb P' s ∧ Upd P P' w w'

theorem Upd.below {P P' : Nat → Prop} {w w' : World} {B : Nat} (h : Upd P P' w w') (hP : ∀ b, P b → B ≤ b) (hB : B ≤ w.heap.size) : Below B w w' :=
  ⟨h.os, h.tape, h.output, h.size, fun k hk => h.block k (by omega) (fun hp => by have := hP k hp; omega)⟩
/-- The blocks lie at or above B still. -/
theorem Upd.above {P P' : Nat → Prop} {w w' : World} {B : Nat} (h : Upd P P' w w') (hP : ∀ b, P b → B ≤ b) (hB : B ≤ w.heap.size) : ∀ b, P' b → B ≤ b := fun b hb => by
  rcases Nat.lt_or_ge b w.heap.size with hl | hl
  · exact hP b (h.old b hl hb)
  · omega
/-- A block that was there and was none of the Kernel's is none still. -/
theorem Upd.still {P P' : Nat → Prop} {w w' : World} (h : Upd P P' w w') {b : Nat} (hb : b < w.heap.size) (hn : ¬ P b) : ¬ P' b := fun hp => hn (h.old b hb hp)
section
variable {rep : World → Nat → (Nat → Prop) → DS → Prop} (K : Face rep)
include K
/-- New memory, or changes in memory that is none of the Kernel's, are nothing to it. -/
theorem Face.below {w w' : World} {kb : Nat} {P : Nat → Prop} {s : DS} (h : rep w kb P s) (hb : Below w.heap.size w w') : rep w' kb P s :=
  K.frame h hb.size fun b hp => hb.block b (K.lt h b hp)
theorem Face.setCell {w : World} {kb : Nat} {P : Nat → Prop} {s : DS} (h : rep w kb P s) {a : Addr} (ha : ¬ P a.block) (v : Value) : rep (w.setCell a v) kb P s :=
  K.frame h (by simp) fun b hp => Below.heap_setCell _ _ _ _ (fun e => ha (e ▸ hp))
theorem Face.alloc {w : World} {kb : Nat} {P : Nat → Prop} {s : DS} (h : rep w kb P s) (o : Obj) : rep (w.alloc o) kb P s :=
  K.below h ((Below.refl _ _).alloc (Nat.le_refl _) _)
end
end Go.Proofs.YtaicdjhblbobbabGreat

/- Over any program that answers as the model: the small functions of package holdskeep. -/
namespace Go.Proofs.YtaicdjhblbobbabGreat
open Go.RowKit

theorem tmod_bdF (c n : Int) (h : 0 ≤ c) (hn : 0 < n) : 0 ≤ c.tmod n ∧ c.tmod n < n := by
  rw [Int.tmod_eq_emod_of_nonneg h]
  exact ⟨Int.emod_nonneg _ (by omega), Int.emod_lt_of_pos _ hn⟩
/-- Which of n things a raw number speaks of. -/
def pickI (c n : Int) : Int := (if c < 0 then -(c + 1) else c).tmod n
theorem pickI_bd (c n : Int) (hn : 0 < n) : 0 ≤ pickI c n ∧ pickI c n < n := by
  unfold pickI
  split
  · exact tmod_bdF _ _ (by omega) hn
  · exact tmod_bdF _ _ (by omega) hn
set_option maxHeartbeats 1000000 in
theorem pick_eq (c n : Int) (w : World) (hc0 : i64 c) (hn : 0 < n) (hn1 : n ≤ 1099511627776) :
    Calls Tryz.prog 5 #[.int .i64 c, .int .i64 n] w fun e w' => e = .returned (.int .i64 (pickI c n)) ∧ w' = w := by
  obtain ⟨h0, h1⟩ := hc0
  by_cases hc : c < 0
  · go_enter Tryz.func5, Tryz.ntmps5
    go_wp2
    go_ret
    refine ⟨?_, rfl⟩
    unfold pickI
    rw [if_pos hc]
    simp
  · have hc' : 0 ≤ c := by omega
    go_enter Tryz.func5, Tryz.ntmps5
    go_wp2
    go_ret
    refine ⟨?_, rfl⟩
    unfold pickI
    rw [if_neg (by omega), Int.tmod_eq_emod_of_nonneg hc']
    rfl

set_option maxHeartbeats 1000000 in
theorem okF (E N n : Int) (a : Option Addr) (m cp : Nat) (w : World) :
    Calls Tryz.prog 6 #[.agg #[.int .i64 E, .int .i64 N, .slice a m cp], .int .i64 n] w fun e w' => e = .returned (.bool (decide (E = 0) && decide (N = n) && decide (m = 0))) ∧ Below w.heap.size w w' := by
  by_cases h1 : E = 0
  · subst h1
    by_cases h2 : N = n
    · subst h2
      by_cases h3 : m = 0
      · subst h3
        go_enter Tryz.func6, Tryz.ntmps6
        go_wp2
        go_ret
        exact ⟨by simp, (Below.refl _ _).alloc (Nat.le_refl _) _⟩
      · have h3' : ((m : Int) == 0) = false := by simp; omega
        go_enter Tryz.func6, Tryz.ntmps6
        go_wp2
        go_ret
        exact ⟨ret_bool (by simp [h3]), (Below.refl _ _).alloc (Nat.le_refl _) _⟩
    · have h2' : (N == n) = false := by simpa using h2
      go_enter Tryz.func6, Tryz.ntmps6
      go_wp2
      go_ret
      exact ⟨ret_bool (by simp [h2]), (Below.refl _ _).alloc (Nat.le_refl _) _⟩
  · have h1' : (E == 0) = false := by simpa using h1
    go_enter Tryz.func6, Tryz.ntmps6
    go_wp2
    go_ret
    exact ⟨ret_bool (by simp [h1]), (Below.refl _ _).alloc (Nat.le_refl _) _⟩
set_option maxHeartbeats 1000000 in
theorem isF (E N n : Int) (a : Option Addr) (m cp : Nat) (w : World) :
    Calls Tryz.prog 8 #[.agg #[.int .i64 E, .int .i64 N, .slice a m cp], .int .i64 n] w fun e w' => e = .returned (.bool (decide (E = n) && decide (N = 0) && decide (m = 0))) ∧ Below w.heap.size w w' := by
  by_cases h1 : E = n
  · subst h1
    by_cases h2 : N = 0
    · subst h2
      by_cases h3 : m = 0
      · subst h3
        go_enter Tryz.func8, Tryz.ntmps8
        go_wp2
        go_ret
        exact ⟨ret_bool (by simp), (Below.refl _ _).alloc (Nat.le_refl _) _⟩
      · have h3' : ((m : Int) == 0) = false := by simp; omega
        go_enter Tryz.func8, Tryz.ntmps8
        go_wp2
        go_ret
        exact ⟨ret_bool (by simp [h3]), (Below.refl _ _).alloc (Nat.le_refl _) _⟩
    · have h2' : (N == 0) = false := by simpa using h2
      go_enter Tryz.func8, Tryz.ntmps8
      go_wp2
      go_ret
      exact ⟨ret_bool (by simp [h2]), (Below.refl _ _).alloc (Nat.le_refl _) _⟩
  · have h1' : (E == n) = false := by simpa using h1
    go_enter Tryz.func8, Tryz.ntmps8
    go_wp2
    go_ret
    exact ⟨ret_bool (by simp [h1]), (Below.refl _ _).alloc (Nat.le_refl _) _⟩

/-- In the world w, that came of w0, there is a Kernel at kb whose memory is younger than w0. -/
structure KW (rep : World → Nat → (Nat → Prop) → DS → Prop) (w0 w : World) (kb : Nat) (P : Nat → Prop) (s : DS) : Prop where
  r : rep w kb P s
  b : Below w0.heap.size w0 w
  p : ∀ b, P b → w0.heap.size ≤ b
/-- The value of an empty list. -/
theorem Told.none' {w w' : World} {P : Nat → Prop} {t : TypeId} {sz : Nat} {v : Value} {xs : List Value} (h : Told w w' P t sz v 0 xs) : ∃ a cp, v = .slice a 0 cp := by
  rcases h.own.2 with ⟨hv, _⟩ | ⟨g, cap, cur, hv, _⟩
  · exact ⟨none, 0, hv⟩
  · exact ⟨_, _, hv⟩
theorem Told.slice {w w' : World} {P : Nat → Prop} {t : TypeId} {sz : Nat} {v : Value} {n : Nat} {xs : List Value} (h : Told w w' P t sz v n xs) : ∃ a cp, v = .slice a n cp := by
  rcases h.own.2 with ⟨hv, h0⟩ | ⟨g, cap, cur, hv, _⟩
  · exact ⟨none, 0, by rw [h0]; exact hv⟩
  · exact ⟨_, _, hv⟩
section
variable {rep : World → Nat → (Nat → Prop) → DS → Prop} (K : Face rep) {w0 w : World} {kb : Nat} {P : Nat → Prop} {s : DS}
include K
theorem KW.upd {w' : World} {P' : Nat → Prop} {s' : DS} (h : KW rep w0 w kb P s) (hr : rep w' kb P' s') (hu : Upd P P' w w') : KW rep w0 w' kb P' s' := by
  have _ := K
  exact ⟨hr, h.b.trans (hu.below h.p h.b.size), hu.above h.p h.b.size⟩
theorem KW.below {w' : World} (h : KW rep w0 w kb P s) (hb : Below w.heap.size w w') : KW rep w0 w' kb P s := ⟨K.below h.r hb, h.b.trans (hb.mono h.b.size), h.p⟩
theorem KW.alloc (h : KW rep w0 w kb P s) (o : Obj) : KW rep w0 (w.alloc o) kb P s := h.below K ((Below.refl _ _).alloc (Nat.le_refl _) _)
theorem KW.set (h : KW rep w0 w kb P s) {a : Addr} (ha : ¬ P a.block) (hb : w0.heap.size ≤ a.block) (v : Value) : KW rep w0 (w.setCell a v) kb P s :=
  ⟨K.setCell h.r ha v, h.b.setCell hb _, h.p⟩
theorem KW.drew (h : KW rep w0 w kb P s) (n : Nat) : KW rep w0 (w.drewN n) kb P s := ⟨K.frame h.r (Nat.le_refl _) (fun _ _ => rfl), below_drewN h.b n, h.p⟩
/-- A call, by the script so far. -/
theorem KW.call {c : List Cl} (h : KW rep w0 w kb P (stC c)) (x : Cl) (hx : x.rng) {r : Rp} (hr : rpC c x = r) :
    Calls Tryz.prog x.fn (x.args kb) w fun e w' => ∃ P' a cp, e = .returned (rpV r (.slice a r.d.length cp)) ∧ Told w w' P' 78 2 (.slice a r.d.length cp) r.d.length (flatD r.d) ∧ KW rep w0 w' kb P' (stC (c ++ [x])) ∧ Upd P P' w w' := by
  subst hr
  refine (K.step x hx h.r).mono ?_
  rintro e w' ⟨P', v, rfl, ht, hr, hu⟩
  obtain ⟨a, cp, rfl⟩ := ht.slice
  exact ⟨P', a, cp, rfl, ht, by rw [stC_snoc]; exact h.upd K hr hu, hu⟩
/-- A call that is refused. -/
theorem KW.err {c : List Cl} (h : KW rep w0 w kb P (stC c)) (x : Cl) (hx : x.rng) {e0 : Int} (hr : rpC c x = rerr e0) (h0 : e0 ≠ 0) (h1 : e0 ≠ 11) :
    Calls Tryz.prog x.fn (x.args kb) w fun e w' => ∃ P' a cp, e = .returned (.agg #[.int .i64 e0, .int .i64 0, .slice a 0 cp]) ∧ KW rep w0 w' kb P' (stC c) ∧ Upd P P' w w' := by
  have hs := stC_err hr h0 h1
  refine (h.call K x hx hr).mono ?_
  rintro e w' ⟨P', a, cp, rfl, ht, hr, hu⟩
  rw [stC_snoc, hs] at hr
  exact ⟨P', a, cp, rfl, hr, hu⟩
/-- A call that tells a number, or Pending. -/
theorem KW.num {c : List Cl} (h : KW rep w0 w kb P (stC c)) (x : Cl) (hx : x.rng) {e0 n0 : Int} (hr : rpC c x = ⟨e0, n0, []⟩) :
    Calls Tryz.prog x.fn (x.args kb) w fun e w' => ∃ P' a cp, e = .returned (.agg #[.int .i64 e0, .int .i64 n0, .slice a 0 cp]) ∧ KW rep w0 w' kb P' (stC (c ++ [x])) ∧ Upd P P' w w' := by
  refine (h.call K x hx hr).mono ?_
  rintro e w' ⟨P', a, cp, rfl, ht, hr, hu⟩
  exact ⟨P', a, cp, rfl, hr, hu⟩

set_option maxHeartbeats 4000000 in
set_option maxRecDepth 100000 in
theorem someF (n : Nat) (hn : 2 ≤ n) (hn6 : n ≤ 6) (w : World) :
    Calls Tryz.prog 4 #[.int .i64 n] w fun e w' => ∃ kb P, e = .returned (.tuple #[kptr kb, .bool true]) ∧ KW rep w w' kb P (stC (someC n)) := by
  have HN := Hid.mk (K.new w)
  go_enter Tryz.func4, Tryz.ntmps4
  go_wp2_with (go_at_call 17; refine HN.out.mono ?_; rintro e w1 ⟨kb, P, rfl, hk, hu⟩; have HK1 : Hid (KW rep w w1 kb P (stC (forkC 0))) := ⟨hk, hu.below (fun _ h => h.elim) (Nat.le_refl _), hu.above (fun _ h => h.elim) (Nat.le_refl _)⟩; clear hk hu; unfold kptr)
  go_loopw [5] (fun s5 wr => ∃ (i : Nat) (P : Nat → Prop), s5 = .int .i64 i ∧ 1 ≤ i ∧ i ≤ n ∧ Hid (KW rep w wr kb P (stC (forkC (i - 1))))) (fun s5 _ => n - (intOf s5).toNat)
  case atStart => exact ⟨1, P, rfl, by omega, by omega, HK1.out⟩
  case round =>
    clear HK1 HN
    obtain ⟨i, P, rfl, hi1, hin, HK⟩ := hrel
    by_cases hlt : i < n
    · have hF := HK.out.num K (.fork 0) (by simp [Cl.rng, i64]) (fork_reply ⟨i, by omega⟩ hi1)
      have HF := Hid.mk hF
      clear hF
      go_wp2_with (first
        | (go_at_call 18; refine HF.out.mono ?_; rintro e w2 ⟨P2, a, cp, rfl, hk2, hu2⟩; have HK2 := Hid.mk hk2; clear hk2 hu2)
        | (go_at_call 6; refine (okF _ _ _ _ _ _ _).mono ?_; simp only [decide_true, Bool.and_self]; rintro e w3 ⟨rfl, hb3⟩; have H3 := Hid.mk hb3; clear hb3))
      go_roundw
      case rel =>
        refine ⟨i + 1, P2, by go_num, by omega, by omega, ?_⟩
        have := HK2.out.below K H3.out
        rw [← forkC_succ] at this
        rw [show i + 1 - 1 = i - 1 + 1 by omega]
        exact this
      case measure => simp [intOf]; omega
    · obtain rfl : i = n := by omega
      go_wp2
      go_loopw [7] (fun s7 wq => ∃ (m : Nat) (P : Nat → Prop), s7 = .int .i64 m ∧ m ≤ i ∧ Hid (KW rep w wq kb P (stC (forkC (i - 1) ++ openC m)))) (fun s7 _ => i - (intOf s7).toNat)
      case atStart => exact ⟨0, P, rfl, Nat.zero_le _, Hid.mk (by simpa [openC] using HK.out)⟩
      case round =>
        clear HK P
        obtain ⟨m, P, rfl, hm, HK⟩ := hrel
        by_cases hlt : m < i
        · have hF := HK.out.num K (.opn m 0) (by simp [Cl.rng, i64]; omega) (open_reply ⟨i, by omega⟩ hn ⟨m, by omega⟩ hlt)
          have HF := Hid.mk hF
          clear hF
          go_wp2_with (first
            | (go_at_call 9; refine HF.out.mono ?_; rintro e w2 ⟨P2, a, cp, rfl, hk2, hu2⟩; have HK2 := Hid.mk hk2; clear hk2 hu2)
            | (go_at_call 6; refine (okF _ _ _ _ _ _ _).mono ?_; simp only [decide_true, Bool.and_self]; rintro e w3 ⟨rfl, hb3⟩; have H3 := Hid.mk hb3; clear hb3))
          go_roundw
          case rel =>
            refine ⟨m + 1, P2, by go_num, by omega, ?_⟩
            have := HK2.out.below K H3.out
            rw [List.append_assoc, ← openC_succ] at this
            exact this
          case measure => simp [intOf]; omega
        · obtain rfl : m = i := by omega
          go_wp2
          go_ret2
          exact ⟨kb, P, rfl, HK.out⟩
end
end Go.Proofs.YtaicdjhblbobbabGreat
