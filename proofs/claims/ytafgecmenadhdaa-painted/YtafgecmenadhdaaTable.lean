/- Contracts of the table of processes and descriptors: check, find, File, freeProc, give. -/
import Derived.Test.YtafgecmenadhdaaMaps
import Derived.Test.YtafgecmenadhdaaIns
import Derived.Maps.OwnOps
import Derived.Maps.OwnSet
import Derived.Maps.Own
namespace Go.Proofs.Ytafgecmenadhdaa
open Go.RowKit Go.Lib

theorem Hid.mk {p : Prop} (h : p) : Hid p := h

theorem wpList_lookup_run {P : Program} {w w' : World} {ops : Array Oper} {rest : List Oper} {o : Oper} {a : Act} {Q : Exit → Act → World → Prop} (hg : o.guard = none) (m x : Operand) (t : TypeId) (c : Bool) (hop : o.op = Op.lookup t m x c)
    (vm vx v' : Value) (hm : a.eval m = vm) (hx : a.eval x = vx) (hr : (Instr.lookup t vm vx c).run P w = .ok v' w') (h : wpList P ops Q rest (a.put o.dst v') w') : wpList P ops Q (o :: rest) a w := by
  refine wpList_plain hg fun K' hK' => ?_
  unfold Oper.wp
  simp only [execOp, hop, hm, hx, Sem.run_bind, hr, Result.andThen_ok, Sem.run_pure]
  exact hK' _ _ h
theorem step_lookup_run {P : Program} {ops : Array Oper} {o : Oper} {a : Act} {w w' : World} {K : Act → World → Prop} {Q : Exit → Act → World → Prop} {E : Prop} (hg : o.guard = none) (m x : Operand) (t : TypeId) (c : Bool) (hop : o.op = Op.lookup t m x c)
    (vm vx v' : Value) (hm : a.eval m = vm) (hx : a.eval x = vx) (hr : (Instr.lookup t vm vx c).run P w = .ok v' w') (hK : K (a.put o.dst v') w') : if Region.wanted o (yielded ops a.tmps) = true then Oper.wp P o a w K Q else E := by
  have hw : Region.wanted o (yielded ops a.tmps) = true := by simp [Region.wanted, hg]
  rw [if_pos hw]
  unfold Oper.wp
  simp only [execOp, hop, hm, hx, Sem.run_bind, hr, Result.andThen_ok, Sem.run_pure]
  exact hK
theorem wpList_update_run {P : Program} {w w' : World} {ops : Array Oper} {rest : List Oper} {o : Oper} {a : Act} {Q : Exit → Act → World → Prop} (hg : o.guard = none) (m x v : Operand) (t : TypeId) (hop : o.op = Op.mapUpdate t m x v)
    (vm vx vv : Value) (hm : a.eval m = vm) (hx : a.eval x = vx) (hv : a.eval v = vv) (hr : (Instr.mapUpdate t vm vx vv).run P w = .ok () w') (h : wpList P ops Q rest (a.put o.dst undef) w') : wpList P ops Q (o :: rest) a w := by
  refine wpList_plain hg fun K' hK' => ?_
  unfold Oper.wp
  simp [execOp, hop, hm, hx, hv, hr, Result.andThen]
  exact hK' _ _ h
theorem step_update_run {P : Program} {ops : Array Oper} {o : Oper} {a : Act} {w w' : World} {K : Act → World → Prop} {Q : Exit → Act → World → Prop} {E : Prop} (hg : o.guard = none) (m x v : Operand) (t : TypeId) (hop : o.op = Op.mapUpdate t m x v)
    (vm vx vv : Value) (hm : a.eval m = vm) (hx : a.eval x = vx) (hv : a.eval v = vv) (hr : (Instr.mapUpdate t vm vx vv).run P w = .ok () w') (hK : K (a.put o.dst undef) w') : if Region.wanted o (yielded ops a.tmps) = true then Oper.wp P o a w K Q else E := by
  have hw : Region.wanted o (yielded ops a.tmps) = true := by simp [Region.wanted, hg]
  rw [if_pos hw]
  unfold Oper.wp
  simp [execOp, hop, hm, hx, hv, hr, Result.andThen]
  exact hK
theorem wpList_delete_run {P : Program} {w w' : World} {ops : Array Oper} {rest : List Oper} {o : Oper} {a : Act} {Q : Exit → Act → World → Prop} (hg : o.guard = none) (m x : Operand) (t k : TypeId) (hop : o.op = Op.call { callee := Callee.builtin Builtin.delete, args := #[m, x], argTypes := #[t, k] })
    (vm vx v' : Value) (hm : a.eval m = vm) (hx : a.eval x = vx) (hr : (Builtin.delete_ #[t, k] o.type #[vm, vx]).run P w = .ok v' w') (h : wpList P ops Q rest (a.put o.dst v') w') : wpList P ops Q (o :: rest) a w := by
  refine wpList_plain hg fun K' hK' => ?_
  unfold Oper.wp
  simp only [execOp, hop, resolve, invoke, builtin, hm, hx, Sem.run_bind, Sem.run_pure, Result.andThen_ok, List.map_toArray, List.map_cons, List.map_nil, hr]
  exact hK' _ _ h

/-- The table in block tb: which processes live; the map of the descriptors lies in block mb. -/
def Tab (w : World) (tb mb : Nat) (L : Nat → Bool) : Prop :=
  w.heap[tb]? = some (.cells #[.bool (L 0), .bool (L 1), .bool (L 2), .bool (L 3), .bool (L 4), .bool (L 5), .map (some mb)] 88 (0, 0))
def liveB (L : Nat → Bool) (p : Int) : Bool := decide (0 ≤ p) && decide (p < 6) && L p.toNat

theorem Tab.of_block {w w' : World} {tb mb : Nat} {L : Nat → Bool} (h : Tab w tb mb L) (he : w'.heap[tb]? = w.heap[tb]?) : Tab w' tb mb L := he.trans h
theorem Tab.lt {w : World} {tb mb : Nat} {L : Nat → Bool} (h : Tab w tb mb L) : tb < w.heap.size := (Array.getElem?_eq_some_iff.1 h).1
theorem Tab.cell {w : World} {tb mb : Nat} {L : Nat → Bool} (h : Tab w tb mb L) (j : Nat) (hj : j < 6) : w.cell? ⟨tb, j, none⟩ = some (.bool (L j)) := by
  unfold Tab at h
  simp only [World.cell?, h]
  match j, hj with
  | 0, _ | 1, _ | 2, _ | 3, _ | 4, _ | 5, _ => rfl
theorem Tab.mapCell {w : World} {tb mb : Nat} {L : Nat → Bool} (h : Tab w tb mb L) : w.cell? ⟨tb, 6, none⟩ = some (.map (some mb)) := by
  unfold Tab at h
  simp only [World.cell?, h]
  rfl
theorem Tab.frozen {w : World} {tb mb : Nat} {L : Nat → Bool} (h : Tab w tb mb L) (j : Nat) : w.frozen? ⟨tb, j, none⟩ = false := by
  unfold Tab at h
  simp [World.frozen?, h]

set_option maxHeartbeats 1000000 in
set_option maxRecDepth 100000 in
theorem check_live {w : World} {tb mb : Nat} {L : Nat → Bool} (h : Tab w tb mb L) (p : Int) (hl : liveB L p = true) :
    Calls Try.prog 42 #[.pointer (some ⟨tb, 0, none⟩), .int .i64 p] w fun e w' => e = .returned (.int .i64 0) ∧ w' = w := by
  simp [liveB] at hl
  obtain ⟨⟨h1, h2⟩, h3⟩ := hl
  have hc := h.cell p.toNat (by omega)
  rw [h3] at hc
  go_enter Try.func42, Try.ntmps42
  go_wp2
  go_ret
  exact ⟨rfl, rfl⟩
set_option maxHeartbeats 1000000 in
set_option maxRecDepth 100000 in
theorem check_dead {w : World} {tb mb : Nat} {L : Nat → Bool} (h : Tab w tb mb L) (p : Int) (hl : liveB L p = false) :
    Calls Try.prog 42 #[.pointer (some ⟨tb, 0, none⟩), .int .i64 p] w fun e w' => e = .returned (.int .i64 1) ∧ w' = w := by
  by_cases h1 : p < 0
  · go_enter Try.func42, Try.ntmps42
    go_wp2
    go_ret
    exact ⟨rfl, rfl⟩
  · by_cases h2 : 6 ≤ p
    · go_enter Try.func42, Try.ntmps42
      go_wp2
      go_ret
      exact ⟨rfl, rfl⟩
    · have hc := h.cell p.toNat (by omega)
      have h3 : L p.toNat = false := by
        simp [liveB] at hl
        exact hl (by omega) (by omega)
      rw [h3] at hc
      have h0 : 0 ≤ p := by omega
      have h6 : p < 6 := by omega
      clear h1 h2
      go_enter Try.func42, Try.ntmps42
      go_wp2
      go_ret
      exact ⟨rfl, rfl⟩

set_option maxHeartbeats 1000000 in
set_option maxRecDepth 100000 in
theorem find_dead {w : World} {tb mb : Nat} {L : Nat → Bool} (h : Tab w tb mb L) (p d : Int) (hl : liveB L p = false) :
    Calls Try.prog 61 #[.pointer (some ⟨tb, 0, none⟩), .int .i64 p, .int .i64 d] w fun e w' => e = .returned (.tuple #[.pointer none, .int .i64 1]) ∧ w' = w := by
  have H : Hid _ := h
  go_enter Try.func61, Try.ntmps61
  go_wp2_with (go_at_call 42; refine (check_dead H.out p hl).mono ?_; rintro e w' ⟨rfl, rfl⟩)
  go_ret2
  exact ⟨rfl, rfl⟩
set_option maxHeartbeats 1000000 in
set_option maxRecDepth 100000 in
theorem find_live {w : World} {tb mb : Nat} {L : Nat → Bool} {F : Int → Int → Option Nat} (h : Tab w tb mb L) (hm : MapAt w mb F) (p d : Int) (hl : liveB L p = true) :
    Calls Try.prog 61 #[.pointer (some ⟨tb, 0, none⟩), .int .i64 p, .int .i64 d] w fun e w' => e = .returned (.tuple #[ptrV (F p d), .int .i64 (if (F p d).isSome then 0 else 5)]) ∧ w' = w := by
  have H : Hid _ := h
  have hlk := hm.lookup w rfl p d
  have hmc := h.mapCell
  clear h
  cases hf : F p d with
  | none =>
    rw [hf] at hlk
    simp only [ptrV, Option.map_none, Option.isSome_none] at hlk
    have HL : Hid _ := hlk
    clear hlk hm
    go_enter Try.func61, Try.ntmps61
    go_wp2_with (first
      | (go_at_call 42; refine (check_live H.out p hl).mono ?_; rintro e w' ⟨rfl, rfl⟩)
      | (at_lookup; refine wpList_lookup_run rfl _ _ _ _ rfl _ _ _ rfl rfl (HL.out) ?_))
    go_ret2
    exact ⟨rfl, rfl⟩
  | some b =>
    rw [hf] at hlk
    simp only [ptrV, Option.map_some, Option.isSome_some] at hlk
    have HL : Hid _ := hlk
    clear hlk hm
    go_enter Try.func61, Try.ntmps61
    go_wp2_with (first
      | (go_at_call 42; refine (check_live H.out p hl).mono ?_; rintro e w' ⟨rfl, rfl⟩)
      | (at_lookup; refine wpList_lookup_run rfl _ _ _ _ rfl _ _ _ rfl rfl (HL.out) ?_))
    go_ret2
    exact ⟨rfl, rfl⟩

/-- The opening in block b is of file f. -/
def OpenAt (w : World) (b : Nat) (f : Int) : Prop := w.heap[b]? = some (.cells #[.int .i64 f] 97 (0, 0))

set_option maxHeartbeats 1000000 in
set_option maxRecDepth 100000 in
theorem File_dead {w : World} {tb mb : Nat} {L : Nat → Bool} (h : Tab w tb mb L) (p d : Int) (hl : liveB L p = false) :
    Calls Try.prog 53 #[.pointer (some ⟨tb, 0, none⟩), .int .i64 p, .int .i64 d] w fun e w' => e = .returned (.tuple #[.int .i64 0, .int .i64 1]) ∧ w' = w := by
  have H : Hid (Tab w tb mb L) := h
  clear h
  go_enter Try.func53, Try.ntmps53
  go_wp2_with (go_at_call 61; refine (find_dead H.out p d hl).mono ?_; rintro e w' ⟨rfl, rfl⟩)
  go_ret2
  exact ⟨rfl, rfl⟩
set_option maxHeartbeats 1000000 in
set_option maxRecDepth 100000 in
theorem File_none {w : World} {tb mb : Nat} {L : Nat → Bool} {F : Int → Int → Option Nat} (h : Tab w tb mb L) (hm : MapAt w mb F) (p d : Int) (hl : liveB L p = true) (hf : F p d = none) :
    Calls Try.prog 53 #[.pointer (some ⟨tb, 0, none⟩), .int .i64 p, .int .i64 d] w fun e w' => e = .returned (.tuple #[.int .i64 0, .int .i64 5]) ∧ w' = w := by
  have hfi := find_live h hm p d hl
  rw [hf] at hfi
  simp only [ptrV, Option.map_none, Option.isSome_none, Bool.false_eq_true, if_false] at hfi
  have H := Hid.mk hfi
  clear h hm hfi hf
  go_enter Try.func53, Try.ntmps53
  go_wp2_with (go_at_call 61; refine H.out.mono ?_; rintro e w' ⟨rfl, rfl⟩)
  go_ret2
  exact ⟨rfl, rfl⟩
set_option maxHeartbeats 1000000 in
set_option maxRecDepth 100000 in
theorem File_some {w : World} {tb mb b : Nat} {L : Nat → Bool} {F : Int → Int → Option Nat} {f : Int} (h : Tab w tb mb L) (hm : MapAt w mb F) (p d : Int) (hl : liveB L p = true) (hf : F p d = some b) (ho : OpenAt w b f) :
    Calls Try.prog 53 #[.pointer (some ⟨tb, 0, none⟩), .int .i64 p, .int .i64 d] w fun e w' => e = .returned (.tuple #[.int .i64 f, .int .i64 0]) ∧ w' = w := by
  have hfi := find_live h hm p d hl
  rw [hf] at hfi
  simp only [ptrV, Option.map_some, Option.isSome_some, if_true] at hfi
  have H := Hid.mk hfi
  have hc : w.cell? ⟨b, 0, none⟩ = some (.int .i64 f) := by unfold OpenAt at ho; simp [World.cell?, ho]
  clear h hm hfi hf ho
  go_enter Try.func53, Try.ntmps53
  go_wp2_with (go_at_call 61; refine H.out.mono ?_; rintro e w' ⟨rfl, rfl⟩)
  go_ret2
  exact ⟨rfl, rfl⟩

theorem run_index_live (a0 a1 a2 a3 a4 a5 : Value) (W : World) :
    (Instr.index 86 (.agg #[a0, a1, a2, a3, a4, a5]) (.int .i64 0)).run Try.prog W = .ok a0 W ∧ (Instr.index 86 (.agg #[a0, a1, a2, a3, a4, a5]) (.int .i64 1)).run Try.prog W = .ok a1 W ∧
    (Instr.index 86 (.agg #[a0, a1, a2, a3, a4, a5]) (.int .i64 2)).run Try.prog W = .ok a2 W ∧ (Instr.index 86 (.agg #[a0, a1, a2, a3, a4, a5]) (.int .i64 3)).run Try.prog W = .ok a3 W ∧
    (Instr.index 86 (.agg #[a0, a1, a2, a3, a4, a5]) (.int .i64 4)).run Try.prog W = .ok a4 W ∧ (Instr.index 86 (.agg #[a0, a1, a2, a3, a4, a5]) (.int .i64 5)).run Try.prog W = .ok a5 W := by
  refine ⟨?_, ?_, ?_, ?_, ?_, ?_⟩ <;> simp [Instr.index, asIntOf, run_underlying Try.underlying86, part, Try.sizeOf4, Try.isAgg4]

set_option maxHeartbeats 1000000 in
set_option maxRecDepth 100000 in
theorem freeProc_some {w : World} {tb mb : Nat} {L : Nat → Bool} (h : Tab w tb mb L) (c : Nat) (hc : c < 6) (h1 : ∀ j, j < c → L j = true) (h2 : L c = false) :
    Calls Try.prog 43 #[.pointer (some ⟨tb, 0, none⟩)] w fun e w' => e = .returned (.tuple #[.int .i64 c, .bool true]) ∧ w' = w := by
  have c0 := h.cell 0 (by omega)
  have c1 := h.cell 1 (by omega)
  have c2 := h.cell 2 (by omega)
  have c3 := h.cell 3 (by omega)
  have c4 := h.cell 4 (by omega)
  have c5 := h.cell 5 (by omega)
  have H1 : Hid _ := h1
  have H2 : Hid _ := h2
  clear h h1 h2
  go_enter Try.func43, Try.ntmps43
  go_wp2
  go_loop [10] (fun i => ∃ k : Nat, i = .int .i64 k ∧ k ≤ c) (fun i => 6 - (intOf i).toNat)
  case atStart => exact ⟨0, rfl, Nat.zero_le _⟩
  case round =>
    obtain ⟨k, rfl, hk⟩ := hrel
    by_cases hlt : k < c
    · have hLk := H1.out k hlt
      obtain rfl | rfl | rfl | rfl | rfl : k = 0 ∨ k = 1 ∨ k = 2 ∨ k = 3 ∨ k = 4 := by omega
      all_goals
        obtain ⟨i0, i1, i2, i3, i4, i5⟩ := run_index_live (.bool (L 0)) (.bool (L 1)) (.bool (L 2)) (.bool (L 3)) (.bool (L 4)) (.bool (L 5)) w
        rw [hLk] at *
        go_wp2
        go_round
        case rel => exact ⟨_, rfl, hlt⟩
        case measure => simp [intOf]
    · obtain rfl : k = c := by omega
      have hLk := H2.out
      obtain rfl | rfl | rfl | rfl | rfl | rfl : k = 0 ∨ k = 1 ∨ k = 2 ∨ k = 3 ∨ k = 4 ∨ k = 5 := by omega
      all_goals
        obtain ⟨i0, i1, i2, i3, i4, i5⟩ := run_index_live (.bool (L 0)) (.bool (L 1)) (.bool (L 2)) (.bool (L 3)) (.bool (L 4)) (.bool (L 5)) w
        rw [hLk] at *
        go_wp2
        go_ret2
        exact ⟨rfl, rfl⟩
set_option maxHeartbeats 1000000 in
set_option maxRecDepth 100000 in
theorem freeProc_none {w : World} {tb mb : Nat} {L : Nat → Bool} (h : Tab w tb mb L) (h1 : ∀ j, j < 6 → L j = true) :
    Calls Try.prog 43 #[.pointer (some ⟨tb, 0, none⟩)] w fun e w' => e = .returned (.tuple #[.int .i64 0, .bool false]) ∧ w' = w := by
  have c0 := h.cell 0 (by omega)
  have c1 := h.cell 1 (by omega)
  have c2 := h.cell 2 (by omega)
  have c3 := h.cell 3 (by omega)
  have c4 := h.cell 4 (by omega)
  have c5 := h.cell 5 (by omega)
  have H1 : Hid _ := h1
  clear h h1
  go_enter Try.func43, Try.ntmps43
  go_wp2
  go_loop [10] (fun i => ∃ k : Nat, i = .int .i64 k ∧ k ≤ 6) (fun i => 6 - (intOf i).toNat)
  case atStart => exact ⟨0, rfl, Nat.zero_le _⟩
  case round =>
    obtain ⟨k, rfl, hk⟩ := hrel
    by_cases hlt : k < 6
    · have hLk := H1.out k hlt
      obtain rfl | rfl | rfl | rfl | rfl | rfl : k = 0 ∨ k = 1 ∨ k = 2 ∨ k = 3 ∨ k = 4 ∨ k = 5 := by omega
      all_goals
        obtain ⟨i0, i1, i2, i3, i4, i5⟩ := run_index_live (.bool (L 0)) (.bool (L 1)) (.bool (L 2)) (.bool (L 3)) (.bool (L 4)) (.bool (L 5)) w
        rw [hLk] at *
        go_wp2
        go_round
        case rel => exact ⟨_, rfl, hlt⟩
        case measure => simp [intOf]
    · obtain rfl : k = 6 := by omega
      go_wp2
      go_ret2
      exact ⟨rfl, rfl⟩
end Go.Proofs.Ytafgecmenadhdaa
