/- Contracts of the table of processes and descriptors: check, Find, File, freeProc, give. -/
import Derived.Test.YtaicdjhblbobbabGreatGMaps
import Derived.Test.YtaicdjhblbobbabGreatGIns
import Derived.Maps.OwnOps
import Derived.Maps.OwnSet
import Derived.Maps.Own
import Derived.Deep.RegionLaw
namespace Go.Proofs.YtaicdjhblbobbabGreat
open Go.RowKit Go.Lib


theorem wpList_lookup_run {P : Program} {w w' : World} {ops : Array Oper} {rest : List Oper} {o : Oper} {a : Act} {Q : Exit → Act → World → Prop} (hg : o.guard = none) (m x : Operand) (t : TypeId) (c : Bool) (hop : o.op = Op.lookup t m x c)
    (vm vx v' : Value) (hm : a.eval m = vm) (hx : a.eval x = vx) (hr : (Instr.lookup t vm vx c).run P w = .ok v' w') (h : wpList P ops Q rest (a.put o.dst v') w') : wpList P ops Q (o :: rest) a w := by
  refine wpList_plain hg fun K' hK' => ?_
  unfold Oper.wp
  simp only [execOp, hop, hm, hx, Sem.run_bind, hr, Result.andThen_ok, Sem.run_pure]
  exact hK' _ _ h
theorem step_lookup_run {P : Program} {ops : Array Oper} {o : Oper} {a : Act} {w w' : World} {K : Act → World → Prop} {Q : Exit → Act → World → Prop} {E : Prop} (hg : o.guard = none) (m x : Operand) (t : TypeId) (c : Bool) (hop : o.op = Op.lookup t m x c)
    (vm vx v' : Value) (hm : a.eval m = vm) (hx : a.eval x = vx) (hr : (Instr.lookup t vm vx c).run P w = .ok v' w') (hK : K (a.put o.dst v') w') : if Region.wanted o (yielded ops a.tmps) = true then Oper.wp P o a w K Q else E := by
  have hw : Region.wanted o (yielded ops a.tmps) = true := by simp [Region.wanted, hg]
  rw [if_pos hw]
  unfold Oper.wp
  simp only [execOp, hop, hm, hx, Sem.run_bind, hr, Result.andThen_ok, Sem.run_pure]
  exact hK
theorem wpList_update_run {P : Program} {w w' : World} {ops : Array Oper} {rest : List Oper} {o : Oper} {a : Act} {Q : Exit → Act → World → Prop} (hg : o.guard = none) (m x v : Operand) (t : TypeId) (hop : o.op = Op.mapUpdate t m x v)
    (vm vx vv : Value) (hm : a.eval m = vm) (hx : a.eval x = vx) (hv : a.eval v = vv) (hr : (Instr.mapUpdate t vm vx vv).run P w = .ok () w') (h : wpList P ops Q rest (a.put o.dst undef) w') : wpList P ops Q (o :: rest) a w := by
  refine wpList_plain hg fun K' hK' => ?_
  unfold Oper.wp
  simp [execOp, hop, hm, hx, hv, hr, Result.andThen]
  exact hK' _ _ h
theorem step_update_run {P : Program} {ops : Array Oper} {o : Oper} {a : Act} {w w' : World} {K : Act → World → Prop} {Q : Exit → Act → World → Prop} {E : Prop} (hg : o.guard = none) (m x v : Operand) (t : TypeId) (hop : o.op = Op.mapUpdate t m x v)
    (vm vx vv : Value) (hm : a.eval m = vm) (hx : a.eval x = vx) (hv : a.eval v = vv) (hr : (Instr.mapUpdate t vm vx vv).run P w = .ok () w') (hK : K (a.put o.dst undef) w') : if Region.wanted o (yielded ops a.tmps) = true then Oper.wp P o a w K Q else E := by
  have hw : Region.wanted o (yielded ops a.tmps) = true := by simp [Region.wanted, hg]
  rw [if_pos hw]
  unfold Oper.wp
  simp [execOp, hop, hm, hx, hv, hr, Result.andThen]
  exact hK
theorem wpList_delete_run {P : Program} {w w' : World} {ops : Array Oper} {rest : List Oper} {o : Oper} {a : Act} {Q : Exit → Act → World → Prop} (hg : o.guard = none) (m x : Operand) (t k : TypeId) (hop : o.op = Op.call { callee := Callee.builtin Builtin.delete, args := #[m, x], argTypes := #[t, k] })
    (vm vx v' : Value) (hm : a.eval m = vm) (hx : a.eval x = vx) (hr : (Builtin.delete_ #[t, k] o.type #[vm, vx]).run P w = .ok v' w') (h : wpList P ops Q rest (a.put o.dst v') w') : wpList P ops Q (o :: rest) a w := by
  refine wpList_plain hg fun K' hK' => ?_
  unfold Oper.wp
  simp only [execOp, hop, resolve, invoke, builtin, hm, hx, Sem.run_bind, Sem.run_pure, Result.andThen_ok, List.map_toArray, List.map_cons, List.map_nil, hr]
  exact hK' _ _ h

/-- The table in block tb: which processes live; the map of the descriptors lies in block mb. -/
def Tab (w : World) (tb mb : Nat) (L : Nat → Bool) : Prop :=
  w.heap[tb]? = some (.cells #[.bool (L 0), .bool (L 1), .bool (L 2), .bool (L 3), .bool (L 4), .bool (L 5), .map (some mb)] 108 (0, 0))

theorem Tab.of_block {w w' : World} {tb mb : Nat} {L : Nat → Bool} (h : Tab w tb mb L) (he : w'.heap[tb]? = w.heap[tb]?) : Tab w' tb mb L := he.trans h
theorem Tab.lt {w : World} {tb mb : Nat} {L : Nat → Bool} (h : Tab w tb mb L) : tb < w.heap.size := (Array.getElem?_eq_some_iff.1 h).1
theorem Tab.cell {w : World} {tb mb : Nat} {L : Nat → Bool} (h : Tab w tb mb L) (j : Nat) (hj : j < 6) : w.cell? ⟨tb, j, none⟩ = some (.bool (L j)) := by
  unfold Tab at h
  simp only [World.cell?, h]
  match j, hj with
  | 0, _ | 1, _ | 2, _ | 3, _ | 4, _ | 5, _ => rfl
theorem Tab.mapCell {w : World} {tb mb : Nat} {L : Nat → Bool} (h : Tab w tb mb L) : w.cell? ⟨tb, 6, none⟩ = some (.map (some mb)) := by
  unfold Tab at h
  simp only [World.cell?, h]
  rfl
theorem Tab.frozen {w : World} {tb mb : Nat} {L : Nat → Bool} (h : Tab w tb mb L) (j : Nat) : w.frozen? ⟨tb, j, none⟩ = false := by
  unfold Tab at h
  simp [World.frozen?, h]

set_option maxHeartbeats 1000000 in
set_option maxRecDepth 100000 in
theorem check_live {w : World} {tb mb : Nat} {L : Nat → Bool} (h : Tab w tb mb L) (p : Int) (hl : liveB L p = true) :
    Calls Tryz.prog 41 #[.pointer (some ⟨tb, 0, none⟩), .int .i64 p] w fun e w' => e = .returned (.int .i64 0) ∧ w' = w := by
  simp [liveB] at hl
  obtain ⟨⟨h1, h2⟩, h3⟩ := hl
  have hc := h.cell p.toNat (by omega)
  rw [h3] at hc
  go_enter Tryz.func41, Tryz.ntmps41
  go_wp2
  go_ret
  exact ⟨rfl, rfl⟩
set_option maxHeartbeats 1000000 in
set_option maxRecDepth 100000 in
theorem check_dead {w : World} {tb mb : Nat} {L : Nat → Bool} (h : Tab w tb mb L) (p : Int) (hl : liveB L p = false) :
    Calls Tryz.prog 41 #[.pointer (some ⟨tb, 0, none⟩), .int .i64 p] w fun e w' => e = .returned (.int .i64 1) ∧ w' = w := by
  by_cases h1 : p < 0
  · go_enter Tryz.func41, Tryz.ntmps41
    go_wp2
    go_ret
    exact ⟨rfl, rfl⟩
  · by_cases h2 : 6 ≤ p
    · go_enter Tryz.func41, Tryz.ntmps41
      go_wp2
      go_ret
      exact ⟨rfl, rfl⟩
    · have hc := h.cell p.toNat (by omega)
      have h3 : L p.toNat = false := by
        simp [liveB] at hl
        exact hl (by omega) (by omega)
      rw [h3] at hc
      have h0 : 0 ≤ p := by omega
      have h6 : p < 6 := by omega
      clear h1 h2
      go_enter Tryz.func41, Tryz.ntmps41
      go_wp2
      go_ret
      exact ⟨rfl, rfl⟩

set_option maxHeartbeats 1000000 in
set_option maxRecDepth 100000 in
theorem find_dead {w : World} {tb mb : Nat} {L : Nat → Bool} (h : Tab w tb mb L) (p d : Int) (hl : liveB L p = false) :
    Calls Tryz.prog 62 #[.pointer (some ⟨tb, 0, none⟩), .int .i64 p, .int .i64 d] w fun e w' => e = .returned (.tuple #[.pointer none, .int .i64 1]) ∧ w' = w := by
  have H : Hid _ := h
  go_enter Tryz.func62, Tryz.ntmps62
  go_wp2_with (go_at_call 41; refine (check_dead H.out p hl).mono ?_; rintro e w' ⟨rfl, rfl⟩)
  go_ret2
  exact ⟨rfl, rfl⟩
set_option maxHeartbeats 1000000 in
set_option maxRecDepth 100000 in
theorem find_live {w : World} {tb mb : Nat} {L : Nat → Bool} {F : Int → Int → Option Nat} (h : Tab w tb mb L) (hm : MapAt w mb F) (p d : Int) (hl : liveB L p = true) :
    Calls Tryz.prog 62 #[.pointer (some ⟨tb, 0, none⟩), .int .i64 p, .int .i64 d] w fun e w' => e = .returned (.tuple #[ptrV (F p d), .int .i64 (if (F p d).isSome then 0 else 5)]) ∧ w' = w := by
  have H : Hid _ := h
  have hlk := hm.lookup w rfl p d
  have hmc := h.mapCell
  clear h
  cases hf : F p d with
  | none =>
    rw [hf] at hlk
    simp only [ptrV, Option.map_none, Option.isSome_none] at hlk
    have HL : Hid _ := hlk
    clear hlk hm
    go_enter Tryz.func62, Tryz.ntmps62
    go_wp2_with (first
      | (go_at_call 41; refine (check_live H.out p hl).mono ?_; rintro e w' ⟨rfl, rfl⟩)
      | (at_lookup; refine wpList_lookup_run rfl _ _ _ _ rfl _ _ _ rfl rfl (HL.out) ?_))
    go_ret2
    exact ⟨rfl, rfl⟩
  | some b =>
    rw [hf] at hlk
    simp only [ptrV, Option.map_some, Option.isSome_some] at hlk
    have HL : Hid _ := hlk
    clear hlk hm
    go_enter Tryz.func62, Tryz.ntmps62
    go_wp2_with (first
      | (go_at_call 41; refine (check_live H.out p hl).mono ?_; rintro e w' ⟨rfl, rfl⟩)
      | (at_lookup; refine wpList_lookup_run rfl _ _ _ _ rfl _ _ _ rfl rfl (HL.out) ?_))
    go_ret2
    exact ⟨rfl, rfl⟩

/-- The opening in block b is of file f. -/
def OpenAt (w : World) (b : Nat) (f : Int) : Prop := w.heap[b]? = some (.cells #[.int .i64 f] 97 (0, 0))

theorem File_any {w : World} {b : Nat} {f : Int} (ho : OpenAt w b f) :
    Calls Tryz.prog 44 #[.pointer (some ⟨b, 0, none⟩)] w fun e w' => e = .returned (.int .i64 f) ∧ w' = w := by
  have hc : w.cell? ⟨b, 0, none⟩ = some (.int .i64 f) := by unfold OpenAt at ho; simp [World.cell?, ho]
  clear ho
  go_enter Tryz.func44, Tryz.ntmps44
  go_wp2
  go_ret
  exact ⟨rfl, rfl⟩

theorem run_index_live (a0 a1 a2 a3 a4 a5 : Value) (W : World) :
    (Instr.index 106 (.agg #[a0, a1, a2, a3, a4, a5]) (.int .i64 0)).run Tryz.prog W = .ok a0 W ∧ (Instr.index 106 (.agg #[a0, a1, a2, a3, a4, a5]) (.int .i64 1)).run Tryz.prog W = .ok a1 W ∧
    (Instr.index 106 (.agg #[a0, a1, a2, a3, a4, a5]) (.int .i64 2)).run Tryz.prog W = .ok a2 W ∧ (Instr.index 106 (.agg #[a0, a1, a2, a3, a4, a5]) (.int .i64 3)).run Tryz.prog W = .ok a3 W ∧
    (Instr.index 106 (.agg #[a0, a1, a2, a3, a4, a5]) (.int .i64 4)).run Tryz.prog W = .ok a4 W ∧ (Instr.index 106 (.agg #[a0, a1, a2, a3, a4, a5]) (.int .i64 5)).run Tryz.prog W = .ok a5 W := by
  refine ⟨?_, ?_, ?_, ?_, ?_, ?_⟩ <;> simp [Instr.index, asIntOf, run_underlying Tryz.underlying106, part, Tryz.sizeOf4, Tryz.isAgg4]

set_option maxHeartbeats 1000000 in
set_option maxRecDepth 100000 in
theorem freeProc_some {w : World} {tb mb : Nat} {L : Nat → Bool} (h : Tab w tb mb L) (c : Nat) (hc : c < 6) (h1 : ∀ j, j < c → L j = true) (h2 : L c = false) :
    Calls Tryz.prog 54 #[.pointer (some ⟨tb, 0, none⟩)] w fun e w' => e = .returned (.tuple #[.int .i64 c, .bool true]) ∧ w' = w := by
  have c0 := h.cell 0 (by omega)
  have c1 := h.cell 1 (by omega)
  have c2 := h.cell 2 (by omega)
  have c3 := h.cell 3 (by omega)
  have c4 := h.cell 4 (by omega)
  have c5 := h.cell 5 (by omega)
  have H1 : Hid _ := h1
  have H2 : Hid _ := h2
  clear h h1 h2
  go_enter Tryz.func54, Tryz.ntmps54
  go_wp2
  go_loop [10] (fun i => ∃ k : Nat, i = .int .i64 k ∧ k ≤ c) (fun i => 6 - (intOf i).toNat)
  case atStart => exact ⟨0, rfl, Nat.zero_le _⟩
  case round =>
    obtain ⟨k, rfl, hk⟩ := hrel
    by_cases hlt : k < c
    · have hLk := H1.out k hlt
      obtain rfl | rfl | rfl | rfl | rfl : k = 0 ∨ k = 1 ∨ k = 2 ∨ k = 3 ∨ k = 4 := by omega
      all_goals
        obtain ⟨i0, i1, i2, i3, i4, i5⟩ := run_index_live (.bool (L 0)) (.bool (L 1)) (.bool (L 2)) (.bool (L 3)) (.bool (L 4)) (.bool (L 5)) w
        rw [hLk] at *
        go_wp2
        go_round
        case rel => exact ⟨_, rfl, hlt⟩
        case measure => simp [intOf]
    · obtain rfl : k = c := by omega
      have hLk := H2.out
      obtain rfl | rfl | rfl | rfl | rfl | rfl : k = 0 ∨ k = 1 ∨ k = 2 ∨ k = 3 ∨ k = 4 ∨ k = 5 := by omega
      all_goals
        obtain ⟨i0, i1, i2, i3, i4, i5⟩ := run_index_live (.bool (L 0)) (.bool (L 1)) (.bool (L 2)) (.bool (L 3)) (.bool (L 4)) (.bool (L 5)) w
        rw [hLk] at *
        go_wp2
        go_ret2
        exact ⟨rfl, rfl⟩
set_option maxHeartbeats 1000000 in
set_option maxRecDepth 100000 in
theorem freeProc_none {w : World} {tb mb : Nat} {L : Nat → Bool} (h : Tab w tb mb L) (h1 : ∀ j, j < 6 → L j = true) :
    Calls Tryz.prog 54 #[.pointer (some ⟨tb, 0, none⟩)] w fun e w' => e = .returned (.tuple #[.int .i64 0, .bool false]) ∧ w' = w := by
  have c0 := h.cell 0 (by omega)
  have c1 := h.cell 1 (by omega)
  have c2 := h.cell 2 (by omega)
  have c3 := h.cell 3 (by omega)
  have c4 := h.cell 4 (by omega)
  have c5 := h.cell 5 (by omega)
  have H1 : Hid _ := h1
  clear h h1
  go_enter Tryz.func54, Tryz.ntmps54
  go_wp2
  go_loop [10] (fun i => ∃ k : Nat, i = .int .i64 k ∧ k ≤ 6) (fun i => 6 - (intOf i).toNat)
  case atStart => exact ⟨0, rfl, Nat.zero_le _⟩
  case round =>
    obtain ⟨k, rfl, hk⟩ := hrel
    by_cases hlt : k < 6
    · have hLk := H1.out k hlt
      obtain rfl | rfl | rfl | rfl | rfl | rfl : k = 0 ∨ k = 1 ∨ k = 2 ∨ k = 3 ∨ k = 4 ∨ k = 5 := by omega
      all_goals
        obtain ⟨i0, i1, i2, i3, i4, i5⟩ := run_index_live (.bool (L 0)) (.bool (L 1)) (.bool (L 2)) (.bool (L 3)) (.bool (L 4)) (.bool (L 5)) w
        rw [hLk] at *
        go_wp2
        go_round
        case rel => exact ⟨_, rfl, hlt⟩
        case measure => simp [intOf]
    · obtain rfl : k = 6 := by omega
      go_wp2
      go_ret2
      exact ⟨rfl, rfl⟩
end Go.Proofs.YtaicdjhblbobbabGreat

/- Contract of Table.give: the least free descriptor of a process is of the opening. -/
namespace Go.Proofs.YtaicdjhblbobbabGreat
open Go.RowKit Go.Lib

theorem setBlock_same {w : World} {b : Nat} {o : Obj} (h : b < w.heap.size) : (ChangeMaps.setBlock w b o).heap[b]? = some o := by simp [ChangeMaps.setBlock, h]
theorem setBlock_other {w : World} {b k : Nat} {o : Obj} (h : k ≠ b) : (ChangeMaps.setBlock w b o).heap[k]? = w.heap[k]? := by
  simp only [ChangeMaps.setBlock, Array.getElem?_setIfInBounds]
  rw [if_neg (by omega)]
theorem gb_setBlock {w : World} {b : Nat} {o : Obj} : w.grownBy (ChangeMaps.setBlock w b o) (some b) :=
  ⟨rfl, rfl, rfl, by simp [ChangeMaps.setBlock], fun k _ hk => setBlock_other (fun e => hk (by rw [e]))⟩

set_option maxHeartbeats 4000000 in
set_option maxRecDepth 100000 in
theorem give_some {w : World} {tb mb : Nat} {L : Nat → Bool} {F : Int → Int → Option Nat} (h : Tab w tb mb L) (hm : MapAt w mb F) (p : Int) (ob d : Nat) (hd : d < 5) (h1 : ∀ j : Nat, j < d → (F p j).isSome = true) (h2 : F p d = none) :
    Calls Tryz.prog 42 #[.pointer (some ⟨tb, 0, none⟩), .int .i64 p, .pointer (some ⟨ob, 0, none⟩)] w fun e w' => e = .returned (.tuple #[.int .i64 d, .int .i64 0]) ∧ MapAt w' mb (updF F p d (some ob)) ∧ w.grownBy w' (some mb) := by
  have H := Hid.mk h
  have HM := Hid.mk hm
  have H1 := Hid.mk h1
  have H2 := Hid.mk h2
  have htl := h.lt
  have hml := hm.lt
  clear h hm h1 h2
  go_enter Tryz.func42, Tryz.ntmps42
  go_wp2
  go_loopw [12] (fun s wr => ∃ k : Nat, s = .int .i64 k ∧ k ≤ d ∧ Hid (Below w.heap.size w wr)) (fun s _ => 5 - (intOf s).toNat)
  case atStart => exact ⟨0, rfl, Nat.zero_le _, Below.refl _ _⟩
  case round =>
    obtain ⟨k, rfl, hk, HB⟩ := hrel
    have hmc : wr.cell? ⟨tb, 6, none⟩ = some (.map (some mb)) := (HB.out.cell (p := ⟨tb, 6, none⟩) htl).trans H.out.mapCell
    have hsz := HB.out.size
    have htl' : tb < wr.heap.size := by omega
    have hml' : mb < wr.heap.size := by omega
    have hbm : wr.heap[mb]? = w.heap[mb]? := HB.out.block mb hml
    have HBM := Hid.mk hbm
    clear hbm
    by_cases hlt : k < d
    · have hsome := H1.out k hlt
      obtain ⟨b, hb⟩ := Option.isSome_iff_exists.1 hsome
      have HL : Hid (∀ W : World, W.heap[mb]? = w.heap[mb]? → (Instr.lookup 105 (.map (some mb)) (.agg #[.int .i64 p, .int .i64 k]) true).run Tryz.prog W = .ok (.tuple #[.pointer (some ⟨b, 0, none⟩), .bool true]) W) := fun W hW => by
        have := HM.out.lookup W hW p k
        rw [hb] at this
        exact this
      have hlk := HL.out (wr.alloc (.cells #[.int .i64 p, .int .i64 k] 113)).drew (by show (wr.alloc _).heap[mb]? = _; rw [Below.heap_alloc _ _ _ hml']; exact HBM.out)
      clear hsome hb
      go_wp2
      go_region
      go_wp2
      go_roundw
      case rel => exact ⟨k + 1, by go_num, by omega, (HB.out.alloc (by omega) _).drew⟩
      case measure => simp [intOf]; omega
    · obtain rfl : k = d := by omega
      have HL : Hid (∀ W : World, W.heap[mb]? = w.heap[mb]? → (Instr.lookup 105 (.map (some mb)) (.agg #[.int .i64 p, .int .i64 k]) true).run Tryz.prog W = .ok (.tuple #[.pointer none, .bool false]) W) := fun W hW => by
        have := HM.out.lookup W hW p k
        rw [H2.out] at this
        exact this
      have hmW : (wr.alloc (.cells #[.int .i64 p, .int .i64 k] 113)).heap[mb]? = w.heap[mb]? := by rw [Below.heap_alloc _ _ _ hml']; exact HBM.out
      have hlk := HL.out (wr.alloc (.cells #[.int .i64 p, .int .i64 k] 113)).drew hmW
      obtain ⟨o', hu1, hu2⟩ := HM.out.update p k H2.out ob
      have hup := hu1 ((wr.alloc (.cells #[.int .i64 p, .int .i64 k] 113)).drew.drew) hmW
      have HU := Hid.mk hu2
      have HW := Hid.mk hmW
      clear hu1 hu2 hmW
      go_wp2
      go_region
      go_wp2
      go_region
      go_wp2
      go_ret2
      refine ⟨rfl, HU.out _ (setBlock_same (by show mb < (wr.alloc _).heap.size; simp; omega)), ?_⟩
      exact gb_trans (gb_below (HB.out.alloc (by omega) _).drew.drew _) gb_setBlock

set_option maxHeartbeats 4000000 in
set_option maxRecDepth 100000 in
theorem give_none {w : World} {tb mb : Nat} {L : Nat → Bool} {F : Int → Int → Option Nat} (h : Tab w tb mb L) (hm : MapAt w mb F) (p : Int) (ob : Nat) (h1 : ∀ j : Nat, j < 5 → (F p j).isSome = true) :
    Calls Tryz.prog 42 #[.pointer (some ⟨tb, 0, none⟩), .int .i64 p, .pointer (some ⟨ob, 0, none⟩)] w fun e w' => e = .returned (.tuple #[.int .i64 0, .int .i64 3]) ∧ Below w.heap.size w w' := by
  have H := Hid.mk h
  have HM := Hid.mk hm
  have H1 := Hid.mk h1
  have htl := h.lt
  have hml := hm.lt
  clear h hm h1
  go_enter Tryz.func42, Tryz.ntmps42
  go_wp2
  go_loopw [12] (fun s wr => ∃ k : Nat, s = .int .i64 k ∧ k ≤ 5 ∧ Hid (Below w.heap.size w wr)) (fun s _ => 5 - (intOf s).toNat)
  case atStart => exact ⟨0, rfl, Nat.zero_le _, Below.refl _ _⟩
  case round =>
    obtain ⟨k, rfl, hk, HB⟩ := hrel
    have hmc : wr.cell? ⟨tb, 6, none⟩ = some (.map (some mb)) := (HB.out.cell (p := ⟨tb, 6, none⟩) htl).trans H.out.mapCell
    have hsz := HB.out.size
    have htl' : tb < wr.heap.size := by omega
    have hml' : mb < wr.heap.size := by omega
    have HBM := Hid.mk (HB.out.block mb hml)
    by_cases hlt : k < 5
    · have hsome := H1.out k hlt
      obtain ⟨b, hb⟩ := Option.isSome_iff_exists.1 hsome
      have hlk := HM.out.lookup (wr.alloc (.cells #[.int .i64 p, .int .i64 k] 113)).drew (by show (wr.alloc _).heap[mb]? = _; rw [Below.heap_alloc _ _ _ hml']; exact HBM.out) p k
      rw [hb] at hlk
      simp only [ptrV, Option.map_some, Option.isSome_some] at hlk
      clear hsome hb
      go_wp2
      go_region
      go_wp2
      go_roundw
      case rel => exact ⟨k + 1, by go_num, by omega, (HB.out.alloc (by omega) _).drew⟩
      case measure => simp [intOf]; omega
    · obtain rfl : k = 5 := by omega
      go_wp2
      go_ret2
      exact ⟨rfl, HB.out⟩
end Go.Proofs.YtaicdjhblbobbabGreat

/- Contracts of the table's New, Open and Fork. -/
namespace Go.Proofs.YtaicdjhblbobbabGreat
open Go.RowKit Go.Lib

def F0 : Int → Int → Option Nat := fun _ _ => none

/-- Of what was there no block has turned but these. -/
structure Kp (bs : List Nat) (w w' : World) : Prop where
  os : w'.os = w.os
  tape : w'.tape = w.tape
  output : w'.output = w.output
  size : w.heap.size ≤ w'.heap.size
  block : ∀ k, k < w.heap.size → k ∉ bs → w'.heap[k]? = w.heap[k]?
theorem Kp.refl (bs : List Nat) (w : World) : Kp bs w w := ⟨rfl, rfl, rfl, Nat.le_refl _, fun _ _ _ => rfl⟩
theorem Kp.trans {bs : List Nat} {a b c : World} (h : Kp bs a b) (k : Kp bs b c) : Kp bs a c :=
  ⟨k.os.trans h.os, k.tape.trans h.tape, k.output.trans h.output, Nat.le_trans h.size k.size, fun i hi hn => (k.block i (Nat.lt_of_lt_of_le hi h.size) hn).trans (h.block i hi hn)⟩
theorem Kp.mono {bs cs : List Nat} {w w' : World} (h : Kp bs w w') (hs : ∀ x, x ∈ bs → x ∈ cs) : Kp cs w w' := ⟨h.os, h.tape, h.output, h.size, fun k hk hn => h.block k hk (fun hm => hn (hs k hm))⟩
theorem Kp.below {bs : List Nat} {w w' : World} (h : Below w.heap.size w w') : Kp bs w w' := ⟨h.os, h.tape, h.output, h.size, fun k hk _ => h.block k hk⟩
theorem Kp.gb {bs : List Nat} {w w' : World} {b : Nat} (h : w.grownBy w' (some b)) (hb : b ∈ bs) : Kp bs w w' := ⟨h.os, h.tape, h.output, h.size, fun k hk hn => h.block k hk (fun e => hn (by cases e; exact hb))⟩
theorem Kp.setCell {bs : List Nat} {w : World} {a : Addr} {v : Value} (h : a.block ∈ bs) : Kp bs w (w.setCell a v) := ⟨rfl, rfl, rfl, by simp, fun k _ hn => Below.heap_setCell _ _ _ _ (fun e => hn (by rw [e]; exact h))⟩

theorem Tab.set {w : World} {tb mb : Nat} {L : Nat → Bool} (h : Tab w tb mb L) (c : Nat) (hc : c < 6) (v : Bool) : Tab (w.setCell ⟨tb, c, none⟩ (.bool v)) tb mb (updL L c v) := by
  unfold Tab at *
  simp only [World.setCell, Array.getElem?_modify, h]
  obtain rfl | rfl | rfl | rfl | rfl | rfl : c = 0 ∨ c = 1 ∨ c = 2 ∨ c = 3 ∨ c = 4 ∨ c = 5 := by omega
  all_goals simp [updL]
theorem MapAt.congr {w : World} {mb : Nat} {F G : Int → Int → Option Nat} (h : MapAt w mb F) (he : ∀ p d, F p d = G p d) : MapAt w mb G := by
  obtain ⟨es, c, M, h1, h2, h3, h4⟩ := h
  exact ⟨es, c, M, h1, h2, h3, fun p d => (h4 p d).trans (he p d)⟩


set_option maxHeartbeats 1000000 in
set_option maxRecDepth 100000 in
theorem procsNew_any (w : World) :
    Calls Tryz.prog 34 #[] w fun e w' => ∃ tb mb, e = .returned (.pointer (some ⟨tb, 0, none⟩)) ∧ Tab w' tb mb L0 ∧ MapAt w' mb F0 ∧ Below w.heap.size w w' ∧ w.heap.size ≤ tb ∧ w.heap.size ≤ mb := by
  have hmk : (Instr.makeMap 105 none).run Tryz.prog w = .ok (.map (some w.heap.size)) (w.alloc (.map #[] 0)) := rfl
  go_enter Tryz.func34, Tryz.ntmps34
  go_wp2
  go_ret
  refine ⟨w.heap.size + 1, w.heap.size, rfl, ?_, ⟨#[], 0, [], ?_, .nil, List.Pairwise.nil, fun _ _ => rfl⟩, ((Below.refl _ _).alloc (Nat.le_refl _) _).alloc (by simp) _, by omega, by omega⟩
  · have := heap_alloc_new (w.alloc (.map #[] 0)) (.cells #[.bool true, .bool false, .bool false, .bool false, .bool false, .bool false, .map (some w.heap.size)] 108)
    simp only [World.size_alloc] at this
    exact this
  · rw [Below.heap_alloc _ _ _ (by simp)]
    exact heap_alloc_new w _

set_option maxHeartbeats 1000000 in
set_option maxRecDepth 100000 in
theorem procsFork_dead {w : World} {tb mb : Nat} {L : Nat → Bool} (h : Tab w tb mb L) (p : Int) (hl : liveB L p = false) :
    Calls Tryz.prog 36 #[.pointer (some ⟨tb, 0, none⟩), .int .i64 p] w fun e w' => e = .returned (.tuple #[.int .i64 0, .int .i64 1]) ∧ w' = w := by
  have H := Hid.mk h
  clear h
  go_enter Tryz.func36, Tryz.ntmps36
  go_wp2_with (go_at_call 41; refine (check_dead H.out p hl).mono ?_; rintro e w' ⟨rfl, rfl⟩)
  go_ret2
  exact ⟨rfl, rfl⟩
set_option maxHeartbeats 1000000 in
set_option maxRecDepth 100000 in
theorem procsFork_full {w : World} {tb mb : Nat} {L : Nat → Bool} (h : Tab w tb mb L) (p : Int) (hl : liveB L p = true) (hf : ∀ j, j < 6 → L j = true) :
    Calls Tryz.prog 36 #[.pointer (some ⟨tb, 0, none⟩), .int .i64 p] w fun e w' => e = .returned (.tuple #[.int .i64 0, .int .i64 3]) ∧ w' = w := by
  have H := Hid.mk h
  have HF := Hid.mk hf
  clear h hf
  go_enter Tryz.func36, Tryz.ntmps36
  go_wp2_with (first
    | (go_at_call 41; refine (check_live H.out p hl).mono ?_; rintro e w' ⟨rfl, rfl⟩)
    | (go_at_call 54; refine (freeProc_none H.out HF.out).mono ?_; rintro e w' ⟨rfl, rfl⟩))
  go_ret2
  exact ⟨rfl, rfl⟩

set_option maxHeartbeats 4000000 in
set_option maxRecDepth 100000 in
theorem procsFork_ok {w : World} {tb mb : Nat} {L : Nat → Bool} {F : Int → Int → Option Nat} (h : Tab w tb mb L) (hm : MapAt w mb F) (p : Int) (hl : liveB L p = true) (c : Nat) (hc : c < 6) (h1 : ∀ j, j < c → L j = true) (h2 : L c = false) (hF : ∀ e, F c e = none) :
    Calls Tryz.prog 36 #[.pointer (some ⟨tb, 0, none⟩), .int .i64 p] w fun e w' => e = .returned (.tuple #[.int .i64 c, .int .i64 0]) ∧ Tab w' tb mb (updL L c true) ∧ MapAt w' mb (copyF F p c 5) ∧ Kp [tb, mb] w w' := by
  have hpc : ¬ p = (c : Int) := fun e => by
    rw [e] at hl; simp [liveB] at hl; rw [h2] at hl; exact absurd hl.2 (by simp)
  have hne : mb ≠ tb := fun e => by
    obtain ⟨es, ck, M, hb, _⟩ := hm
    unfold Tab at h
    rw [e, h] at hb
    cases hb
  have H := Hid.mk h
  have HM := Hid.mk hm
  have H1 := Hid.mk h1
  have H2 := Hid.mk h2
  have HF := Hid.mk hF
  have HP := Hid.mk hpc
  have hfz := h.frozen c
  have hcc := h.cell c hc
  have htl := h.lt
  have hml := hm.lt
  clear h hm h1 h2 hF hpc
  go_enter Tryz.func36, Tryz.ntmps36
  go_wp2_with (first
    | (go_at_call 41; refine (check_live H.out p hl).mono ?_; rintro e w' ⟨rfl, hw⟩; have hw2 := hw.symm; clear hw; subst hw2)
    | (go_at_call 54; refine (freeProc_some H.out c hc H1.out H2.out).mono ?_; rintro e w' ⟨rfl, hw⟩; have hw2 := hw.symm; clear hw; subst hw2))
  go_loopw [30] (fun s wr => ∃ k : Nat, s = .int .i64 k ∧ k ≤ 5 ∧ Hid (Tab wr tb mb (updL L c true)) ∧ Hid (MapAt wr mb (copyF F p c k)) ∧ Hid (Kp [tb, mb] w wr)) (fun s _ => 5 - (intOf s).toNat)
  case atStart => exact ⟨0, rfl, Nat.zero_le _, H.out.set c hc true, (HM.out.of_block (Below.heap_setCell _ _ _ _ hne)).congr (fun q e => by unfold copyF; rw [if_neg (by omega)]), Kp.setCell (by simp)⟩
  case round =>
    obtain ⟨k, rfl, hk, HT, HMk, HK⟩ := hrel
    have hmc : wr.cell? ⟨tb, 6, none⟩ = some (.map (some mb)) := HT.out.mapCell
    by_cases hlt : k < 5
    · have hlk := HMk.out.lookup wr rfl p k
      have e1 : copyF F p c k p k = F p k := by unfold copyF; rw [if_neg (fun hh => HP.out hh.1)]
      rw [e1] at hlk
      cases hf : F p k with
      | none =>
        rw [hf] at hlk
        simp only [ptrV, Option.map_none, Option.isSome_none] at hlk
        have HN := Hid.mk hf
        clear hf e1
        go_wp2
        go_roundw
        case rel =>
          refine ⟨k + 1, by go_num, by omega, HT.out, HMk.out.congr (fun q e => ?_), HK.out⟩
          unfold copyF
          by_cases hq : q = c ∧ e = k
          · obtain ⟨rfl, rfl⟩ := hq
            rw [if_neg (by omega), if_pos (by omega), HN.out, HF.out]
          · by_cases hq2 : q = c ∧ 0 ≤ e ∧ e < k
            · rw [if_pos hq2, if_pos (by omega)]
            · rw [if_neg hq2, if_neg (by omega)]
        case measure => simp [intOf]; omega
      | some b =>
        rw [hf] at hlk
        simp only [ptrV, Option.map_some, Option.isSome_some] at hlk
        obtain ⟨o', hu1, hu2⟩ := HMk.out.update c k (by unfold copyF; rw [if_neg (by omega)]; exact HF.out _) b
        have hup := hu1 wr rfl
        have HU := Hid.mk hu2
        have HN := Hid.mk hf
        clear hu1 hu2 hf e1
        go_wp2
        go_roundw
        case rel =>
          have hmw := HMk.out.lt
          refine ⟨k + 1, by go_num, by omega, HT.out.of_block (setBlock_other hne.symm), (HU.out _ (setBlock_same hmw)).congr (fun q e => ?_), HK.out.trans (Kp.gb gb_setBlock (by simp))⟩
          unfold updF copyF
          by_cases hq : q = c ∧ e = k
          · obtain ⟨rfl, rfl⟩ := hq
            rw [if_pos ⟨rfl, rfl⟩, if_pos (by omega), HN.out]
          · rw [if_neg hq]
            by_cases hq2 : q = c ∧ 0 ≤ e ∧ e < k
            · rw [if_pos hq2, if_pos (by omega)]
            · rw [if_neg hq2, if_neg (by omega)]
        case measure => simp [intOf]; omega
    · obtain rfl : k = 5 := by omega
      go_wp2
      go_ret2
      exact ⟨rfl, HT.out, HMk.out, HK.out⟩

theorem OpenAt.of_block {w w' : World} {b : Nat} {f : Int} (h : OpenAt w b f) (he : w'.heap[b]? = w.heap[b]?) : OpenAt w' b f := he.trans h

set_option maxHeartbeats 1000000 in
set_option maxRecDepth 100000 in
theorem procsOpen_dead {w : World} {tb mb : Nat} {L : Nat → Bool} (h : Tab w tb mb L) (p f : Int) (hl : liveB L p = false) :
    Calls Tryz.prog 23 #[.pointer (some ⟨tb, 0, none⟩), .int .i64 p, .int .i64 f] w fun e w' => e = .returned (.tuple #[.int .i64 0, .int .i64 1]) ∧ w' = w := by
  have H := Hid.mk h
  clear h
  go_enter Tryz.func23, Tryz.ntmps23
  go_wp2_with (go_at_call 41; refine (check_dead H.out p hl).mono ?_; rintro e w' ⟨rfl, rfl⟩)
  go_ret2
  exact ⟨rfl, rfl⟩
set_option maxHeartbeats 1000000 in
set_option maxRecDepth 100000 in
theorem procsOpen_file {w : World} {tb mb : Nat} {L : Nat → Bool} (h : Tab w tb mb L) (p f : Int) (hl : liveB L p = true) (hf : f < 0 ∨ 3 ≤ f) :
    Calls Tryz.prog 23 #[.pointer (some ⟨tb, 0, none⟩), .int .i64 p, .int .i64 f] w fun e w' => e = .returned (.tuple #[.int .i64 0, .int .i64 4]) ∧ w' = w := by
  have H := Hid.mk h
  clear h
  rcases hf with hf | hf
  · go_enter Tryz.func23, Tryz.ntmps23
    go_wp2_with (go_at_call 41; refine (check_live H.out p hl).mono ?_; rintro e w' ⟨rfl, rfl⟩)
    go_ret2
    exact ⟨rfl, rfl⟩
  · have hf0 : 0 ≤ f := by omega
    go_enter Tryz.func23, Tryz.ntmps23
    go_wp2_with (go_at_call 41; refine (check_live H.out p hl).mono ?_; rintro e w' ⟨rfl, rfl⟩)
    go_ret2
    exact ⟨rfl, rfl⟩
set_option maxHeartbeats 1000000 in
set_option maxRecDepth 100000 in
theorem procsOpen_full {w : World} {tb mb : Nat} {L : Nat → Bool} {F : Int → Int → Option Nat} (h : Tab w tb mb L) (hm : MapAt w mb F) (p f : Int) (hl : liveB L p = true) (hf0 : 0 ≤ f) (hf1 : f < 3) (h1 : ∀ j : Nat, j < 5 → (F p j).isSome = true) :
    Calls Tryz.prog 23 #[.pointer (some ⟨tb, 0, none⟩), .int .i64 p, .int .i64 f] w fun e w' => e = .returned (.tuple #[.int .i64 0, .int .i64 3]) ∧ Below w.heap.size w w' := by
  have H := Hid.mk h
  have HG := Hid.mk (fun ob => give_none (w := w.alloc (.cells #[.int .i64 f] 97)) (h.of_block (Below.heap_alloc _ _ _ h.lt)) (hm.of_block (Below.heap_alloc _ _ _ hm.lt)) p ob h1)
  clear h hm h1
  go_enter Tryz.func23, Tryz.ntmps23
  go_wp2_with (first
    | (go_at_call 41; refine (check_live H.out p hl).mono ?_; rintro e w' ⟨rfl, hw⟩; have hw2 := hw.symm; clear hw; subst hw2)
    | (go_at_call 42; refine (HG.out _).mono ?_; rintro e w' ⟨rfl, hb⟩))
  go_ret2
  exact ⟨rfl, ((Below.refl _ _).alloc (Nat.le_refl _) _).trans (hb.mono (by simp))⟩
set_option maxHeartbeats 1000000 in
set_option maxRecDepth 100000 in
theorem procsOpen_ok {w : World} {tb mb : Nat} {L : Nat → Bool} {F : Int → Int → Option Nat} (h : Tab w tb mb L) (hm : MapAt w mb F) (p f : Int) (hl : liveB L p = true) (hf0 : 0 ≤ f) (hf1 : f < 3) (d : Nat) (hd : d < 5) (h1 : ∀ j : Nat, j < d → (F p j).isSome = true) (h2 : F p d = none) :
    Calls Tryz.prog 23 #[.pointer (some ⟨tb, 0, none⟩), .int .i64 p, .int .i64 f] w fun e w' => e = .returned (.tuple #[.int .i64 d, .int .i64 0]) ∧ OpenAt w' w.heap.size f ∧ MapAt w' mb (updF F p d (some w.heap.size)) ∧ Kp [mb] w w' := by
  have H := Hid.mk h
  have hml := hm.lt
  have HG := Hid.mk (fun ob => give_some (w := w.alloc (.cells #[.int .i64 f] 97)) (h.of_block (Below.heap_alloc _ _ _ h.lt)) (hm.of_block (Below.heap_alloc _ _ _ hm.lt)) p ob d hd h1 h2)
  clear h hm h1 h2
  go_enter Tryz.func23, Tryz.ntmps23
  go_wp2_with (first
    | (go_at_call 41; refine (check_live H.out p hl).mono ?_; rintro e w' ⟨rfl, hw⟩; have hw2 := hw.symm; clear hw; subst hw2)
    | (go_at_call 42; refine (HG.out _).mono ?_; rintro e w' ⟨rfl, hma, hgb⟩))
  go_ret2
  refine ⟨rfl, ?_, hma, (Kp.below ((Below.refl _ _).alloc (Nat.le_refl _) _)).trans (Kp.gb hgb (by simp))⟩
  show w'.heap[w.heap.size]? = _
  rw [hgb.block w.heap.size (by simp) (by simp; omega)]
  exact heap_alloc_new w _
end Go.Proofs.YtaicdjhblbobbabGreat
