/- Contracts of package queue, on: who bites, one more, one less. -/
import Derived.Test.YtaicdjhblbobbabGreatGWhole
import Derived.Lib.SliceRun
namespace Go.Proofs.YtaicdjhblbobbabGreat
open Go.RowKit Go.Lib

def qbP (l : List Ask) (a : Ask) : List Int := (l.filter fun b => bitesQ b a).map (·.p)
theorem qbP_snoc {l : List Ask} {a : Ask} {n : Nat} {x : Ask} (h : l[n]? = some x) : qbP (l.take (n + 1)) a = qbP (l.take n) a ++ (if bitesQ x a = true then [x.p] else []) := by
  unfold qbP
  rw [List.take_add_one, h, List.filter_append, List.map_append]
  congr 1
  cases hb : bitesQ x a <;> simp [hb]
theorem qbP_len (l : List Ask) (a : Ask) : (qbP l a).length ≤ l.length := by
  unfold qbP; rw [List.length_map]; exact List.length_filter_le _ _
def Ask.boxed (a : Ask) : Obj := .cells #[.int .i64 a.p, .int .i64 a.file, .int .i64 a.rn.p, .int .i64 a.rn.k, .int .i64 a.rn.f, .int .i64 a.rn.t, ptrV a.ow, .int .i64 a.wk] 93
/-- The box of an argument. -/
theorem boxed_at {w W : World} {B : Nat} {a : Ask} (h : Below B (w.alloc a.boxed) W) (hB : w.heap.size < B) : W.cell? ⟨w.heap.size, 0, none⟩ = some (.int .i64 a.p) ∧ W.cell? ⟨w.heap.size, 1, none⟩ = some (.int .i64 a.file) ∧ W.cell? ⟨w.heap.size, 2, none⟩ = some (.int .i64 a.rn.p) ∧ W.cell? ⟨w.heap.size, 3, none⟩ = some (.int .i64 a.rn.k) ∧ W.cell? ⟨w.heap.size, 4, none⟩ = some (.int .i64 a.rn.f) ∧ W.cell? ⟨w.heap.size, 5, none⟩ = some (.int .i64 a.rn.t) ∧ W.cell? ⟨w.heap.size, 6, none⟩ = some (ptrV a.ow) ∧ W.cell? ⟨w.heap.size, 7, none⟩ = some (.int .i64 a.wk) := by
  have e := heap_alloc_new w a.boxed
  refine ⟨?_, ?_, ?_, ?_, ?_, ?_, ?_, ?_⟩ <;> (rw [h.cell (p := ⟨w.heap.size, _, none⟩) hB]; simp only [World.cell?, e]; rfl)

set_option maxHeartbeats 4000000 in
set_option maxRecDepth 100000 in
theorem qBiters_any {v : Value} {l : List Ask} (b : Ask) {w : World} (hv : w.ownsRow 0 93 8 v l.length (flatQ l)) (hl : l.length < 1000) (hO : ∀ x, x ∈ l → ∀ y, x.ow = some y → Opn w y) (hb : ∀ y, b.ow = some y → Opn w y) :
    Calls Tryz.prog 82 #[v, askV b] w fun e w' => ∃ v', e = .returned v' ∧ w'.ownsRow w.heap.size 3 1 v' (qbP l b).length (ints (qbP l b)) ∧ Below w.heap.size w w' := by
  obtain ⟨a, c, rfl⟩ := own_form hv
  have HV := Hid.mk hv
  have HOp := Hid.mk hO
  have HoP := Hid.mk hb
  clear hv hO hb
  have HAV := Hid.mk (show askV b = .agg #[.int .i64 b.p, .int .i64 b.file, .int .i64 b.rn.p, .int .i64 b.rn.k, .int .i64 b.rn.f, .int .i64 b.rn.t, ptrV b.ow, .int .i64 b.wk] from rfl)
  rw [HAV.out]
  go_enter Tryz.func82, Tryz.ntmps82
  go_wp2
  go_loopw [5, 10] (fun s5 s10 wr => ∃ n : Nat, s10 = .int .i64 n ∧ n ≤ l.length ∧ Hid (wr.ownsRow (w.heap.size + 1) 3 1 s5 (qbP (l.take n) b).length (ints (qbP (l.take n) b))) ∧ Hid (Below (w.heap.size + 1) (w.alloc b.boxed) wr)) (fun _ s10 _ => l.length - (intOf s10).toNat)
  case atStart => exact ⟨0, rfl, Nat.zero_le _, World.ownsRow_nil _ _ _ _, Below.refl _ _⟩
  case round =>
    obtain ⟨n, rfl, hn, HO, HB⟩ := hrel
    have hsz : w.heap.size + 1 ≤ wr.heap.size := by have := HB.out.size; simpa using this
    by_cases hlt : n < l.length
    · obtain ⟨x, hx⟩ : ∃ x, l[n]? = some x := ⟨_, List.getElem?_eq_getElem hlt⟩
      obtain ⟨g, rfl, _, hg, _, hat⟩ := askAt HV.out hx
      have hlt' : (n : Int) < (l.length : Int) := by omega
      have hb1 : Below w.heap.size w wr := ((Below.refl w.heap.size w).alloc (Nat.le_refl _) _).trans (HB.out.mono (Nat.le_succ _))
      obtain ⟨c0, c1, c2, c3, c4, c5, c6, c7⟩ := hat.below hb1 hg
      obtain ⟨d0, d1, d2, d3, d4, d5, d6, d7⟩ := boxed_at HB.out (Nat.lt_succ_self _)
      have HS := Hid.mk (qbP_snoc (a := b) hx)
      have hln := qbP_len (l.take n) b
      simp only [List.length_take] at hln
      have hgw : g < wr.heap.size := by omega
      have hww : w.heap.size < wr.heap.size := by omega
      have hb2 := (Below.refl wr.heap.size wr).alloc (Nat.le_refl _) x.boxed
      have HC := Hid.mk (qbites_any x b (wr.alloc x.boxed) (fun y e => ((HOp.out x (List.mem_of_getElem? hx) y e).below hb1).below hb2) (fun y e => ((HoP.out y e).below hb1).below hb2))
      unfold askV at HC
      unfold Ask.boxed at HC
      clear hat hx hb1 hb2
      unfold ptrV at *
      generalize x.ow.map (fun b => (⟨b, 0, none⟩ : Addr)) = A at *
      cases hbt : bitesQ x b
      · have HT := Hid.mk hbt
        rw [hbt] at HC
        clear hbt
        go_wp2_with (go_at_call 104; refine HC.out.mono ?_; rintro e w1 ⟨rfl, hb2⟩; have HB2 := Hid.mk hb2; clear hb2)
        go_roundw
        case rel =>
          have hz2 := HB2.out.size
          simp at hz2
          have hbw : Below wr.heap.size wr w1 := ((Below.refl _ _).alloc (Nat.le_refl _) _).trans (HB2.out.mono (by simp))
          refine ⟨n + 1, by go_num, by omega, ?_, HB.out.trans (hbw.mono (by omega))⟩
          rw [HS.out, HT.out]
          simp only [Bool.false_eq_true, if_false, List.append_nil]
          exact own_below HO.out hbw
        case measure => simp [intOf]; omega
      · have HT := Hid.mk hbt
        rw [hbt] at HC
        clear hbt
        go_wp2_with (first
          | (go_at_call 104; refine HC.out.mono ?_; rintro e w1 ⟨rfl, hb2⟩; have hz2 := hb2.size; simp at hz2; have e0 : w1.cell? ⟨wr.heap.size, 0, none⟩ = some (.int .i64 x.p) := ((bcells hb2).1 _ _ (by simp)).trans (by simp); have HB2 := Hid.mk hb2; clear hb2)
          | (at_builtin; refine wpList_snoc rfl _ _ _ rfl Tryz.underlying22 Tryz.infoInt rfl (by decide) (by decide) rfl (own_below HO.out (((Below.refl _ _).alloc (Nat.le_refl _) _).trans (HB2.out.mono (by simp)))) (by omega) (by omega) (cs := #[.int .i64 x.p]) rfl (by simp) rfl (by simp [Value.oneCell']) ?_; intro v2 w2 ho2 hb3 hz3 hold3; have HO2 := Hid.mk ho2; have HB3 := Hid.mk hb3; clear ho2 hb3 hold3))
        go_roundw
        case rel =>
          have hbw : Below wr.heap.size wr w1 := ((Below.refl _ _).alloc (Nat.le_refl _) _).trans (HB2.out.mono (by simp))
          refine ⟨n + 1, by go_num, by omega, ?_, ?_⟩
          · rw [HS.out, HT.out]
            simp only [if_true, List.length_append, ints_snoc]
            exact HO2.out
          · exact (HB.out.trans (hbw.mono hsz)).trans HB3.out
        case measure => simp [intOf]; omega
    · obtain rfl : n = l.length := by omega
      have HO3 := HO.out
      rw [List.take_of_length_le (Nat.le_refl _)] at HO3
      have HO4 := Hid.mk HO3
      clear HO3
      go_wp2
      go_ret
      exact ⟨_, rfl, own_mono HO4.out (Nat.le_succ _), ((Below.refl w.heap.size w).alloc (Nat.le_refl _) _).trans (HB.out.mono (Nat.le_succ _))⟩

set_option maxHeartbeats 1000000 in
set_option maxRecDepth 100000 in
theorem OfWhole_any (a : Ask) (w : World) :
    Calls Tryz.prog 83 #[askV a] w fun e w' => e = .returned (.bool a.whole) ∧ Below w.heap.size w w' := by
  cases ha : a.whole
  · have e1 : a.ow = none := by simp [Ask.ow, ha]
    unfold askV
    rw [e1]
    simp only [ptrV, Option.map_none]
    go_enter Tryz.func83, Tryz.ntmps83
    go_wp2
    go_ret
    exact ⟨rfl, (Below.refl _ _).alloc (Nat.le_refl _) _⟩
  · have e1 : a.ow = some a.o := by simp [Ask.ow, ha]
    unfold askV
    rw [e1]
    simp only [ptrV, Option.map_some]
    go_enter Tryz.func83, Tryz.ntmps83
    go_wp2
    go_ret
    exact ⟨rfl, (Below.refl _ _).alloc (Nat.le_refl _) _⟩
end Go.Proofs.YtaicdjhblbobbabGreat
