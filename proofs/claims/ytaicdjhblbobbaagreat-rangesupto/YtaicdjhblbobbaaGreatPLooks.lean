/- Does every list still read as its owner wrote it? -/
import Derived.Test.YtaicdjhblbobbaaGreatPDeskG
namespace Go.Proofs.YtaicdjhblbobbaaGreat
open Go.RowKit Go.Lib

set_option maxHeartbeats 4000000 in
set_option maxRecDepth 100000 in
theorem fullInts {w : World} {m : Int} {v : Value} {k : Nat} (h : Mk w 3 (csI m) v k k) (hk : k ≤ 10000000000) :
    Calls Tryz.prog 67 #[v, .int .i64 m] w fun r w' => r = .returned (.bool true) ∧ w' = w := by
  obtain ⟨va, vc, rfl⟩ := h.form
  have HM := Hid.mk h
  clear h
  go_enter Tryz.func67, Tryz.ntmps67
  go_wp2
  go_loop [5] (fun s5 => ∃ n : Nat, s5 = .int .i64 n ∧ n ≤ k) (fun s5 => k - (intOf s5).toNat)
  case atStart => exact ⟨0, rfl, Nat.zero_le _⟩
  case round =>
    obtain ⟨n, rfl, hn⟩ := hrel
    by_cases hlt : n < k
    · have hlt' : (n : Int) < (k : Int) := by omega
      obtain ⟨g, cap, he, hg, hkc, hc, _, _⟩ := HM.out.elem (by omega)
      cases he
      have q0 : w.cell? ⟨g, n, none⟩ = some (.int .i64 m) := by
        have hq := hc (n) (by rw [show (csI m).length = 1 from rfl]; omega)
        rw [hq, show (csI m).length = 1 from rfl, show (n) % 1 = 0 by omega]
        rfl
      clear hc
      go_wp2
      go_round
      case rel => exact ⟨n + 1, by go_num, by omega⟩
      case measure => simp [intOf]; omega
    · obtain rfl : n = k := by omega
      go_wp2
      go_ret
      exact ⟨rfl, rfl⟩
set_option maxHeartbeats 4000000 in
set_option maxRecDepth 100000 in
theorem fullDones {w : World} {m : Int} {v : Value} {k : Nat} (h : Mk w 57 (csD m) v k k) (hk : k ≤ 10000000000) :
    Calls Tryz.prog 68 #[v, .int .i64 m] w fun r w' => r = .returned (.bool true) ∧ w' = w := by
  obtain ⟨va, vc, rfl⟩ := h.form
  have HM := Hid.mk h
  clear h
  go_enter Tryz.func68, Tryz.ntmps68
  go_wp2
  go_loop [5] (fun s5 => ∃ n : Nat, s5 = .int .i64 n ∧ n ≤ k) (fun s5 => k - (intOf s5).toNat)
  case atStart => exact ⟨0, rfl, Nat.zero_le _⟩
  case round =>
    obtain ⟨n, rfl, hn⟩ := hrel
    by_cases hlt : n < k
    · have hlt' : (n : Int) < (k : Int) := by omega
      obtain ⟨g, cap, he, hg, hkc, hc, _, _⟩ := HM.out.elem (by omega)
      cases he
      have q0 : w.cell? ⟨g, n * 2, none⟩ = some (.int .i64 m) := by
        have hq := hc (n * 2) (by rw [show (csD m).length = 2 from rfl]; omega)
        rw [hq, show (csD m).length = 2 from rfl, show (n * 2) % 2 = 0 by omega]
        rfl
      have q1 : w.cell? ⟨g, n * 2 + 1, none⟩ = some (.int .i64 0) := by
        have hq := hc (n * 2 + 1) (by rw [show (csD m).length = 2 from rfl]; omega)
        rw [hq, show (csD m).length = 2 from rfl, show (n * 2 + 1) % 2 = 1 by omega]
        rfl
      clear hc
      go_wp2
      go_round
      case rel => exact ⟨n + 1, by go_num, by omega⟩
      case measure => simp [intOf]; omega
    · obtain rfl : n = k := by omega
      go_wp2
      go_ret
      exact ⟨rfl, rfl⟩
set_option maxHeartbeats 4000000 in
set_option maxRecDepth 100000 in
theorem fullRuns {w : World} {m : Int} {v : Value} {k : Nat} (h : Mk w 41 (csR m) v k k) (hk : k ≤ 10000000000) :
    Calls Tryz.prog 69 #[v, .int .i64 m] w fun r w' => r = .returned (.bool true) ∧ w' = w := by
  obtain ⟨va, vc, rfl⟩ := h.form
  have HM := Hid.mk h
  clear h
  go_enter Tryz.func69, Tryz.ntmps69
  go_wp2
  go_loop [5] (fun s5 => ∃ n : Nat, s5 = .int .i64 n ∧ n ≤ k) (fun s5 => k - (intOf s5).toNat)
  case atStart => exact ⟨0, rfl, Nat.zero_le _⟩
  case round =>
    obtain ⟨n, rfl, hn⟩ := hrel
    by_cases hlt : n < k
    · have hlt' : (n : Int) < (k : Int) := by omega
      obtain ⟨g, cap, he, hg, hkc, hc, _, _⟩ := HM.out.elem (by omega)
      cases he
      have q0 : w.cell? ⟨g, n * 4, none⟩ = some (.int .i64 m) := by
        have hq := hc (n * 4) (by rw [show (csR m).length = 4 from rfl]; omega)
        rw [hq, show (csR m).length = 4 from rfl, show (n * 4) % 4 = 0 by omega]
        rfl
      have q1 : w.cell? ⟨g, n * 4 + 1, none⟩ = some (.int .i64 0) := by
        have hq := hc (n * 4 + 1) (by rw [show (csR m).length = 4 from rfl]; omega)
        rw [hq, show (csR m).length = 4 from rfl, show (n * 4 + 1) % 4 = 1 by omega]
        rfl
      have q2 : w.cell? ⟨g, n * 4 + 2, none⟩ = some (.int .i64 0) := by
        have hq := hc (n * 4 + 2) (by rw [show (csR m).length = 4 from rfl]; omega)
        rw [hq, show (csR m).length = 4 from rfl, show (n * 4 + 2) % 4 = 2 by omega]
        rfl
      have q3 : w.cell? ⟨g, n * 4 + 3, none⟩ = some (.int .i64 0) := by
        have hq := hc (n * 4 + 3) (by rw [show (csR m).length = 4 from rfl]; omega)
        rw [hq, show (csR m).length = 4 from rfl, show (n * 4 + 3) % 4 = 3 by omega]
        rfl
      clear hc
      go_wp2
      go_round
      case rel => exact ⟨n + 1, by go_num, by omega⟩
      case measure => simp [intOf]; omega
    · obtain rfl : n = k := by omega
      go_wp2
      go_ret
      exact ⟨rfl, rfl⟩
set_option maxHeartbeats 4000000 in
set_option maxRecDepth 100000 in
theorem fullWholes {w : World} {m : Int} {v : Value} {k : Nat} (h : Mk w 55 (csH m) v k k) (hk : k ≤ 10000000000) :
    Calls Tryz.prog 70 #[v, .int .i64 m] w fun r w' => r = .returned (.bool true) ∧ w' = w := by
  obtain ⟨va, vc, rfl⟩ := h.form
  have HM := Hid.mk h
  clear h
  go_enter Tryz.func70, Tryz.ntmps70
  go_wp2
  go_loop [5] (fun s5 => ∃ n : Nat, s5 = .int .i64 n ∧ n ≤ k) (fun s5 => k - (intOf s5).toNat)
  case atStart => exact ⟨0, rfl, Nat.zero_le _⟩
  case round =>
    obtain ⟨n, rfl, hn⟩ := hrel
    by_cases hlt : n < k
    · have hlt' : (n : Int) < (k : Int) := by omega
      obtain ⟨g, cap, he, hg, hkc, hc, _, _⟩ := HM.out.elem (by omega)
      cases he
      have q0 : w.cell? ⟨g, n * 2, none⟩ = some (.int .i64 m) := by
        have hq := hc (n * 2) (by rw [show (csH m).length = 2 from rfl]; omega)
        rw [hq, show (csH m).length = 2 from rfl, show (n * 2) % 2 = 0 by omega]
        rfl
      have q1 : w.cell? ⟨g, n * 2 + 1, none⟩ = some (.slice none 0 0) := by
        have hq := hc (n * 2 + 1) (by rw [show (csH m).length = 2 from rfl]; omega)
        rw [hq, show (csH m).length = 2 from rfl, show (n * 2 + 1) % 2 = 1 by omega]
        rfl
      clear hc
      go_wp2
      go_round
      case rel => exact ⟨n + 1, by go_num, by omega⟩
      case measure => simp [intOf]; omega
    · obtain rfl : n = k := by omega
      go_wp2
      go_ret
      exact ⟨rfl, rfl⟩
set_option maxHeartbeats 16000000 in
set_option maxRecDepth 100000 in
theorem bLooks {w : World} {wb : Nat} {P : Nat → Prop} {N : Nat} {ks ds : List Nat} {xv yv iv dv rv fv : Value} {n : Int} {ei ed er ef : List En} (h : WB w wb P N ks ds xv yv iv dv rv fv n ei ed er ef) (hN : N ≤ 1000000000) :
    Calls Tryz.prog 39 #[.pointer (some ⟨wb, 2, none⟩)] w fun r w' => r = .returned (.bool true) ∧ Below w.heap.size w w' := by
  have hwb := h.lt
  have HRI : Hid (∀ W, Below w.heap.size w W → W.cell? ⟨wb, 3, none⟩ = some iv ∧ BkRow W 115 3 csI P iv ei) := fun W hW => by
    have hf := h.frame (w' := W) (P' := P) fun b hp hb => ⟨hW.block b hb, hp⟩
    exact ⟨hf.cell 3, hf.i⟩
  have hlI : ei.length ≤ 1000000000 := Nat.le_trans h.li hN
  have HRD : Hid (∀ W, Below w.heap.size w W → W.cell? ⟨wb, 4, none⟩ = some dv ∧ BkRow W 118 57 csD P dv ed) := fun W hW => by
    have hf := h.frame (w' := W) (P' := P) fun b hp hb => ⟨hW.block b hb, hp⟩
    exact ⟨hf.cell 4, hf.d⟩
  have hlD : ed.length ≤ 1000000000 := Nat.le_trans h.ld hN
  have HRR : Hid (∀ W, Below w.heap.size w W → W.cell? ⟨wb, 5, none⟩ = some rv ∧ BkRow W 121 41 csR P rv er) := fun W hW => by
    have hf := h.frame (w' := W) (P' := P) fun b hp hb => ⟨hW.block b hb, hp⟩
    exact ⟨hf.cell 5, hf.r⟩
  have hlR : er.length ≤ 1000000000 := Nat.le_trans h.lr hN
  have HRF : Hid (∀ W, Below w.heap.size w W → W.cell? ⟨wb, 6, none⟩ = some fv ∧ BkRow W 124 55 csH P fv ef) := fun W hW => by
    have hf := h.frame (w' := W) (P' := P) fun b hp hb => ⟨hW.block b hb, hp⟩
    exact ⟨hf.cell 6, hf.f⟩
  have hlF : ef.length ≤ 1000000000 := Nat.le_trans h.lf hN
  clear h hN
  obtain ⟨iva, ivc, hive⟩ := own_form (HRI.out w (Below.refl _ _)).2.own
  subst hive
  obtain ⟨dva, dvc, hdve⟩ := own_form (HRD.out w (Below.refl _ _)).2.own
  subst hdve
  obtain ⟨rva, rvc, hrve⟩ := own_form (HRR.out w (Below.refl _ _)).2.own
  subst hrve
  obtain ⟨fva, fvc, hfve⟩ := own_form (HRF.out w (Below.refl _ _)).2.own
  subst hfve
  go_enter Tryz.func39, Tryz.ntmps39
  go_wp2
  go_loopw [3, 4, 5, 6, 7, 8, 9] (fun s3 s4 _ _ _ _ _ wr => ∃ i : Nat, s3 = .bool true ∧ s4 = .int .i64 i ∧ i ≤ ei.length ∧ Hid (Below w.heap.size w wr)) (fun _ s4 _ _ _ _ _ _ => ei.length - (intOf s4).toNat)
  case atStart => exact ⟨0, rfl, rfl, Nat.zero_le _, Below.refl _ _⟩
  case round =>
    obtain ⟨iI, rfl, rfl, hiI, HBI⟩ := hrel
    have hszI : w.heap.size ≤ wr.heap.size := HBI.out.size
    obtain ⟨ccI, hrowI⟩ := HRI.out wr HBI.out
    by_cases hltI : iI < ei.length
    · have hlt' : (iI : Int) < (ei.length : Int) := by omega
      obtain ⟨x, hx⟩ : ∃ x, ei[iI]? = some x := ⟨_, List.getElem?_eq_getElem hltI⟩
      obtain ⟨g, rfl, hg, c0, c1, c2, c3, c4⟩ := hrowI.get hx
      have hok := hrowI.ok x (List.mem_of_getElem? hx)
      have hxn := hok.s
      obtain ⟨la, lc, hle⟩ := hok.l.form
      obtain ⟨aa, ac, hae⟩ := hok.a.form
      obtain ⟨ba, bc, hbe⟩ := hok.b.form
      obtain ⟨ca, cc, hce⟩ := hok.c.form
      rw [hle] at c0
      rw [hae] at c1
      rw [hbe] at c2
      rw [hce] at c3
      have HL := Hid.mk (hok.l.alloc (.cells #[.slice la x.n lc, .slice aa (x.n + 1) ac, .slice ba (x.n + 2) bc, .slice ca (x.n + 3) cc, .int .i64 x.m] 115))
      have HA := Hid.mk (hok.a.alloc (.cells #[.slice la x.n lc, .slice aa (x.n + 1) ac, .slice ba (x.n + 2) bc, .slice ca (x.n + 3) cc, .int .i64 x.m] 115))
      have HBb := Hid.mk (hok.b.alloc (.cells #[.slice la x.n lc, .slice aa (x.n + 1) ac, .slice ba (x.n + 2) bc, .slice ca (x.n + 3) cc, .int .i64 x.m] 115))
      have HC := Hid.mk (hok.c.alloc (.cells #[.slice la x.n lc, .slice aa (x.n + 1) ac, .slice ba (x.n + 2) bc, .slice ca (x.n + 3) cc, .int .i64 x.m] 115))
      rw [hle] at HL
      rw [hae] at HA
      rw [hbe] at HBb
      rw [hce] at HC
      clear hle hae hbe hce hok hrowI hx
      go_wp2_with (go_at_call 67; (first | refine Calls.mono (fullInts HL.out (by omega)) ?_ | refine Calls.mono (fullInts HA.out (by omega)) ?_ | refine Calls.mono (fullInts HBb.out (by omega)) ?_ | refine Calls.mono (fullInts HC.out (by omega)) ?_); rintro r w1 ⟨rfl, hw⟩; have hw2 := hw.symm; clear hw; subst hw2)
      go_roundw
      case rel => exact ⟨iI + 1, rfl, by go_num, by omega, HBI.out.alloc hszI _⟩
      case measure => simp [intOf]; omega
    · have HEI : Hid (iI = ei.length) := by show _ = _; omega
      have hnoI : ¬ ((iI : Int) < (ei.length : Int)) := by omega
      clear hrowI
      go_wp2
      go_loopw [3, 10, 11, 12, 13, 14, 15] (fun s3 s10 _ _ _ _ _ wr => ∃ i : Nat, s3 = .bool true ∧ s10 = .int .i64 i ∧ i ≤ ed.length ∧ Hid (Below w.heap.size w wr)) (fun _ s10 _ _ _ _ _ _ => ed.length - (intOf s10).toNat)
      case atStart => exact ⟨0, rfl, rfl, Nat.zero_le _, HBI.out⟩
      case round =>
        obtain ⟨iD, rfl, rfl, hiD, HBD⟩ := hrel
        have hszD : w.heap.size ≤ wr.heap.size := HBD.out.size
        obtain ⟨ccD, hrowD⟩ := HRD.out wr HBD.out
        by_cases hltD : iD < ed.length
        · have hlt' : (iD : Int) < (ed.length : Int) := by omega
          obtain ⟨x, hx⟩ : ∃ x, ed[iD]? = some x := ⟨_, List.getElem?_eq_getElem hltD⟩
          obtain ⟨g, rfl, hg, c0, c1, c2, c3, c4⟩ := hrowD.get hx
          have hok := hrowD.ok x (List.mem_of_getElem? hx)
          have hxn := hok.s
          obtain ⟨la, lc, hle⟩ := hok.l.form
          obtain ⟨aa, ac, hae⟩ := hok.a.form
          obtain ⟨ba, bc, hbe⟩ := hok.b.form
          obtain ⟨ca, cc, hce⟩ := hok.c.form
          rw [hle] at c0
          rw [hae] at c1
          rw [hbe] at c2
          rw [hce] at c3
          have HL := Hid.mk (hok.l.alloc (.cells #[.slice la x.n lc, .slice aa (x.n + 1) ac, .slice ba (x.n + 2) bc, .slice ca (x.n + 3) cc, .int .i64 x.m] 118))
          have HA := Hid.mk (hok.a.alloc (.cells #[.slice la x.n lc, .slice aa (x.n + 1) ac, .slice ba (x.n + 2) bc, .slice ca (x.n + 3) cc, .int .i64 x.m] 118))
          have HBb := Hid.mk (hok.b.alloc (.cells #[.slice la x.n lc, .slice aa (x.n + 1) ac, .slice ba (x.n + 2) bc, .slice ca (x.n + 3) cc, .int .i64 x.m] 118))
          have HC := Hid.mk (hok.c.alloc (.cells #[.slice la x.n lc, .slice aa (x.n + 1) ac, .slice ba (x.n + 2) bc, .slice ca (x.n + 3) cc, .int .i64 x.m] 118))
          rw [hle] at HL
          rw [hae] at HA
          rw [hbe] at HBb
          rw [hce] at HC
          clear hle hae hbe hce hok hrowD hx
          go_wp2_with (go_at_call 68; (first | refine Calls.mono (fullDones HL.out (by omega)) ?_ | refine Calls.mono (fullDones HA.out (by omega)) ?_ | refine Calls.mono (fullDones HBb.out (by omega)) ?_ | refine Calls.mono (fullDones HC.out (by omega)) ?_); rintro r w1 ⟨rfl, hw⟩; have hw2 := hw.symm; clear hw; subst hw2)
          go_roundw
          case rel => exact ⟨iD + 1, rfl, by go_num, by omega, HBD.out.alloc hszD _⟩
          case measure => simp [intOf]; omega
        · have HED : Hid (iD = ed.length) := by show _ = _; omega
          have hnoD : ¬ ((iD : Int) < (ed.length : Int)) := by omega
          clear hrowD
          go_wp2
          go_loopw [3, 16, 17, 18, 19, 20, 21] (fun s3 s16 _ _ _ _ _ wr => ∃ i : Nat, s3 = .bool true ∧ s16 = .int .i64 i ∧ i ≤ er.length ∧ Hid (Below w.heap.size w wr)) (fun _ s16 _ _ _ _ _ _ => er.length - (intOf s16).toNat)
          case atStart => exact ⟨0, rfl, rfl, Nat.zero_le _, HBD.out⟩
          case round =>
            obtain ⟨iR, rfl, rfl, hiR, HBR⟩ := hrel
            have hszR : w.heap.size ≤ wr.heap.size := HBR.out.size
            obtain ⟨ccR, hrowR⟩ := HRR.out wr HBR.out
            by_cases hltR : iR < er.length
            · have hlt' : (iR : Int) < (er.length : Int) := by omega
              obtain ⟨x, hx⟩ : ∃ x, er[iR]? = some x := ⟨_, List.getElem?_eq_getElem hltR⟩
              obtain ⟨g, rfl, hg, c0, c1, c2, c3, c4⟩ := hrowR.get hx
              have hok := hrowR.ok x (List.mem_of_getElem? hx)
              have hxn := hok.s
              obtain ⟨la, lc, hle⟩ := hok.l.form
              obtain ⟨aa, ac, hae⟩ := hok.a.form
              obtain ⟨ba, bc, hbe⟩ := hok.b.form
              obtain ⟨ca, cc, hce⟩ := hok.c.form
              rw [hle] at c0
              rw [hae] at c1
              rw [hbe] at c2
              rw [hce] at c3
              have HL := Hid.mk (hok.l.alloc (.cells #[.slice la x.n lc, .slice aa (x.n + 1) ac, .slice ba (x.n + 2) bc, .slice ca (x.n + 3) cc, .int .i64 x.m] 121))
              have HA := Hid.mk (hok.a.alloc (.cells #[.slice la x.n lc, .slice aa (x.n + 1) ac, .slice ba (x.n + 2) bc, .slice ca (x.n + 3) cc, .int .i64 x.m] 121))
              have HBb := Hid.mk (hok.b.alloc (.cells #[.slice la x.n lc, .slice aa (x.n + 1) ac, .slice ba (x.n + 2) bc, .slice ca (x.n + 3) cc, .int .i64 x.m] 121))
              have HC := Hid.mk (hok.c.alloc (.cells #[.slice la x.n lc, .slice aa (x.n + 1) ac, .slice ba (x.n + 2) bc, .slice ca (x.n + 3) cc, .int .i64 x.m] 121))
              rw [hle] at HL
              rw [hae] at HA
              rw [hbe] at HBb
              rw [hce] at HC
              clear hle hae hbe hce hok hrowR hx
              go_wp2_with (go_at_call 69; (first | refine Calls.mono (fullRuns HL.out (by omega)) ?_ | refine Calls.mono (fullRuns HA.out (by omega)) ?_ | refine Calls.mono (fullRuns HBb.out (by omega)) ?_ | refine Calls.mono (fullRuns HC.out (by omega)) ?_); rintro r w1 ⟨rfl, hw⟩; have hw2 := hw.symm; clear hw; subst hw2)
              go_roundw
              case rel => exact ⟨iR + 1, rfl, by go_num, by omega, HBR.out.alloc hszR _⟩
              case measure => simp [intOf]; omega
            · have HER : Hid (iR = er.length) := by show _ = _; omega
              have hnoR : ¬ ((iR : Int) < (er.length : Int)) := by omega
              clear hrowR
              go_wp2
              go_loopw [3, 22, 23, 24, 25, 26, 27] (fun s3 s22 _ _ _ _ _ wr => ∃ i : Nat, s3 = .bool true ∧ s22 = .int .i64 i ∧ i ≤ ef.length ∧ Hid (Below w.heap.size w wr)) (fun _ s22 _ _ _ _ _ _ => ef.length - (intOf s22).toNat)
              case atStart => exact ⟨0, rfl, rfl, Nat.zero_le _, HBR.out⟩
              case round =>
                obtain ⟨iF, rfl, rfl, hiF, HBF⟩ := hrel
                have hszF : w.heap.size ≤ wr.heap.size := HBF.out.size
                obtain ⟨ccF, hrowF⟩ := HRF.out wr HBF.out
                by_cases hltF : iF < ef.length
                · have hlt' : (iF : Int) < (ef.length : Int) := by omega
                  obtain ⟨x, hx⟩ : ∃ x, ef[iF]? = some x := ⟨_, List.getElem?_eq_getElem hltF⟩
                  obtain ⟨g, rfl, hg, c0, c1, c2, c3, c4⟩ := hrowF.get hx
                  have hok := hrowF.ok x (List.mem_of_getElem? hx)
                  have hxn := hok.s
                  obtain ⟨la, lc, hle⟩ := hok.l.form
                  obtain ⟨aa, ac, hae⟩ := hok.a.form
                  obtain ⟨ba, bc, hbe⟩ := hok.b.form
                  obtain ⟨ca, cc, hce⟩ := hok.c.form
                  rw [hle] at c0
                  rw [hae] at c1
                  rw [hbe] at c2
                  rw [hce] at c3
                  have HL := Hid.mk (hok.l.alloc (.cells #[.slice la x.n lc, .slice aa (x.n + 1) ac, .slice ba (x.n + 2) bc, .slice ca (x.n + 3) cc, .int .i64 x.m] 124))
                  have HA := Hid.mk (hok.a.alloc (.cells #[.slice la x.n lc, .slice aa (x.n + 1) ac, .slice ba (x.n + 2) bc, .slice ca (x.n + 3) cc, .int .i64 x.m] 124))
                  have HBb := Hid.mk (hok.b.alloc (.cells #[.slice la x.n lc, .slice aa (x.n + 1) ac, .slice ba (x.n + 2) bc, .slice ca (x.n + 3) cc, .int .i64 x.m] 124))
                  have HC := Hid.mk (hok.c.alloc (.cells #[.slice la x.n lc, .slice aa (x.n + 1) ac, .slice ba (x.n + 2) bc, .slice ca (x.n + 3) cc, .int .i64 x.m] 124))
                  rw [hle] at HL
                  rw [hae] at HA
                  rw [hbe] at HBb
                  rw [hce] at HC
                  clear hle hae hbe hce hok hrowF hx
                  go_wp2_with (go_at_call 70; (first | refine Calls.mono (fullWholes HL.out (by omega)) ?_ | refine Calls.mono (fullWholes HA.out (by omega)) ?_ | refine Calls.mono (fullWholes HBb.out (by omega)) ?_ | refine Calls.mono (fullWholes HC.out (by omega)) ?_); rintro r w1 ⟨rfl, hw⟩; have hw2 := hw.symm; clear hw; subst hw2)
                  go_roundw
                  case rel => exact ⟨iF + 1, rfl, by go_num, by omega, HBF.out.alloc hszF _⟩
                  case measure => simp [intOf]; omega
                · have HEF : Hid (iF = ef.length) := by show _ = _; omega
                  have hnoF : ¬ ((iF : Int) < (ef.length : Int)) := by omega
                  clear hrowF
                  go_wp2
                  go_ret
                  exact ⟨rfl, HBF.out⟩
end Go.Proofs.YtaicdjhblbobbaaGreat
