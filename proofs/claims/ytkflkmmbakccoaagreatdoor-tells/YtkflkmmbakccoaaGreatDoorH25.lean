/- PARTS: R10, RI4, R11, R12, RI5, R13. -/
import Derived.Test.YtkflkmmbakccoaaGreatDoorH22

/- WALKS: package grafterref: anchor. -/
namespace Go.Proofs.YtkflkmmbakccoaaGreatDoor
open Go.RowKit Go.Maps

/-- What an anchor finds wrong. -/
def anE (R : REnv) (an k er pl : Nat) : Nat × Nat := if R.B.anchors ≤ (an : Int) then wrE er pl 6 k else (er, pl)

theorem rcells_an (R : REnv) (K k : Nat) (nv mv : Value) (an er pl : Nat) : ((rcells R K k nv mv an er pl).setIfInBounds 10 (.int .i64 ((an : Int) + 1))).setIfInBounds 3 (.int .i64 ((k : Int) + 1)) = rcells R K (k + 1) nv mv (an + 1) er pl := by simp [rcells]

set_option maxRecDepth 20000 in
set_option maxHeartbeats 1000000 in
theorem ranchor_any {R : REnv} {K k an er pl : Nat} {nv mv : Value} {rows : List RRow} {names : List (ByteArray × Nat)} {w : World} (h : RMem R K k an er pl nv mv rows names w) (hs : R.s.size ≤ 1000) {l : LineV} (hl : R.L[K]? = some l) (hL : LineOk R.s l) (hk : k < l.en) (han : an ≤ 1000) :
    Calls Tryz.prog 137 #[.pointer (some ⟨R.b, 0, none⟩)] w fun e w' => ∃ x, e = .returned (.string x) ∧ But [R.b] w w' ∧ RWord R K (an + 1) (anE R an k er pl).1 (anE R an k er pl).2 nv mv rows names (rdWord R.s (skipBl R.s (k + 1))) x w' := by
  have c3 : w.cell? ⟨R.b, 3, none⟩ = some (.int .i64 (k : Int)) := h.rd.cell rfl
  have c6 : w.cell? ⟨R.b, 6, none⟩ = some (.int .i64 R.B.anchors) := h.rd.cell rfl
  have c10 : w.cell? ⟨R.b, 10, none⟩ = some (.int .i64 (an : Int)) := h.rd.cell rfl
  have hen := hL.en
  have HK : Hid _ := hk
  have hk1 : k < 1000 := by omega
  have HL : Hid _ := hl
  clear hl hk
  by_cases ha : R.B.anchors ≤ (an : Int)
  · have HM : Hid (anE R an k er pl = wrE er pl 6 k) := by unfold Hid anE; rw [if_pos ha]
    go_enter Tryz.func137, Tryz.ntmps137
    go_wp2_with fail
    go_quiet (fail)
    have hW : RMem R K k an er pl nv mv rows names (w.drewN nq) := h.still ((But.refl [] w).drewN _)
    have hbW : But [] w (w.drewN nq) := (But.refl [] w).drewN _
    generalize w.drewN nq = W at *
    have n3 : W.cell? ⟨R.b, 3, none⟩ = some (.int .i64 (k : Int)) := hW.rd.cell rfl
    have n10 : W.cell? ⟨R.b, 10, none⟩ = some (.int .i64 (an : Int)) := hW.rd.cell rfl
    go_wp2_with fail
    refine (rwrong_any hW 6 k).mono ?_
    rintro e w1 ⟨rfl, h1, hb1⟩
    have d3 : w1.cell? ⟨R.b, 3, none⟩ = some (.int .i64 (k : Int)) := h1.rd.cell rfl
    have d10 : w1.cell? ⟨R.b, 10, none⟩ = some (.int .i64 (an : Int)) := h1.rd.cell rfl
    have f3 := h1.rd.free 3
    have f10 := h1.rd.free 10
    go_wp2_with fail
    have hB := (h1.rd.set 10 (.int .i64 ((an : Int) + 1))).set 3 (.int .i64 ((k : Int) + 1))
    rw [rcells_an] at hB
    have hb2 : But [R.b] w1 _ := ((But.refl [R.b] w1).setCell (p := ⟨R.b, 10, none⟩) (by simp) (.int .i64 ((an : Int) + 1))).setCell (p := ⟨R.b, 3, none⟩) (by simp) (.int .i64 ((k : Int) + 1))
    have h2 := h1.turn hb2 hB
    refine (rwordM_any h2 hs HL.out hL (by have := HK.out; omega)).mono ?_
    rintro e w3 ⟨x, rfl, hb3, hp⟩
    go_wp2_with fail
    go_ret
    refine ⟨x, rfl, (((hbW.mono (by simp)).trans hb1 (by simp)).trans hb2 (by simp)).trans hb3 (by simp), ?_⟩
    rw [HM.out]
    exact hp
  · have HM : Hid (anE R an k er pl = (er, pl)) := by unfold Hid anE; rw [if_neg ha]
    go_enter Tryz.func137, Tryz.ntmps137
    go_wp2_with fail
    go_quiet (fail)
    have hW : RMem R K k an er pl nv mv rows names (w.drewN nq) := h.still ((But.refl [] w).drewN _)
    have hbW : But [] w (w.drewN nq) := (But.refl [] w).drewN _
    generalize w.drewN nq = W at *
    have n3 : W.cell? ⟨R.b, 3, none⟩ = some (.int .i64 (k : Int)) := hW.rd.cell rfl
    have n10 : W.cell? ⟨R.b, 10, none⟩ = some (.int .i64 (an : Int)) := hW.rd.cell rfl
    have f3 := hW.rd.free 3
    have f10 := hW.rd.free 10
    go_wp2_with fail
    have hB := (hW.rd.set 10 (.int .i64 ((an : Int) + 1))).set 3 (.int .i64 ((k : Int) + 1))
    rw [rcells_an] at hB
    have hb2 : But [R.b] W _ := ((But.refl [R.b] W).setCell (p := ⟨R.b, 10, none⟩) (by simp) (.int .i64 ((an : Int) + 1))).setCell (p := ⟨R.b, 3, none⟩) (by simp) (.int .i64 ((k : Int) + 1))
    have h2 := hW.turn hb2 hB
    refine (rwordM_any h2 hs HL.out hL (by have := HK.out; omega)).mono ?_
    rintro e w3 ⟨x, rfl, hb3, hp⟩
    go_wp2_with fail
    go_ret
    refine ⟨x, rfl, ((hbW.mono (by simp)).trans hb2 (by simp)).trans hb3 (by simp), ?_⟩
    rw [HM.out]
    exact hp

end Go.Proofs.YtkflkmmbakccoaaGreatDoor

/- THE PLAIN FUNCTIONS as grafterref has them: a word by its bytes alone; kinds by bytes. -/
namespace Go.Proofs.YtkflkmmbakccoaaGreatDoor
open Go.RowKit Go.Maps

theorem kindB_2 (x : Int) : kindB x = 2 ↔ isWB x = true := by
  constructor
  · intro h
    cases hw : isWB x with
    | true => rfl
    | false =>
      exfalso
      unfold kindB at h
      rw [hw] at h
      by_cases g1 : (x == (10 : Int)) = true
      · rw [if_pos g1] at h; omega
      rw [if_neg g1] at h
      by_cases g0 : (x == (34 : Int)) = true
      · rw [if_pos g0] at h; omega
      rw [if_neg g0] at h
      by_cases g2 : (x == (45 : Int)) = true
      · rw [if_pos g2] at h; omega
      rw [if_neg g2] at h
      by_cases g3 : (x == (58 : Int)) = true
      · rw [if_pos g3] at h; omega
      rw [if_neg g3] at h
      by_cases g4 : (x == (44 : Int)) = true
      · rw [if_pos g4] at h; omega
      rw [if_neg g4] at h
      by_cases g5 : (x == (42 : Int)) = true
      · rw [if_pos g5] at h; omega
      rw [if_neg g5] at h
      by_cases g6 : (x == (38 : Int)) = true
      · rw [if_pos g6] at h; omega
      rw [if_neg g6] at h
      by_cases g7 : (x == (91 : Int)) = true
      · rw [if_pos g7] at h; omega
      rw [if_neg g7] at h
      by_cases g8 : (x == (93 : Int)) = true
      · rw [if_pos g8] at h; omega
      rw [if_neg g8] at h
      by_cases g9 : (x == (123 : Int)) = true
      · rw [if_pos g9] at h; omega
      rw [if_neg g9] at h
      by_cases g10 : (x == (125 : Int)) = true
      · rw [if_pos g10] at h; omega
      rw [if_neg g10, if_neg (by decide)] at h
      omega
  · intro h
    have hne : ∀ c : Int, isWB c = false → (x == c) = false := fun c hc => by
      cases hx : (x == c) with
      | false => rfl
      | true =>
        have := eq_of_beq hx
        rw [this, hc] at h
        cases h
    unfold kindB
    rw [hne 10 rfl, hne 34 rfl, hne 45 rfl, hne 58 rfl, hne 44 rfl, hne 42 rfl, hne 38 rfl, hne 91 rfl, hne 93 rfl, hne 123 rfl, hne 125 rfl, h]
    rfl

theorem wEnd_no (s : ByteArray) (q : Nat) (h : kindAt s q ≠ 2) : wEnd s q = q := by
  by_cases hq : q < s.size
  · rw [kindAt, if_pos hq] at h
    refine wEnd_stop s q hq ?_
    cases hw : isWB (byteAt s q) with
    | false => rfl
    | true => exact absurd ((kindB_2 _).2 hw) h
  · exact wEnd_end s q hq

/-- A word, by its bytes alone. -/
theorem wordM_rd (s : ByteArray) (t : PS) : wordM s t = if (rdWord s (skipBl s t.k)).2.1 = true then .ok (rdWord s (skipBl s t.k)).1 { t with k := (rdWord s (skipBl s t.k)).2.2 } else .bad 3 (rdWord s (skipBl s t.k)).2.2 := by
  unfold wordM
  by_cases h : kindAt s (skipBl s t.k) = 2
  · rw [if_pos h]
    have e : rdAny s (skipBl s t.k) = rdWord s (skipBl s t.k) := by rw [rdAny, if_neg (by omega)]
    unfold readM
    simp only [skipBl_idem, e]
  · rw [if_neg h]
    have e : rdWord s (skipBl s t.k) = (s.extract (skipBl s t.k) (skipBl s t.k), false, skipBl s t.k) := by
      rw [rdWord, wEnd_no s _ h, if_neg (by omega), decide_eq_false (by omega)]
    rw [e]
    simp

end Go.Proofs.YtkflkmmbakccoaaGreatDoor

/- WALKS: package grafterref: alias. -/
namespace Go.Proofs.YtkflkmmbakccoaaGreatDoor
open Go.RowKit Go.Maps

/-- What a method that answers a node's place leaves. -/
def RPostN (R : REnv) (ov : Over) (K : Nat) (t : PS) (w : World) (r : Res Nat) (e : Ending) (w' : World) : Prop :=
  Below R.base w w' ∧ match r with
  | .ok id t' => e = .returned (.int .i64 (id : Int)) ∧ RGood R ov K t' w'
  | .bad er pl => (∃ i : Nat, e = .returned (.int .i64 (i : Int))) ∧ RBad R ov t er pl w'

theorem RSt.bad {R : REnv} {ov : Over} {t : PS} {rows : List RRow} {names : List (ByteArray × Nat)} {K k er pl : Nat} {nv mv : Value} {w : World} (hS : RSt R.s ov t rows names t.anchors) (hM : RMem R K k t.anchors er pl nv mv rows names w) (he : er ≠ 0) : RBad R ov t er pl w :=
  ⟨he, K, k, t.anchors, nv, mv, rows, names, hM, by rw [hS.len]; exact Nat.le_refl _, fun i p hp => (hS.opened i p hp).2, by rw [hS.names]; simp; omega, by have := hS.wf.anchors; omega⟩

theorem RSt.move {s : ByteArray} {ov : Over} {t : PS} {rows : List RRow} {names : List (ByteArray × Nat)} {an : Nat} (h : RSt s ov t rows names an) {k : Nat} (hk : k ≤ s.size) : RSt s ov { t with k := k } rows names an :=
  ⟨h.len, h.shut, h.opened, h.names, h.an, h.wf.move hk⟩

theorem RMem.belowB {R : REnv} {K k an er pl : Nat} {nv mv : Value} {rows : List RRow} {names : List (ByteArray × Nat)} {w w' : World} (h : RMem R K k an er pl nv mv rows names w) (hb : But [R.b] w w') : Below R.base w w' := h.below (hb.mono (by simp))

/-- A node that is no longer read has its height and weight in the list. -/
theorem RSt.highAt {s : ByteArray} {ov : Over} {t : PS} {rows : List RRow} {names : List (ByteArray × Nat)} {an i : Nat} (h : RSt s ov t rows names an) (hh : highOf t.nodes i ≠ 0) : ∃ hi : i < rows.length, (rows[i]).n.high = highOf t.nodes i ∧ (rows[i]).n.heavy = heavyOf t.nodes i := by
  have hi : i < rows.length := by rw [h.len]; exact highOf_lt hh
  have ho : ov i = none := by
    cases hov : ov i with
    | none => rfl
    | some p => exact absurd (h.opened i p hov).1 hh
  refine ⟨hi, ?_, ?_⟩
  · simp [highOf, List.getD, (h.shut i hi ho).1]
  · simp [heavyOf, List.getD, (h.shut i hi ho).1]

theorem rdWord_en (s : ByteArray) (k en : Nat) (h : k ≤ en) (he : en ≤ s.size) (hb : en < s.size → byteAt s en = 10) : k ≤ (rdWord s k).2.2 ∧ (rdWord s k).2.2 ≤ en := by
  have h1 := wEnd_ge s k
  have h2 := wEnd_en s k en h he hb
  rw [rdWord]; split
  · simp; omega
  · exact ⟨h1, h2⟩

theorem rcells_step (R : REnv) (K k : Nat) (nv mv : Value) (an er pl : Nat) : (rcells R K k nv mv an er pl).setIfInBounds 3 (.int .i64 ((k : Int) + 1)) = rcells R K (k + 1) nv mv an er pl := by simp [rcells]

theorem RMem.step {R : REnv} {K k an er pl : Nat} {nv mv : Value} {rows : List RRow} {names : List (ByteArray × Nat)} {w : World} (h : RMem R K k an er pl nv mv rows names w) : RMem R K (k + 1) an er pl nv mv rows names (w.setCell ⟨R.b, 3, none⟩ (.int .i64 ((k : Int) + 1))) := by
  have hB := h.rd.set 3 (.int .i64 ((k : Int) + 1))
  rw [rcells_step] at hB
  exact h.turn ((But.refl _ _).setCell (by simp) _) hB

set_option maxRecDepth 20000 in
set_option maxHeartbeats 1000000 in
theorem ralias_any {R : REnv} (hE : REnvOk R) {ov : Over} {K : Nat} {t : PS} {w : World} (h : RGood R ov K t w) (hk7 : kindAt R.s t.k = 7) (lv : Int) (hlv0 : 0 ≤ lv) (hlv : lv ≤ 100) :
    Calls Tryz.prog 136 #[.pointer (some ⟨R.b, 0, none⟩), .int .i64 lv] w fun e w' => RPostN R ov K t w (aliasM R.s R.B lv t) e w' := by
  obtain ⟨nv, mv, rows, names, hM, hS, l, hl, hind, hat, hen⟩ := h
  have hL : LineOk R.s l := linesFrom_ok R.s 0 (by omega) l (by rw [← hE.L]; exact List.mem_of_getElem? hl)
  have hlt : t.k < l.en := by
    by_cases e : t.k = l.en
    · exfalso
      have hz := kindAt_lt (s := R.s) (q := t.k) (by omega)
      have hb := hL.nl (by omega)
      rw [kindAt, if_pos hz, e, hb] at hk7
      revert hk7; decide
    · omega
  have hsz := hE.s
  have hes := hL.en
  have hD := hE.d
  clear hk7
  have c3 : w.cell? ⟨R.b, 3, none⟩ = some (.int .i64 (t.k : Int)) := hM.rd.cell rfl
  have f3 := hM.rd.free 3
  have hM1 := hM.step
  have hq := skipBl_en R.s (t.k + 1) l.en (by omega) hL.en hL.nl
  have hq0 := skipBl_ge R.s (t.k + 1)
  have hr := rdWord_en R.s (skipBl R.s (t.k + 1)) l.en hq hL.en hL.nl
  have HW := wordM_rd R.s { t with k := t.k + 1 }
  have hcall := rwordM_any hM1 hsz hl hL (by omega)
  have HW' : Hid _ := HW
  have HS : Hid _ := hS
  have HL : Hid _ := hl
  have HI : Hid _ := hind
  clear HW hS hl hind
  generalize rdWord R.s (skipBl R.s (t.k + 1)) = rr at *
  have HLk : Hid (names.reverse = t.names) := by unfold Hid; rw [HS.out.names]; simp
  have hnl : names.length ≤ 1000 := by
    have h1 := HS.out.wf.names
    have h2 := HS.out.wf.anchors
    rw [HS.out.names]; simp; omega
  go_enter Tryz.func136, Tryz.ntmps136
  go_wp2_with fail
  refine hcall.mono ?_
  rintro e w2 ⟨x, rfl, hb2, hp⟩
  have hb1 : But [R.b] w _ := (But.refl [R.b] w).setCell (p := ⟨R.b, 3, none⟩) (by simp) (.int .i64 ((t.k : Int) + 1))
  have hb12 := hb1.trans hb2 (by simp)
  clear hb1 hb2 hM1 c3 f3 hcall
  unfold RWord at hp
  by_cases hok : rr.2.1 = true
  · rw [if_pos hok] at hp
    obtain ⟨rfl, hM2⟩ := hp
    have HA : Hid (aliasM R.s R.B lv t = match lookM t.names rr.1 with | none => .bad 7 t.k | some i => if R.B.depth < lv + (highOf t.nodes i : Int) - 1 then .bad 4 t.k else .ok i { t with k := rr.2.2 }) := by
      unfold Hid aliasM
      rw [HW'.out, if_pos hok]
      rfl
    have d11 : w2.cell? ⟨R.b, 11, none⟩ = some (.int .i64 0) := hM2.rd.cell rfl
    have hnm := rnamed_any hM2 rr.1 hnl
    rw [HLk.out] at hnm
    cases hlk : lookM t.names rr.1 with
    | none =>
      have HA2 : Hid (aliasM R.s R.B lv t = .bad 7 t.k) := by unfold Hid; rw [HA.out, hlk]
      have hI : lookI t.names rr.1 = -1 := by unfold lookI; rw [hlk]
      rw [hI] at hnm
      clear hI hlk HA
      go_wp2_with fail
      refine hnm.mono ?_
      rintro e w3 ⟨rfl, hb3⟩
      have hM3 := hM2.still hb3
      go_wp2_with fail
      refine (rwrong_any hM3 7 t.k).mono ?_
      rintro e w4 ⟨rfl, hM4, hb4⟩
      go_wp2_with fail
      go_ret
      refine ⟨hM.belowB ((hb12.trans hb3 (by simp)).trans hb4 (by simp)), ?_⟩
      rw [HA2.out]
      exact ⟨⟨0, rfl⟩, HS.out.bad hM4 (by decide)⟩
    | some i =>
      have hI : lookI t.names rr.1 = (i : Int) := by unfold lookI; rw [hlk]
      rw [hI] at hnm
      obtain ⟨p, hp, hpi⟩ := lookM_mem hlk
      have hhi : highOf t.nodes i ≠ 0 := by rw [← hpi]; exact HS.out.wf.named p hp
      obtain ⟨hir, hh1, _⟩ := HS.out.highAt hhi
      have hh100 := HS.out.wf.high i
      have HA2 : Hid (aliasM R.s R.B lv t = if R.B.depth < lv + (highOf t.nodes i : Int) - 1 then .bad 4 t.k else .ok i { t with k := rr.2.2 }) := by unfold Hid; rw [HA.out, hlk]
      clear hI hlk HA hp hpi
      go_wp2_with fail
      refine hnm.mono ?_
      rintro e w3 ⟨rfl, hb3⟩
      have hM3 := hM2.still hb3
      obtain ⟨nb, cap, rfl, hcap, hcn⟩ := hM3.node i hir
      have n4 := (hcn 4 (by omega)).1
      simp only [RRow.cells, List.getElem?_cons_succ, List.getElem?_cons_zero] at n4
      rw [hh1] at n4
      have e8 : w3.cell? ⟨R.b, 8, none⟩ = some (.slice (some ⟨nb, 0, none⟩) rows.length cap) := hM3.rd.cell rfl
      have e4 : w3.cell? ⟨R.b, 4, none⟩ = some (.int .i64 R.B.depth) := hM3.rd.cell rfl
      clear hcn hhi hh1
      generalize highOf t.nodes i = H at *
      by_cases hd : R.B.depth < lv + (H : Int) - 1
      · have HA3 : Hid (aliasM R.s R.B lv t = .bad 4 t.k) := by unfold Hid; rw [HA2.out, if_pos hd]
        clear HA2
        go_wp2_with fail
        go_quiet (fail)
        have hMW : RMem R K rr.2.2 t.anchors 0 0 _ mv rows names (w3.drewN nq) := hM3.still ((But.refl [] w3).drewN _)
        have hbW : But [] w3 (w3.drewN nq) := (But.refl [] w3).drewN _
        generalize w3.drewN nq = W at *
        go_wp2_with fail
        refine (rwrong_any hMW 4 t.k).mono ?_
        rintro e w4 ⟨rfl, hM4, hb4⟩
        go_wp2_with fail
        go_ret
        refine ⟨hM.belowB (((hb12.trans hb3 (by simp)).trans hbW (by simp)).trans hb4 (by simp)), ?_⟩
        rw [HA3.out]
        exact ⟨⟨i, rfl⟩, HS.out.bad hM4 (by decide)⟩
      · have HA3 : Hid (aliasM R.s R.B lv t = .ok i { t with k := rr.2.2 }) := by unfold Hid; rw [HA2.out, if_neg hd]
        clear HA2
        go_wp2_with fail
        go_quiet (fail)
        have hMW : RMem R K rr.2.2 t.anchors 0 0 _ mv rows names (w3.drewN nq) := hM3.still ((But.refl [] w3).drewN _)
        have hbW : But [] w3 (w3.drewN nq) := (But.refl [] w3).drewN _
        generalize w3.drewN nq = W at *
        go_wp2_with fail
        go_ret
        refine ⟨hM.belowB ((hb12.trans hb3 (by simp)).trans hbW (by simp)), ?_⟩
        rw [HA3.out]
        exact ⟨rfl, _, _, rows, names, hMW, HS.out.move (by omega), l, HL.out, HI.out, by simp only; omega, hr.2⟩
  · rw [if_neg hok] at hp
    have HA : Hid (aliasM R.s R.B lv t = .bad 3 rr.2.2) := by
      unfold Hid aliasM
      rw [HW'.out, if_neg hok]
      rfl
    have d11 : w2.cell? ⟨R.b, 11, none⟩ = some (.int .i64 3) := hp.rd.cell rfl
    go_wp2_with fail
    go_ret
    refine ⟨hM.belowB hb12, ?_⟩
    rw [HA.out]
    exact ⟨⟨0, rfl⟩, HS.out.bad hp (by decide)⟩

end Go.Proofs.YtkflkmmbakccoaaGreatDoor

/- WALKS: package grafterref: starts, next. -/
namespace Go.Proofs.YtkflkmmbakccoaaGreatDoor
open Go.RowKit Go.Maps

/-- May a value begin with a byte? -/
def startsB (x : Int) : Bool := isWB x || x == 34 || x == 91 || x == 123

set_option maxHeartbeats 400000 in
theorem starts_any (x : Int) (h0 : 0 ≤ x) (h1 : x ≤ 255) (w : World) :
    Calls Tryz.prog 135 #[.int .u8 x] w fun e w' => e = .returned (.bool (startsB x)) ∧ w' = w := by
  go_enter Tryz.func135, Tryz.ntmps135
  go_wp2_with (go_at_call 109; refine (letter_any _ _).mono ?_; rintro e w' ⟨rfl, rfl⟩)
  all_goals
    go_ret
    refine ⟨ret_bool ?_, rfl⟩
    rw [Bool.eq_iff_iff]
    simp_all [startsB]

theorem rcells_K (R : REnv) (K k : Nat) (nv mv : Value) (an er pl : Nat) : (rcells R K k nv mv an er pl).setIfInBounds 2 (.int .i64 ((K : Int) + 1)) = rcells R (K + 1) k nv mv an er pl := by simp [rcells]

set_option maxRecDepth 20000 in
set_option maxHeartbeats 1000000 in
theorem rnext_any {R : REnv} {K k an er pl : Nat} {nv mv : Value} {rows : List RRow} {names : List (ByteArray × Nat)} {w : World} (h : RMem R K k an er pl nv mv rows names w) (hK : K ≤ 100000) :
    Calls Tryz.prog 140 #[.pointer (some ⟨R.b, 0, none⟩)] w fun e w' => But [R.b] w w' ∧
      ((∃ l, R.L[K + 1]? = some l ∧ e = .returned (.bool true) ∧ RMem R (K + 1) l.at' an er pl nv mv rows names w') ∨ (R.L.length ≤ K + 1 ∧ e = .returned (.bool false) ∧ RMem R (K + 1) k an er pl nv mv rows names w')) := by
  have c2 : w.cell? ⟨R.b, 2, none⟩ = some (.int .i64 (K : Int)) := h.rd.cell rfl
  have f2 := h.rd.free 2
  have hB := h.rd.set 2 (.int .i64 ((K : Int) + 1))
  rw [rcells_K] at hB
  have hb : But [R.b] w (w.setCell ⟨R.b, 2, none⟩ (.int .i64 ((K : Int) + 1))) := (But.refl _ _).setCell (by simp) _
  have h1 := h.turn hb hB
  obtain ⟨la, lcap, hlv, hlc⟩ := own_shape h.lines
  go_enter Tryz.func140, Tryz.ntmps140
  go_wp2_with fail
  refine name_world fun W hW => ?_
  rw [← hW.out] at h1 hb
  clear hB c2 f2 hW
  obtain ⟨J, HJ⟩ : ∃ J, Hid (J = K + 1) := ⟨K + 1, (rfl : K + 1 = K + 1)⟩
  have hJ : J ≤ 100001 := by rw [HJ.out]; omega
  rw [← HJ.out] at h1
  have d1 : W.cell? ⟨R.b, 1, none⟩ = some R.lv := h1.rd.cell rfl
  have d2 : W.cell? ⟨R.b, 2, none⟩ = some (.int .i64 (J : Int)) := h1.rd.cell rfl
  have d3 : W.cell? ⟨R.b, 3, none⟩ = some (.int .i64 (k : Int)) := h1.rd.cell rfl
  have g3 := h1.rd.free 3
  rw [hlv] at d1
  by_cases hlt : J < R.L.length
  · obtain ⟨lb, cap', e, hc, l0, l1, l2⟩ := ownsLine h1.lines J hlt
    have hlv2 := hlv.symm.trans e
    obtain ⟨rfl, rfl⟩ : la = some ⟨lb, 0, none⟩ ∧ lcap = cap' := by simpa using hlv2
    have HLJ : Hid (R.L[J]? = some R.L[J]) := List.getElem?_eq_getElem hlt
    clear e hlv2 l0 l2
    generalize R.L[J] = l at *
    go_quiet (fail)
    have hMW : RMem R J k an er pl nv mv rows names (W.drewN (nq + 1)) := h1.still ((But.refl [] W).drewN _)
    have hbW : But [] W (W.drewN (nq + 1)) := (But.refl [] W).drewN _
    go_wp2_with fail
    go_region
    go_wp2_with fail
    go_ret
    rw [← HJ.out]
    have hB3 := hMW.rd.set 3 (.int .i64 (l.at' : Int))
    rw [rcells_at] at hB3
    have hb3 : But [R.b] (W.drewN (nq + 1)) _ := (But.refl [R.b] (W.drewN (nq + 1))).setCell (p := ⟨R.b, 3, none⟩) (by simp) (.int .i64 (l.at' : Int))
    exact ⟨(hb.trans hbW (by simp)).trans hb3 (by simp), .inl ⟨l, HLJ.out, rfl, hMW.turn hb3 hB3⟩⟩
  · go_quiet (fail)
    have hMW : RMem R J k an er pl nv mv rows names (W.drewN nq) := h1.still ((But.refl [] W).drewN _)
    have hbW : But [] W (W.drewN nq) := (But.refl [] W).drewN _
    generalize W.drewN nq = W2 at *
    go_wp2_with fail
    go_ret
    rw [← HJ.out]
    exact ⟨hb.trans hbW (by simp), .inr ⟨by omega, rfl, hMW⟩⟩

end Go.Proofs.YtkflkmmbakccoaaGreatDoor

/- THE READER OF grafterref: bytes and kinds; lines. -/
namespace Go.Proofs.YtkflkmmbakccoaaGreatDoor
open Go.RowKit Go.Maps

theorem kindB_tab (x : Int) : (kindB x = 1 ↔ x = 10) ∧ (kindB x = 4 ↔ x = 45) ∧ (kindB x = 5 ↔ x = 58) ∧ (kindB x = 6 ↔ x = 44) ∧ (kindB x = 7 ↔ x = 42) ∧ (kindB x = 8 ↔ x = 38) ∧ (kindB x = 9 ↔ x = 91) ∧ (kindB x = 10 ↔ x = 93) ∧ (kindB x = 11 ↔ x = 123) ∧ (kindB x = 12 ↔ x = 125) ∧ kindB x ≠ 0 := by
  unfold kindB
  by_cases g1 : x = 10
  · subst g1; decide
  by_cases g2 : x = 34
  · subst g2; decide
  by_cases g3 : x = 45
  · subst g3; decide
  by_cases g4 : x = 58
  · subst g4; decide
  by_cases g5 : x = 44
  · subst g5; decide
  by_cases g6 : x = 42
  · subst g6; decide
  by_cases g7 : x = 38
  · subst g7; decide
  by_cases g8 : x = 91
  · subst g8; decide
  by_cases g9 : x = 93
  · subst g9; decide
  by_cases g10 : x = 123
  · subst g10; decide
  by_cases g11 : x = 125
  · subst g11; decide
  simp only [beq_eq_false_iff_ne.2 g1, beq_eq_false_iff_ne.2 g2, beq_eq_false_iff_ne.2 g3, beq_eq_false_iff_ne.2 g4, beq_eq_false_iff_ne.2 g5, beq_eq_false_iff_ne.2 g6, beq_eq_false_iff_ne.2 g7, beq_eq_false_iff_ne.2 g8, beq_eq_false_iff_ne.2 g9, beq_eq_false_iff_ne.2 g10, beq_eq_false_iff_ne.2 g11, Bool.false_eq_true, if_false]
  by_cases g12 : isWB x = true
  · simp only [g12, if_true]; omega
  · simp only [g12]; simp; omega

theorem nowB_bd (s : ByteArray) (k en : Nat) (he : en ≤ s.size) : 0 ≤ nowB s k en ∧ nowB s k en ≤ 255 := by
  unfold nowB; split
  · rename_i h
    have := byteAt_lt s (skipBl s k) (by omega)
    have h2 := (s[skipBl s k]'(by omega)).toNat_lt
    omega
  · omega

/-- What byte is at hand says what kind of token is. -/
theorem nowB_kind {s : ByteArray} {k : Nat} {l : LineV} (hL : LineOk s l) (hk : k ≤ l.en) {κ : Int} (h0 : κ ≠ 0) (h1 : κ ≠ 1) (h13 : κ ≠ 13) : kindAt s (skipBl s k) = κ ↔ kindB (nowB s k l.en) = κ := by
  have hq := skipBl_en s k l.en hk hL.en hL.nl
  have he := hL.en
  unfold nowB
  by_cases hlt : skipBl s k < l.en
  · rw [if_pos hlt, kindAt, if_pos (by omega)]
  · rw [if_neg hlt]
    have e : skipBl s k = l.en := by omega
    rw [e]
    have k0 : kindB 0 = 13 := by decide
    have k10 : kindB 10 = 1 := by decide
    rw [k0, kindAt]
    split
    · rename_i hz
      rw [hL.nl hz, k10]
      omega
    · omega

theorem nowB_starts {s : ByteArray} {k : Nat} {l : LineV} (hL : LineOk s l) (hk : k ≤ l.en) : startsB (nowB s k l.en) = true ↔ (kindAt s (skipBl s k) = 2 ∨ kindAt s (skipBl s k) = 3 ∨ kindAt s (skipBl s k) = 9 ∨ kindAt s (skipBl s k) = 11) := by
  rw [nowB_kind hL hk (by decide) (by decide) (by decide), nowB_kind hL hk (by decide) (by decide) (by decide), nowB_kind hL hk (by decide) (by decide) (by decide), nowB_kind hL hk (by decide) (by decide) (by decide)]
  obtain ⟨_, _, _, _, _, _, t9, _, t11, _⟩ := kindB_tab (nowB s k l.en)
  rw [kindB_2, kindB_3, t9, t11]
  simp [startsB, or_assoc]

/-- Within a line, only its end is one. -/
theorem lineOver_iff {s : ByteArray} {q : Nat} {l : LineV} (hL : LineOk s l) (h0 : l.at' ≤ q) (hq : q ≤ l.en) : lineOver s q = true ↔ q = l.en := by
  have he := hL.en
  unfold lineOver
  constructor
  · intro h
    by_cases e : q = l.en
    · exact e
    · exfalso
      have hb := hL.in' q h0 (by omega)
      have hk : kindAt s q = kindB (byteAt s q) := by rw [kindAt, if_pos (by omega)]
      obtain ⟨t1, _, _, _, _, _, _, _, _, _, t0⟩ := kindB_tab (byteAt s q)
      rw [hk] at h
      simp only [Bool.or_eq_true, beq_iff_eq] at h
      rcases h with h | h
      · exact hb (t1.1 h)
      · exact t0 h
  · intro e
    rw [e, kindAt]
    split
    · rename_i hz
      rw [hL.nl hz]; decide
    · rfl

theorem linesFrom_nb (s : ByteArray) (k : Nat) (hk : k ≤ s.size) : ∀ l ∈ linesFrom s k, byteAt s l.at' ≠ 32 := by
  intro l hl
  by_cases hn : (nlGo s k k).2 < s.size
  · have e := linesFrom_cons s k hk hn
    have h1 := nlGo_at s k k hn
    have h2 := nlGo_le s k k hk
    have h3 := lEnd_ge s ((nlGo s k k).2 + 1)
    have h4 := lEnd_le s (nlGo s k k).2 h2.2
    have h5 := lEnd_go s _ hn h1.1
    rw [e] at hl
    rcases List.mem_cons.1 hl with rfl | hl
    · exact h1.2
    · exact linesFrom_nb s _ h4 l hl
  · rw [linesFrom_nil s k hn] at hl
    cases hl
termination_by s.size + 1 - k
decreasing_by omega

theorem REnvOk.line {R : REnv} (hE : REnvOk R) {K : Nat} {l : LineV} (hl : R.L[K]? = some l) : LineOk R.s l := linesFrom_ok R.s 0 (by omega) l (by rw [← hE.L]; exact List.mem_of_getElem? hl)
theorem REnvOk.nb {R : REnv} (hE : REnvOk R) {K : Nat} {l : LineV} (hl : R.L[K]? = some l) : skipBl R.s l.at' = l.at' := by
  have h := linesFrom_nb R.s 0 (by omega) l (by rw [← hE.L]; exact List.mem_of_getElem? hl)
  have hL := hE.line hl
  have := hL.at'
  have := hL.en
  exact skipBl_stop R.s l.at' (by omega) h

/-- To the next line, from a line's end. -/
theorem REnvOk.next {R : REnv} (hE : REnvOk R) {K : Nat} {l : LineV} (hl : R.L[K]? = some l) (t : PS) (ht : t.k = l.en) :
    (∀ l', R.L[K + 1]? = some l' → (nextM R.s t).ind = l'.ind ∧ (nextM R.s t).k = l'.at') ∧ (R.L.length ≤ K + 1 → (nextM R.s t).k = R.s.size) := by
  have hL := hE.line hl
  have he := hL.en
  have h1 : R.L[K + 1]? = (linesFrom R.s l.en)[0]? := by
    rw [hE.L] at hl ⊢
    exact linesFrom_next R.s 0 (by omega) K l hl
  unfold nextM
  rw [ht]
  by_cases hn : (nlGo R.s l.en l.en).2 < R.s.size
  · rw [linesFrom_cons R.s l.en he hn] at h1
    simp only [List.getElem?_cons_zero] at h1
    refine ⟨fun l' hl' => ?_, fun hlen => ?_⟩
    · rw [h1] at hl'
      cases hl'
      exact ⟨rfl, rfl⟩
    · rw [List.getElem?_eq_none hlen] at h1
      cases h1
  · rw [linesFrom_nil R.s l.en hn] at h1
    refine ⟨fun l' hl' => ?_, fun _ => ?_⟩
    · rw [h1] at hl'
      cases hl'
    · have := (nlGo_le R.s l.en l.en he).2
      simp only
      omega

theorem linesFrom_len (s : ByteArray) (k : Nat) (hk : k ≤ s.size) : (linesFrom s k).length ≤ s.size - k := by
  by_cases hn : (nlGo s k k).2 < s.size
  · have h1 := nlGo_at s k k hn
    have h2 := nlGo_le s k k hk
    have h3 := lEnd_ge s ((nlGo s k k).2 + 1)
    have h4 := lEnd_le s (nlGo s k k).2 h2.2
    have h5 := lEnd_go s _ hn h1.1
    rw [linesFrom_cons s k hk hn]
    have := linesFrom_len s (lEnd s (nlGo s k k).2) h4
    simp only [List.length_cons]
    omega
  · rw [linesFrom_nil s k hn]; simp
termination_by s.size + 1 - k
decreasing_by omega

theorem RSt.next {s : ByteArray} {ov : Over} {t : PS} {rows : List RRow} {names : List (ByteArray × Nat)} {an : Nat} (h : RSt s ov t rows names an) (hk : (nextM s { t with k := skipBl s t.k }).k ≤ s.size) : RSt s ov (nextM s { t with k := skipBl s t.k }) rows names an :=
  ⟨h.len, h.shut, h.opened, h.names, h.an, ⟨hk, h.wf.nodes, h.wf.anchors, h.wf.names, h.wf.named, h.wf.heavy, h.wf.high⟩⟩

/-- The reading stands at the first byte of line K that is no blank. -/
def RAtLine (R : REnv) (ov : Over) (K : Nat) (t : PS) (w : World) : Prop :=
  ∃ nv mv rows names, RMem R K t.k t.anchors 0 0 nv mv rows names w ∧ RSt R.s ov t rows names t.anchors ∧ ∃ l, R.L[K]? = some l ∧ t.ind = l.ind ∧ t.k = l.at'

/-- The reading stands behind the last line. -/
def RPast (R : REnv) (ov : Over) (t : PS) (w : World) : Prop :=
  t.k = R.s.size ∧ ∃ K k nv mv rows names, R.L.length ≤ K ∧ RMem R K k t.anchors 0 0 nv mv rows names w ∧ RSt R.s ov t rows names t.anchors

/-- The next line is at hand, or there is none. -/
def RGoodE (R : REnv) (ov : Over) (t : PS) (w : World) : Prop := (∃ K, RAtLine R ov K t w) ∨ RPast R ov t w

theorem RAtLine.good {R : REnv} (hE : REnvOk R) {ov : Over} {K : Nat} {t : PS} {w : World} (h : RAtLine R ov K t w) : RGood R ov K t w := by
  obtain ⟨nv, mv, rows, names, hM, hS, l, hl, hi, hk⟩ := h
  have := (hE.line hl).at'
  exact ⟨nv, mv, rows, names, hM, hS, l, hl, hi, by omega, by omega⟩

end Go.Proofs.YtkflkmmbakccoaaGreatDoor

/- WALKS: package grafterref: closes, leave. -/
namespace Go.Proofs.YtkflkmmbakccoaaGreatDoor
open Go.RowKit Go.Maps

theorem rendM_any {R : REnv} {K k an er pl : Nat} {nv mv : Value} {rows : List RRow} {names : List (ByteArray × Nat)} {w : World} (h : RMem R K k an er pl nv mv rows names w) {l : LineV} (hl : R.L[K]? = some l) :
    Calls Tryz.prog 173 #[.pointer (some ⟨R.b, 0, none⟩)] w fun e w' => e = .returned (.int .i64 (l.en : Int)) ∧ RMem R K k an er pl nv mv rows names w' ∧ But [] w w' := by
  obtain ⟨hK, hKl⟩ := List.getElem?_eq_some_iff.1 hl
  refine (rend_any R.b _ _ R.lv R.L R.base K w h.rd h.rc.h1 h.rc.h2 h.lines hK).mono ?_
  rintro e w1 ⟨rfl, m, rfl⟩
  have hb : But [] w (w.drewN m) := (But.refl [] w).drewN _
  exact ⟨by rw [hKl], h.still hb, hb⟩

theorem rendQ {R : REnv} {K k an er pl : Nat} {nv mv : Value} {rows : List RRow} {names : List (ByteArray × Nat)} {w : World} (h : RMem R K k an er pl nv mv rows names w) {l : LineV} (hl : R.L[K]? = some l) (n : Nat) :
    Calls Tryz.prog 173 #[.pointer (some ⟨R.b, 0, none⟩)] (w.drewN n) fun e w' => e = .returned (.int .i64 (l.en : Int)) ∧ ∃ m, w' = (w.drewN n).drewN m := by
  obtain ⟨hK, hKl⟩ := List.getElem?_eq_some_iff.1 hl
  have h1 := h.still ((But.refl [] w).drewN n)
  refine (rend_any R.b _ _ R.lv R.L R.base K _ h1.rd h1.rc.h1 h1.rc.h2 h1.lines hK).mono ?_
  rintro e w1 ⟨rfl, m, rfl⟩
  exact ⟨by rw [hKl], m, rfl⟩

/-- What is wrong where a line must be over. -/
def clE (s : ByteArray) (k en er pl : Nat) : Nat × Nat := if skipBl s k < en then wrE er pl 3 (skipBl s k) else (er, pl)

set_option maxRecDepth 20000 in
set_option maxHeartbeats 1000000 in
theorem rcloses_any {R : REnv} {K k an er pl : Nat} {nv mv : Value} {rows : List RRow} {names : List (ByteArray × Nat)} {w : World} (h : RMem R K k an er pl nv mv rows names w) (hs : R.s.size ≤ 1000) {l : LineV} (hl : R.L[K]? = some l) (hL : LineOk R.s l) (hk : k ≤ l.en) :
    Calls Tryz.prog 139 #[.pointer (some ⟨R.b, 0, none⟩)] w fun e w' => e = .returned (.tuple #[]) ∧ But [R.b] w w' ∧ RMem R K (skipBl R.s k) an (clE R.s k l.en er pl).1 (clE R.s k l.en er pl).2 nv mv rows names w' := by
  have hq := skipBl_en R.s k l.en hk hL.en hL.nl
  have hes := hL.en
  have hnow := rnow_any h hs hl hL hk
  have HL : Hid _ := hl
  clear hl
  by_cases hlt : skipBl R.s k < l.en
  · have HM : Hid (clE R.s k l.en er pl = wrE er pl 3 (skipBl R.s k)) := by unfold Hid clE; rw [if_pos hlt]
    have hc : nowB R.s k l.en = byteAt R.s (skipBl R.s k) := by unfold nowB; rw [if_pos hlt]
    have hbd := nowB_bd R.s k l.en hes
    generalize nowB R.s k l.en = c at *
    generalize skipBl R.s k = q at *
    have hby := byteAt_lt R.s q (by omega)
    by_cases hz : c = 0
    · subst hz
      rw [← hc] at hby
      have hqs : q < R.s.size := by omega
      have hbz : R.s[q].toNat = 0 := by omega
      clear hc hby
      go_enter Tryz.func139, Tryz.ntmps139
      go_wp2_with fail
      refine hnow.mono ?_
      rintro e w1 ⟨rfl, h1, hb1⟩
      have d3 : w1.cell? ⟨R.b, 3, none⟩ = some (.int .i64 (q : Int)) := h1.rd.cell rfl
      have d0 : w1.cell? ⟨R.b, 0, none⟩ = some (.string R.s) := h1.rd.cell rfl
      go_wp2_with fail
      go_quiet ((go_at_call 173; exact Calls.quiet_of (rendQ h1 HL.out _)))
      have h2 : RMem R K q an er pl nv mv rows names (w1.drewN nq) := h1.still ((But.refl [] w1).drewN _)
      have hb2 : But [] w1 (w1.drewN nq) := (But.refl [] w1).drewN _
      generalize w1.drewN nq = w2 at *
      have e3 : w2.cell? ⟨R.b, 3, none⟩ = some (.int .i64 (q : Int)) := h2.rd.cell rfl
      go_wp2_with fail
      refine (rwrong_any h2 3 q).mono ?_
      rintro e w3 ⟨rfl, h3, hb3⟩
      go_wp2_with fail
      go_end0
      rw [HM.out]
      exact ⟨rfl, (hb1.trans hb2 (by simp)).trans hb3 (by simp), h3⟩
    · clear hc hby
      go_enter Tryz.func139, Tryz.ntmps139
      go_wp2_with fail
      refine hnow.mono ?_
      rintro e w1 ⟨rfl, h1, hb1⟩
      have d3 : w1.cell? ⟨R.b, 3, none⟩ = some (.int .i64 (q : Int)) := h1.rd.cell rfl
      have d0 : w1.cell? ⟨R.b, 0, none⟩ = some (.string R.s) := h1.rd.cell rfl
      go_wp2_with fail
      go_quiet ((go_at_call 173; exact Calls.quiet_of (rendQ h1 HL.out _)))
      have h2 : RMem R K q an er pl nv mv rows names (w1.drewN nq) := h1.still ((But.refl [] w1).drewN _)
      have hb2 : But [] w1 (w1.drewN nq) := (But.refl [] w1).drewN _
      generalize w1.drewN nq = w2 at *
      have e3 : w2.cell? ⟨R.b, 3, none⟩ = some (.int .i64 (q : Int)) := h2.rd.cell rfl
      go_wp2_with fail
      refine (rwrong_any h2 3 q).mono ?_
      rintro e w3 ⟨rfl, h3, hb3⟩
      go_wp2_with fail
      go_end0
      rw [HM.out]
      exact ⟨rfl, (hb1.trans hb2 (by simp)).trans hb3 (by simp), h3⟩
  · have HM : Hid (clE R.s k l.en er pl = (er, pl)) := by unfold Hid clE; rw [if_neg hlt]
    generalize nowB R.s k l.en = c at *
    generalize skipBl R.s k = q at *
    go_enter Tryz.func139, Tryz.ntmps139
    go_wp2_with fail
    refine hnow.mono ?_
    rintro e w1 ⟨rfl, h1, hb1⟩
    have d3 : w1.cell? ⟨R.b, 3, none⟩ = some (.int .i64 (q : Int)) := h1.rd.cell rfl
    go_wp2_with fail
    go_quiet ((go_at_call 173; exact Calls.quiet_of (rendQ h1 HL.out _)))
    have h2 : RMem R K q an er pl nv mv rows names (w1.drewN nq) := h1.still ((But.refl [] w1).drewN _)
    have hb2 : But [] w1 (w1.drewN nq) := (But.refl [] w1).drewN _
    generalize w1.drewN nq = w2 at *
    go_wp2_with fail
    go_end0
    rw [HM.out]
    exact ⟨rfl, hb1.trans hb2 (by simp), h2⟩

/-- What a method that answers nothing and goes to the next line leaves. -/
def RPostE (R : REnv) (ov : Over) (t : PS) (w : World) (r : Res Unit) (e : Ending) (w' : World) : Prop :=
  e = .returned (.tuple #[]) ∧ Below R.base w w' ∧ match r with
  | .ok _ t' => RGoodE R ov t' w'
  | .bad er pl => RBad R ov t er pl w'

set_option maxHeartbeats 1000000 in
/-- With an error told, nothing is done. -/
theorem rleave_err {R : REnv} {K k an er pl : Nat} {nv mv : Value} {rows : List RRow} {names : List (ByteArray × Nat)} {w : World} (h : RMem R K k an er pl nv mv rows names w) (he : er ≠ 0) :
    Calls Tryz.prog 108 #[.pointer (some ⟨R.b, 0, none⟩)] w fun e w' => e = .returned (.tuple #[]) ∧ w' = w := by
  have c11 : w.cell? ⟨R.b, 11, none⟩ = some (.int .i64 (er : Int)) := h.rd.cell rfl
  go_enter Tryz.func108, Tryz.ntmps108
  go_wp2_with fail
  go_end0
  exact ⟨rfl, rfl⟩

set_option maxRecDepth 20000 in
set_option maxHeartbeats 1000000 in
theorem rleave_any {R : REnv} (hE : REnvOk R) {ov : Over} {K : Nat} {t : PS} {w : World} (h : RGood R ov K t w) :
    Calls Tryz.prog 108 #[.pointer (some ⟨R.b, 0, none⟩)] w fun e w' => RPostE R ov t w (endLineM R.s t) e w' := by
  obtain ⟨nv, mv, rows, names, hM, hS, l, hl, hind, hat, hen⟩ := h
  have hL := hE.line hl
  have hq := skipBl_en R.s t.k l.en hen hL.en hL.nl
  have hq0 := skipBl_ge R.s t.k
  have hlo := lineOver_iff (q := skipBl R.s t.k) hL (by omega) hq
  have hsz := hE.s
  have hes := hL.en
  have hcl := rcloses_any hM hE.s hl hL hen
  have c11 : w.cell? ⟨R.b, 11, none⟩ = some (.int .i64 0) := hM.rd.cell rfl
  have HS : Hid _ := hS
  have HL : Hid _ := hl
  have hK : K < R.L.length := (List.getElem?_eq_some_iff.1 hl).1
  have hKL : R.L.length ≤ 1001 := by
    rw [hE.L]
    exact Nat.le_trans (linesFrom_len R.s 0 (by omega)) (by omega)
  clear hS hl hind
  by_cases hlt : skipBl R.s t.k < l.en
  · have HM : Hid (endLineM R.s t = .bad 3 (skipBl R.s t.k)) := by
      unfold Hid endLineM
      rw [if_neg (fun c => by have := hlo.1 c; omega)]
    have hce : clE R.s t.k l.en 0 0 = (3, skipBl R.s t.k) := by unfold clE wrE; rw [if_pos hlt, if_pos rfl]
    rw [hce] at hcl
    clear hlo hce
    go_enter Tryz.func108, Tryz.ntmps108
    go_wp2_with fail
    refine hcl.mono ?_
    rintro e w1 ⟨rfl, hb1, h1⟩
    have d11 : w1.cell? ⟨R.b, 11, none⟩ = some (.int .i64 3) := h1.rd.cell rfl
    go_wp2_with fail
    go_end0
    rw [HM.out]
    exact ⟨rfl, hM.belowB hb1, HS.out.bad h1 (by decide)⟩
  · have hqe : skipBl R.s t.k = l.en := by omega
    have HM : Hid (endLineM R.s t = .ok () (nextM R.s { t with k := skipBl R.s t.k })) := by
      unfold Hid endLineM
      rw [if_pos (hlo.2 hqe)]
    have hce : clE R.s t.k l.en 0 0 = (0, 0) := by unfold clE; rw [if_neg hlt]
    rw [hce] at hcl
    have HN : Hid _ := hE.next HL.out { t with k := skipBl R.s t.k } hqe
    clear hlo hce
    go_enter Tryz.func108, Tryz.ntmps108
    go_wp2_with fail
    refine hcl.mono ?_
    rintro e w1 ⟨rfl, hb1, h1⟩
    have d11 : w1.cell? ⟨R.b, 11, none⟩ = some (.int .i64 0) := h1.rd.cell rfl
    go_wp2_with fail
    refine (rnext_any h1 (by omega)).mono ?_
    rintro e w2 ⟨hb2, ⟨l', hl', rfl, h2⟩ | ⟨hlen, rfl, h2⟩⟩
    · go_wp2_with fail
      go_end0
      rw [HM.out]
      obtain ⟨hi, hk⟩ := HN.out.1 l' hl'
      refine ⟨rfl, hM.belowB (hb1.trans hb2 (by simp)), .inl ⟨K + 1, nv, mv, rows, names, ?_, ?_, l', hl', hi, hk⟩⟩
      · rw [hk]; exact h2
      · have hL' := hE.line hl'
        have := hL'.at'
        have := hL'.en
        exact HS.out.next (by rw [hk]; omega)
    · go_wp2_with fail
      go_end0
      rw [HM.out]
      have hk := HN.out.2 hlen
      exact ⟨rfl, hM.belowB (hb1.trans hb2 (by simp)), .inr ⟨hk, K + 1, _, nv, mv, rows, names, hlen, h2, HS.out.next (by rw [hk]; exact Nat.le_refl _)⟩⟩

end Go.Proofs.YtkflkmmbakccoaaGreatDoor
