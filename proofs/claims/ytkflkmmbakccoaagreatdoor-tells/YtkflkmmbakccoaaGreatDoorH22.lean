/- PARTS: R6, R7, R8, RI3, R9. -/
import Derived.Test.YtkflkmmbakccoaaGreatDoorH21
import Derived.Test.YtkflkmmbakccoaaGreatDoorH5
import Derived.Test.YtkflkmmbakccoaaGreatDoorH6
import Derived.Test.YtkflkmmbakccoaaGreatDoorH7

/- WALKS: package grafterref: begin. -/
namespace Go.Proofs.YtkflkmmbakccoaaGreatDoor
open Go.RowKit Go.Maps

/-- An error and its place, behind one more that is found. -/
def wrE (er pl e at' : Nat) : Nat × Nat := if er = 0 then (e, at') else (er, pl)

theorem wrC_rcells (R : REnv) (K k : Nat) (nv mv : Value) (an er pl e at' : Nat) : wrC (rcells R K k nv mv an er pl) er (e : Int) (at' : Int) = rcells R K k nv mv an (wrE er pl e at').1 (wrE er pl e at').2 := by
  unfold wrC wrE
  split
  · simp [rcells]
  · rfl

/-- One more error is told. -/
theorem rwrong_any {R : REnv} {K k an er pl : Nat} {nv mv : Value} {rows : List RRow} {names : List (ByteArray × Nat)} {w : World} (h : RMem R K k an er pl nv mv rows names w) (e at' : Nat) :
    Calls Tryz.prog 103 #[.pointer (some ⟨R.b, 0, none⟩), .int .i64 (e : Int), .int .i64 (at' : Int)] w fun r w' => r = .returned (.tuple #[]) ∧ RMem R K k an (wrE er pl e at').1 (wrE er pl e at').2 nv mv rows names w' ∧ But [R.b] w w' := by
  refine (wrong_any R.b _ _ er _ (e : Int) (at' : Int) w h.rd h.rc.h11 rfl).mono ?_
  rintro r w' ⟨rfl, hB, hb, _⟩
  rw [wrC_rcells] at hB
  exact ⟨rfl, h.turn hb hB, hb⟩

theorem infoRNode : (Tryz.prog.info? 109).map (fun i => (i.zero, i.size, i.bytes)) = some (some (.agg #[.int .u8 0, .string ⟨#[]⟩, .slice none 0 0, .slice none 0 0, .int .i64 0, .int .i64 0]), 6, 88) := by kernel_rfl
theorem undRNodes : Tryz.prog.underlying 111 = some (.slice 109) := by kernel_rfl

theorem RMem.nvIs {R : REnv} {K k an er pl : Nat} {nv mv : Value} {rows : List RRow} {names : List (ByteArray × Nat)} {w : World} (h : RMem R K k an er pl nv mv rows names w) : ∃ a cap, nv = .slice a rows.length cap := by
  rcases h.nodes.2 with ⟨e, h0⟩ | ⟨g, cap, cur, e, _⟩
  · exact ⟨_, _, by rw [e, h0]⟩
  · exact ⟨_, _, e⟩

theorem RMem.below {R : REnv} {K k an er pl : Nat} {nv mv : Value} {rows : List RRow} {names : List (ByteArray × Nat)} {w w' : World} (h : RMem R K k an er pl nv mv rows names w) (hb : But (R.b :: own nv) w w') : Below R.base w w' :=
  hb.below h.base (fun x hx => by
    rcases List.mem_cons.1 hx with rfl | hx
    · exact h.bb
    · exact (ownsRow_lt h.nodes hx).1)

/-- What a node's beginning finds wrong. -/
def bgE (R : REnv) (lv : Int) (n k er pl : Nat) : Nat × Nat :=
  let p := if R.B.depth < lv then wrE er pl 4 k else (er, pl)
  if R.B.nodes ≤ (n : Int) then wrE p.1 p.2 5 k else p

set_option maxRecDepth 20000 in
set_option maxHeartbeats 1000000 in
theorem rbegin_any {R : REnv} {K k an er pl : Nat} {nv mv : Value} {rows : List RRow} {names : List (ByteArray × Nat)} {w : World} (h : RMem R K k an er pl nv mv rows names w) (lv : Int) (hn : rows.length ≤ 1000) :
    Calls Tryz.prog 105 #[.pointer (some ⟨R.b, 0, none⟩), .int .i64 lv] w fun e w' => e = .returned (.int .i64 (rows.length : Int)) ∧ Below R.base w w' ∧
      ∃ nv', RMem R K k an (bgE R lv rows.length k er pl).1 (bgE R lv rows.length k er pl).2 nv' mv (rows ++ [rblank]) names w' := by
  obtain ⟨i0, hi, hz0, hz1, hz2⟩ := info_parts infoRNode
  obtain ⟨a, cap, rfl⟩ := h.nvIs
  have c3 : w.cell? ⟨R.b, 3, none⟩ = some (.int .i64 (k : Int)) := h.rd.cell rfl
  have c4 : w.cell? ⟨R.b, 4, none⟩ = some (.int .i64 R.B.depth) := h.rd.cell rfl
  have c5 : w.cell? ⟨R.b, 5, none⟩ = some (.int .i64 R.B.nodes) := h.rd.cell rfl
  have c8 : w.cell? ⟨R.b, 8, none⟩ = some (.slice a rows.length cap) := h.rd.cell rfl
  by_cases hlv : R.B.depth < lv
  · by_cases hnn : R.B.nodes ≤ (rows.length : Int)
    · have HM : Hid (bgE R lv rows.length k er pl = wrE (wrE er pl 4 k).1 (wrE er pl 4 k).2 5 k) := by unfold Hid bgE; simp only [if_pos hlv, if_pos hnn]
      go_enter Tryz.func105, Tryz.ntmps105
      go_wp2_with fail
      refine (rwrong_any h 4 k).mono ?_
      rintro e w1 ⟨rfl, h1, hb1⟩
      have d3 : w1.cell? ⟨R.b, 3, none⟩ = some (.int .i64 (k : Int)) := h1.rd.cell rfl
      have d5 : w1.cell? ⟨R.b, 5, none⟩ = some (.int .i64 R.B.nodes) := h1.rd.cell rfl
      have d8 : w1.cell? ⟨R.b, 8, none⟩ = some (.slice a rows.length cap) := h1.rd.cell rfl
      go_wp2_with fail
      go_quiet (fail)
      have hW : RMem R K k an _ _ _ mv rows names (w1.drewN nq) := h1.still ((But.refl [] w1).drewN _)
      have hbW : But [] w1 (w1.drewN nq) := (But.refl [] w1).drewN _
      generalize w1.drewN nq = W at *
      have n3 : W.cell? ⟨R.b, 3, none⟩ = some (.int .i64 (k : Int)) := hW.rd.cell rfl
      go_wp2_with fail
      refine (rwrong_any hW 5 k).mono ?_
      rintro e w2 ⟨rfl, h2, hb2⟩
      have e8 : w2.cell? ⟨R.b, 8, none⟩ = some (.slice a rows.length cap) := h2.rd.cell rfl
      have hbase := h2.base
      go_wp2_with (at_builtin; refine wpList_append_own_at _ rfl _ _ 111 rfl R.base 109 i0 (.agg #[.int .u8 0, .string ⟨#[]⟩, .slice none 0 0, .slice none 0 0, .int .i64 0, .int .i64 0]) 6 88 undRNodes hi hz0 hz1 hz2 rfl (by decide) _ _ _ rfl (h2.nodes.alloc _) ⟨w2.heap.size, 0, none⟩ 1 1 rblank.cells rfl rfl ?c1 ?c2 ?c3 ?c4 ?c5 ?_)
      case c1 => exact cells_new w2 _ _ _ rfl
      case c2 => intro u hu; simp [rblank, RRow.cells, NodeV.blank] at hu; rcases hu with rfl | rfl | rfl | rfl | rfl <;> rfl
      case c3 => unfold maxLen; omega
      case c4 => omega
      case c5 => simp; omega
      intro v' w5 hown hgrow hnil hloc
      obtain ⟨hg5, hM5, hb5⟩ := h2.begun hown hgrow
      have hv : ∃ a cap, v' = .slice a (rows.length + 1) cap := by
        rcases hown.2 with ⟨_, h0⟩ | ⟨g, cap, cur, rfl, _⟩
        · omega
        · exact ⟨_, _, rfl⟩
      obtain ⟨a', cap', rfl⟩ := hv
      have d8 : w5.cell? ⟨R.b, 8, none⟩ = some (.slice a rows.length cap) := hg5.cell rfl
      have f8 : w5.frozen? ⟨R.b, 8, none⟩ = false := hg5.free 8
      clear hown hgrow hnil hloc e8 hg5
      go_wp2_with fail
      go_ret
      refine ⟨ret_int (by omega), ?_, _, by rw [HM.out]; exact hM5⟩
      exact h.below ((((hb1.trans hbW (by simp)).trans hb2 (by simp)).mono (by simp)).trans hb5 (fun x hx => .inl hx))
    · have HM : Hid (bgE R lv rows.length k er pl = wrE er pl 4 k) := by unfold Hid bgE; simp only [if_pos hlv, if_neg hnn]
      go_enter Tryz.func105, Tryz.ntmps105
      go_wp2_with fail
      refine (rwrong_any h 4 k).mono ?_
      rintro e w1 ⟨rfl, h1, hb1⟩
      have d3 : w1.cell? ⟨R.b, 3, none⟩ = some (.int .i64 (k : Int)) := h1.rd.cell rfl
      have d5 : w1.cell? ⟨R.b, 5, none⟩ = some (.int .i64 R.B.nodes) := h1.rd.cell rfl
      have d8 : w1.cell? ⟨R.b, 8, none⟩ = some (.slice a rows.length cap) := h1.rd.cell rfl
      go_wp2_with fail
      go_quiet (fail)
      have hW : RMem R K k an _ _ _ mv rows names (w1.drewN nq) := h1.still ((But.refl [] w1).drewN _)
      have hbW : But [] w1 (w1.drewN nq) := (But.refl [] w1).drewN _
      generalize w1.drewN nq = W at *
      have n3 : W.cell? ⟨R.b, 3, none⟩ = some (.int .i64 (k : Int)) := hW.rd.cell rfl
      have e8 : W.cell? ⟨R.b, 8, none⟩ = some (.slice a rows.length cap) := hW.rd.cell rfl
      have hbase := hW.base
      go_wp2_with (at_builtin; refine wpList_append_own_at _ rfl _ _ 111 rfl R.base 109 i0 (.agg #[.int .u8 0, .string ⟨#[]⟩, .slice none 0 0, .slice none 0 0, .int .i64 0, .int .i64 0]) 6 88 undRNodes hi hz0 hz1 hz2 rfl (by decide) _ _ _ rfl (hW.nodes.alloc _) ⟨W.heap.size, 0, none⟩ 1 1 rblank.cells rfl rfl ?c1 ?c2 ?c3 ?c4 ?c5 ?_)
      case c1 => exact cells_new W _ _ _ rfl
      case c2 => intro u hu; simp [rblank, RRow.cells, NodeV.blank] at hu; rcases hu with rfl | rfl | rfl | rfl | rfl <;> rfl
      case c3 => unfold maxLen; omega
      case c4 => omega
      case c5 => simp; omega
      intro v' w5 hown hgrow hnil hloc
      obtain ⟨hg5, hM5, hb5⟩ := hW.begun hown hgrow
      have hv : ∃ a cap, v' = .slice a (rows.length + 1) cap := by
        rcases hown.2 with ⟨_, h0⟩ | ⟨g, cap, cur, rfl, _⟩
        · omega
        · exact ⟨_, _, rfl⟩
      obtain ⟨a', cap', rfl⟩ := hv
      have d8 : w5.cell? ⟨R.b, 8, none⟩ = some (.slice a rows.length cap) := hg5.cell rfl
      have f8 : w5.frozen? ⟨R.b, 8, none⟩ = false := hg5.free 8
      clear hown hgrow hnil hloc e8 hg5
      go_wp2_with fail
      go_ret
      refine ⟨ret_int (by omega), ?_, _, by rw [HM.out]; exact hM5⟩
      exact h.below (((hb1.trans hbW (by simp)).mono (by simp)).trans hb5 (fun x hx => .inl hx))
  · by_cases hnn : R.B.nodes ≤ (rows.length : Int)
    · have HM : Hid (bgE R lv rows.length k er pl = wrE er pl 5 k) := by unfold Hid bgE; simp only [if_neg hlv, if_pos hnn]
      go_enter Tryz.func105, Tryz.ntmps105
      go_wp2_with fail
      go_quiet (fail)
      have hW : RMem R K k an _ _ _ mv rows names (w.drewN nq) := h.still ((But.refl [] w).drewN _)
      have hbW : But [] w (w.drewN nq) := (But.refl [] w).drewN _
      generalize w.drewN nq = W at *
      have n3 : W.cell? ⟨R.b, 3, none⟩ = some (.int .i64 (k : Int)) := hW.rd.cell rfl
      go_wp2_with fail
      refine (rwrong_any hW 5 k).mono ?_
      rintro e w2 ⟨rfl, h2, hb2⟩
      have e8 : w2.cell? ⟨R.b, 8, none⟩ = some (.slice a rows.length cap) := h2.rd.cell rfl
      have hbase := h2.base
      go_wp2_with (at_builtin; refine wpList_append_own_at _ rfl _ _ 111 rfl R.base 109 i0 (.agg #[.int .u8 0, .string ⟨#[]⟩, .slice none 0 0, .slice none 0 0, .int .i64 0, .int .i64 0]) 6 88 undRNodes hi hz0 hz1 hz2 rfl (by decide) _ _ _ rfl (h2.nodes.alloc _) ⟨w2.heap.size, 0, none⟩ 1 1 rblank.cells rfl rfl ?c1 ?c2 ?c3 ?c4 ?c5 ?_)
      case c1 => exact cells_new w2 _ _ _ rfl
      case c2 => intro u hu; simp [rblank, RRow.cells, NodeV.blank] at hu; rcases hu with rfl | rfl | rfl | rfl | rfl <;> rfl
      case c3 => unfold maxLen; omega
      case c4 => omega
      case c5 => simp; omega
      intro v' w5 hown hgrow hnil hloc
      obtain ⟨hg5, hM5, hb5⟩ := h2.begun hown hgrow
      have hv : ∃ a cap, v' = .slice a (rows.length + 1) cap := by
        rcases hown.2 with ⟨_, h0⟩ | ⟨g, cap, cur, rfl, _⟩
        · omega
        · exact ⟨_, _, rfl⟩
      obtain ⟨a', cap', rfl⟩ := hv
      have d8 : w5.cell? ⟨R.b, 8, none⟩ = some (.slice a rows.length cap) := hg5.cell rfl
      have f8 : w5.frozen? ⟨R.b, 8, none⟩ = false := hg5.free 8
      clear hown hgrow hnil hloc e8 hg5
      go_wp2_with fail
      go_ret
      refine ⟨ret_int (by omega), ?_, _, by rw [HM.out]; exact hM5⟩
      exact h.below (((hbW.mono (by simp)).trans hb2 (by simp)).trans hb5 (fun x hx => .inl hx))
    · have HM : Hid (bgE R lv rows.length k er pl = (er, pl)) := by unfold Hid bgE; simp only [if_neg hlv, if_neg hnn]
      go_enter Tryz.func105, Tryz.ntmps105
      go_wp2_with fail
      go_quiet (fail)
      have hW : RMem R K k an _ _ _ mv rows names (w.drewN nq) := h.still ((But.refl [] w).drewN _)
      have hbW : But [] w (w.drewN nq) := (But.refl [] w).drewN _
      generalize w.drewN nq = W at *
      have n3 : W.cell? ⟨R.b, 3, none⟩ = some (.int .i64 (k : Int)) := hW.rd.cell rfl
      have e8 : W.cell? ⟨R.b, 8, none⟩ = some (.slice a rows.length cap) := hW.rd.cell rfl
      have hbase := hW.base
      go_wp2_with (at_builtin; refine wpList_append_own_at _ rfl _ _ 111 rfl R.base 109 i0 (.agg #[.int .u8 0, .string ⟨#[]⟩, .slice none 0 0, .slice none 0 0, .int .i64 0, .int .i64 0]) 6 88 undRNodes hi hz0 hz1 hz2 rfl (by decide) _ _ _ rfl (hW.nodes.alloc _) ⟨W.heap.size, 0, none⟩ 1 1 rblank.cells rfl rfl ?c1 ?c2 ?c3 ?c4 ?c5 ?_)
      case c1 => exact cells_new W _ _ _ rfl
      case c2 => intro u hu; simp [rblank, RRow.cells, NodeV.blank] at hu; rcases hu with rfl | rfl | rfl | rfl | rfl <;> rfl
      case c3 => unfold maxLen; omega
      case c4 => omega
      case c5 => simp; omega
      intro v' w5 hown hgrow hnil hloc
      obtain ⟨hg5, hM5, hb5⟩ := hW.begun hown hgrow
      have hv : ∃ a cap, v' = .slice a (rows.length + 1) cap := by
        rcases hown.2 with ⟨_, h0⟩ | ⟨g, cap, cur, rfl, _⟩
        · omega
        · exact ⟨_, _, rfl⟩
      obtain ⟨a', cap', rfl⟩ := hv
      have d8 : w5.cell? ⟨R.b, 8, none⟩ = some (.slice a rows.length cap) := hg5.cell rfl
      have f8 : w5.frozen? ⟨R.b, 8, none⟩ = false := hg5.free 8
      clear hown hgrow hnil hloc e8 hg5
      go_wp2_with fail
      go_ret
      refine ⟨ret_int (by omega), ?_, _, by rw [HM.out]; exact hM5⟩
      exact h.below ((hbW.mono (by simp)).trans hb5 (fun x hx => .inl hx))

end Go.Proofs.YtkflkmmbakccoaaGreatDoor

/- WALKS: package grafterref: named. -/
namespace Go.Proofs.YtkflkmmbakccoaaGreatDoor
open Go.RowKit Go.Maps

theorem nmFlat_at (L : List (ByteArray × Nat)) (i j : Nat) (hi : i < L.length) (hj : j < 2) : (L.flatMap nmCells)[i * 2 + j]? = (nmCells L[i])[j]? := by
  induction L generalizing i with
  | nil => simp at hi
  | cons r L ih =>
    cases i with
    | zero =>
      simp only [List.flatMap_cons, Nat.zero_mul, Nat.zero_add, List.getElem_cons_zero]
      rw [List.getElem?_append_left (by simp [nmCells]; omega)]
    | succ i =>
      simp only [List.flatMap_cons, List.getElem_cons_succ]
      rw [List.getElem?_append_right (by simp [nmCells]; omega)]
      have e : (i + 1) * 2 + j - (nmCells r).length = i * 2 + j := by simp [nmCells]; omega
      rw [e]
      exact ih i (by simpa using hi)

theorem RMem.mvIs {R : REnv} {K k an er pl : Nat} {nv mv : Value} {rows : List RRow} {names : List (ByteArray × Nat)} {w : World} (h : RMem R K k an er pl nv mv rows names w) : ∃ a cap, mv = .slice a names.length cap := by
  rcases h.names.2 with ⟨e, h0⟩ | ⟨g, cap, cur, e, _⟩
  · exact ⟨_, _, by rw [e, h0]⟩
  · exact ⟨_, _, e⟩

theorem RMem.name {R : REnv} {K k an er pl : Nat} {nv mv : Value} {rows : List RRow} {names : List (ByteArray × Nat)} {w : World} (h : RMem R K k an er pl nv mv rows names w) (i : Nat) (hi : i < names.length) :
    ∃ nb cap, mv = .slice (some ⟨nb, 0, none⟩) names.length cap ∧ names.length ≤ cap ∧ w.cell? ⟨nb, i * 2, none⟩ = some (.string names[i].1) ∧ w.cell? ⟨nb, i * 2 + 1, none⟩ = some (.int .i64 (names[i].2 : Int)) := by
  rcases h.names.2 with ⟨_, h0⟩ | ⟨g, cap, cur, e, hb, hg, hc, hm, hs, ht⟩
  · omega
  · have key : ∀ j, j < 2 → w.cell? ⟨g, i * 2 + j, none⟩ = (nmCells names[i])[j]? := fun j hj => by
      have h1 := nmFlat_at names i j hi hj
      rw [← ht, List.getElem?_take, if_pos (by omega)] at h1
      rw [← h1]
      simp only [World.cell?, hg]
      simp
    exact ⟨g, cap, e, hc, key 0 (by omega), key 1 (by omega)⟩

/-- What has a name, as a number; -1: none. -/
def lookI (names : List (ByteArray × Nat)) (x : ByteArray) : Int := match lookM names x with | none => -1 | some i => (i : Int)

theorem lookI_skip (names : List (ByteArray × Nat)) (x : ByteArray) (i : Nat) (hi : i < names.length) (h : names[i].1 ≠ x) : lookI ((names.take (i + 1)).reverse) x = lookI ((names.take i).reverse) x := by
  rw [List.take_succ_eq_append_getElem hi, List.reverse_append]
  simp [lookI, lookM, h]

theorem lookI_hit (names : List (ByteArray × Nat)) (x : ByteArray) (i : Nat) (hi : i < names.length) (h : names[i].1 = x) : lookI ((names.take (i + 1)).reverse) x = (names[i].2 : Int) := by
  rw [List.take_succ_eq_append_getElem hi, List.reverse_append]
  simp [lookI, lookM, h]

set_option maxRecDepth 20000 in
set_option maxHeartbeats 1000000 in
theorem rnamed_any {R : REnv} {K k an er pl : Nat} {nv mv : Value} {rows : List RRow} {names : List (ByteArray × Nat)} {w : World} (h : RMem R K k an er pl nv mv rows names w) (x : ByteArray) (hn : names.length ≤ 1000) :
    Calls Tryz.prog 175 #[.pointer (some ⟨R.b, 0, none⟩), .string x] w fun e w' => e = .returned (.int .i64 (lookI names.reverse x)) ∧ But [] w w' := by
  obtain ⟨a, cap, rfl⟩ := h.mvIs
  have c9 : w.cell? ⟨R.b, 9, none⟩ = some (.slice a names.length cap) := h.rd.cell rfl
  go_enter Tryz.func175, Tryz.ntmps175
  go_wp2_with fail
  go_loopg [5] (names.length + 1) (fun gk iv wr => ∃ i : Nat, gk = i + 1 ∧ i ≤ names.length ∧ iv = .int .i64 ((i : Int) - 1) ∧ lookI names.reverse x = lookI ((names.take i).reverse) x ∧ But [] w wr)
  case atStart => exact ⟨names.length, rfl, Nat.le_refl _, rfl, by simp, by first | exact But.refl _ _ | exact (But.refl _ _).drewN _⟩
  case round =>
    obtain ⟨i, rfl, hi, rfl, hlk, hbut⟩ := hrel
    have HLK : Hid _ := hlk
    clear hlk
    have hM := h.still hbut
    have d9 : wr.cell? ⟨R.b, 9, none⟩ = some (.slice a names.length cap) := hM.rd.cell rfl
    by_cases h0 : i = 0
    · subst h0
      have HZ : Hid (lookI names.reverse x = -1) := by unfold Hid; rw [HLK.out]; rfl
      go_wp2_with fail
      go_ret
      exact ⟨ret_int HZ.out.symm, hbut⟩
    · obtain ⟨j, rfl⟩ : ∃ j, i = j + 1 := ⟨i - 1, by omega⟩
      have hj : j < names.length := by omega
      obtain ⟨nb, cap', e, hcap, n0, n1⟩ := hM.name j hj
      obtain ⟨rfl, rfl⟩ : a = some ⟨nb, 0, none⟩ ∧ cap = cap' := by simpa using e
      have ej : ((j + 1 : Nat) : Int) - 1 = (j : Int) := by omega
      rw [ej]
      by_cases hx' : names[j].1 = x
      · have HZ : Hid (lookI names.reverse x = (names[j].2 : Int)) := by unfold Hid; rw [HLK.out, lookI_hit names x j hj hx']
        have hxx : (names[j].1.toList == x.toList) = true := by rw [hx']; simp
        generalize names[j] = p at *
        go_wp2_with fail
        go_ret
        exact ⟨ret_int HZ.out.symm, by first | exact hbut | exact hbut.drewN _⟩
      · have HZ : Hid (lookI names.reverse x = lookI ((names.take j).reverse) x) := by unfold Hid; rw [HLK.out, lookI_skip names x j hj hx']
        have hxx : (names[j].1.toList == x.toList) = false := beq_eq_false_iff_ne.2 (fun e => hx' (bytes_toList e))
        generalize names[j] = p at *
        go_wp2_with fail
        go_roundg (j + 1)
        case measure => omega
        case rel => exact ⟨j, rfl, by omega, by go_num, HZ.out, by first | exact hbut | exact hbut.drewN _⟩

end Go.Proofs.YtkflkmmbakccoaaGreatDoor

/- WALKS: package grafterref: done. -/
namespace Go.Proofs.YtkflkmmbakccoaaGreatDoor
open Go.RowKit Go.Maps

def nsOf (rows : List RRow) : PS := ⟨0, 0, rows.map RRow.n, 0, []⟩

theorem nsOf_high (rows : List RRow) (i : Nat) (hi : i < rows.length) : highOf (nsOf rows).nodes i = (rows[i]).n.high := by
  simp [highOf, nsOf, List.getD, hi]
theorem nsOf_heavy (rows : List RRow) (i : Nat) (hi : i < rows.length) : heavyOf (nsOf rows).nodes i = (rows[i]).n.heavy := by
  simp [heavyOf, nsOf, List.getD, hi]

theorem highTo_le' (t : PS) (l : List Nat) (h : ∀ x ∈ l, highOf t.nodes x ≤ 100) : highTo t l ≤ 100 := by
  have := foldl_max_le (highOf t.nodes) l 0 100 (by omega) (fun x hx => by have := h x hx; omega)
  unfold highTo; omega

set_option maxRecDepth 20000 in
set_option maxHeartbeats 1000000 in
theorem rdone_any {R : REnv} {K k an er pl : Nat} {nv mv : Value} {rows : List RRow} {names : List (ByteArray × Nat)} {w : World} (h : RMem R K k an er pl nv mv rows names w) (id : Nat) (hid : id < rows.length) (hp : ∀ x ∈ (rows[id]).n.parts, x < rows.length) (hl : (rows[id]).n.parts.length ≤ 1000)
    (hhi : ∀ x ∈ (rows[id]).n.parts, highOf (nsOf rows).nodes x ≤ 100) (hhe : ∀ x ∈ (rows[id]).n.parts, heavyOf (nsOf rows).nodes x ≤ 1000000000001) :
    Calls Tryz.prog 134 #[.pointer (some ⟨R.b, 0, none⟩), .int .i64 (id : Int)] w fun e w' => e = .returned (.tuple #[]) ∧ But (own nv) w w' ∧
      RMem R K k an er pl nv mv (rows.set id ⟨(rows[id]).kb, measured (nsOf rows).nodes (rows[id]).n, (rows[id]).kv, (rows[id]).pv⟩) names w' := by
  have HH1 : Hid _ := hhi
  have HH2 : Hid _ := hhe
  have HP : Hid _ := hp
  clear hhi hhe hp
  obtain ⟨pa, pcap, hpv, hpc⟩ := own_shape (h.ok _ (List.getElem_mem hid)).2
  obtain ⟨nb, cap, rfl, hcap, hcn⟩ := h.node id hid
  have HN : Hid (measured (nsOf rows).nodes (rows[id]).n = { (rows[id]).n with high := highTo (nsOf rows) (rows[id]).n.parts + 1, heavy := heavyTo (nsOf rows) (rows[id]).n.parts }) := rfl
  have HOK := (h.ok _ (List.getElem_mem hid)).2
  obtain ⟨ro, HRO⟩ : ∃ ro, Hid (ro = rows[id]) := ⟨rows[id], (rfl : rows[id] = rows[id])⟩
  have HCN : Hid _ := hcn
  clear hcn
  rw [← HRO.out] at hpv HP HN HOK HCN hl HH1 HH2 ⊢
  obtain ⟨kb, n, kv, pv⟩ := ro
  simp only at hpv HP HN HOK hl HH1 HH2 ⊢
  subst hpv
  have HOK' : Hid _ := HOK
  clear HOK
  go_enter Tryz.func134, Tryz.ntmps134
  go_wp2_with fail
  go_loopg [4, 5, 6] (n.parts.length + 1) (fun gk hv wv iv wr => ∃ j : Nat, gk = n.parts.length + 1 - j ∧ j ≤ n.parts.length ∧ hv = .int .i64 ((highTo (nsOf rows) (n.parts.take j) : Int) + 1) ∧ wv = .int .i64 (heavyTo (nsOf rows) (n.parts.take j) : Int) ∧ iv = .int .i64 (j : Int) ∧ But [] w wr)
  case atStart => exact ⟨0, rfl, Nat.zero_le _, rfl, rfl, rfl, by first | exact But.refl _ _ | exact (But.refl _ _).drewN _⟩
  case round =>
    obtain ⟨j, rfl, hj, rfl, rfl, rfl, hbut⟩ := hrel
    have hM := h.still hbut
    have d8 : wr.cell? ⟨R.b, 8, none⟩ = some (.slice (some ⟨nb, 0, none⟩) rows.length cap) := hM.rd.cell rfl
    obtain ⟨nb', cap', e, _, hcn⟩ := hM.node id hid
    obtain ⟨rfl, rfl⟩ : nb = nb' ∧ cap = cap' := by simpa using e
    rw [← HRO.out] at hcn
    have i3 := (hcn 3 (by omega)).1
    simp only [RRow.cells, List.getElem?_cons_succ, List.getElem?_cons_zero] at i3
    have hbd1 := highTo_le' (nsOf rows) (n.parts.take j) (fun x hx => HH1.out x (List.mem_of_mem_take hx))
    have hbd2 := heavyTo_le (nsOf rows) (n.parts.take j)
    by_cases hlt : j < n.parts.length
    · clear hcn e
      have hx := HP.out n.parts[j] (List.getElem_mem hlt)
      obtain ⟨pb, cap', e', _, _, _⟩ := ownsInt_cell (n := n.parts.length) (l := n.parts) HOK'.out (by omega)
      obtain ⟨rfl, rfl⟩ : pa = some ⟨pb, 0, none⟩ ∧ pcap = cap' := by simpa using e'
      obtain ⟨xka, xkc, hxk, _⟩ := own_shape (h.ok _ (List.getElem_mem hx)).1
      obtain ⟨xpa, xpc, hxp, _⟩ := own_shape (h.ok _ (List.getElem_mem hx)).2
      have F : ∀ W, But [] w W → W.cell? ⟨R.b, 8, none⟩ = some (.slice (some ⟨nb, 0, none⟩) rows.length cap) ∧ W.cell? ⟨nb, id * 6 + 3, none⟩ = some (.slice (some ⟨pb, 0, none⟩) n.parts.length pcap) ∧ W.cell? ⟨pb, j, none⟩ = some (.int .i64 (n.parts[j] : Int)) ∧
          W.cell? ⟨nb, n.parts[j] * 6, none⟩ = some (.int .u8 ((rows[n.parts[j]]).kb : Int)) ∧ W.cell? ⟨nb, n.parts[j] * 6 + 1, none⟩ = some (.string (rows[n.parts[j]]).n.text) ∧ W.cell? ⟨nb, n.parts[j] * 6 + 2, none⟩ = some (.slice xka (rows[n.parts[j]]).n.keys.length xkc) ∧
          W.cell? ⟨nb, n.parts[j] * 6 + 3, none⟩ = some (.slice xpa (rows[n.parts[j]]).n.parts.length xpc) ∧ W.cell? ⟨nb, n.parts[j] * 6 + 4, none⟩ = some (.int .i64 (highOf (nsOf rows).nodes n.parts[j] : Int)) ∧ W.cell? ⟨nb, n.parts[j] * 6 + 5, none⟩ = some (.int .i64 (heavyOf (nsOf rows).nodes n.parts[j] : Int)) := by
        intro W hbW
        have hMW := h.still hbW
        obtain ⟨nb2, cap2, e2, _, hcn⟩ := hMW.node id hid
        obtain ⟨rfl, rfl⟩ : nb = nb2 ∧ cap = cap2 := by simpa using e2
        rw [← HRO.out] at hcn
        obtain ⟨pb2, cap2, e4, _, _, hcell⟩ := ownsInt_cell (n := n.parts.length) (l := n.parts) (ownsRow_but HOK'.out hbW (by simp)) (by omega)
        obtain ⟨rfl, rfl⟩ : pb = pb2 ∧ pcap = cap2 := by simpa using e4
        obtain ⟨nb3, cap3, e3, _, hxn⟩ := hMW.node n.parts[j] hx
        obtain ⟨rfl, rfl⟩ : nb = nb3 ∧ cap = cap3 := by simpa using e3
        refine ⟨hMW.rd.cell rfl, (hcn 3 (by omega)).1, hcell j hlt, (hxn 0 (by omega)).1, (hxn 1 (by omega)).1, ?_, ?_, ?_, ?_⟩
        · rw [← hxk]; exact (hxn 2 (by omega)).1
        · rw [← hxp]; exact (hxn 3 (by omega)).1
        · rw [nsOf_high rows _ hx]; exact (hxn 4 (by omega)).1
        · rw [nsOf_heavy rows _ hx]; exact (hxn 5 (by omega)).1
      have hbW : But [] w (wr.alloc (.cells #[.int .u8 0, .string ⟨#[]⟩, .slice none 0 0, .slice none 0 0, .int .i64 0, .int .i64 0] 109)) := hbut.alloc _
      have hBx : Blk (wr.alloc (.cells #[.int .u8 0, .string ⟨#[]⟩, .slice none 0 0, .slice none 0 0, .int .i64 0, .int .i64 0] 109)) wr.heap.size #[.int .u8 0, .string ⟨#[]⟩, .slice none 0 0, .slice none 0 0, .int .i64 0, .int .i64 0] 109 := heap_alloc_new wr _
      have hxsz : w.heap.size ≤ wr.heap.size := hbut.size
      obtain ⟨a1, a2, a3, x0, x1, x2, x3, x4, x5⟩ := F _ hbut
      obtain ⟨b1, b2, b3, v0, v1, v2, v3, v4, v5⟩ := F _ hbW
      have y0 := hBx.cell (i := 0) rfl
      have y1 := hBx.cell (i := 1) rfl
      have y2 := hBx.cell (i := 2) rfl
      have y3 := hBx.cell (i := 3) rfl
      have y4 := hBx.cell (i := 4) rfl
      have y5 := hBx.cell (i := 5) rfl
      have z0 := hBx.free 0
      have z1 := hBx.free 1
      have z2 := hBx.free 2
      have z3 := hBx.free 3
      have z4 := hBx.free 4
      have z5 := hBx.free 5
      have hh1 := HH1.out n.parts[j] (List.getElem_mem hlt)
      have hh2 := HH2.out n.parts[j] (List.getElem_mem hlt)
      have HE1 : Hid (highTo (nsOf rows) (n.parts.take (j + 1)) = max (highTo (nsOf rows) (n.parts.take j)) (highOf (nsOf rows).nodes n.parts[j])) := by unfold Hid; rw [← highTo_snoc]; simp
      have HE2 : Hid (heavyTo (nsOf rows) (n.parts.take (j + 1)) = min (heavyTo (nsOf rows) (n.parts.take j) + heavyOf (nsOf rows).nodes n.parts[j]) 1000000000001) := by unfold Hid; rw [← heavyTo_snoc]; simp
      clear F d8 i3 e' hxk hxp
      generalize rows[n.parts[j]] = rx at *
      obtain ⟨xkb, xn, xkv, xpv⟩ := rx
      simp only at x0 x1 x2 x3 v0 v1 v2 v3
      generalize n.parts[j] = x at *
      generalize highTo (nsOf rows) (n.parts.take j) = H at *
      generalize heavyTo (nsOf rows) (n.parts.take j) = V at *
      generalize highOf (nsOf rows).nodes x = H1 at *
      generalize heavyOf (nsOf rows).nodes x = V1 at *
      generalize xn.keys.length = xkl at *
      generalize xn.parts.length = xpl at *
      go_wp2_with fail
      go_region
      by_cases hH : (H1 : Int) + 1 > (H : Int) + 1
      all_goals
        by_cases hV : (V : Int) + (V1 : Int) > 1000000000001
        all_goals
          go_wp2_with fail
          go_roundg (n.parts.length + 1 - (j + 1))
          case measure => omega
          case rel =>
            refine ⟨j + 1, rfl, by omega, ?_, ?_, by go_num, ?_⟩
            · rw [HE1.out]
              congr 1
              omega
            · rw [HE2.out]
              congr 1
              omega
            · repeat (first | exact hbut | refine But.drewN ?_ _ | refine But.drew ?_ | refine But.alloc ?_ _)
    · clear e
      have hfull : n.parts.take j = n.parts := List.take_of_length_le (by omega)
      rw [hfull] at hbd1 hbd2 ⊢
      obtain ⟨_, f4⟩ := hcn 4 (by omega)
      obtain ⟨_, f5⟩ := hcn 5 (by omega)
      obtain ⟨i4, _⟩ := hcn 4 (by omega)
      obtain ⟨i5, _⟩ := hcn 5 (by omega)
      simp only [RRow.cells, List.getElem?_cons_succ, List.getElem?_cons_zero] at i4 i5
      clear hcn hfull
      generalize highTo (nsOf rows) n.parts = H at *
      generalize heavyTo (nsOf rows) n.parts = V at *
      have hro := HRO.out
      have HRO2 : Hid (RRow.mk kb n kv (.slice pa n.parts.length pcap) = rows[id]) := hro
      clear hro
      go_wp2_with fail
      go_end0
      rw [HN.out]
      refine ⟨rfl, ((hbut.mono (by simp)).setCell (by simp [own]) _).setCell (by simp [own]) _, ?_⟩
      have s1 := hM.setNode (i := id) (j := 4) (r := ⟨kb, { n with high := H + 1 }, kv, .slice pa n.parts.length pcap⟩) (v := .int .i64 ((H : Int) + 1)) hid (by omega) rfl (fun q hq hne => by
        rw [← HRO2.out]
        match q, hq with
        | 0, _ => rfl
        | 1, _ => rfl
        | 2, _ => rfl
        | 3, _ => rfl
        | 4, _ => exact absurd rfl hne
        | 5, _ => rfl) (by rw [← HRO2.out]) (by rw [← HRO2.out]) (by rw [← HRO2.out]) (by rw [← HRO2.out])
      have hlen : (rows.set id ⟨kb, { n with high := H + 1 }, kv, .slice pa n.parts.length pcap⟩).length = rows.length := by simp
      rw [← hlen] at s1
      have hid2 : id < (rows.set id ⟨kb, { n with high := H + 1 }, kv, .slice pa n.parts.length pcap⟩).length := by rw [hlen]; exact hid
      have hg2 : (rows.set id ⟨kb, { n with high := H + 1 }, kv, .slice pa n.parts.length pcap⟩)[id] = ⟨kb, { n with high := H + 1 }, kv, .slice pa n.parts.length pcap⟩ := by simp
      have s2 := s1.setNode (i := id) (j := 5) (r := ⟨kb, { n with high := H + 1, heavy := V }, kv, .slice pa n.parts.length pcap⟩) (v := .int .i64 (V : Int)) hid2 (by omega) rfl (fun q hq hne => by
        rw [hg2]
        match q, hq with
        | 0, _ => rfl
        | 1, _ => rfl
        | 2, _ => rfl
        | 3, _ => rfl
        | 4, _ => rfl
        | 5, _ => exact absurd rfl hne) (by rw [hg2]) (by rw [hg2]) (by rw [hg2]) (by rw [hg2])
      rw [List.set_set, hlen] at s2
      exact s2

end Go.Proofs.YtkflkmmbakccoaaGreatDoor

/- THE READER OF grafterref: the state that it stands at, beside the plain reader's. -/
namespace Go.Proofs.YtkflkmmbakccoaaGreatDoor
open Go.RowKit Go.Maps

/-- The byte of a kind. -/
def kbyte (k : Nat) : Nat := if k = 0 then 116 else if k = 1 then 108 else 109

/-- Nodes that are still being read: their kind's byte, and what has been read of them. -/
abbrev Over := Nat → Option (Nat × NodeV)

def Over.put (ov : Over) (i : Nat) (p : Nat × NodeV) : Over := fun j => if j = i then some p else ov j

/-- The list of nodes beside the plain one. -/
structure RSt (s : ByteArray) (ov : Over) (t : PS) (rows : List RRow) (names : List (ByteArray × Nat)) (an : Nat) : Prop where
  len : rows.length = t.nodes.length
  shut : ∀ i (hi : i < rows.length), ov i = none → t.nodes[i]? = some (rows[i]).n ∧ ((rows[i]).n.high ≠ 0 → (rows[i]).kb = kbyte (rows[i]).n.kind)
  opened : ∀ i p, ov i = some p → highOf t.nodes i = 0 ∧ ∃ r, rows[i]? = some r ∧ r.kb = p.1 ∧ r.n = p.2
  names : names = t.names.reverse
  an : an = t.anchors
  wf : WF s t

/-- A line that is read: its facts. -/
structure LineOk (s : ByteArray) (l : LineV) : Prop where
  at' : l.at' < l.en
  en : l.en ≤ s.size
  nl : l.en < s.size → byteAt s l.en = 10
  in' : ∀ j, l.at' ≤ j → j < l.en → byteAt s j ≠ 10

/-- What stays the same, and is known of it. -/
structure REnvOk (R : REnv) : Prop where
  s : R.s.size ≤ 1000
  d : R.B.depth ≤ 20
  n : R.B.nodes ≤ 500
  a : R.B.anchors ≤ 100
  L : R.L = linesFrom R.s 0

/-- The reading stands in line K. -/
def InLine (R : REnv) (K : Nat) (t : PS) : Prop := ∃ l, R.L[K]? = some l ∧ t.ind = l.ind ∧ l.at' ≤ t.k ∧ t.k ≤ l.en

/-- All went well: the Reader stands in line K, at t. -/
def RGood (R : REnv) (ov : Over) (K : Nat) (t : PS) (w : World) : Prop :=
  ∃ nv mv rows names, RMem R K t.k t.anchors 0 0 nv mv rows names w ∧ RSt R.s ov t rows names t.anchors ∧ InLine R K t

/-- An error is told: what is kept all the same (t: where the reading stood). -/
def RBad (R : REnv) (ov : Over) (t : PS) (er pl : Nat) (w : World) : Prop :=
  er ≠ 0 ∧ ∃ K k an nv mv rows names, RMem R K k an er pl nv mv rows names w ∧ t.nodes.length ≤ rows.length ∧ (∀ i p, ov i = some p → ∃ r, rows[i]? = some r ∧ r.kb = p.1 ∧ r.n = p.2) ∧ names.length + t.anchors ≤ an + t.names.length ∧ an ≤ 101

theorem linesFrom_ok (s : ByteArray) (k : Nat) (hk : k ≤ s.size) : ∀ l ∈ linesFrom s k, LineOk s l := by
  intro l hl
  by_cases hn : (nlGo s k k).2 < s.size
  · have e := linesFrom_cons s k hk hn
    have h1 := nlGo_at s k k hn
    have h2 := nlGo_le s k k hk
    have h3 := lEnd_ge s ((nlGo s k k).2 + 1)
    have h4 := lEnd_le s (nlGo s k k).2 h2.2
    have h5 := lEnd_go s _ hn h1.1
    rw [e] at hl
    rcases List.mem_cons.1 hl with rfl | hl
    · exact ⟨by simp only; omega, h4, lEnd_is s _, fun j hj hje => lEnd_none s _ j hj hje⟩
    · exact linesFrom_ok s _ h4 l hl
  · rw [linesFrom_nil s k hn] at hl
    cases hl
termination_by s.size + 1 - k
decreasing_by omega
where
  lEnd_none (s : ByteArray) (k j : Nat) (hj : k ≤ j) (hje : j < lEnd s k) : byteAt s j ≠ 10 := by
    by_cases hk : k < s.size
    · by_cases hb : byteAt s k = 10
      · rw [lEnd_stop s k hk hb] at hje; omega
      · rw [lEnd_go s k hk hb] at hje
        by_cases e : j = k
        · rw [e]; exact hb
        · exact lEnd_none s (k + 1) j (by omega) hje
    · rw [lEnd_end s k hk] at hje; omega
  termination_by s.size - k

/-- The line behind line K is what is found from K's end on. -/
theorem linesFrom_next (s : ByteArray) (k : Nat) (hk : k ≤ s.size) (K : Nat) (l : LineV) (h : (linesFrom s k)[K]? = some l) : (linesFrom s k)[K + 1]? = (linesFrom s l.en)[0]? := by
  by_cases hn : (nlGo s k k).2 < s.size
  · have e := linesFrom_cons s k hk hn
    have h2 := nlGo_le s k k hk
    have h4 := lEnd_le s (nlGo s k k).2 h2.2
    rw [e] at h ⊢
    cases K with
    | zero =>
      simp only [List.getElem?_cons_zero, Option.some.injEq] at h
      subst h
      simp
    | succ K =>
      simp only [List.getElem?_cons_succ] at h ⊢
      exact linesFrom_next s _ h4 K l h
  · rw [linesFrom_nil s k hn] at h
    simp at h
termination_by s.size + 1 - k
decreasing_by
  have h1 := nlGo_at s k k hn
  have h3 := lEnd_ge s ((nlGo s k k).2 + 1)
  have h5 := lEnd_go s _ hn h1.1
  omega

end Go.Proofs.YtkflkmmbakccoaaGreatDoor

/- WALKS: package grafterref: now, word, scalar, over the Reader's memory. -/
namespace Go.Proofs.YtkflkmmbakccoaaGreatDoor
open Go.RowKit Go.Maps

theorem rcells_at (R : REnv) (K k q : Nat) (nv mv : Value) (an er pl : Nat) : (rcells R K k nv mv an er pl).setIfInBounds 3 (.int .i64 (q : Int)) = rcells R K q nv mv an er pl := by simp [rcells]

theorem RMem.b_lines {R : REnv} {K k an er pl : Nat} {nv mv : Value} {rows : List RRow} {names : List (ByteArray × Nat)} {w : World} (h : RMem R K k an er pl nv mv rows names w) : R.b ∉ own R.lv := fun hx => by
  obtain ⟨_, cs, hc⟩ := ownsRow_lt h.lines hx
  exact absurd (h.rd.inj hc).2 (by decide)

theorem rnow_any {R : REnv} {K k an er pl : Nat} {nv mv : Value} {rows : List RRow} {names : List (ByteArray × Nat)} {w : World} (h : RMem R K k an er pl nv mv rows names w) (hs : R.s.size ≤ 1000) {l : LineV} (hl : R.L[K]? = some l) (hL : LineOk R.s l) (hk : k ≤ l.en) :
    Calls Tryz.prog 131 #[.pointer (some ⟨R.b, 0, none⟩)] w fun e w' => e = .returned (.int .u8 (nowB R.s k l.en)) ∧ RMem R K (skipBl R.s k) an er pl nv mv rows names w' ∧ But [R.b] w w' := by
  obtain ⟨hK, hKl⟩ := List.getElem?_eq_some_iff.1 hl
  refine (now_any R.b _ _ R.s R.lv R.L R.base K k w h.rd h.rc.h0 h.rc.h1 h.rc.h2 h.rc.h3 h.lines hK hs l.en (by rw [hKl]) hk hL.en hL.nl).mono ?_
  rintro e w1 ⟨rfl, hB, hb, _⟩
  rw [rcells_at] at hB
  exact ⟨rfl, h.turn hb hB, hb⟩

/-- What the reading of a word or a string leaves, over the Reader's memory. -/
def RWord (R : REnv) (K an er pl : Nat) (nv mv : Value) (rows : List RRow) (names : List (ByteArray × Nat)) (rr : ByteArray × Bool × Nat) (x : ByteArray) (w' : World) : Prop :=
  if rr.2.1 = true then x = rr.1 ∧ RMem R K rr.2.2 an er pl nv mv rows names w' else RMem R K rr.2.2 an (wrE er pl 3 rr.2.2).1 (wrE er pl 3 rr.2.2).2 nv mv rows names w'

theorem RMem.word {R : REnv} {K k an er pl : Nat} {nv mv : Value} {rows : List RRow} {names : List (ByteArray × Nat)} {w w' : World} (h : RMem R K k an er pl nv mv rows names w) (hb : But [R.b] w w') {rr : ByteArray × Bool × Nat} {x : ByteArray} (hp : WordPost R.b (rcells R K k nv mv an er pl) 114 er rr x w') :
    RWord R K an er pl nv mv rows names rr x w' := by
  unfold WordPost at hp
  unfold RWord
  split at hp
  · rename_i hr
    rw [if_pos hr]
    rw [rcells_at] at hp
    exact ⟨hp.1, h.turn hb hp.2⟩
  · rename_i hr
    rw [if_neg hr]
    rw [rcells_at] at hp
    have e := wrC_rcells R K rr.2.2 nv mv an er pl 3 rr.2.2
    exact h.turn hb (e ▸ hp)

theorem rwordM_any {R : REnv} {K k an er pl : Nat} {nv mv : Value} {rows : List RRow} {names : List (ByteArray × Nat)} {w : World} (h : RMem R K k an er pl nv mv rows names w) (hs : R.s.size ≤ 1000) {l : LineV} (hl : R.L[K]? = some l) (hL : LineOk R.s l) (hk : k ≤ l.en) :
    Calls Tryz.prog 171 #[.pointer (some ⟨R.b, 0, none⟩)] w fun e w' => ∃ x, e = .returned (.string x) ∧ But [R.b] w w' ∧ RWord R K an er pl nv mv rows names (rdWord R.s (skipBl R.s k)) x w' := by
  obtain ⟨hK, hKl⟩ := List.getElem?_eq_some_iff.1 hl
  refine (rword_any R.b _ _ R.s R.lv R.L R.base K k er w h.rd h.rc h.lines h.b_lines hK hs l.en (by rw [hKl]) hk hL.en hL.nl).mono ?_
  rintro e w1 ⟨x, rfl, hb, hp⟩
  exact ⟨x, rfl, hb, h.word hb hp⟩

theorem rscalarM_any {R : REnv} {K k an er pl : Nat} {nv mv : Value} {rows : List RRow} {names : List (ByteArray × Nat)} {w : World} (h : RMem R K k an er pl nv mv rows names w) (hs : R.s.size ≤ 1000) {l : LineV} (hl : R.L[K]? = some l) (hL : LineOk R.s l) (hk0 : l.at' ≤ k) (hk : k ≤ l.en) :
    Calls Tryz.prog 130 #[.pointer (some ⟨R.b, 0, none⟩)] w fun e w' => ∃ x, e = .returned (.string x) ∧ But [R.b] w w' ∧ RWord R K an er pl nv mv rows names (rdAny R.s (skipBl R.s k)) x w' := by
  obtain ⟨hK, hKl⟩ := List.getElem?_eq_some_iff.1 hl
  refine (rscalar_any R.b _ _ R.s R.lv R.L R.base K k er w h.rd h.rc h.lines h.b_lines hK hs l.en (by rw [hKl]) hk hL.en hL.nl (fun j hj hje => hL.in' j (by omega) hje)).mono ?_
  rintro e w1 ⟨x, rfl, hb, hp⟩
  exact ⟨x, rfl, hb, h.word hb hp⟩

end Go.Proofs.YtkflkmmbakccoaaGreatDoor
