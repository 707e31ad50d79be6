/- PARTS: W24, W25. -/
import Derived.Test.YtkflkmmbakccoaaGreatDoorH14

/- WALKS: package graph: Measure; package grafter: within, isBudget, Load, isNothing, Measure. -/
namespace Go.Proofs.YtkflkmmbakccoaaGreatDoor
open Go.RowKit Go.Maps

set_option maxHeartbeats 400000 in
theorem within_any (n a b : Int) (w : World) :
    Calls Tryz.prog 41 #[.int .i64 n, .int .i64 a, .int .i64 b] w fun e w' => e = .returned (.bool (decide (a ≤ n) && decide (n ≤ b))) ∧ w' = w := by
  go_enter Tryz.func41, Tryz.ntmps41
  go_wp2_with fail
  all_goals
    go_ret
    refine ⟨ret_bool ?_, rfl⟩
    simp_all
    try omega

/-- Is it a budget? -/
def okBud (B : Bud) : Bool := decide (1 ≤ B.depth) && decide (B.depth ≤ 20) && decide (1 ≤ B.nodes) && decide (B.nodes ≤ 500) && decide (0 ≤ B.anchors) && decide (B.anchors ≤ 100) && decide (1 ≤ B.weight) && decide (B.weight ≤ 1000000000000)

abbrev budV (B : Bud) : Value := .agg #[.int .i64 B.depth, .int .i64 B.nodes, .int .i64 B.anchors, .int .i64 B.weight]

set_option maxHeartbeats 800000 in
theorem isBudget_any (B : Bud) (w : World) :
    Calls Tryz.prog 28 #[budV B] w fun e w' => e = .returned (.bool (okBud B)) ∧ But [] w w' := by
  go_enter Tryz.func28, Tryz.ntmps28
  go_wp2_with (go_at_call 41; refine (within_any _ _ _ _).mono ?_; rintro e w' ⟨rfl, rfl⟩)
  all_goals
    go_ret
    refine ⟨ret_bool ?_, alloc_but _ _⟩
    rw [Bool.eq_iff_iff]
    simp [okBud]
    try omega

/-- What a graph measures. -/
def measM (t : PS) : Bud := ⟨(highOf t.nodes 0 : Int), (t.nodes.length : Int), (t.anchors : Int), (heavyOf t.nodes 0 : Int)⟩

set_option maxHeartbeats 800000 in
theorem gMeasure_any (E : Env) (t : PS) (nv : Value) (rows : List Row) (w : World) (h : PInv E t nv rows w) (hn : 0 < rows.length) :
    Calls Tryz.prog 27 #[.pointer (some ⟨E.g, 0, none⟩)] w fun e w' => e = .returned (budV (measM t)) ∧ But [] w w' := by
  obtain ⟨nb, cap, rfl, hcap, hcn⟩ := h.node 0 hn
  have g0 : w.cell? ⟨E.g, 0, none⟩ = some (.slice (some ⟨nb, 0, none⟩) rows.length cap) := h.gr.cell rfl
  have g1 : w.cell? ⟨E.g, 1, none⟩ = some (.int .i64 (t.anchors : Int)) := h.gr.cell rfl
  have d0 := (hcn 0 (by omega)).1
  have d1 := (hcn 1 (by omega)).1
  have d2 := (hcn 2 (by omega)).1
  have d3 := (hcn 3 (by omega)).1
  have d4 := (hcn 4 (by omega)).1
  have d5 := (hcn 5 (by omega)).1
  simp only [Row.cells, List.getElem?_cons_succ, List.getElem?_cons_zero, Nat.zero_mul, Nat.zero_add, Nat.add_zero] at d0 d1 d2 d3 d4 d5
  have hM : measM t = ⟨((rows[0]).n.high : Int), (rows.length : Int), (t.anchors : Int), ((rows[0]).n.heavy : Int)⟩ := by
    unfold measM; rw [h.highAt 0 hn, h.heavyAt 0 hn, h.len]
  have HM : Hid _ := hM
  obtain ⟨ka, kc, hkv, _⟩ := own_shape (h.rows rows[0] (List.getElem_mem hn)).1
  obtain ⟨pa, pc, hpv, _⟩ := own_shape (h.rows rows[0] (List.getElem_mem hn)).2
  rw [hkv] at d2
  rw [hpv] at d3
  generalize rows[0] = r0 at *
  have gl : nb < w.heap.size := by
    have : w.cell? ⟨nb, 0, none⟩ ≠ none := by rw [d0]; simp
    by_cases hx : nb < w.heap.size
    · exact hx
    · exact absurd (by simp [World.cell?, Array.getElem?_eq_none (by omega : w.heap.size ≤ nb)]) this
  have gg : E.g < w.heap.size := h.gr.lt
  clear hM hcn hkv hpv
  go_enter Tryz.func27, Tryz.ntmps27
  go_wp2_with fail
  go_region
  all_goals
    try go_wp2_with fail
    refine bodyPost_ret (v := .agg #[.int .i64 (r0.n.high : Int), .int .i64 (rows.length : Int), .int .i64 (t.anchors : Int), .int .i64 (r0.n.heavy : Int)]) (by simp [results, Tryz.results27, go_sem]) rfl ⟨by rw [HM.out], ?_⟩
    repeat (first | exact But.refl _ _ | refine But.alloc ?_ _ | refine But.drew ?_ | refine But.setCell ?_ (by simp) _)

set_option maxHeartbeats 400000 in
theorem isNothing_any (d g : Nat) (w : World) (hd : Blk w d #[.pointer (some ⟨g, 0, none⟩)] 59) :
    Calls Tryz.prog 26 #[.pointer (some ⟨d, 0, none⟩)] w fun e w' => e = .returned (.bool false) ∧ w' = w := by
  have c0 : w.cell? ⟨d, 0, none⟩ = some (.pointer (some ⟨g, 0, none⟩)) := hd.cell rfl
  go_enter Tryz.func26, Tryz.ntmps26
  go_wp2_with fail
  go_ret
  exact ⟨rfl, rfl⟩

set_option maxHeartbeats 400000 in
theorem dMeasure_any (E : Env) (t : PS) (nv : Value) (rows : List Row) (w : World) (h : PInv E t nv rows w) (hn : 0 < rows.length) (d : Nat) (hd : Blk w d #[.pointer (some ⟨E.g, 0, none⟩)] 59) :
    Calls Tryz.prog 15 #[.pointer (some ⟨d, 0, none⟩)] w fun e w' => e = .returned (budV (measM t)) ∧ But [] w w' := by
  go_enter Tryz.func15, Tryz.ntmps15
  go_wp2_with fail
  have hb0 : But [] w (w.alloc (.cells #[.int .i64 0, .int .i64 0, .int .i64 0, .int .i64 0] 29)) := alloc_but _ _
  have hd0 := hb0.blk hd (by simp)
  have hI0 := h.frame hb0 (by simp)
  have c0 : (w.alloc (.cells #[.int .i64 0, .int .i64 0, .int .i64 0, .int .i64 0] 29)).cell? ⟨d, 0, none⟩ = some (.pointer (some ⟨E.g, 0, none⟩)) := hd0.cell rfl
  have hB0 : Blk (w.alloc (.cells #[.int .i64 0, .int .i64 0, .int .i64 0, .int .i64 0] 29)) w.heap.size #[.int .i64 0, .int .i64 0, .int .i64 0, .int .i64 0] 29 := blk_new _ _ _
  refine (isNothing_any d E.g _ hd0).mono ?_
  rintro e w1 ⟨rfl, rfl⟩
  go_wp2_with fail
  refine (gMeasure_any E t nv rows _ hI0 hn).mono ?_
  rintro e w2 ⟨rfl, hb2⟩
  have hB2 := hb2.blk hB0 (by simp)
  have d0 := hB2.cell (i := 0) rfl
  have d1 := hB2.cell (i := 1) rfl
  have d2 := hB2.cell (i := 2) rfl
  have d3 := hB2.cell (i := 3) rfl
  have f0 := hB2.free 0
  have f1 := hB2.free 1
  have f2 := hB2.free 2
  have f3 := hB2.free 3
  go_wp2_with fail
  refine bodyPost_ret (v := budV (measM t)) (by simp [results, Tryz.results15, go_sem, d0, d1, d2, d3]) rfl ⟨rfl, ?_⟩
  have hbb : But [] w w2 := hb0.trans hb2 (by simp)
  repeat (first | exact hbb | refine But.setCell ?_ (.inr (Nat.le_refl _)) _)

/-- What Load answers. -/
def loadM (s : ByteArray) (B : Bud) : Res Unit :=
  if okBud B = false then .bad 1 0 else if 1000 < s.size then .bad 2 0
  else (textM s B ps0).bind fun u t => if B.weight < (heavyOf t.nodes 0 : Int) then .bad 9 0 else .ok u t

/-- What Load leaves. -/
def LoadPost (s : ByteArray) (B : Bud) (w : World) (r : Res Unit) (e : Ending) (w' : World) : Prop :=
  match r with
  | .ok _ t => ∃ E nv rows d, e = .returned (.tuple #[.pointer (some ⟨d, 0, none⟩), .int .i64 0, .int .i64 0]) ∧ E.s = s ∧ E.B = B ∧ PInv E t nv rows w' ∧ 0 < rows.length ∧ Blk w' d #[.pointer (some ⟨E.g, 0, none⟩)] 59 ∧ w.heap.size ≤ d ∧ w.heap.size ≤ E.base ∧ But [] w w'
  | .bad er pl => e = .returned (.tuple #[.pointer none, .int .i64 (er : Int), .int .i64 (pl : Int)]) ∧ But [] w w' ∧ er ≠ 0

theorem textM_pos {s : ByteArray} {B : Bud} {t : PS} {u : Unit} (hD : B.depth ≤ 20) (hN : B.nodes ≤ 500) (hA : B.anchors ≤ 100) (h : textM s B ps0 = .ok u t) : 0 < t.nodes.length := by
  have hw0 : WF s ps0 := ⟨by simp [ps0], by simp [ps0], by simp [ps0], by simp [ps0], (fun p hp => by cases hp), (fun i => by simp [ps0, heavyOf, NodeV.blank]), (fun i => by simp [ps0, highOf, NodeV.blank])⟩
  unfold textM at h
  simp only at h
  split at h
  · cases h
  · obtain ⟨_, t1, h1, h2⟩ := Res.bind_ok_iff h
    have hw1 := (nextM_step hw0).wf
    have key : 0 < t1.nodes.length := by
      unfold topM at h1
      split at h1
      · obtain ⟨id, t2, h3, h4⟩ := Res.bind_ok_iff h1
        obtain ⟨hlv, _, _, _, hid, s1⟩ := beginM_ok hN hw1 h3
        obtain ⟨a, _, _⟩ := blockM_ok hD hN hA 21 id 0 t2 t1 _ s1.wf hid (by omega) (by simpa using hlv) h4
        have := a.len; omega
      · obtain ⟨id, t2, h3, h4⟩ := Res.bind_ok_iff h1
        obtain ⟨a, b, _⟩ := flowM_ok hD hN hA 21 1 _ _ _ hw1 (by omega) h3
        have := (endLineM_ok a.wf h4).len
        have := highOf_lt b
        omega
    split at h2
    · cases h2; exact key
    · cases h2

end Go.Proofs.YtkflkmmbakccoaaGreatDoor

/- WALKS: package grafter: Load. -/
namespace Go.Proofs.YtkflkmmbakccoaaGreatDoor
open Go.RowKit Go.Maps

theorem gMeasure_plain (E : Env) (t : PS) (nv : Value) (rows : List Row) (w : World) (h : PInv E t nv rows w) (hn : 0 < rows.length) :
    Calls Tryz.prog 27 #[.pointer (some ⟨E.g, 0, none⟩)] w fun e w' => e = .returned (.agg #[.int .i64 (highOf t.nodes 0 : Int), .int .i64 (t.nodes.length : Int), .int .i64 (t.anchors : Int), .int .i64 (heavyOf t.nodes 0 : Int)]) ∧ But [] w w' := gMeasure_any E t nv rows w h hn

theorem field3 (a b c d : Value) (W : World) : (Instr.field 29 (.agg #[a, b, c, d]) 3).run Tryz.prog W = .ok d W := by kernel_rfl

set_option maxRecDepth 20000 in
set_option maxHeartbeats 1000000 in
theorem load_any (s : ByteArray) (B : Bud) (hsz : s.size ≤ 9223372036854775807) (w : World) :
    Calls Tryz.prog 16 #[.string s, budV B] w fun e w' => LoadPost s B w (loadM s B) e w' := by
  have hfld := field3
  go_enter Tryz.func16, Tryz.ntmps16
  go_wp2_with fail
  have hb0 : But [] w (w.alloc (.cells #[.int .i64 B.depth, .int .i64 B.nodes, .int .i64 B.anchors, .int .i64 B.weight] 29)) := alloc_but _ _
  have hB0 : Blk (w.alloc (.cells #[.int .i64 B.depth, .int .i64 B.nodes, .int .i64 B.anchors, .int .i64 B.weight] 29)) w.heap.size #[.int .i64 B.depth, .int .i64 B.nodes, .int .i64 B.anchors, .int .i64 B.weight] 29 := blk_new _ _ _
  refine (isBudget_any B _).mono ?_
  rintro e w1 ⟨rfl, hb1⟩
  have hB1 := hb1.blk hB0 (by simp)
  have hb1' : But [] w w1 := hb0.trans hb1 (by simp)
  by_cases hok : okBud B = true
  · by_cases hlong : 1000 < s.size
    · have HM : Hid (loadM s B = .bad 2 0) := by unfold Hid loadM; rw [if_neg (by simp [hok]), if_pos hlong]
      go_wp2_with fail
      go_ret3
      rw [HM.out]
      exact ⟨rfl, hb1', by omega⟩
    · have HM0 : Hid (loadM s B = (textM s B ps0).bind fun u t => if B.weight < (heavyOf t.nodes 0 : Int) then .bad 9 0 else .ok u t) := by unfold Hid loadM; rw [if_neg (by simp [hok]), if_neg hlong]
      have hbd : (1 ≤ B.depth ∧ B.depth ≤ 20) ∧ (1 ≤ B.nodes ∧ B.nodes ≤ 500) ∧ (0 ≤ B.anchors ∧ B.anchors ≤ 100) ∧ (1 ≤ B.weight ∧ B.weight ≤ 1000000000000) := by
        unfold okBud at hok; simp at hok; omega
      have l0 := hB1.cell (i := 0) rfl
      have l1 := hB1.cell (i := 1) rfl
      have l2 := hB1.cell (i := 2) rfl
      have l3 := hB1.cell (i := 3) rfl
      have hs : s.size ≤ 1000 := by omega
      clear hlong
      go_wp2_with fail
      refine (text_any s B hs (by omega) (by omega) (by omega) (by omega) (by omega) (by omega) w1).mono ?_
      intro e w2 hp
      cases hm : textM s B ps0 with
      | bad er pl =>
        rw [hm] at hp
        obtain ⟨rfl, hb2, her⟩ := hp
        have HM : Hid (loadM s B = .bad er pl) := by unfold Hid; rw [HM0.out, hm]; rfl
        have hne : ((er : Int) != 0) = true := by simp; omega
        clear hm
        go_wp2_with fail
        go_ret3
        rw [HM.out]
        exact ⟨rfl, hb1'.trans hb2 (by simp), her⟩
      | ok u t =>
        have hpos := textM_pos hbd.1.2 hbd.2.1.2 hbd.2.2.1.2 hm
        rw [hm] at hp
        obtain ⟨E, nv, rows, rfl, hEs, hEB, hEok, hbase, hI, hb2⟩ := hp
        have HM1 : Hid (loadM s B = if B.weight < (heavyOf t.nodes 0 : Int) then .bad 9 0 else .ok u t) := by unfold Hid; rw [HM0.out, hm]; rfl
        have HEs : Hid _ := hEs
        have HEB : Hid _ := hEB
        have HEb : Hid _ := hbase
        have hrow : 0 < rows.length := by rw [← hI.len]; exact hpos
        have hb2' : But [] w w2 := hb1'.trans hb2 (by simp)
        have hB2 := hb2.blk hB1 (by simp)
        have m3 := hB2.cell (i := 3) rfl
        have hz : w1.heap.size ≤ w2.heap.size := hb2.size
        clear hm hEs hEB hbase HM0 l0 l1 l2 l3 hb2 hB1
        go_wp2_with fail
        by_cases hwt : B.weight < (heavyOf t.nodes 0 : Int)
        · have HM : Hid _ := HM1.out.trans (if_pos hwt)
          clear HM1
          go_region_with (go_at_call 27; refine (gMeasure_plain E t nv rows _ (hI.frame (But.refl [] w2).drew (by simp)) hrow).mono ?_; rintro e w3 ⟨rfl, hb3⟩; have hm3 : w3.cell? ⟨w.heap.size, 3, none⟩ = some (.int .i64 B.weight) := (hb3.blk hB2.drew (by simp)).cell rfl)
          all_goals
            go_wp2_with fail
            go_ret3
            rw [HM.out]
            exact ⟨rfl, (hb2'.drew).trans hb3 (by simp), by omega⟩
        · have HM : Hid _ := HM1.out.trans (if_neg hwt)
          clear HM1
          go_region_with (go_at_call 27; refine (gMeasure_plain E t nv rows _ (hI.frame (But.refl [] w2).drew (by simp)) hrow).mono ?_; rintro e w3 ⟨rfl, hb3⟩; have hm3 : w3.cell? ⟨w.heap.size, 3, none⟩ = some (.int .i64 B.weight) := (hb3.blk hB2.drew (by simp)).cell rfl)
          all_goals
            go_wp2_with fail
            go_ret3
            rw [HM.out]
            have hb3' : But [] w w3 := (hb2'.drew).trans hb3 (by simp)
            have hI3 := (hI.frame (But.refl [] w2).drew (by simp)).frame hb3 (by simp)
            exact ⟨E, nv, rows, w3.heap.size, rfl, HEs.out, HEB.out, hI3.frame (alloc_but _ _) (by simp), hrow, blk_new _ _ _, hb3'.size, by rw [HEb.out]; exact hb1'.size, hb3'.alloc _⟩
  · have hok' : okBud B = false := by simpa using hok
    have HM : Hid (loadM s B = .bad 1 0) := by unfold Hid loadM; rw [if_pos hok']
    go_wp2_with fail
    go_ret3
    rw [HM.out]
    exact ⟨rfl, hb1', by omega⟩

end Go.Proofs.YtkflkmmbakccoaaGreatDoor
