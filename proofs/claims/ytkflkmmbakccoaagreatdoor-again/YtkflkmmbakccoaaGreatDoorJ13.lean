/- PARTS: W24, W25, Mod13. -/
import Derived.Test.YtkflkmmbakccoaaGreatDoorJ12
import Derived.Test.YtkflkmmbakccoaaGreatDoorJ1

/- WALKS: package graph: Measure; package grafter: within, isBudget, Load, isNothing, Measure. -/
namespace Go.Proofs.YtkflkmmbakccoaaGreatDoor
open Go.RowKit Go.Maps

set_option maxHeartbeats 400000 in
theorem within_any (n a b : Int) (w : World) :
    Calls Tryz.prog 41 #[.int .i64 n, .int .i64 a, .int .i64 b] w fun e w' => e = .returned (.bool (decide (a ≤ n) && decide (n ≤ b))) ∧ w' = w := by
  go_enter Tryz.func41, Tryz.ntmps41
  go_wp2_with fail
  all_goals
    go_ret
    refine ⟨ret_bool ?_, rfl⟩
    simp_all
    try omega

/-- Is it a budget? -/
def okBud (B : Bud) : Bool := decide (1 ≤ B.depth) && decide (B.depth ≤ 20) && decide (1 ≤ B.nodes) && decide (B.nodes ≤ 500) && decide (0 ≤ B.anchors) && decide (B.anchors ≤ 100) && decide (1 ≤ B.weight) && decide (B.weight ≤ 1000000000000)

abbrev budV (B : Bud) : Value := .agg #[.int .i64 B.depth, .int .i64 B.nodes, .int .i64 B.anchors, .int .i64 B.weight]

set_option maxHeartbeats 800000 in
theorem isBudget_any (B : Bud) (w : World) :
    Calls Tryz.prog 28 #[budV B] w fun e w' => e = .returned (.bool (okBud B)) ∧ But [] w w' := by
  go_enter Tryz.func28, Tryz.ntmps28
  go_wp2_with (go_at_call 41; refine (within_any _ _ _ _).mono ?_; rintro e w' ⟨rfl, rfl⟩)
  all_goals
    go_ret
    refine ⟨ret_bool ?_, alloc_but _ _⟩
    rw [Bool.eq_iff_iff]
    simp [okBud]
    try omega

/-- What a graph measures. -/
def measM (t : PS) : Bud := ⟨(highOf t.nodes 0 : Int), (t.nodes.length : Int), (t.anchors : Int), (heavyOf t.nodes 0 : Int)⟩

set_option maxHeartbeats 800000 in
theorem gMeasure_any (E : Env) (t : PS) (nv : Value) (rows : List Row) (w : World) (h : PInv E t nv rows w) (hn : 0 < rows.length) :
    Calls Tryz.prog 27 #[.pointer (some ⟨E.g, 0, none⟩)] w fun e w' => e = .returned (budV (measM t)) ∧ But [] w w' := by
  obtain ⟨nb, cap, rfl, hcap, hcn⟩ := h.node 0 hn
  have g0 : w.cell? ⟨E.g, 0, none⟩ = some (.slice (some ⟨nb, 0, none⟩) rows.length cap) := h.gr.cell rfl
  have g1 : w.cell? ⟨E.g, 1, none⟩ = some (.int .i64 (t.anchors : Int)) := h.gr.cell rfl
  have d0 := (hcn 0 (by omega)).1
  have d1 := (hcn 1 (by omega)).1
  have d2 := (hcn 2 (by omega)).1
  have d3 := (hcn 3 (by omega)).1
  have d4 := (hcn 4 (by omega)).1
  have d5 := (hcn 5 (by omega)).1
  simp only [Row.cells, List.getElem?_cons_succ, List.getElem?_cons_zero, Nat.zero_mul, Nat.zero_add, Nat.add_zero] at d0 d1 d2 d3 d4 d5
  have hM : measM t = ⟨((rows[0]).n.high : Int), (rows.length : Int), (t.anchors : Int), ((rows[0]).n.heavy : Int)⟩ := by
    unfold measM; rw [h.highAt 0 hn, h.heavyAt 0 hn, h.len]
  have HM : Hid _ := hM
  obtain ⟨ka, kc, hkv, _⟩ := own_shape (h.rows rows[0] (List.getElem_mem hn)).1
  obtain ⟨pa, pc, hpv, _⟩ := own_shape (h.rows rows[0] (List.getElem_mem hn)).2
  rw [hkv] at d2
  rw [hpv] at d3
  generalize rows[0] = r0 at *
  have gl : nb < w.heap.size := by
    have : w.cell? ⟨nb, 0, none⟩ ≠ none := by rw [d0]; simp
    by_cases hx : nb < w.heap.size
    · exact hx
    · exact absurd (by simp [World.cell?, Array.getElem?_eq_none (by omega : w.heap.size ≤ nb)]) this
  have gg : E.g < w.heap.size := h.gr.lt
  clear hM hcn hkv hpv
  go_enter Tryz.func27, Tryz.ntmps27
  go_wp2_with fail
  go_region
  all_goals
    try go_wp2_with fail
    refine bodyPost_ret (v := .agg #[.int .i64 (r0.n.high : Int), .int .i64 (rows.length : Int), .int .i64 (t.anchors : Int), .int .i64 (r0.n.heavy : Int)]) (by simp [results, Tryz.results27, go_sem]) rfl ⟨by rw [HM.out], ?_⟩
    repeat (first | exact But.refl _ _ | refine But.alloc ?_ _ | refine But.drew ?_ | refine But.setCell ?_ (by simp) _)

set_option maxHeartbeats 400000 in
theorem isNothing_any (d g : Nat) (w : World) (hd : Blk w d #[.pointer (some ⟨g, 0, none⟩)] 59) :
    Calls Tryz.prog 26 #[.pointer (some ⟨d, 0, none⟩)] w fun e w' => e = .returned (.bool false) ∧ w' = w := by
  have c0 : w.cell? ⟨d, 0, none⟩ = some (.pointer (some ⟨g, 0, none⟩)) := hd.cell rfl
  go_enter Tryz.func26, Tryz.ntmps26
  go_wp2_with fail
  go_ret
  exact ⟨rfl, rfl⟩

set_option maxHeartbeats 400000 in
theorem dMeasure_any (E : Env) (t : PS) (nv : Value) (rows : List Row) (w : World) (h : PInv E t nv rows w) (hn : 0 < rows.length) (d : Nat) (hd : Blk w d #[.pointer (some ⟨E.g, 0, none⟩)] 59) :
    Calls Tryz.prog 15 #[.pointer (some ⟨d, 0, none⟩)] w fun e w' => e = .returned (budV (measM t)) ∧ But [] w w' := by
  go_enter Tryz.func15, Tryz.ntmps15
  go_wp2_with fail
  have hb0 : But [] w (w.alloc (.cells #[.int .i64 0, .int .i64 0, .int .i64 0, .int .i64 0] 29)) := alloc_but _ _
  have hd0 := hb0.blk hd (by simp)
  have hI0 := h.frame hb0 (by simp)
  have c0 : (w.alloc (.cells #[.int .i64 0, .int .i64 0, .int .i64 0, .int .i64 0] 29)).cell? ⟨d, 0, none⟩ = some (.pointer (some ⟨E.g, 0, none⟩)) := hd0.cell rfl
  have hB0 : Blk (w.alloc (.cells #[.int .i64 0, .int .i64 0, .int .i64 0, .int .i64 0] 29)) w.heap.size #[.int .i64 0, .int .i64 0, .int .i64 0, .int .i64 0] 29 := blk_new _ _ _
  refine (isNothing_any d E.g _ hd0).mono ?_
  rintro e w1 ⟨rfl, rfl⟩
  go_wp2_with fail
  refine (gMeasure_any E t nv rows _ hI0 hn).mono ?_
  rintro e w2 ⟨rfl, hb2⟩
  have hB2 := hb2.blk hB0 (by simp)
  have d0 := hB2.cell (i := 0) rfl
  have d1 := hB2.cell (i := 1) rfl
  have d2 := hB2.cell (i := 2) rfl
  have d3 := hB2.cell (i := 3) rfl
  have f0 := hB2.free 0
  have f1 := hB2.free 1
  have f2 := hB2.free 2
  have f3 := hB2.free 3
  go_wp2_with fail
  refine bodyPost_ret (v := budV (measM t)) (by simp [results, Tryz.results15, go_sem, d0, d1, d2, d3]) rfl ⟨rfl, ?_⟩
  have hbb : But [] w w2 := hb0.trans hb2 (by simp)
  repeat (first | exact hbb | refine But.setCell ?_ (.inr (Nat.le_refl _)) _)

/-- What Load answers. -/
def loadM (s : ByteArray) (B : Bud) : Res Unit :=
  if okBud B = false then .bad 1 0 else if 1000 < s.size then .bad 2 0
  else (textM s B ps0).bind fun u t => if B.weight < (heavyOf t.nodes 0 : Int) then .bad 9 0 else .ok u t

/-- What Load leaves. -/
def LoadPost (s : ByteArray) (B : Bud) (w : World) (r : Res Unit) (e : Ending) (w' : World) : Prop :=
  match r with
  | .ok _ t => ∃ E nv rows d, e = .returned (.tuple #[.pointer (some ⟨d, 0, none⟩), .int .i64 0, .int .i64 0]) ∧ E.s = s ∧ E.B = B ∧ PInv E t nv rows w' ∧ 0 < rows.length ∧ Blk w' d #[.pointer (some ⟨E.g, 0, none⟩)] 59 ∧ w.heap.size ≤ d ∧ w.heap.size ≤ E.base ∧ But [] w w'
  | .bad er pl => e = .returned (.tuple #[.pointer none, .int .i64 (er : Int), .int .i64 (pl : Int)]) ∧ But [] w w' ∧ er ≠ 0

theorem textM_pos {s : ByteArray} {B : Bud} {t : PS} {u : Unit} (hD : B.depth ≤ 20) (hN : B.nodes ≤ 500) (hA : B.anchors ≤ 100) (h : textM s B ps0 = .ok u t) : 0 < t.nodes.length := by
  have hw0 : WF s ps0 := ⟨by simp [ps0], by simp [ps0], by simp [ps0], by simp [ps0], (fun p hp => by cases hp), (fun i => by simp [ps0, heavyOf, NodeV.blank]), (fun i => by simp [ps0, highOf, NodeV.blank])⟩
  unfold textM at h
  simp only at h
  split at h
  · cases h
  · obtain ⟨_, t1, h1, h2⟩ := Res.bind_ok_iff h
    have hw1 := (nextM_step hw0).wf
    have key : 0 < t1.nodes.length := by
      unfold topM at h1
      split at h1
      · obtain ⟨id, t2, h3, h4⟩ := Res.bind_ok_iff h1
        obtain ⟨hlv, _, _, _, hid, s1⟩ := beginM_ok hN hw1 h3
        obtain ⟨a, _, _⟩ := blockM_ok hD hN hA 21 id 0 t2 t1 _ s1.wf hid (by omega) (by simpa using hlv) h4
        have := a.len; omega
      · obtain ⟨id, t2, h3, h4⟩ := Res.bind_ok_iff h1
        obtain ⟨a, b, _⟩ := flowM_ok hD hN hA 21 1 _ _ _ hw1 (by omega) h3
        have := (endLineM_ok a.wf h4).len
        have := highOf_lt b
        omega
    split at h2
    · cases h2; exact key
    · cases h2

end Go.Proofs.YtkflkmmbakccoaaGreatDoor

/- WALKS: package grafter: Load. -/
namespace Go.Proofs.YtkflkmmbakccoaaGreatDoor
open Go.RowKit Go.Maps

theorem gMeasure_plain (E : Env) (t : PS) (nv : Value) (rows : List Row) (w : World) (h : PInv E t nv rows w) (hn : 0 < rows.length) :
    Calls Tryz.prog 27 #[.pointer (some ⟨E.g, 0, none⟩)] w fun e w' => e = .returned (.agg #[.int .i64 (highOf t.nodes 0 : Int), .int .i64 (t.nodes.length : Int), .int .i64 (t.anchors : Int), .int .i64 (heavyOf t.nodes 0 : Int)]) ∧ But [] w w' := gMeasure_any E t nv rows w h hn

theorem field3 (a b c d : Value) (W : World) : (Instr.field 29 (.agg #[a, b, c, d]) 3).run Tryz.prog W = .ok d W := by kernel_rfl

set_option maxRecDepth 20000 in
set_option maxHeartbeats 1000000 in
theorem load_any (s : ByteArray) (B : Bud) (hsz : s.size ≤ 9223372036854775807) (w : World) :
    Calls Tryz.prog 16 #[.string s, budV B] w fun e w' => LoadPost s B w (loadM s B) e w' := by
  have hfld := field3
  go_enter Tryz.func16, Tryz.ntmps16
  go_wp2_with fail
  have hb0 : But [] w (w.alloc (.cells #[.int .i64 B.depth, .int .i64 B.nodes, .int .i64 B.anchors, .int .i64 B.weight] 29)) := alloc_but _ _
  have hB0 : Blk (w.alloc (.cells #[.int .i64 B.depth, .int .i64 B.nodes, .int .i64 B.anchors, .int .i64 B.weight] 29)) w.heap.size #[.int .i64 B.depth, .int .i64 B.nodes, .int .i64 B.anchors, .int .i64 B.weight] 29 := blk_new _ _ _
  refine (isBudget_any B _).mono ?_
  rintro e w1 ⟨rfl, hb1⟩
  have hB1 := hb1.blk hB0 (by simp)
  have hb1' : But [] w w1 := hb0.trans hb1 (by simp)
  by_cases hok : okBud B = true
  · by_cases hlong : 1000 < s.size
    · have HM : Hid (loadM s B = .bad 2 0) := by unfold Hid loadM; rw [if_neg (by simp [hok]), if_pos hlong]
      go_wp2_with fail
      go_ret3
      rw [HM.out]
      exact ⟨rfl, hb1', by omega⟩
    · have HM0 : Hid (loadM s B = (textM s B ps0).bind fun u t => if B.weight < (heavyOf t.nodes 0 : Int) then .bad 9 0 else .ok u t) := by unfold Hid loadM; rw [if_neg (by simp [hok]), if_neg hlong]
      have hbd : (1 ≤ B.depth ∧ B.depth ≤ 20) ∧ (1 ≤ B.nodes ∧ B.nodes ≤ 500) ∧ (0 ≤ B.anchors ∧ B.anchors ≤ 100) ∧ (1 ≤ B.weight ∧ B.weight ≤ 1000000000000) := by
        unfold okBud at hok; simp at hok; omega
      have l0 := hB1.cell (i := 0) rfl
      have l1 := hB1.cell (i := 1) rfl
      have l2 := hB1.cell (i := 2) rfl
      have l3 := hB1.cell (i := 3) rfl
      have hs : s.size ≤ 1000 := by omega
      clear hlong
      go_wp2_with fail
      refine (text_any s B hs (by omega) (by omega) (by omega) (by omega) (by omega) (by omega) w1).mono ?_
      intro e w2 hp
      cases hm : textM s B ps0 with
      | bad er pl =>
        rw [hm] at hp
        obtain ⟨rfl, hb2, her⟩ := hp
        have HM : Hid (loadM s B = .bad er pl) := by unfold Hid; rw [HM0.out, hm]; rfl
        have hne : ((er : Int) != 0) = true := by simp; omega
        clear hm
        go_wp2_with fail
        go_ret3
        rw [HM.out]
        exact ⟨rfl, hb1'.trans hb2 (by simp), her⟩
      | ok u t =>
        have hpos := textM_pos hbd.1.2 hbd.2.1.2 hbd.2.2.1.2 hm
        rw [hm] at hp
        obtain ⟨E, nv, rows, rfl, hEs, hEB, hEok, hbase, hI, hb2⟩ := hp
        have HM1 : Hid (loadM s B = if B.weight < (heavyOf t.nodes 0 : Int) then .bad 9 0 else .ok u t) := by unfold Hid; rw [HM0.out, hm]; rfl
        have HEs : Hid _ := hEs
        have HEB : Hid _ := hEB
        have HEb : Hid _ := hbase
        have hrow : 0 < rows.length := by rw [← hI.len]; exact hpos
        have hb2' : But [] w w2 := hb1'.trans hb2 (by simp)
        have hB2 := hb2.blk hB1 (by simp)
        have m3 := hB2.cell (i := 3) rfl
        have hz : w1.heap.size ≤ w2.heap.size := hb2.size
        clear hm hEs hEB hbase HM0 l0 l1 l2 l3 hb2 hB1
        go_wp2_with fail
        by_cases hwt : B.weight < (heavyOf t.nodes 0 : Int)
        · have HM : Hid _ := HM1.out.trans (if_pos hwt)
          clear HM1
          go_region_with (go_at_call 27; refine (gMeasure_plain E t nv rows _ (hI.frame (But.refl [] w2).drew (by simp)) hrow).mono ?_; rintro e w3 ⟨rfl, hb3⟩; have hm3 : w3.cell? ⟨w.heap.size, 3, none⟩ = some (.int .i64 B.weight) := (hb3.blk hB2.drew (by simp)).cell rfl)
          all_goals
            go_wp2_with fail
            go_ret3
            rw [HM.out]
            exact ⟨rfl, (hb2'.drew).trans hb3 (by simp), by omega⟩
        · have HM : Hid _ := HM1.out.trans (if_neg hwt)
          clear HM1
          go_region_with (go_at_call 27; refine (gMeasure_plain E t nv rows _ (hI.frame (But.refl [] w2).drew (by simp)) hrow).mono ?_; rintro e w3 ⟨rfl, hb3⟩; have hm3 : w3.cell? ⟨w.heap.size, 3, none⟩ = some (.int .i64 B.weight) := (hb3.blk hB2.drew (by simp)).cell rfl)
          all_goals
            go_wp2_with fail
            go_ret3
            rw [HM.out]
            have hb3' : But [] w w3 := (hb2'.drew).trans hb3 (by simp)
            have hI3 := (hI.frame (But.refl [] w2).drew (by simp)).frame hb3 (by simp)
            exact ⟨E, nv, rows, w3.heap.size, rfl, HEs.out, HEB.out, hI3.frame (alloc_but _ _) (by simp), hrow, blk_new _ _ _, hb3'.size, by rw [HEb.out]; exact hb1'.size, hb3'.alloc _⟩
  · have hok' : okBud B = false := by simpa using hok
    have HM : Hid (loadM s B = .bad 1 0) := by unfold Hid loadM; rw [if_pos hok']
    go_wp2_with fail
    go_ret3
    rw [HM.out]
    exact ⟨rfl, hb1', by omega⟩

end Go.Proofs.YtkflkmmbakccoaaGreatDoor

/- THE PLAIN FUNCTIONS: a greater budget lets in what a lesser one lets in, and refuses what that one refuses for its text. No program is named here. -/
namespace Go.Proofs.YtkflkmmbakccoaaGreatDoor

/-- Refused for a budget. -/
def Res.bud {α : Type} (r : Res α) : Prop := ∃ e p, r = .bad e p ∧ (e = 4 ∨ e = 5 ∨ e = 6)

/-- The same, or refused for a budget. -/
def Lets {α : Type} (r r' : Res α) : Prop := r = r' ∨ r.bud

theorem Lets.refl {α : Type} (r : Res α) : Lets r r := .inl rfl

theorem Lets.bind {α β : Type} {r r' : Res α} {f f' : α → PS → Res β} (h : Lets r r') (hf : ∀ a t, Lets (f a t) (f' a t)) : Lets (r.bind f) (r'.bind f') := by
  rcases h with rfl | ⟨e, p, rfl, he⟩
  · cases r with
    | ok a t => exact hf a t
    | bad e p => exact .inl rfl
  · exact .inr ⟨e, p, rfl, he⟩

/-- A budget that is greater or the same. -/
structure BudLe (B B' : Bud) : Prop where
  depth : B.depth ≤ B'.depth
  nodes : B.nodes ≤ B'.nodes
  anchors : B.anchors ≤ B'.anchors

section
variable {s : ByteArray} {B B' : Bud}

theorem beginM_lets (hB : BudLe B B') (lv : Int) (t : PS) : Lets (beginM B lv t) (beginM B' lv t) := by
  have h1 := hB.depth
  have h2 := hB.nodes
  unfold beginM
  by_cases ha : B.depth < lv
  · rw [if_pos ha]; exact .inr ⟨4, t.k, rfl, .inl rfl⟩
  · rw [if_neg ha, if_neg (by omega : ¬ B'.depth < lv)]
    by_cases hb : B.nodes ≤ (t.nodes.length : Int)
    · rw [if_pos hb]; exact .inr ⟨5, t.k, rfl, .inr (.inl rfl)⟩
    · rw [if_neg hb, if_neg (by omega : ¬ B'.nodes ≤ (t.nodes.length : Int))]; exact .inl rfl

theorem aliasM_lets (hB : BudLe B B') (lv : Int) (t : PS) : Lets (aliasM s B lv t) (aliasM s B' lv t) := by
  have h1 := hB.depth
  unfold aliasM
  refine Lets.bind (.refl _) (fun x t1 => ?_)
  cases lookM t1.names x with
  | none => exact .refl _
  | some i =>
    show Lets (if _ then _ else _) (if _ then _ else _)
    by_cases ha : B.depth < lv + (highOf t1.nodes i : Int) - 1
    · rw [if_pos ha]; exact .inr ⟨4, t.k, rfl, .inl rfl⟩
    · rw [if_neg ha, if_neg (by omega)]; exact .inl rfl

theorem namedM_lets (hB : BudLe B B') (lv : Int) {rest rest' : Nat → PS → Res Unit} (hr : ∀ id t, Lets (rest id t) (rest' id t)) (t : PS) : Lets (namedM s B lv rest t) (namedM s B' lv rest' t) := by
  have h1 := hB.anchors
  unfold namedM
  refine Lets.bind (beginM_lets hB lv t) (fun id t1 => ?_)
  by_cases ha : B.anchors ≤ (t1.anchors : Int)
  · rw [if_pos ha]; exact .inr ⟨6, t1.k, rfl, .inr (.inr rfl)⟩
  · rw [if_neg ha, if_neg (by omega : ¬ B'.anchors ≤ (t1.anchors : Int))]
    exact Lets.bind (.refl _) (fun x t2 => Lets.bind (hr id t2) (fun _ t3 => .refl _))

theorem flowS_lets (hB : BudLe B B') {val val' : Nat → Int → PS → Res Unit} (hv : ∀ id lv t, Lets (val id lv t) (val' id lv t)) (lv : Int) (t : PS) : Lets (flowS s B val lv t) (flowS s B' val' lv t) := by
  unfold flowS
  simp only
  split
  · exact aliasM_lets hB lv _
  · split
    · exact namedM_lets hB lv (fun id v => hv id lv v) _
    · split
      · exact Lets.bind (beginM_lets hB lv _) (fun id t1 => Lets.bind (hv id lv t1) (fun _ _ => .refl _))
      · exact .refl _

theorem inLoop_lets {fl fl' : PS → Res Nat} (hf : ∀ t, Lets (fl t) (fl' t)) (isMap : Bool) (closing : Int) (n : Nat) : ∀ keys parts t, Lets (inLoop s fl isMap closing n keys parts t) (inLoop s fl' isMap closing n keys parts t) := by
  induction n with
  | zero => intro keys parts t; exact .refl _
  | succ n ih =>
    intro keys parts t
    unfold inLoop
    refine Lets.bind (.refl _) (fun keys1 t1 => Lets.bind (hf t1) (fun x t2 => ?_))
    split
    · exact ih _ _ _
    · exact .refl _

theorem bracketsM_lets {fl fl' : PS → Res Nat} (hf : ∀ t, Lets (fl t) (fl' t)) (isMap : Bool) (closing : Int) (t : PS) : Lets (bracketsM s fl isMap closing t) (bracketsM s fl' isMap closing t) := by
  unfold bracketsM
  simp only
  split
  · exact .refl _
  · exact inLoop_lets hf _ _ _ _ _ _

theorem valueS_lets {fl fl' : Int → PS → Res Nat} (hf : ∀ lv t, Lets (fl lv t) (fl' lv t)) (id : Nat) (lv : Int) (t : PS) : Lets (valueS s fl id lv t) (valueS s fl' id lv t) := by
  unfold valueS
  simp only
  split
  · exact .refl _
  · split
    · exact Lets.bind (bracketsM_lets (hf _) _ _ _) (fun _ _ => .refl _)
    · split
      · exact Lets.bind (bracketsM_lets (hf _) _ _ _) (fun _ _ => .refl _)
      · exact .refl _

theorem flowM_lets (hB : BudLe B B') (f : Nat) : ∀ lv t, Lets (flowM s B f lv t) (flowM s B' f lv t) := by
  induction f with
  | zero => intro lv t; exact flowS_lets hB (fun _ _ _ => .refl _) lv t
  | succ f ih => intro lv t; exact flowS_lets hB (fun id lv t => valueS_lets ih id lv t) lv t

theorem valueM_lets (hB : BudLe B B') (f id : Nat) (lv : Int) (t : PS) : Lets (valueM s B f id lv t) (valueM s B' f id lv t) := valueS_lets (flowM_lets hB f) id lv t

theorem namedItemS_lets (hB : BudLe B B') {blk blk' : Nat → Nat → PS → Res Unit} (hb : ∀ id d t, Lets (blk id d t) (blk' id d t)) (d id : Nat) (t : PS) : Lets (namedItemS s B blk d id t) (namedItemS s B' blk' d id t) := by
  unfold namedItemS
  simp only
  split
  · exact Lets.bind (.refl _) (fun _ t1 => hb _ _ _)
  · exact Lets.bind (valueM_lets hB _ _ _ _) (fun _ _ => .refl _)

theorem itemS_lets (hB : BudLe B B') {blk blk' : Nat → Nat → PS → Res Unit} (hb : ∀ id d t, Lets (blk id d t) (blk' id d t)) (d : Nat) (t : PS) : Lets (itemS s B blk d t) (itemS s B' blk' d t) := by
  unfold itemS
  simp only
  split
  · exact Lets.bind (.refl _) (fun _ t1 => Lets.bind (beginM_lets hB _ _) (fun id t2 => Lets.bind (hb _ _ _) (fun _ _ => .refl _)))
  · split
    · exact namedM_lets hB _ (fun id v => namedItemS_lets hB hb d id v) _
    · exact Lets.bind (flowM_lets hB _ _ _) (fun _ _ => .refl _)

theorem blockLoop_lets {it it' : PS → Res Nat} (hi : ∀ t, Lets (it t) (it' t)) (id d : Nat) (isMap : Bool) (n : Nat) : ∀ keys parts t, Lets (blockLoop s it id d isMap n keys parts t) (blockLoop s it' id d isMap n keys parts t) := by
  induction n with
  | zero => intro keys parts t; exact .refl _
  | succ n ih =>
    intro keys parts t
    unfold blockLoop
    refine Lets.bind (.refl _) (fun keys1 t1 => Lets.bind (hi t1) (fun x t2 => ?_))
    simp only
    split
    · exact .refl _
    · split
      · exact .refl _
      · exact ih _ _ _

theorem blockM_lets (hB : BudLe B B') (f : Nat) : ∀ id d t, Lets (blockM s B f id d t) (blockM s B' f id d t) := by
  induction f with
  | zero => intro id d t; exact .refl _
  | succ f ih => intro id d t; exact blockLoop_lets (fun t => itemS_lets hB ih d t) _ _ _ _ _ _ _

theorem topM_lets (hB : BudLe B B') (t : PS) : Lets (topM s B t) (topM s B' t) := by
  unfold topM
  split
  · exact Lets.bind (beginM_lets hB _ _) (fun id t1 => blockM_lets hB _ _ _ _)
  · exact Lets.bind (flowM_lets hB _ _ _) (fun _ _ => .refl _)

theorem textM_lets (hB : BudLe B B') (t : PS) : Lets (textM s B t) (textM s B' t) := by
  unfold textM
  simp only
  split
  · exact .refl _
  · exact Lets.bind (topM_lets hB _) (fun _ _ => .refl _)

end

/-- A reading that is refused for no size. -/
def Errs {α : Type} (r : Res α) : Prop := ∀ e p, r = .bad e p → e ≠ 1 ∧ e ≠ 2 ∧ e ≠ 9

theorem Errs.bind {α β : Type} {r : Res α} {f : α → PS → Res β} (h : Errs r) (hf : ∀ a t, Errs (f a t)) : Errs (r.bind f) := by
  cases r with
  | ok a t => exact hf a t
  | bad e p => intro e' p' hh; cases hh; exact h e p rfl

theorem Errs.ok {α : Type} (a : α) (t : PS) : Errs (.ok a t) := fun e p h => by cases h
theorem Errs.bad {α : Type} {e : Nat} (p : Nat) (h : e ≠ 1 ∧ e ≠ 2 ∧ e ≠ 9) : Errs (.bad (α := α) e p) := fun e' p' hh => by cases hh; exact h

section
variable {s : ByteArray} {B : Bud}

theorem beginM_errs (lv : Int) (t : PS) : Errs (beginM B lv t) := by
  unfold beginM
  split
  · exact .bad _ (by omega)
  · split
    · exact .bad _ (by omega)
    · exact .ok _ _
theorem readM_errs (t : PS) : Errs (readM s t) := by
  unfold readM
  split
  · exact .ok _ _
  · exact .bad _ (by omega)
theorem wordM_errs (t : PS) : Errs (wordM s t) := by
  unfold wordM
  split
  · exact readM_errs _
  · exact .bad _ (by omega)
theorem expectM_errs (kd : Int) (t : PS) : Errs (expectM s kd t) := by
  unfold expectM
  split
  · exact .ok _ _
  · exact .bad _ (by omega)
theorem keyM_errs (ks : List ByteArray) (t : PS) : Errs (keyM s ks t) := by
  unfold keyM
  split
  · refine Errs.bind (readM_errs _) (fun x t1 => ?_)
    split
    · exact .bad _ (by omega)
    · exact Errs.bind (expectM_errs _ _) (fun _ _ => .ok _ _)
  · exact .bad _ (by omega)
theorem aliasM_errs (lv : Int) (t : PS) : Errs (aliasM s B lv t) := by
  unfold aliasM
  refine Errs.bind (wordM_errs _) (fun x t1 => ?_)
  split
  · exact .bad _ (by omega)
  · split
    · exact .bad _ (by omega)
    · exact .ok _ _
theorem namedM_errs (lv : Int) {rest : Nat → PS → Res Unit} (hr : ∀ id t, Errs (rest id t)) (t : PS) : Errs (namedM s B lv rest t) := by
  unfold namedM
  refine Errs.bind (beginM_errs _ _) (fun id t1 => ?_)
  split
  · exact .bad _ (by omega)
  · exact Errs.bind (wordM_errs _) (fun x t2 => Errs.bind (hr _ _) (fun _ _ => .ok _ _))
theorem flowS_errs {val : Nat → Int → PS → Res Unit} (hv : ∀ id lv t, Errs (val id lv t)) (lv : Int) (t : PS) : Errs (flowS s B val lv t) := by
  unfold flowS
  simp only
  split
  · exact aliasM_errs _ _
  · split
    · exact namedM_errs _ (fun id v => hv _ _ _) _
    · split
      · exact Errs.bind (beginM_errs _ _) (fun _ _ => Errs.bind (hv _ _ _) (fun _ _ => .ok _ _))
      · exact .bad _ (by omega)
theorem inLoop_errs {fl : PS → Res Nat} (hf : ∀ t, Errs (fl t)) (isMap : Bool) (closing : Int) (n : Nat) : ∀ keys parts t, Errs (inLoop s fl isMap closing n keys parts t) := by
  induction n with
  | zero => intro keys parts t; exact .bad _ (by omega)
  | succ n ih =>
    intro keys parts t
    unfold inLoop
    refine Errs.bind ?_ (fun keys1 t1 => Errs.bind (hf t1) (fun x t2 => ?_))
    · split
      · exact keyM_errs _ _
      · exact .ok _ _
    · split
      · exact ih _ _ _
      · exact Errs.bind (expectM_errs _ _) (fun _ _ => .ok _ _)
theorem bracketsM_errs {fl : PS → Res Nat} (hf : ∀ t, Errs (fl t)) (isMap : Bool) (closing : Int) (t : PS) : Errs (bracketsM s fl isMap closing t) := by
  unfold bracketsM
  simp only
  split
  · exact .ok _ _
  · exact inLoop_errs hf _ _ _ _ _ _
theorem valueS_errs {fl : Int → PS → Res Nat} (hf : ∀ lv t, Errs (fl lv t)) (id : Nat) (lv : Int) (t : PS) : Errs (valueS s fl id lv t) := by
  unfold valueS
  simp only
  split
  · exact Errs.bind (readM_errs _) (fun _ _ => .ok _ _)
  · split
    · exact Errs.bind (bracketsM_errs (hf _) _ _ _) (fun _ _ => .ok _ _)
    · split
      · exact Errs.bind (bracketsM_errs (hf _) _ _ _) (fun _ _ => .ok _ _)
      · exact .bad _ (by omega)
theorem flowM_errs (f : Nat) : ∀ lv t, Errs (flowM s B f lv t) := by
  induction f with
  | zero => intro lv t; exact flowS_errs (fun _ _ _ => .bad _ (by omega)) lv t
  | succ f ih => intro lv t; exact flowS_errs (fun id lv t => valueS_errs ih id lv t) lv t
theorem endLineM_errs (t : PS) : Errs (endLineM s t) := by
  unfold endLineM
  split
  · exact .ok _ _
  · exact .bad _ (by omega)
theorem goBelowM_errs (d : Nat) (t : PS) : Errs (goBelowM s d t) := by
  unfold goBelowM
  simp only
  split
  · exact .ok _ _
  · exact .bad _ (by omega)
theorem namedItemS_errs {blk : Nat → Nat → PS → Res Unit} (hb : ∀ id d t, Errs (blk id d t)) (d id : Nat) (t : PS) : Errs (namedItemS s B blk d id t) := by
  unfold namedItemS
  simp only
  split
  · exact Errs.bind (goBelowM_errs _ _) (fun _ t1 => hb _ _ _)
  · exact Errs.bind (valueS_errs (flowM_errs 21) _ _ _) (fun _ _ => endLineM_errs _)
theorem itemS_errs {blk : Nat → Nat → PS → Res Unit} (hb : ∀ id d t, Errs (blk id d t)) (d : Nat) (t : PS) : Errs (itemS s B blk d t) := by
  unfold itemS
  simp only
  split
  · exact Errs.bind (goBelowM_errs _ _) (fun _ t1 => Errs.bind (beginM_errs _ _) (fun id t2 => Errs.bind (hb _ _ _) (fun _ _ => .ok _ _)))
  · split
    · exact namedM_errs _ (fun id v => namedItemS_errs hb d id v) _
    · exact Errs.bind (flowM_errs _ _ _) (fun _ _ => Errs.bind (endLineM_errs _) (fun _ _ => .ok _ _))
theorem blockLoop_errs {it : PS → Res Nat} (hi : ∀ t, Errs (it t)) (id d : Nat) (isMap : Bool) (n : Nat) : ∀ keys parts t, Errs (blockLoop s it id d isMap n keys parts t) := by
  induction n with
  | zero => intro keys parts t; exact .bad _ (by omega)
  | succ n ih =>
    intro keys parts t
    unfold blockLoop
    refine Errs.bind ?_ (fun keys1 t1 => Errs.bind (hi t1) (fun x t2 => ?_))
    · split
      · exact keyM_errs _ _
      · exact Errs.bind (expectM_errs _ _) (fun _ _ => .ok _ _)
    · simp only
      split
      · exact .ok _ _
      · split
        · exact .bad _ (by omega)
        · exact ih _ _ _
theorem blockM_errs (f : Nat) : ∀ id d t, Errs (blockM s B f id d t) := by
  induction f with
  | zero => intro id d t; exact .bad _ (by omega)
  | succ f ih => intro id d t; exact blockLoop_errs (fun t => itemS_errs ih d t) _ _ _ _ _ _ _
theorem textM_errs (t : PS) : Errs (textM s B t) := by
  unfold textM
  simp only
  split
  · exact .bad _ (by omega)
  · refine Errs.bind ?_ (fun _ t1 => ?_)
    · unfold topM
      split
      · exact Errs.bind (beginM_errs _ _) (fun id t1 => blockM_errs _ _ _ _)
      · exact Errs.bind (flowM_errs _ _ _) (fun _ _ => endLineM_errs _)
    · split
      · exact .ok _ _
      · exact .bad _ (by omega)
end

end Go.Proofs.YtkflkmmbakccoaaGreatDoor
