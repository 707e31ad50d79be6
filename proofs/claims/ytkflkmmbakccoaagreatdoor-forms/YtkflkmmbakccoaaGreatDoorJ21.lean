/- PARTS: B4. -/
import Derived.Test.YtkflkmmbakccoaaGreatDoorJ20
import Derived.Test.YtkflkmmbakccoaaGreatDoorJ13

/- WALKS: package write: lead. -/
namespace Go.Proofs.YtkflkmmbakccoaaGreatDoor
open Go.RowKit Go.Maps

/-- Where a node stands, as a value. -/
def plV : PlaceV → Value
  | none => .agg #[.int .i64 (-1), .int .i64 0]
  | some (p, i) => .agg #[.int .i64 (p : Int), .int .i64 (i : Int)]

/-- A place that there is. -/
def PlOk (nodes : List NodeV) (pl : PlaceV) : Prop := ∀ p i, pl = some (p, i) → p < nodes.length ∧ i < (nodeAt nodes p).parts.length

theorem row1_cell {w : World} {base e n : Nat} {v : Value} {xs : List Value} (h : w.ownsRow base e 1 v n xs) (hn : 0 < n) :
    ∃ b cap, v = .slice (some ⟨b, 0, none⟩) n cap ∧ n ≤ cap ∧ xs.length = n ∧ ∀ i u, xs[i]? = some u → w.cell? ⟨b, i, none⟩ = some u := by
  have hl : xs.length = n := by have := h.1; simpa using this
  rcases h.2 with ⟨_, h0⟩ | ⟨g, cap, cur, e, hb, hg, hc, hm, hs, ht⟩
  · omega
  · refine ⟨g, cap, e, hc, hl, fun i u hu => ?_⟩
    have hi : i < n := by
      have := (List.getElem?_eq_some_iff.1 hu).1
      omega
    rw [← ht, List.getElem?_take, if_pos (by omega)] at hu
    simp only [World.cell?, hg]
    simpa using hu

theorem leadL_some (rows : List Row) (p i : Nat) (hp : p < rows.length) : leadL (rows.map Row.n) (some (p, i)) = (if 0 < i then [44, 32] else []) ++ (if (rows[p]).n.kind = 2 then textL ((rows[p]).n.keys.getD i ByteArray.empty) ++ [58, 32] else []) := by
  rw [← nodeAt_rows rows p hp]; rfl

/-- Behind the comma: what the rest of 'lead' finds. -/
structure LeadMid (X : WEnv) (an : Nat) (nv : Value) (rows : List Row) (base : Nat) (w : World) (p i : Nat) (bv : Value) (o1 : List UInt8) (bv1 : Value) (w1 : World) : Prop where
  bw : BW X o1 bv1 w1
  pl : Blk w1 w.heap.size #[.int .i64 (p : Int), .int .i64 (i : Int)] 124
  gi : GI X an nv rows base w1
  but : But (X.wr :: own bv) w w1
  own : ∀ x ∈ Proofs.YtkflkmmbakccoaaGreatDoor.own bv1, x ∈ Proofs.YtkflkmmbakccoaaGreatDoor.own bv ∨ w.heap.size ≤ x
  plno : w.heap.size ∉ X.wr :: Proofs.YtkflkmmbakccoaaGreatDoor.own bv1

theorem leadMid_of {X : WEnv} {an : Nat} {nv : Value} {rows : List Row} {base : Nat} {w : World} {p i : Nat} {bv : Value} {out o1 : List UInt8} (h : BW X out bv w) (hG : GI X an nv rows base w) (hNwr : X.N ≤ X.wr) {w1 : World}
    (hp : WPost X o1 bv (w.alloc (.cells #[.int .i64 (p : Int), .int .i64 (i : Int)] 124)) w1) : ∃ bv1, LeadMid X an nv rows base w p i bv o1 bv1 w1 := by
  obtain ⟨bv1, hB1, hb1, ho1⟩ := hp
  have hbA : But [] w (w.alloc (.cells #[.int .i64 (p : Int), .int .i64 (i : Int)] 124)) := alloc_but _ _
  have hBA : Blk (w.alloc (.cells #[.int .i64 (p : Int), .int .i64 (i : Int)] 124)) w.heap.size #[.int .i64 (p : Int), .int .i64 (i : Int)] 124 := blk_new _ _ _
  have hbw : But (X.wr :: own bv) w w1 := (hbA.mono (S' := X.wr :: own bv) (by simp)).trans hb1 (fun x hx => .inl hx)
  have hno : w.heap.size ∉ X.wr :: own bv := fun hx => by
    rcases List.mem_cons.1 hx with e | hx
    · have := h.lt; omega
    · have := ownsRowF_lt h.row hx; omega
  refine ⟨bv1, hB1, hb1.blk hBA hno, hG.below (hbw.below h.N (fun x hx => ?_)), hbw, fun x hx => ?_, fun hx => ?_⟩
  · rcases List.mem_cons.1 hx with rfl | hx
    · exact hNwr
    · exact (ownsRowF_mem h.row hx).1
  · rcases ho1 x hx with h1 | h1
    · exact .inl h1
    · exact .inr (by simp at h1; omega)
  · rcases List.mem_cons.1 hx with e | hx
    · have := h.lt; omega
    · rcases ho1 _ hx with h1 | h1
      · exact hno (List.mem_cons_of_mem _ h1)
      · simp at h1; omega

set_option maxRecDepth 20000 in
set_option maxHeartbeats 2000000 in
theorem wLead_any (X : WEnv) (out : List UInt8) (bv : Value) (w : World) (h : BW X out bv w) (an : Nat) (nv : Value) (rows : List Row) (base : Nat) (hG : GI X an nv rows base w) (hNwr : X.N ≤ X.wr) (hW : Whole (rows.map Row.n)) (pl : PlaceV) (hpl : PlOk (rows.map Row.n) pl) (hl : out.length + 100 ≤ 1000000000) :
    Calls Tryz.prog 68 #[wpt X, plV pl] w fun e w' => WSaid X (out ++ leadL (rows.map Row.n) pl) bv w e w' := by
  cases pl with
  | none =>
    have HL : Hid (leadL (rows.map Row.n) none = []) := rfl
    unfold plV
    go_enter Tryz.func68, Tryz.ntmps68
    go_wp2_with fail
    go_end0
    exact ⟨rfl, by rw [HL.out, List.append_nil]; exact WPost.refl h (alloc_but _ _)⟩
  | some q =>
    obtain ⟨p, i⟩ := q
    obtain ⟨hp, hi⟩ := hpl p i rfl
    have hp' : p < rows.length := by simpa using hp
    have hNode := hW.node hp
    have hlen := hW.len
    rw [nodeAt_rows rows p hp'] at hi hNode
    have hpl1 := hNode.len
    have HK : Hid _ := leadL_some rows p i hp'
    unfold plV
    have hbA : But [] w (w.alloc (.cells #[.int .i64 (p : Int), .int .i64 (i : Int)] 124)) := alloc_but _ _
    have hA := h.frame hbA (by simp) (by simp)
    have hpn : ((p : Int) == -1) = false := beq_eq_false_iff_ne.2 (by omega)
    have hpos : rows.length ≤ 500 := by simpa using hlen
    have htk := getD_tok hNode.words i
    have htk1 := htk.1
    have hkl := hNode.keys
    obtain ⟨nb, cap, rfl, hcap, _⟩ := hG.node p hp'
    have hnp : (0 : Int) ≤ (p : Int) := by omega
    have hni : (0 : Int) ≤ (i : Int) := by omega
    by_cases hi0 : 0 < i
    · have HS : Hid _ := wStr_any X out bv _ hA ⟨#[44, 32]⟩ (by show out.length + 2 ≤ _; omega)
      by_cases hk : (rows[p]).n.kind = 2
      · have HK' : Hid (leadL (rows.map Row.n) (some (p, i)) = [44, 32] ++ (textL ((rows[p]).n.keys.getD i ByteArray.empty) ++ [58, 32])) := by unfold Hid; rw [HK.out, if_pos hi0, if_pos hk]
        go_enter Tryz.func68, Tryz.ntmps68
        go_wp2_with fail
        refine Calls.mono HS.out ?_
        rintro e w1 ⟨rfl, hp1⟩
        obtain ⟨bv1, hM⟩ := leadMid_of (X := X) (p := p) (i := i) h hG hNwr hp1
        have c0 := hM.bw.cell.1
        have g0 : w1.cell? ⟨X.g, 0, none⟩ = some (.slice (some ⟨nb, 0, none⟩) rows.length cap) := hM.gi.gr.cell rfl
        have p0 := hM.pl.cell (i := 0) rfl
        have p1 := hM.pl.cell (i := 1) rfl
        obtain ⟨nb', cap', e2, _, hcn⟩ := hM.gi.node p hp'
        obtain ⟨rfl, rfl⟩ : nb = nb' ∧ cap = cap' := by simpa using e2
        have d0 := hcn 0 (by omega)
        have d2 := hcn 2 (by omega)
        simp only [Row.cells, List.getElem?_cons_succ, List.getElem?_cons_zero, Nat.add_zero] at d0 d2
        rw [hk] at d0
        rw [if_pos hk] at hkl
        obtain ⟨kb, kcap, hkv, hkc, hkl2, hkcell⟩ := row1_cell (hM.gi.each rows[p] (List.getElem_mem hp')).1 (by omega)
        have hkey : w1.cell? ⟨kb, i, none⟩ = some (.string ((rows[p]).n.keys.getD i ByteArray.empty)) := hkcell i _ (by
          have hik : i < (rows[p]).n.keys.length := by omega
          simp [List.getD, hik])
        rw [hkv] at d2
        generalize (rows[p]).n.keys.getD i ByteArray.empty = key at *
        generalize rows[p] = r at *
        have HM : Hid _ := hM
        have HTX : Hid _ := fun (W : World) (hW : But [] w1 W) => wText_any X _ bv1 W (hM.bw.frame hW (by simp) (by simp)) key (by omega) (by simp; omega)
        clear hcn e2 hM HS HK hA hbA hNode hkcell hkv hk
        go_wp2_with fail
        go_quiet (fail)
        go_wp2_with fail
        go_region_with ((go_at_call 99; refine (HTX.out _ (((But.refl [] w1).drewN nq).drew)).mono ?_; rintro e w2 ⟨rfl, hp2⟩))
        all_goals
          go_wp2_with fail
          obtain ⟨bv2, hB2, hb2, ho2⟩ := hp2
          refine (wStr_any X _ bv2 w2 hB2 ⟨#[58, 32]⟩ (by
            have := textL_len htk
            simp only [List.length_append]
            show _ + 2 ≤ _
            simp
            omega)).mono ?_
          rintro e w3 ⟨rfl, hp3⟩
          go_wp2_with fail
          go_end0
          refine ⟨rfl, ?_⟩
          rw [HK'.out]
          have h12 : But (X.wr :: own bv1) w1 w2 := (((But.refl [] w1).drewN nq).drew.mono (by simp)).trans hb2 (fun x hx => .inl hx)
          have q1 := WPost.trans h12 ho2 hp3
          have q2 := WPost.trans HM.out.but HM.out.own q1
          simpa [List.append_assoc] using q2
      · have HK' : Hid (leadL (rows.map Row.n) (some (p, i)) = [44, 32]) := by unfold Hid; rw [HK.out, if_pos hi0, if_neg hk]; rfl
        go_enter Tryz.func68, Tryz.ntmps68
        go_wp2_with fail
        refine Calls.mono HS.out ?_
        rintro e w1 ⟨rfl, hp1⟩
        obtain ⟨bv1, hM⟩ := leadMid_of (X := X) (p := p) (i := i) h hG hNwr hp1
        have c0 := hM.bw.cell.1
        have g0 : w1.cell? ⟨X.g, 0, none⟩ = some (.slice (some ⟨nb, 0, none⟩) rows.length cap) := hM.gi.gr.cell rfl
        have p0 := hM.pl.cell (i := 0) rfl
        have p1 := hM.pl.cell (i := 1) rfl
        obtain ⟨nb', cap', e2, _, hcn⟩ := hM.gi.node p hp'
        obtain ⟨rfl, rfl⟩ : nb = nb' ∧ cap = cap' := by simpa using e2
        have d0 := hcn 0 (by omega)
        simp only [Row.cells, List.getElem?_cons_zero, Nat.add_zero] at d0
        have hkb : (((rows[p]).n.kind : Int) == 2) = false := beq_eq_false_iff_ne.2 (by omega)
        generalize rows[p] = r at *
        have HM : Hid _ := hM
        clear hcn e2 hM hk HS HK hA hbA hNode
        go_wp2_with fail
        go_quiet (fail)
        go_wp2_with fail
        go_end0
        exact ⟨rfl, by rw [HK'.out]; exact ⟨bv1, HM.out.bw.frame ((But.refl [] _).drewN _) (by simp) (by simp), HM.out.but.drewN _, HM.out.own⟩⟩
    · obtain ⟨w1, HW1⟩ : ∃ w1, Hid (w1 = w.alloc (.cells #[.int .i64 (p : Int), .int .i64 (i : Int)] 124)) := ⟨_, (rfl : w.alloc (.cells #[.int .i64 (p : Int), .int .i64 (i : Int)] 124) = w.alloc (.cells #[.int .i64 (p : Int), .int .i64 (i : Int)] 124))⟩
      obtain ⟨bv1, hM⟩ := leadMid_of (X := X) (p := p) (i := i) h hG hNwr (WPost.refl hA (But.refl _ _))
      rw [← HW1.out] at hM
      by_cases hk : (rows[p]).n.kind = 2
      · have HK' : Hid (leadL (rows.map Row.n) (some (p, i)) = [] ++ (textL ((rows[p]).n.keys.getD i ByteArray.empty) ++ [58, 32])) := by unfold Hid; rw [HK.out, if_neg hi0, if_pos hk]
        go_enter Tryz.func68, Tryz.ntmps68
        go_upto_region 4 with fail
        rw [← HW1.out]
        have c0 := hM.bw.cell.1
        have g0 : w1.cell? ⟨X.g, 0, none⟩ = some (.slice (some ⟨nb, 0, none⟩) rows.length cap) := hM.gi.gr.cell rfl
        have p0 := hM.pl.cell (i := 0) rfl
        have p1 := hM.pl.cell (i := 1) rfl
        obtain ⟨nb', cap', e2, _, hcn⟩ := hM.gi.node p hp'
        obtain ⟨rfl, rfl⟩ : nb = nb' ∧ cap = cap' := by simpa using e2
        have d0 := hcn 0 (by omega)
        have d2 := hcn 2 (by omega)
        simp only [Row.cells, List.getElem?_cons_succ, List.getElem?_cons_zero, Nat.add_zero] at d0 d2
        rw [hk] at d0
        rw [if_pos hk] at hkl
        obtain ⟨kb, kcap, hkv, hkc, hkl2, hkcell⟩ := row1_cell (hM.gi.each rows[p] (List.getElem_mem hp')).1 (by omega)
        have hkey : w1.cell? ⟨kb, i, none⟩ = some (.string ((rows[p]).n.keys.getD i ByteArray.empty)) := hkcell i _ (by
          have hik : i < (rows[p]).n.keys.length := by omega
          simp [List.getD, hik])
        rw [hkv] at d2
        generalize (rows[p]).n.keys.getD i ByteArray.empty = key at *
        generalize rows[p] = r at *
        have HM : Hid _ := hM
        have HTX : Hid _ := fun (W : World) (hW : But [] w1 W) => wText_any X _ bv1 W (hM.bw.frame hW (by simp) (by simp)) key (by omega) (by simp; omega)
        clear hcn e2 hM HK hA hbA hNode hkcell hkv hk
        go_quiet (fail)
        go_wp2_with fail
        go_region_with ((go_at_call 99; refine (HTX.out _ (((But.refl [] w1).drewN nq).drew)).mono ?_; rintro e w2 ⟨rfl, hp2⟩))
        all_goals
          go_wp2_with fail
          obtain ⟨bv2, hB2, hb2, ho2⟩ := hp2
          refine (wStr_any X _ bv2 w2 hB2 ⟨#[58, 32]⟩ (by
            have := textL_len htk
            simp only [List.length_append]
            show _ + 2 ≤ _
            simp
            omega)).mono ?_
          rintro e w3 ⟨rfl, hp3⟩
          go_wp2_with fail
          go_end0
          refine ⟨rfl, ?_⟩
          rw [HK'.out]
          have h12 : But (X.wr :: own bv1) w1 w2 := (((But.refl [] w1).drewN nq).drew.mono (by simp)).trans hb2 (fun x hx => .inl hx)
          have q1 := WPost.trans h12 ho2 hp3
          have q2 := WPost.trans HM.out.but HM.out.own q1
          simpa [List.append_assoc] using q2
      · have HK' : Hid (leadL (rows.map Row.n) (some (p, i)) = []) := by unfold Hid; rw [HK.out, if_neg hi0, if_neg hk]; rfl
        go_enter Tryz.func68, Tryz.ntmps68
        go_upto_region 4 with fail
        rw [← HW1.out]
        have c0 := hM.bw.cell.1
        have g0 : w1.cell? ⟨X.g, 0, none⟩ = some (.slice (some ⟨nb, 0, none⟩) rows.length cap) := hM.gi.gr.cell rfl
        have p0 := hM.pl.cell (i := 0) rfl
        have p1 := hM.pl.cell (i := 1) rfl
        obtain ⟨nb', cap', e2, _, hcn⟩ := hM.gi.node p hp'
        obtain ⟨rfl, rfl⟩ : nb = nb' ∧ cap = cap' := by simpa using e2
        have d0 := hcn 0 (by omega)
        simp only [Row.cells, List.getElem?_cons_zero, Nat.add_zero] at d0
        have hkb : (((rows[p]).n.kind : Int) == 2) = false := beq_eq_false_iff_ne.2 (by omega)
        generalize rows[p] = r at *
        have HM : Hid _ := hM
        clear hcn e2 hM hk HK hA hbA hNode
        go_quiet (fail)
        go_wp2_with fail
        go_end0
        exact ⟨rfl, by rw [HK'.out, List.append_nil]; exact ⟨bv1, HM.out.bw.frame ((But.refl [] _).drewN _) (by simp) (by simp), HM.out.but.drewN _, HM.out.own⟩⟩

end Go.Proofs.YtkflkmmbakccoaaGreatDoor
