/- PARTS: B3, B4, B5. -/
import Derived.Test.YtkflkmmbakccoaaGreatDoorH39
import Derived.Test.YtkflkmmbakccoaaGreatDoorH4
import Derived.Test.YtkflkmmbakccoaaGreatDoorH5
import Derived.Test.YtkflkmmbakccoaaGreatDoorH18
import Derived.Test.YtkflkmmbakccoaaGreatDoorH15
import Derived.Test.YtkflkmmbakccoaaGreatDoorH19

/- WALKS: scan.IsWord; package write: text, open, shut, lead. The graph in memory, as the writer reads it. -/
namespace Go.Proofs.YtkflkmmbakccoaaGreatDoor
open Go.RowKit Go.Maps

theorem isWord_take (x : ByteArray) (k : Nat) (h : k < x.size) : (x.data.toList.take (k + 1)).all (fun b => isWB (b.toNat : Int)) = ((x.data.toList.take k).all (fun b => isWB (b.toNat : Int)) && isWB ((x[k]'h).toNat : Int)) := by
  have e : x.data.toList.take (k + 1) = x.data.toList.take k ++ [x[k]] := by
    rw [List.take_succ_eq_append_getElem (by simpa using h)]; rfl
  rw [e, List.all_append]
  simp

set_option maxHeartbeats 400000 in
theorem isWord_any (x : ByteArray) (w : World) (hs : x.size ≤ 9223372036854775807) :
    Calls Tryz.prog 125 #[.string x] w fun e w' => e = .returned (.bool (isWordB x)) ∧ w' = w := by
  go_enter Tryz.func125, Tryz.ntmps125
  go_wp2_with fail
  go_loop [6] (fun i => ∃ k : Nat, k ≤ x.size ∧ i = .int .i64 k ∧ (x.data.toList.take k).all (fun b => isWB (b.toNat : Int)) = true) (fun i => x.size - (intOf i).toNat)
  case atStart => exact ⟨0, Nat.zero_le _, rfl, rfl⟩
  case round =>
    obtain ⟨k, hk, rfl, hall⟩ := hrel
    have HA : Hid _ := hall
    clear hall
    by_cases hlt : k < x.size
    · have hx0 : (0 : Int) ≤ (x[k].toNat : Int) := by omega
      have hx1 : (x[k].toNat : Int) ≤ 255 := by have := x[k].toNat_lt; omega
      have HT : Hid _ := isWord_take x k hlt
      by_cases hw : isWB (x[k].toNat : Int) = true
      · go_wp2_with (go_at_call 121; refine (isWordByte_any _ _ hx0 hx1).mono ?_; rintro e w' ⟨rfl, rfl⟩)
        go_round
        case rel => exact ⟨k + 1, by omega, by go_num, by rw [HT.out, HA.out, hw]; rfl⟩
        case measure => simp [intOf]; omega
      · have hw' : isWB (x[k].toNat : Int) = false := by simpa using hw
        have HF : Hid (isWordB x = false) := by
          unfold Hid isWordB
          have : x.data.toList.all (fun b => isWB (b.toNat : Int)) = false := by
            rw [List.all_eq_false]
            exact ⟨x[k], by rw [Array.mem_toList_iff]; exact Array.getElem_mem _, by simp [hw']⟩
          rw [this]; simp
        clear hw
        go_wp2_with (go_at_call 121; refine (isWordByte_any _ _ hx0 hx1).mono ?_; rintro e w' ⟨rfl, rfl⟩)
        go_ret
        exact ⟨ret_bool HF.out.symm, rfl⟩
    · have hall : x.data.toList.all (fun b => isWB (b.toNat : Int)) = true := by
        have := HA.out
        rwa [List.take_of_length_le (by simp; omega)] at this
      have HF : Hid (isWordB x = (decide (1 ≤ x.size) && decide (x.size ≤ 12))) := by
        unfold Hid isWordB; rw [hall]; simp
      clear hall HA
      by_cases h0 : 0 < x.size
      all_goals
        go_wp2_with fail
        go_ret
        refine ⟨ret_bool ?_, rfl⟩
        rw [HF.out, Bool.eq_iff_iff]
        simp
        omega

/-- How a writer's step ends. -/
abbrev WSaid (X : WEnv) (out : List UInt8) (bv : Value) (w : World) (e : Ending) (w' : World) : Prop := e = .returned (.tuple #[]) ∧ WPost X out bv w w'

set_option maxHeartbeats 400000 in
theorem wText_any (X : WEnv) (out : List UInt8) (bv : Value) (w : World) (h : BW X out bv w) (x : ByteArray) (hx : x.size ≤ 1000) (hl : out.length + x.size + 2 ≤ 1000000000) :
    Calls Tryz.prog 99 #[wpt X, .string x] w fun e w' => WSaid X (out ++ textL x) bv w e w' := by
  by_cases hw : isWordB x = true
  · have HT : Hid (textL x = x.data.toList) := by unfold Hid textL; rw [if_pos hw]
    have HW : Hid _ := wStr_any X out bv w h x (by omega)
    go_enter Tryz.func99, Tryz.ntmps99
    go_wp2_with (go_at_call 125; refine (isWord_any x _ (by omega)).mono ?_; rintro e w' ⟨rfl, hww⟩; have hww2 := hww.symm; clear hww; subst hww2)
    refine Calls.mono HW.out ?_
    rintro e w1 ⟨rfl, hp⟩
    go_wp2_with fail
    go_end0
    exact ⟨rfl, by rw [HT.out]; exact hp⟩
  · have hw' : isWordB x = false := by simpa using hw
    have HT : Hid (textL x = 34 :: (x.data.toList ++ [34])) := by unfold Hid textL; rw [if_neg hw]
    have HW : Hid _ := wByte_any X out bv w h 34 34 rfl (by omega)
    clear hw
    go_enter Tryz.func99, Tryz.ntmps99
    go_wp2_with (go_at_call 125; refine (isWord_any x _ (by omega)).mono ?_; rintro e w' ⟨rfl, hww⟩; have hww2 := hww.symm; clear hww; subst hww2)
    refine Calls.mono HW.out ?_
    rintro e w1 ⟨rfl, bv1, hB1, hb1, ho1⟩
    go_wp2_with fail
    refine (wStr_any X _ bv1 w1 hB1 x (by simp; omega)).mono ?_
    rintro e w2 ⟨rfl, hp2⟩
    obtain ⟨bv2, hB2, hb2, ho2⟩ := WPost.trans hb1 ho1 hp2
    go_wp2_with fail
    refine (wByte_any X _ bv2 w2 hB2 34 34 rfl (by simp; omega)).mono ?_
    rintro e w3 ⟨rfl, hp3⟩
    go_wp2_with fail
    go_end0
    refine ⟨rfl, ?_⟩
    rw [HT.out]
    have := WPost.trans hb2 ho2 hp3
    simpa [List.append_assoc] using this

/-- The graph, as the writer finds it: all of it lies below N. -/
structure GI (X : WEnv) (an : Nat) (nv : Value) (rows : List Row) (base : Nat) (w : World) : Prop where
  gr : Blk w X.g #[nv, .int .i64 (an : Int)] 82
  nodes : w.ownsRow base 79 6 nv rows.length (rows.flatMap Row.cells)
  each : ∀ r ∈ rows, RowOk w base r
  lt : ∀ x ∈ X.g :: (own nv ++ pub rows), x < X.N
  N : X.N ≤ w.heap.size

theorem GI.below {X : WEnv} {an : Nat} {nv : Value} {rows : List Row} {base : Nat} {w w' : World} (h : GI X an nv rows base w) (hb : Below X.N w w') : GI X an nv rows base w' := by
  have hB : ∀ x, x < X.N → w'.heap[x]? = w.heap[x]? := fun x hx => hb.block x hx
  have hrow : ∀ {e sz n : Nat} {v : Value} {xs : List Value}, w.ownsRow base e sz v n xs → (∀ x ∈ own v, x < X.N) → w'.ownsRow base e sz v n xs := fun {e sz n v xs} h1 h2 => by
    refine ⟨h1.1, ?_⟩
    rcases h1.2 with h3 | ⟨g, cap, cur, rfl, hB', hg, r⟩
    · exact .inl h3
    · exact .inr ⟨g, cap, cur, rfl, hB', by rw [hB g (h2 g (by simp [own]))]; exact hg, r⟩
  refine ⟨?_, hrow h.nodes (fun x hx => h.lt x (by simp [hx])), fun r hr => ?_, h.lt, Nat.le_trans h.N hb.size⟩
  · have := h.gr
    unfold Blk at *
    rw [hB X.g (h.lt _ (List.mem_cons_self ..))]
    exact this
  · have hp : ∀ x ∈ r.pub, x < X.N := fun x hx => h.lt x (by
      simp only [List.mem_cons, List.mem_append, pub, List.mem_flatMap]
      exact .inr (.inr ⟨r, hr, hx⟩))
    exact ⟨hrow (h.each r hr).1 (fun x hx => hp x (by simp [Row.pub, hx])), hrow (h.each r hr).2 (fun x hx => hp x (by simp [Row.pub, hx]))⟩

theorem GI.node {X : WEnv} {an : Nat} {nv : Value} {rows : List Row} {base : Nat} {w : World} (h : GI X an nv rows base w) (i : Nat) (hi : i < rows.length) :
    ∃ nb cap, nv = .slice (some ⟨nb, 0, none⟩) rows.length cap ∧ rows.length ≤ cap ∧ ∀ j, j < 6 → w.cell? ⟨nb, i * 6 + j, none⟩ = (rows[i]).cells[j]? := by
  rcases h.nodes.2 with ⟨_, h0⟩ | ⟨g, cap, cur, e, hb, hg, hc, hm, hs, ht⟩
  · omega
  · refine ⟨g, cap, e, hc, fun j hj => ?_⟩
    have h1 := flat_at rows i j hi hj
    rw [← ht, List.getElem?_take, if_pos (by omega)] at h1
    rw [← h1]
    simp only [World.cell?, hg]
    simp

theorem PInv.toGI {E : Env} {t : PS} {nv : Value} {rows : List Row} {w : World} (h : PInv E t nv rows w) (X : WEnv) (hg : X.g = E.g) (hN : X.N = w.heap.size) : GI X t.anchors nv rows E.base w := by
  refine ⟨by rw [hg]; exact h.gr, h.nodes, h.rows, fun x hx => ?_, by omega⟩
  rw [hN]
  rw [hg] at hx
  refine h.foot_lt ?_
  simp only [foot, List.mem_cons, List.mem_append] at hx ⊢
  rcases hx with hx | hx | hx
  · exact .inr (.inl hx)
  · exact .inr (.inr (.inr (.inl hx)))
  · exact .inr (.inr (.inr (.inr hx)))

theorem BW.cell {X : WEnv} {out : List UInt8} {bv : Value} {w : World} (h : BW X out bv w) : w.cell? ⟨X.wr, 0, none⟩ = some (.pointer (some ⟨X.g, 0, none⟩)) ∧ w.cell? ⟨X.wr, 1, none⟩ = some (.pointer (some ⟨X.wk, 0, none⟩)) ∧ w.cell? ⟨X.wr, 2, none⟩ = some (.map (some X.nm)) ∧ w.cell? ⟨X.wr, 3, none⟩ = some (.map (some X.pc)) := by
  obtain ⟨A, _, hB⟩ := h.blk
  exact ⟨hB.cell rfl, hB.cell rfl, hB.cell rfl, hB.cell rfl⟩

theorem nodeAt_rows (rows : List Row) (i : Nat) (hi : i < rows.length) : nodeAt (rows.map Row.n) i = (rows[i]).n := by simp [nodeAt, List.getD, hi]

set_option maxHeartbeats 1000000 in
theorem wOpen_any (X : WEnv) (out : List UInt8) (bv : Value) (w : World) (h : BW X out bv w) (an : Nat) (nv : Value) (rows : List Row) (base : Nat) (hG : GI X an nv rows base w) (id : Nat) (hid : id < rows.length) (hk : (rows[id]).n.kind ≤ 2) (hx : (rows[id]).n.text.size ≤ 20) (hl : out.length + 100 ≤ 1000000000) :
    Calls Tryz.prog 71 #[wpt X, .int .i64 (id : Int)] w fun e w' => WSaid X (out ++ openL (rows.map Row.n) id) bv w e w' := by
  obtain ⟨nb, cap, rfl, hcap, hcn⟩ := hG.node id hid
  have c0 := h.cell.1
  have g0 : w.cell? ⟨X.g, 0, none⟩ = some (.slice (some ⟨nb, 0, none⟩) rows.length cap) := hG.gr.cell rfl
  have d0 := hcn 0 (by omega)
  have d1 := hcn 1 (by omega)
  simp only [Row.cells, List.getElem?_cons_succ, List.getElem?_cons_zero, Nat.add_zero] at d0 d1
  have HO : Hid (openL (rows.map Row.n) id = if (rows[id]).n.kind = 0 then textL (rows[id]).n.text else if (rows[id]).n.kind = 1 then [91] else if (rows[id]).n.kind = 2 then [123] else []) := by unfold Hid openL; rw [nodeAt_rows rows id hid]
  generalize rows[id] = r at *
  have hkk : r.n.kind = 0 ∨ r.n.kind = 1 ∨ r.n.kind = 2 := by omega
  clear hcn hk
  rcases hkk with hk | hk | hk
  · have HT : Hid _ := wText_any X out bv w h r.n.text (by omega) (by omega)
    have HO' : Hid (openL (rows.map Row.n) id = textL r.n.text) := by unfold Hid; rw [HO.out, if_pos hk]
    rw [hk] at d0
    clear HO hk
    go_enter Tryz.func71, Tryz.ntmps71
    go_wp2_with fail
    refine Calls.mono HT.out ?_
    rintro e w1 ⟨rfl, hp⟩
    go_wp2_with fail
    go_end0
    exact ⟨rfl, by rw [HO'.out]; exact hp⟩
  · have HT : Hid _ := wByte_any X out bv w h 91 91 rfl (by omega)
    have HO' : Hid (openL (rows.map Row.n) id = [91]) := by unfold Hid; rw [HO.out, if_neg (by omega), if_pos hk]
    rw [hk] at d0
    clear HO hk
    go_enter Tryz.func71, Tryz.ntmps71
    go_wp2_with fail
    refine Calls.mono HT.out ?_
    rintro e w1 ⟨rfl, hp⟩
    go_wp2_with fail
    go_end0
    exact ⟨rfl, by rw [HO'.out]; exact hp⟩
  · have HT : Hid _ := wByte_any X out bv w h 123 123 rfl (by omega)
    have HO' : Hid (openL (rows.map Row.n) id = [123]) := by unfold Hid; rw [HO.out, if_neg (by omega), if_neg (by omega), if_pos hk]
    rw [hk] at d0
    clear HO hk
    go_enter Tryz.func71, Tryz.ntmps71
    go_wp2_with fail
    refine Calls.mono HT.out ?_
    rintro e w1 ⟨rfl, hp⟩
    go_wp2_with fail
    go_end0
    exact ⟨rfl, by rw [HO'.out]; exact hp⟩

set_option maxHeartbeats 1000000 in
theorem wShut_any (X : WEnv) (out : List UInt8) (bv : Value) (w : World) (h : BW X out bv w) (an : Nat) (nv : Value) (rows : List Row) (base : Nat) (hG : GI X an nv rows base w) (id : Nat) (hid : id < rows.length) (hk : (rows[id]).n.kind ≤ 2) (hl : out.length + 100 ≤ 1000000000) :
    Calls Tryz.prog 73 #[wpt X, .int .i64 (id : Int)] w fun e w' => WSaid X (out ++ shutL (rows.map Row.n) id) bv w e w' := by
  obtain ⟨nb, cap, rfl, hcap, hcn⟩ := hG.node id hid
  have c0 := h.cell.1
  have g0 : w.cell? ⟨X.g, 0, none⟩ = some (.slice (some ⟨nb, 0, none⟩) rows.length cap) := hG.gr.cell rfl
  have d0 := hcn 0 (by omega)
  simp only [Row.cells, List.getElem?_cons_zero, Nat.add_zero] at d0
  have HO : Hid (shutL (rows.map Row.n) id = if (rows[id]).n.kind = 1 then [93] else if (rows[id]).n.kind = 2 then [125] else []) := by unfold Hid shutL; rw [nodeAt_rows rows id hid]
  generalize rows[id] = r at *
  have hkk : r.n.kind = 0 ∨ r.n.kind = 1 ∨ r.n.kind = 2 := by omega
  clear hcn hk
  rcases hkk with hk | hk | hk
  · have HO' : Hid (shutL (rows.map Row.n) id = []) := by unfold Hid; rw [HO.out, if_neg (by omega), if_neg (by omega)]
    rw [hk] at d0
    clear HO hk
    go_enter Tryz.func73, Tryz.ntmps73
    go_wp2_with fail
    go_end0
    exact ⟨rfl, by rw [HO'.out, List.append_nil]; exact WPost.refl h (But.refl _ _)⟩
  · have HT : Hid _ := wByte_any X out bv w h 93 93 rfl (by omega)
    have HO' : Hid (shutL (rows.map Row.n) id = [93]) := by unfold Hid; rw [HO.out, if_pos hk]
    rw [hk] at d0
    clear HO hk
    go_enter Tryz.func73, Tryz.ntmps73
    go_wp2_with fail
    refine Calls.mono HT.out ?_
    rintro e w1 ⟨rfl, hp⟩
    go_wp2_with fail
    go_end0
    exact ⟨rfl, by rw [HO'.out]; exact hp⟩
  · have HT : Hid _ := wByte_any X out bv w h 125 125 rfl (by omega)
    have HO' : Hid (shutL (rows.map Row.n) id = [125]) := by unfold Hid; rw [HO.out, if_neg (by omega), if_pos hk]
    rw [hk] at d0
    clear HO hk
    go_enter Tryz.func73, Tryz.ntmps73
    go_wp2_with fail
    refine Calls.mono HT.out ?_
    rintro e w1 ⟨rfl, hp⟩
    go_wp2_with fail
    go_end0
    exact ⟨rfl, by rw [HO'.out]; exact hp⟩

end Go.Proofs.YtkflkmmbakccoaaGreatDoor

/- WALKS: package write: lead. -/
namespace Go.Proofs.YtkflkmmbakccoaaGreatDoor
open Go.RowKit Go.Maps

/-- Where a node stands, as a value. -/
def plV : PlaceV → Value
  | none => .agg #[.int .i64 (-1), .int .i64 0]
  | some (p, i) => .agg #[.int .i64 (p : Int), .int .i64 (i : Int)]

/-- A place that there is. -/
def PlOk (nodes : List NodeV) (pl : PlaceV) : Prop := ∀ p i, pl = some (p, i) → p < nodes.length ∧ i < (nodeAt nodes p).parts.length

theorem row1_cell {w : World} {base e n : Nat} {v : Value} {xs : List Value} (h : w.ownsRow base e 1 v n xs) (hn : 0 < n) :
    ∃ b cap, v = .slice (some ⟨b, 0, none⟩) n cap ∧ n ≤ cap ∧ xs.length = n ∧ ∀ i u, xs[i]? = some u → w.cell? ⟨b, i, none⟩ = some u := by
  have hl : xs.length = n := by have := h.1; simpa using this
  rcases h.2 with ⟨_, h0⟩ | ⟨g, cap, cur, e, hb, hg, hc, hm, hs, ht⟩
  · omega
  · refine ⟨g, cap, e, hc, hl, fun i u hu => ?_⟩
    have hi : i < n := by
      have := (List.getElem?_eq_some_iff.1 hu).1
      omega
    rw [← ht, List.getElem?_take, if_pos (by omega)] at hu
    simp only [World.cell?, hg]
    simpa using hu

theorem leadL_some (rows : List Row) (p i : Nat) (hp : p < rows.length) : leadL (rows.map Row.n) (some (p, i)) = (if 0 < i then [44, 32] else []) ++ (if (rows[p]).n.kind = 2 then textL ((rows[p]).n.keys.getD i ByteArray.empty) ++ [58, 32] else []) := by
  rw [← nodeAt_rows rows p hp]; rfl

/-- Behind the comma: what the rest of 'lead' finds. -/
structure LeadMid (X : WEnv) (an : Nat) (nv : Value) (rows : List Row) (base : Nat) (w : World) (p i : Nat) (bv : Value) (o1 : List UInt8) (bv1 : Value) (w1 : World) : Prop where
  bw : BW X o1 bv1 w1
  pl : Blk w1 w.heap.size #[.int .i64 (p : Int), .int .i64 (i : Int)] 124
  gi : GI X an nv rows base w1
  but : But (X.wr :: own bv) w w1
  own : ∀ x ∈ Proofs.YtkflkmmbakccoaaGreatDoor.own bv1, x ∈ Proofs.YtkflkmmbakccoaaGreatDoor.own bv ∨ w.heap.size ≤ x
  plno : w.heap.size ∉ X.wr :: Proofs.YtkflkmmbakccoaaGreatDoor.own bv1

theorem leadMid_of {X : WEnv} {an : Nat} {nv : Value} {rows : List Row} {base : Nat} {w : World} {p i : Nat} {bv : Value} {out o1 : List UInt8} (h : BW X out bv w) (hG : GI X an nv rows base w) (hNwr : X.N ≤ X.wr) {w1 : World}
    (hp : WPost X o1 bv (w.alloc (.cells #[.int .i64 (p : Int), .int .i64 (i : Int)] 124)) w1) : ∃ bv1, LeadMid X an nv rows base w p i bv o1 bv1 w1 := by
  obtain ⟨bv1, hB1, hb1, ho1⟩ := hp
  have hbA : But [] w (w.alloc (.cells #[.int .i64 (p : Int), .int .i64 (i : Int)] 124)) := alloc_but _ _
  have hBA : Blk (w.alloc (.cells #[.int .i64 (p : Int), .int .i64 (i : Int)] 124)) w.heap.size #[.int .i64 (p : Int), .int .i64 (i : Int)] 124 := blk_new _ _ _
  have hbw : But (X.wr :: own bv) w w1 := (hbA.mono (S' := X.wr :: own bv) (by simp)).trans hb1 (fun x hx => .inl hx)
  have hno : w.heap.size ∉ X.wr :: own bv := fun hx => by
    rcases List.mem_cons.1 hx with e | hx
    · have := h.lt; omega
    · have := ownsRowF_lt h.row hx; omega
  refine ⟨bv1, hB1, hb1.blk hBA hno, hG.below (hbw.below h.N (fun x hx => ?_)), hbw, fun x hx => ?_, fun hx => ?_⟩
  · rcases List.mem_cons.1 hx with rfl | hx
    · exact hNwr
    · exact (ownsRowF_mem h.row hx).1
  · rcases ho1 x hx with h1 | h1
    · exact .inl h1
    · exact .inr (by simp at h1; omega)
  · rcases List.mem_cons.1 hx with e | hx
    · have := h.lt; omega
    · rcases ho1 _ hx with h1 | h1
      · exact hno (List.mem_cons_of_mem _ h1)
      · simp at h1; omega

set_option maxRecDepth 20000 in
set_option maxHeartbeats 2000000 in
theorem wLead_any (X : WEnv) (out : List UInt8) (bv : Value) (w : World) (h : BW X out bv w) (an : Nat) (nv : Value) (rows : List Row) (base : Nat) (hG : GI X an nv rows base w) (hNwr : X.N ≤ X.wr) (hW : Whole (rows.map Row.n)) (pl : PlaceV) (hpl : PlOk (rows.map Row.n) pl) (hl : out.length + 100 ≤ 1000000000) :
    Calls Tryz.prog 68 #[wpt X, plV pl] w fun e w' => WSaid X (out ++ leadL (rows.map Row.n) pl) bv w e w' := by
  cases pl with
  | none =>
    have HL : Hid (leadL (rows.map Row.n) none = []) := rfl
    unfold plV
    go_enter Tryz.func68, Tryz.ntmps68
    go_wp2_with fail
    go_end0
    exact ⟨rfl, by rw [HL.out, List.append_nil]; exact WPost.refl h (alloc_but _ _)⟩
  | some q =>
    obtain ⟨p, i⟩ := q
    obtain ⟨hp, hi⟩ := hpl p i rfl
    have hp' : p < rows.length := by simpa using hp
    have hNode := hW.node hp
    have hlen := hW.len
    rw [nodeAt_rows rows p hp'] at hi hNode
    have hpl1 := hNode.len
    have HK : Hid _ := leadL_some rows p i hp'
    unfold plV
    have hbA : But [] w (w.alloc (.cells #[.int .i64 (p : Int), .int .i64 (i : Int)] 124)) := alloc_but _ _
    have hA := h.frame hbA (by simp) (by simp)
    have hpn : ((p : Int) == -1) = false := beq_eq_false_iff_ne.2 (by omega)
    have hpos : rows.length ≤ 500 := by simpa using hlen
    have htk := getD_tok hNode.words i
    have htk1 := htk.1
    have hkl := hNode.keys
    obtain ⟨nb, cap, rfl, hcap, _⟩ := hG.node p hp'
    have hnp : (0 : Int) ≤ (p : Int) := by omega
    have hni : (0 : Int) ≤ (i : Int) := by omega
    by_cases hi0 : 0 < i
    · have HS : Hid _ := wStr_any X out bv _ hA ⟨#[44, 32]⟩ (by show out.length + 2 ≤ _; omega)
      by_cases hk : (rows[p]).n.kind = 2
      · have HK' : Hid (leadL (rows.map Row.n) (some (p, i)) = [44, 32] ++ (textL ((rows[p]).n.keys.getD i ByteArray.empty) ++ [58, 32])) := by unfold Hid; rw [HK.out, if_pos hi0, if_pos hk]
        go_enter Tryz.func68, Tryz.ntmps68
        go_wp2_with fail
        refine Calls.mono HS.out ?_
        rintro e w1 ⟨rfl, hp1⟩
        obtain ⟨bv1, hM⟩ := leadMid_of (X := X) (p := p) (i := i) h hG hNwr hp1
        have c0 := hM.bw.cell.1
        have g0 : w1.cell? ⟨X.g, 0, none⟩ = some (.slice (some ⟨nb, 0, none⟩) rows.length cap) := hM.gi.gr.cell rfl
        have p0 := hM.pl.cell (i := 0) rfl
        have p1 := hM.pl.cell (i := 1) rfl
        obtain ⟨nb', cap', e2, _, hcn⟩ := hM.gi.node p hp'
        obtain ⟨rfl, rfl⟩ : nb = nb' ∧ cap = cap' := by simpa using e2
        have d0 := hcn 0 (by omega)
        have d2 := hcn 2 (by omega)
        simp only [Row.cells, List.getElem?_cons_succ, List.getElem?_cons_zero, Nat.add_zero] at d0 d2
        rw [hk] at d0
        rw [if_pos hk] at hkl
        obtain ⟨kb, kcap, hkv, hkc, hkl2, hkcell⟩ := row1_cell (hM.gi.each rows[p] (List.getElem_mem hp')).1 (by omega)
        have hkey : w1.cell? ⟨kb, i, none⟩ = some (.string ((rows[p]).n.keys.getD i ByteArray.empty)) := hkcell i _ (by
          have hik : i < (rows[p]).n.keys.length := by omega
          simp [List.getD, hik])
        rw [hkv] at d2
        generalize (rows[p]).n.keys.getD i ByteArray.empty = key at *
        generalize rows[p] = r at *
        have HM : Hid _ := hM
        have HTX : Hid _ := fun (W : World) (hW : But [] w1 W) => wText_any X _ bv1 W (hM.bw.frame hW (by simp) (by simp)) key (by omega) (by simp; omega)
        clear hcn e2 hM HS HK hA hbA hNode hkcell hkv hk
        go_wp2_with fail
        go_quiet (fail)
        go_wp2_with fail
        go_region_with ((go_at_call 99; refine (HTX.out _ (((But.refl [] w1).drewN nq).drew)).mono ?_; rintro e w2 ⟨rfl, hp2⟩))
        all_goals
          go_wp2_with fail
          obtain ⟨bv2, hB2, hb2, ho2⟩ := hp2
          refine (wStr_any X _ bv2 w2 hB2 ⟨#[58, 32]⟩ (by
            have := textL_len htk
            simp only [List.length_append]
            show _ + 2 ≤ _
            simp
            omega)).mono ?_
          rintro e w3 ⟨rfl, hp3⟩
          go_wp2_with fail
          go_end0
          refine ⟨rfl, ?_⟩
          rw [HK'.out]
          have h12 : But (X.wr :: own bv1) w1 w2 := (((But.refl [] w1).drewN nq).drew.mono (by simp)).trans hb2 (fun x hx => .inl hx)
          have q1 := WPost.trans h12 ho2 hp3
          have q2 := WPost.trans HM.out.but HM.out.own q1
          simpa [List.append_assoc] using q2
      · have HK' : Hid (leadL (rows.map Row.n) (some (p, i)) = [44, 32]) := by unfold Hid; rw [HK.out, if_pos hi0, if_neg hk]; rfl
        go_enter Tryz.func68, Tryz.ntmps68
        go_wp2_with fail
        refine Calls.mono HS.out ?_
        rintro e w1 ⟨rfl, hp1⟩
        obtain ⟨bv1, hM⟩ := leadMid_of (X := X) (p := p) (i := i) h hG hNwr hp1
        have c0 := hM.bw.cell.1
        have g0 : w1.cell? ⟨X.g, 0, none⟩ = some (.slice (some ⟨nb, 0, none⟩) rows.length cap) := hM.gi.gr.cell rfl
        have p0 := hM.pl.cell (i := 0) rfl
        have p1 := hM.pl.cell (i := 1) rfl
        obtain ⟨nb', cap', e2, _, hcn⟩ := hM.gi.node p hp'
        obtain ⟨rfl, rfl⟩ : nb = nb' ∧ cap = cap' := by simpa using e2
        have d0 := hcn 0 (by omega)
        simp only [Row.cells, List.getElem?_cons_zero, Nat.add_zero] at d0
        have hkb : (((rows[p]).n.kind : Int) == 2) = false := beq_eq_false_iff_ne.2 (by omega)
        generalize rows[p] = r at *
        have HM : Hid _ := hM
        clear hcn e2 hM hk HS HK hA hbA hNode
        go_wp2_with fail
        go_quiet (fail)
        go_wp2_with fail
        go_end0
        exact ⟨rfl, by rw [HK'.out]; exact ⟨bv1, HM.out.bw.frame ((But.refl [] _).drewN _) (by simp) (by simp), HM.out.but.drewN _, HM.out.own⟩⟩
    · obtain ⟨w1, HW1⟩ : ∃ w1, Hid (w1 = w.alloc (.cells #[.int .i64 (p : Int), .int .i64 (i : Int)] 124)) := ⟨_, (rfl : w.alloc (.cells #[.int .i64 (p : Int), .int .i64 (i : Int)] 124) = w.alloc (.cells #[.int .i64 (p : Int), .int .i64 (i : Int)] 124))⟩
      obtain ⟨bv1, hM⟩ := leadMid_of (X := X) (p := p) (i := i) h hG hNwr (WPost.refl hA (But.refl _ _))
      rw [← HW1.out] at hM
      by_cases hk : (rows[p]).n.kind = 2
      · have HK' : Hid (leadL (rows.map Row.n) (some (p, i)) = [] ++ (textL ((rows[p]).n.keys.getD i ByteArray.empty) ++ [58, 32])) := by unfold Hid; rw [HK.out, if_neg hi0, if_pos hk]
        go_enter Tryz.func68, Tryz.ntmps68
        go_upto_region 4 with fail
        rw [← HW1.out]
        have c0 := hM.bw.cell.1
        have g0 : w1.cell? ⟨X.g, 0, none⟩ = some (.slice (some ⟨nb, 0, none⟩) rows.length cap) := hM.gi.gr.cell rfl
        have p0 := hM.pl.cell (i := 0) rfl
        have p1 := hM.pl.cell (i := 1) rfl
        obtain ⟨nb', cap', e2, _, hcn⟩ := hM.gi.node p hp'
        obtain ⟨rfl, rfl⟩ : nb = nb' ∧ cap = cap' := by simpa using e2
        have d0 := hcn 0 (by omega)
        have d2 := hcn 2 (by omega)
        simp only [Row.cells, List.getElem?_cons_succ, List.getElem?_cons_zero, Nat.add_zero] at d0 d2
        rw [hk] at d0
        rw [if_pos hk] at hkl
        obtain ⟨kb, kcap, hkv, hkc, hkl2, hkcell⟩ := row1_cell (hM.gi.each rows[p] (List.getElem_mem hp')).1 (by omega)
        have hkey : w1.cell? ⟨kb, i, none⟩ = some (.string ((rows[p]).n.keys.getD i ByteArray.empty)) := hkcell i _ (by
          have hik : i < (rows[p]).n.keys.length := by omega
          simp [List.getD, hik])
        rw [hkv] at d2
        generalize (rows[p]).n.keys.getD i ByteArray.empty = key at *
        generalize rows[p] = r at *
        have HM : Hid _ := hM
        have HTX : Hid _ := fun (W : World) (hW : But [] w1 W) => wText_any X _ bv1 W (hM.bw.frame hW (by simp) (by simp)) key (by omega) (by simp; omega)
        clear hcn e2 hM HK hA hbA hNode hkcell hkv hk
        go_quiet (fail)
        go_wp2_with fail
        go_region_with ((go_at_call 99; refine (HTX.out _ (((But.refl [] w1).drewN nq).drew)).mono ?_; rintro e w2 ⟨rfl, hp2⟩))
        all_goals
          go_wp2_with fail
          obtain ⟨bv2, hB2, hb2, ho2⟩ := hp2
          refine (wStr_any X _ bv2 w2 hB2 ⟨#[58, 32]⟩ (by
            have := textL_len htk
            simp only [List.length_append]
            show _ + 2 ≤ _
            simp
            omega)).mono ?_
          rintro e w3 ⟨rfl, hp3⟩
          go_wp2_with fail
          go_end0
          refine ⟨rfl, ?_⟩
          rw [HK'.out]
          have h12 : But (X.wr :: own bv1) w1 w2 := (((But.refl [] w1).drewN nq).drew.mono (by simp)).trans hb2 (fun x hx => .inl hx)
          have q1 := WPost.trans h12 ho2 hp3
          have q2 := WPost.trans HM.out.but HM.out.own q1
          simpa [List.append_assoc] using q2
      · have HK' : Hid (leadL (rows.map Row.n) (some (p, i)) = []) := by unfold Hid; rw [HK.out, if_neg hi0, if_neg hk]; rfl
        go_enter Tryz.func68, Tryz.ntmps68
        go_upto_region 4 with fail
        rw [← HW1.out]
        have c0 := hM.bw.cell.1
        have g0 : w1.cell? ⟨X.g, 0, none⟩ = some (.slice (some ⟨nb, 0, none⟩) rows.length cap) := hM.gi.gr.cell rfl
        have p0 := hM.pl.cell (i := 0) rfl
        have p1 := hM.pl.cell (i := 1) rfl
        obtain ⟨nb', cap', e2, _, hcn⟩ := hM.gi.node p hp'
        obtain ⟨rfl, rfl⟩ : nb = nb' ∧ cap = cap' := by simpa using e2
        have d0 := hcn 0 (by omega)
        simp only [Row.cells, List.getElem?_cons_zero, Nat.add_zero] at d0
        have hkb : (((rows[p]).n.kind : Int) == 2) = false := beq_eq_false_iff_ne.2 (by omega)
        generalize rows[p] = r at *
        have HM : Hid _ := hM
        clear hcn e2 hM hk HK hA hbA hNode
        go_quiet (fail)
        go_wp2_with fail
        go_end0
        exact ⟨rfl, by rw [HK'.out, List.append_nil]; exact ⟨bv1, HM.out.bw.frame ((But.refl [] _).drewN _) (by simp) (by simp), HM.out.but.drewN _, HM.out.own⟩⟩

end Go.Proofs.YtkflkmmbakccoaaGreatDoor

/- WALKS: strconv.Itoa at small numbers; package write: name. -/
namespace Go.Proofs.YtkflkmmbakccoaaGreatDoor
open Go.RowKit Go.Maps

theorem g_pow : Tryz.prog.globalNamed "internal/strconv.uint64pow10" = some 2 := by kernel_rfl
theorem g_syn : Tryz.prog.globalNamed "strconv.ErrSyntax" = some 0 := by kernel_rfl
theorem g_rng : Tryz.prog.globalNamed "strconv.ErrRange" = some 1 := by kernel_rfl

/-- The library's tables and errors, as their initialisers lay them; they lie below N. -/
structure Tabs (N : Nat) (w : World) : Prop where
  pow : Lib.TabIs Tryz.prog w "internal/strconv.uint64pow10" .u64 Lib.pow10Tab
  syn : ∃ tp p, w.var? Tryz.prog "strconv.ErrSyntax" = some #[.iface tp p]
  rng : ∃ tp p, w.var? Tryz.prog "strconv.ErrRange" = some #[.iface tp p]
  n1 : 2 < N
  n2 : 0 < N
  n3 : 1 < N

theorem var_below {N g : Nat} {name : String} (hg : Tryz.prog.globalNamed name = some g) (hN : g < N) {w w' : World} (hb : Below N w w') : w'.var? Tryz.prog name = w.var? Tryz.prog name := by
  unfold World.var?
  rw [hg]
  simp only [Option.bind_some]
  rw [hb.block g hN]

theorem Tabs.below {N : Nat} {w w' : World} (h : Tabs N w) (hb : Below N w w') : Tabs N w' :=
  ⟨by unfold Lib.TabIs; rw [var_below g_pow h.n1 hb]; exact h.pow, by rw [var_below g_syn h.n2 hb]; exact h.syn, by rw [var_below g_rng h.n3 hb]; exact h.rng, h.n1, h.n2, h.n3⟩

theorem Tabs.mono {N N' : Nat} {w : World} (h : Tabs N w) (hN : N ≤ N') : Tabs N' w := ⟨h.pow, h.syn, h.rng, by have := h.n1; omega, by have := h.n2; omega, by have := h.n3; omega⟩

theorem decL_eq (u : Nat) : decL u = Lib.decDigits u := by
  induction u using Nat.strongRecOn with
  | _ u ih =>
    rw [decL, Lib.decDigits]
    split
    · rfl
    · rw [ih (u / 10) (by omega)]

theorem grow_but (w : World) (k : Nat) (os : Array Obj) : But [] w (Sort.grow (w.drewN k) os) := by
  refine ⟨rfl, rfl, rfl, ?_, fun i hi _ => ?_⟩
  · simp [Sort.grow]
  · simp [Sort.grow, Array.getElem?_append_left hi]

theorem itoa_any (u : Nat) (hu : u ≤ 1000000) (N : Nat) (w : World) (h : Tabs N w) :
    Calls Tryz.prog 100 #[.int .i64 (u : Int)] w fun e w' => e = .returned (.string ⟨(decL u).toArray⟩) ∧ But [] w w' := by
  refine Calls.mono (show Calls Tryz.prog 100 #[.int .i64 (u : Int)] w _ from Any.strconv_Itoa Tryz.laysM171 (u : Int) (by omega) (by omega) w h.pow) ?_
  rintro e w' ⟨rfl, k, os, rfl⟩
  refine ⟨?_, grow_but w k os⟩
  rw [decL_eq, Lib.itoa_nonneg]

/-- The map of names: which nodes have one, and its number. -/
def NmOk (X : WEnv) (ag : List Nat) (val : Nat → Nat) (w : World) : Prop :=
  ∃ (L : List Nat) (D : DataW Unit), (L.Nodup ∧ (∀ x, x ∈ L ↔ x ∈ ag) ∧ ∀ x ∈ L, x < 1000) ∧ w.ownsMap Tryz.prog 3 (plainElem Tryz.prog 3) X.nm L.length D ∧ (∀ x : Nat, Maps.has D (.int .i64 (x : Int)) = decide (x ∈ ag)) ∧ (∀ x ∈ ag, D.atKey (.int .i64 (x : Int)) (.lit (.int .i64 0)) = .lit (.int .i64 (val x : Int))) ∧ ∀ k, Maps.has D k = true → ∃ x ∈ ag, k = .int .i64 ((x : Nat) : Int)

theorem NmOk.but {X : WEnv} {ag : List Nat} {val : Nat → Nat} {w w' : World} {S : List Nat} (h : NmOk X ag val w) (hb : But S w w') (hS : X.nm ∉ S) : NmOk X ag val w' := by
  obtain ⟨n, D, hn, h1, h2⟩ := h
  exact ⟨n, D, hn, ownsMap_but h1 hb hS, h2⟩

theorem lawI : Keyed Tryz.prog 3 := int_keyed Tryz.underlying3
theorem zeroI (w : World) : (zeroValue 3).run Tryz.prog w = .ok (.int .i64 0) w := by kernel_rfl
theorem keyI {n : Nat} (h : n ≤ 1000000) : keyOf Tryz.prog 3 (.int .i64 (n : Int)) = some (.int .i64 (n : Int)) := keyOf_int_mk Tryz.underlying3 (WalkArith.wf_i64 (by omega))

theorem NmOk.look {X : WEnv} {ag : List Nat} {val : Nat → Nat} {w : World} (h : NmOk X ag val w) {id : Nat} (hid : id ∈ ag) (hb : id ≤ 1000000) : (Instr.lookup 93 (.map (some X.nm)) (.int .i64 (id : Int)) false).run Tryz.prog w = .ok (.int .i64 (val id : Int)) w := by
  obtain ⟨n, D, hn, h1, h2, h3, _⟩ := h
  obtain ⟨c, hrun, hat, _⟩ := h1.lookup_int lawI Tryz.underlying93 Tryz.underlying3 (zeroI _) (keyI hb)
  rw [h3 id hid] at hat
  simp only [DataW.lit.injEq, Lit.int.injEq, true_and] at hat
  rw [hrun, hat]

theorem nmap_apart {X : WEnv} {ag : List Nat} {val : Nat → Nat} {w : World} (h : NmOk X ag val w) {out : List UInt8} {bv : Value} (hB : BW X out bv w) : X.nm ∉ X.wr :: own bv := by
  obtain ⟨n, D, _, h1, _⟩ := h
  obtain ⟨es, clock, h2⟩ := ownsMap_block h1
  intro hx
  rcases List.mem_cons.1 hx with e | hx
  · obtain ⟨A, _, hb⟩ := hB.blk
    rw [← e] at hb
    exact hb.not_map h1
  · obtain ⟨_, cs, fz, hg⟩ := ownsRowF_mem hB.row hx
    rw [hg] at h2
    simp at h2

set_option maxRecDepth 20000 in
set_option maxHeartbeats 2000000 in
theorem wName_any (X : WEnv) (out : List UInt8) (bv : Value) (w : World) (h : BW X out bv w) (ag : List Nat) (val : Nat → Nat) (hN : NmOk X ag val w) (hT : Tabs X.N w) (hNwr : X.N ≤ X.wr) (c : UInt8) (n : Int) (hn : n = (c.toNat : Int)) (id : Nat) (hid : id ∈ ag) (hidl : id ≤ 1000) (hv : val id ≤ 1000) (hl : out.length + 2000 ≤ 1000000000) :
    Calls Tryz.prog 69 #[wpt X, .int .u8 n, .int .i64 (id : Int)] w fun e w' => WSaid X (out ++ (c :: 110 :: decL (val id))) bv w e w' := by
  have hap := nmap_apart hN h
  have hdl := decL_len (val id)
  have HW : Hid _ := wByte_any X out bv w h c n hn (by omega)
  clear hn
  go_enter Tryz.func69, Tryz.ntmps69
  go_wp2_with fail
  refine Calls.mono HW.out ?_
  rintro e w1 ⟨rfl, bv1, hB1, hb1, ho1⟩
  go_wp2_with fail
  refine (wByte_any X _ bv1 w1 hB1 110 110 rfl (by simp; omega)).mono ?_
  rintro e w2 ⟨rfl, hp2⟩
  obtain ⟨bv2, hB2, hb2, ho2⟩ := WPost.trans hb1 ho1 hp2
  have hN2 := hN.but hb2 hap
  have hT2 := hT.below (hb2.below h.N (fun x hx => by
    rcases List.mem_cons.1 hx with rfl | hx
    · exact hNwr
    · exact (ownsRowF_mem h.row hx).1))
  have c2 := hB2.cell.2.2.1
  have hlk := NmOk.look (w := w2.drew) hN2 hid (by omega)
  have HI : Hid _ := fun (W : World) (hW : But [] w2 W) => itoa_any (val id) (by omega) X.N W (hT2.below (hW.below hB2.N (by simp)))
  have HS : Hid _ := fun (W : World) (hW : But [] w2 W) => wStr_any X _ bv2 W (hB2.frame hW (by simp) (by simp)) ⟨(decL (val id)).toArray⟩ (by
    have e1 : (⟨(decL (val id)).toArray⟩ : ByteArray).size = (decL (val id)).length := by simp [ByteArray.size]
    rw [e1]
    simp
    omega)
  have HB2 : Hid _ := hB2
  clear HW hB1 hb1 ho1 hp2 hN2 hT2 hB2
  go_wp2_with fail
  go_region_with (first
    | (go_at_call 100; refine (HI.out _ (But.refl [] w2).drew).mono ?_; rintro e w3 ⟨rfl, hb3⟩)
    | (go_at_call 98; refine (HS.out _ ((But.refl [] w2).drew.trans hb3 (by simp))).mono ?_; rintro e w4 ⟨rfl, hp4⟩))
  all_goals
    go_wp2_with fail
    go_end0
    refine ⟨rfl, ?_⟩
    have h23 : But [] w2 w3 := (But.refl [] w2).drew.trans hb3 (by simp)
    have q := WPost.trans (bv1 := bv2) (hb2.trans h23 (by simp)) ho2 hp4
    simpa [List.append_assoc] using q

end Go.Proofs.YtkflkmmbakccoaaGreatDoor
