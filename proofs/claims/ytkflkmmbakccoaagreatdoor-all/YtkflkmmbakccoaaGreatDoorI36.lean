/- PARTS: C6. -/
import Derived.Test.YtkflkmmbakccoaaGreatDoorI35
import Derived.Test.YtkflkmmbakccoaaGreatDoorI13
import Derived.Deep.OwnRows

/- WALKS: package grafterref: plain, Plain. -/
namespace Go.Proofs.YtkflkmmbakccoaaGreatDoor
open Go.RowKit Go.Maps

/-- Of each node its number among those that stand in several places. -/
def namesI (ag : List Nat) (n : Nat) : List Int := (List.range n).map (fun i => if i ∈ ag then (rankOf ag i : Int) else -1)

theorem namesI_len (ag : List Nat) (n : Nat) : (namesI ag n).length = n := by simp [namesI]

theorem namesI_succ (ag : List Nat) (n : Nat) : namesI ag (n + 1) = namesI ag n ++ [if n ∈ ag then (rankOf ag n : Int) else -1] := by simp [namesI, List.range_succ]

theorem namesI_at (ag : List Nat) (n k : Nat) (hk : k < n) : (namesI ag n).getD k (-1) = if k ∈ ag then (rankOf ag k : Int) else -1 := by simp [namesI, List.getD, hk]

theorem namesI_le (ag : List Nat) (n : Nat) (hn : n ≤ 1000) (k : Nat) : (namesI ag n).getD k (-1) ≤ 1000 := by
  by_cases hk : k < n
  · rw [namesI_at ag n k hk]
    have := rankOf_le ag k
    split <;> omega
  · have : (namesI ag n)[k]? = none := List.getElem?_eq_none (by rw [namesI_len]; omega)
    simp [List.getD, this]

theorem rankOf_succ (ag : List Nat) (k : Nat) : rankOf ag (k + 1) = rankOf ag k + if k ∈ ag then 1 else 0 := by
  unfold rankOf
  rw [List.range_succ, List.filter_append]
  by_cases h : k ∈ ag <;> simp [h]

theorem own_rebase {w : World} {base base' e sz n : Nat} {v : Value} {xs : List Value} (h : w.ownsRow base e sz v n xs) (hb : base' ≤ base) : w.ownsRow base' e sz v n xs :=
  ⟨h.1, h.2.imp id (fun ⟨g, cap, cur, h1, h2, h3⟩ => ⟨g, cap, cur, h1, Nat.le_trans hb h2, h3⟩)⟩

theorem infoBool : (Tryz.prog.info? 4).map (fun i => (i.zero, i.size, i.bytes)) = some (some (.bool false), 1, 1) := by kernel_rfl

theorem made_own (w : World) (e n N : Nat) (z : Value) (hN : N ≤ w.heap.size) (hn : n ≤ maxLen) : (w.alloc (.cells (madeCells #[z] n) e)).ownsRow N e 1 (.slice (some ⟨w.heap.size, 0, none⟩) n n) n (List.replicate n z) := by
  have hm : (madeCells #[z] n).toList = List.replicate n z := by
    apply List.ext_getElem?
    intro i
    by_cases hi : i < n
    · simp [madeCells, hi, Nat.mod_one]
    · rw [List.getElem?_eq_none (by rw [Array.length_toList, size_madeCells]; omega), List.getElem?_eq_none (by simp; omega)]
  refine ⟨by simp, .inr ⟨_, n, madeCells #[z] n, rfl, hN, heap_alloc_new _ _, Nat.le_refl _, hn, by rw [size_madeCells]; omega, ?_⟩⟩
  rw [hm]; simp

theorem oftenL_nil (n : Nat) : natsV (oftenL n [] []) = List.replicate n (.int .i64 0) := by
  apply List.ext_getElem?
  intro i
  by_cases hi : i < n
  · simp [natsV, oftenL, hi]
  · rw [List.getElem?_eq_none (by simp [oftenL]; omega), List.getElem?_eq_none (by simp; omega)]

set_option maxRecDepth 20000 in
set_option maxHeartbeats 4000000 in
theorem rplain_any {N b : Nat} {nv : Value} {rows : List RRow} {base : Nat} {nodes : List NodeV} (hR : RSame nodes rows) (hW : Whole nodes) (id : Nat) (hid : id < rows.length) (w : World) (hG : RG N b nv rows base w) :
    Calls Tryz.prog 53 #[.pointer (some ⟨b, 0, none⟩), .int .i64 (id : Int)] w fun e w' => ∃ x : ByteArray, e = .returned (.string x) ∧ x = bS (plainM nodes id) ∧ But [] w w' := by
  have hnl : nodes.length = rows.length := by rw [hR.same]; simp
  have hrl : rows.length ≤ 500 := by have := hW.len; omega
  obtain ⟨i0, hi0, hz0, hz1, hz2⟩ := info_parts infoInt
  have hmk1 : ∀ W : World, (Instr.makeSlice 42 (.int .i64 (rows.length : Int)) (.int .i64 (rows.length : Int))).run Tryz.prog W = .ok (.slice (some ⟨W.heap.size, 0, none⟩) rows.length rows.length) (W.alloc (.cells (madeCells #[.int .i64 0] rows.length) 3)) := fun W =>
    run_make_row' 42 3 (.int .i64 0) 8 undInts infoInt rfl .i64 .i64 rows.length (by omega) (by omega) W
  have hmk2 : ∀ W : World, (Instr.makeSlice 145 (.int .i64 (rows.length : Int)) (.int .i64 (rows.length : Int))).run Tryz.prog W = .ok (.slice (some ⟨W.heap.size, 0, none⟩) rows.length rows.length) (W.alloc (.cells (madeCells #[.bool false] rows.length) 4)) := fun W =>
    run_make_row' 145 4 (.bool false) 1 (by kernel_rfl) infoBool rfl .i64 .i64 rows.length (by omega) (by omega) W
  obtain ⟨cs, hcs, h8⟩ := hG.rd
  have d8 : w.cell? ⟨b, 8, none⟩ = some nv := hcs.cell h8
  obtain ⟨nb, ncap, hnv, hncap, _⟩ := hG.node id hid
  rw [hnv] at d8
  have hml : maxLen = 9223372036854775807 := rfl
  have hmade := made_own w 3 rows.length N (.int .i64 0) hG.N (by rw [hml]; omega)
  rw [← oftenL_nil] at hmade
  have hG1 := hG.below ((alloc_but w (.cells (madeCells #[.int .i64 0] rows.length) 3)).below hG.N (by simp))
  have hb1 : But [] w (w.alloc (.cells (madeCells #[.int .i64 0] rows.length) 3)) := alloc_but _ _
  have hag1 := agM_met hW 101 id [] (by omega) (by simp) (fun x hx => by cases hx)
  have hagn := nodup_lt_length nodes.length _ hag1.1 hag1.2.1
  have hagl := agM_len hW 101 id [] (by omega) (by simp) (fun x hx => by cases hx)
  have hags := (agM_sub (nodes := nodes) 101 id []).2
  have hcount := count_any hR hW w.heap.size rows.length hG.N 101 id [] [] _ hid (by have := hW.high id; omega) (by simp) (fun x hx => by cases hx) (fun x hx => by cases hx) (by simp only [List.length_nil]; simp only [List.length_nil] at hagl; omega) hG1 hmade
  have HPL : Hid (plainM nodes id = (tellM nodes (agM nodes 101 id []).2 101 id []).1) := (rfl : plainM nodes id = (tellM nodes (agM nodes 101 id []).2 101 id []).1)
  have HPC : Hid _ := (plain_come hW (k := id) (by omega)).2.2
  obtain ⟨ag, hage⟩ : ∃ ag, ag = (agM nodes 101 id []).2 := ⟨_, rfl⟩
  obtain ⟨mt, hmte⟩ : ∃ mt, mt = (agM nodes 101 id []).1 := ⟨_, rfl⟩
  rw [List.append_nil, ← hage, ← hmte] at hcount
  rw [← hage] at HPL
  rw [← hage, ← hmte] at hags
  have hbig : ∀ k, k < rows.length → ((oftenL rows.length mt ag)[k]? = some ((if k ∈ mt then 1 else 0) + ag.count k) ∧ (k ∈ ag → 1 < (if k ∈ mt then 1 else 0) + ag.count k) ∧ (k ∉ ag → (if k ∈ mt then 1 else 0) + ag.count k ≤ 1)) := fun k hk => by
    refine ⟨oftenL_at _ _ _ _ hk, fun h => ?_, fun h => ?_⟩
    · rw [if_pos (hags k h)]
      have := List.count_pos_iff.2 h
      omega
    · rw [List.count_eq_zero.2 h]
      split <;> omega
  have hcl : ∀ k, ag.count k ≤ 1000000 := fun k => by
    have := List.count_le_length (a := k) (l := ag)
    rw [hage] at this ⊢
    simp only [List.length_nil] at hagl
    omega
  have HBIG : Hid _ := hbig
  have HCL : Hid _ := hcl
  have HAGE : Hid _ := hage
  have HCNT : Hid _ := hcount
  have HB1 : Hid _ := hb1
  have HG1 : Hid _ := hG1
  have HG : Hid _ := hG
  clear hbig hcl hcount hmade hags hagl hagn hag1 hage hmte hcs hb1 hG1
  go_enter Tryz.func53, Tryz.ntmps53
  go_wp2_with fail
  refine Calls.mono HCNT.out ?_
  rintro e w1 ⟨rfl, hrow, hbc⟩
  have hb01 : But [] w w1 := HB1.out.trans hbc (fun x hx => .inr (by rw [List.mem_singleton.1 hx]; exact Nat.le_refl _))
  have hGw := HG.out.below (hb01.below HG.out.N (by simp))
  obtain ⟨g2, cap2, e2, hcapn, _, hcell⟩ := row1_cell hrow (by omega)
  obtain ⟨rfl, rfl⟩ : w.heap.size = g2 ∧ rows.length = cap2 := by simpa using e2
  clear e2
  have HCELL : Hid _ := hcell
  have HROW : Hid _ := hrow
  have HGW : Hid _ := hGw
  have HB01 : Hid _ := hb01
  have HBC : Hid _ := hbc
  clear hcell hrow hGw hb01 hbc d8
  go_upto_region 6 with fail
  go_loopw [6, 7, 8] (fun ni nx iv wr => ∃ (k : Nat) (nm : Value), k ≤ rows.length ∧ nm = ni ∧ iv = .int .i64 (k : Int) ∧ nx = .int .i64 (rankOf ag k : Int) ∧ wr.ownsRow w1.heap.size 3 1 nm k (intsV (namesI ag k)) ∧ But [] w1 wr) (fun _ _ iv _ => rows.length - (intOf iv).toNat)
  case atStart => exact ⟨0, _, Nat.zero_le _, rfl, rfl, rfl, World.ownsRow_nil _ _ _ _, But.refl _ _⟩
  case round =>
    obtain ⟨k, nm, hk, hni, rfl, rfl, hnm, hbk⟩ := hrel
    subst hni
    have hGk := HGW.out.below (hbk.below HGW.out.N (by simp))
    obtain ⟨cs, hcs, h8⟩ := hGk.rd
    have d8 : wr.cell? ⟨b, 8, none⟩ = some nv := hcs.cell h8
    rw [hnv] at d8
    have hrk := rankOf_le ag k
    have hsz := hbk.size
    have HNM : Hid (wr.ownsRow w1.heap.size 3 1 nm k (intsV (namesI ag k))) := hnm
    have HBK : Hid _ := hbk
    have HGK : Hid _ := hGk
    clear hcs h8 hGk
    by_cases hkl : k < rows.length
    · have hck : wr.cell? ⟨w.heap.size, k, none⟩ = some (.int .i64 (((if k ∈ mt then 1 else 0) + ag.count k : Nat) : Int)) := by
        have h1 := HCELL.out k _ (by rw [natsV, List.getElem?_map, (HBIG.out k hkl).1]; rfl)
        have hrlt : w.heap.size < w1.heap.size := by
          obtain ⟨_, cs', hc'⟩ := ownsRow_lt HROW.out (x := w.heap.size) (by simp [own])
          exact hc'.lt
        rw [World.cell?_of_block (w := w1) (hbk.block _ hrlt (by simp))]
        exact h1
      have hb2 := (HBIG.out k hkl).2
      have hcl := HCL.out k
      have hcl2 : (if k ∈ mt then 1 else 0) + ag.count k ≤ 2000000 := by split <;> omega
      generalize hcv : (if k ∈ mt then 1 else 0) + ag.count k = c at *
      clear hcv
      by_cases hin : k ∈ ag
      · have hc1 := hb2.1 hin
        have hsucc : Hid _ := namesI_succ ag k
        have hrsucc : Hid _ := rankOf_succ ag k
        rw [if_pos hin] at hsucc hrsucc
        clear hb2 hnm hbk
        go_wp2_with (at_builtin; refine wpList_append_own_at _ rfl _ _ 42 rfl w1.heap.size 3 i0 (.int .i64 0) 1 8 undInts hi0 hz0 hz1 hz2 rfl (by decide) _ _ _ rfl (HNM.out.alloc _) ⟨wr.heap.size, 0, none⟩ 1 1 [.int .i64 (rankOf ag k : Int)] rfl rfl (cells_new wr _ _ _ rfl) (fun u hu => by simp at hu; subst hu; rfl) (by unfold maxLen; omega) (by omega) (by simp; omega) ?_)
        intro v' w4 hown hgrow _ hloc
        have hbb := ((But.refl (own nm) wr).alloc (.cells #[.int .i64 (rankOf ag k : Int)] 3)).trans (grown_but hgrow) (fun x hx => .inl hx)
        go_wp2_with fail
        go_roundw
        case rel =>
          refine ⟨k + 1, v', by omega, rfl, by go_num, ?_, ?_, ?_⟩
          · rw [hrsucc.out]; go_num
          · rw [hsucc.out]; simpa [intsV] using hown
          · exact HBK.out.trans hbb (fun x hx => .inr (ownsRow_lt HNM.out hx).1)
        case measure => simp [intOf]; omega
      · have hc1 := hb2.2 hin
        have hsucc : Hid _ := namesI_succ ag k
        have hrsucc : Hid _ := rankOf_succ ag k
        rw [if_neg hin] at hsucc hrsucc
        clear hb2 hnm hbk
        go_wp2_with (at_builtin; refine wpList_append_own_at _ rfl _ _ 42 rfl w1.heap.size 3 i0 (.int .i64 0) 1 8 undInts hi0 hz0 hz1 hz2 rfl (by decide) _ _ _ rfl (HNM.out.alloc _) ⟨wr.heap.size, 0, none⟩ 1 1 [.int .i64 (-1)] rfl rfl (cells_new wr _ _ _ rfl) (fun u hu => by simp at hu; subst hu; rfl) (by unfold maxLen; omega) (by omega) (by simp; omega) ?_)
        intro v' w4 hown hgrow _ hloc
        have hbb := ((But.refl (own nm) wr).alloc (.cells #[.int .i64 (-1)] 3)).trans (grown_but hgrow) (fun x hx => .inl hx)
        go_wp2_with fail
        go_roundw
        case rel =>
          refine ⟨k + 1, v', by omega, rfl, by go_num, ?_, ?_, ?_⟩
          · rw [hrsucc.out]; go_num
          · rw [hsucc.out]; simpa [intsV] using hown
          · exact HBK.out.trans hbb (fun x hx => .inr (ownsRow_lt HNM.out hx).1)
        case measure => simp [intOf]; omega
    · have hkn : k = rows.length := by omega
      have hmade2 := made_own wr 4 rows.length N (.bool false) HGK.out.N (by rw [hml]; omega)
      have htl : List.replicate rows.length (Value.bool false) = boolsV (List.replicate rows.length false) := by simp [boolsV]
      rw [htl] at hmade2
      have hbt : But [] wr (wr.alloc (.cells (madeCells #[.bool false] rows.length) 4)) := alloc_but _ _
      have hGt := HGK.out.below (hbt.below HGK.out.N (by simp))
      have hnmt : (wr.alloc (.cells (madeCells #[.bool false] rows.length) 4)).ownsRow N 3 1 nm (namesI ag rows.length).length (intsV (namesI ag rows.length)) := by
        rw [namesI_len, ← hkn]
        exact World.ownsRow.alloc (own_rebase HNM.out (Nat.le_trans HG.out.N HB01.out.size)) _
      have hwk : WrOk N b nv rows base nm (namesI ag rows.length) (.slice (some ⟨wr.heap.size, 0, none⟩) rows.length rows.length) (List.replicate rows.length false) (wr.alloc (.cells (madeCells #[.bool false] rows.length) 4)) := ⟨hGt, hnmt, by rw [List.length_replicate]; exact hmade2⟩
      have hwr := written_any hR hW nm (namesI ag rows.length) (namesI_len _ _) (fun k => namesI_le _ _ (by omega) k) (.slice (some ⟨wr.heap.size, 0, none⟩) rows.length rows.length) 101 (by omega) id (List.replicate rows.length false) 1000000000 _ hid (by have := hW.high id; omega) (by omega) (by omega) (fun k hk _ => by rw [List.length_replicate]; exact hk) hwk
      have hpl := wr_plain hW (names := namesI ag rows.length) ag (fun k hk => namesI_at _ _ _ (by omega)) 101 id (List.replicate rows.length false) 1000000000 [] (by omega) (by have := hW.high id; omega) ⟨by rw [List.length_replicate]; omega, fun x hx => by
        rw [List.getD_eq_getElem?_getD, List.getElem?_replicate, if_pos (by omega)]
        simp⟩ (fun x hx => by cases hx) (by rw [← HAGE.out]; exact fun x hx => hx) (by
        have h1 := HPC.out
        rw [HPL.out] at h1
        omega)
      have HWR : Hid _ := hwr
      have HPLE : Hid _ := hpl.1.trans HPL.out.symm
      have HBT : Hid _ := hbt
      subst hkn
      clear hwr hpl hwk hnmt hGt hbt hmade2 hnm hbk
      go_wp2_with fail
      refine Calls.mono HWR.out ?_
      rintro e w5 ⟨x, rfl, hx, _, hb5⟩
      have HX : Hid _ := hx
      clear hx
      go_wp2_with fail
      go_ret
      refine ⟨x, rfl, by rw [HX.out, HPLE.out], ?_⟩
      refine (HB01.out.trans (HBK.out.trans HBT.out (by simp)) (by simp)).trans hb5 (fun y hy => .inr ?_)
      simp [own] at hy
      have := HB01.out.size
      have := HBK.out.size
      omega

set_option maxRecDepth 20000 in
theorem rPlain_any {N b : Nat} {nv : Value} {rows : List RRow} {base : Nat} {nodes : List NodeV} (hR : RSame nodes rows) (hW : Whole nodes) (hid : 0 < rows.length) (w : World) (hG : RG N b nv rows base w) :
    Calls Tryz.prog 37 #[.pointer (some ⟨b, 0, none⟩)] w fun e w' => ∃ x : ByteArray, e = .returned (.string x) ∧ x = bS (plainM nodes 0) ∧ But [] w w' := by
  have HP : Hid _ := rplain_any hR hW 0 hid w hG
  go_enter Tryz.func37, Tryz.ntmps37
  go_wp2_with fail
  refine Calls.mono HP.out ?_
  rintro e w1 ⟨x, rfl, hx, hb⟩
  have HX : Hid _ := hx
  clear hx
  go_wp2_with fail
  go_ret
  exact ⟨x, rfl, HX.out, hb⟩

end Go.Proofs.YtkflkmmbakccoaaGreatDoor
