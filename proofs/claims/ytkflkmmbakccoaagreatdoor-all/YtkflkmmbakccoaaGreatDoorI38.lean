/- PARTS: C8, B24, T1, T2. -/
import Derived.Test.YtkflkmmbakccoaaGreatDoorI36
import Derived.Test.YtkflkmmbakccoaaGreatDoorI34
import Derived.Test.YtkflkmmbakccoaaGreatDoorI37
import Derived.Test.YtkflkmmbakccoaaGreatDoorI18
import Derived.Laws.CopyRow
import Derived.Laws.IdiomCopy
import Derived.WalkSpells

/- WALKS: package grafterref: Unfold. -/
namespace Go.Proofs.YtkflkmmbakccoaaGreatDoor
open Go.RowKit Go.Maps

/-- What Unfold answers. -/
def unfV (nodes : List NodeV) (most : Int) : Value := if ((unfoldL nodes 0).length : Int) ≤ most then .tuple #[.string ⟨(unfoldL nodes 0).toArray⟩, .int .i64 0] else .tuple #[.string ⟨#[]⟩, .int .i64 9]

/-- The bound that counts. -/
def mostM (most : Int) : Int := if 20000 < most then 20000 else most

theorem rr_case {m : Int} {x : ByteArray} {T : List UInt8} (h : RR m x.data.toList T) : (x = ⟨T.toArray⟩ ∧ (T.length : Int) ≤ m ∧ (x.size : Int) ≤ m) ∨ (m < (x.size : Int) ∧ m < (T.length : Int)) := by
  have hs : x.size = x.data.toList.length := Lib.size_eq x
  by_cases hl : (x.size : Int) ≤ m
  · have e := h.eq (by rw [← hs]; exact hl)
    exact .inl ⟨by rw [← e], by rw [← e, ← hs]; exact hl, hl⟩
  · rcases h with h | ⟨h1, h2⟩
    · exact .inr ⟨by omega, by rw [← h, ← hs]; omega⟩
    · exact .inr ⟨by omega, h2⟩

set_option maxRecDepth 20000 in
set_option maxHeartbeats 4000000 in
theorem rUnfold_any {N b : Nat} {nv : Value} {rows : List RRow} {base : Nat} {nodes : List NodeV} (hR : RSame nodes rows) (hW : Whole nodes) (hpos : 0 < rows.length) (w : World) (hG : RG N b nv rows base w) (most : Int) (hm1 : -9223372036854775808 ≤ most) (hm2 : most ≤ 9223372036854775807) :
    Calls Tryz.prog 39 #[.pointer (some ⟨b, 0, none⟩), .int .i64 most] w fun e w' => e = .returned (unfV nodes (mostM most)) ∧ But [] w w' := by
  have hnl : nodes.length = rows.length := by rw [hR.same]; simp
  have hrl : rows.length ≤ 500 := by have := hW.len; omega
  obtain ⟨i0, hi0, hz0, hz1, hz2⟩ := info_parts infoInt
  have HG : Hid (RG N b nv rows base w) := hG
  obtain ⟨mo, hmo⟩ : ∃ mo, mo = mostM most := ⟨_, rfl⟩
  rw [← hmo]
  have hmo2 : -9223372036854775808 ≤ mo ∧ mo ≤ 20000 := by rw [hmo]; unfold mostM; split <;> omega
  have HWR : Hid (∀ (nm : Value) (W : World), RG N b nv rows base W → W.ownsRow N 3 1 nm rows.length (intsV (List.replicate rows.length (-1))) → Calls Tryz.prog 55 #[.pointer (some ⟨b, 0, none⟩), .int .i64 ((0 : Nat) : Int), nm, .slice none 0 0, .int .i64 mo] W fun e w' => ∃ x : ByteArray, e = .returned (.string x) ∧ Hid (RR mo x.data.toList (unfoldL nodes 0)) ∧ x.size ≤ 1000402100 ∧ But [] W w') := fun nm W hGW hnm => by
    have hneg : ∀ k, (List.replicate rows.length (-1 : Int)).getD k (-1) = -1 := fun k => by
      rw [List.getD_eq_getElem?_getD, List.getElem?_replicate]
      split <;> rfl
    have h1 := written_any hR hW nm (List.replicate rows.length (-1)) (by simp) (fun k => by rw [hneg]; omega) (.slice none 0 0) 101 (by omega) 0 [] mo W hpos (by have := hW.high 0; omega) hmo2.1 (by omega) (fun k hk h => by rw [hneg] at h; omega) ⟨hGW, by rw [List.length_replicate]; exact hnm, World.ownsRow_nil _ _ _ _⟩
    have h2 := wr_unfold hW (names := List.replicate rows.length (-1)) hneg 101 0 [] mo (by omega) (by have := hW.high 0; omega)
    have h3 := wr_len hW (names := List.replicate rows.length (-1)) (fun k => by rw [hneg]; omega) 101 0 [] mo (by omega) (by have := hW.high 0; omega)
    refine h1.mono ?_
    rintro e w' ⟨x, rfl, hx, _, hb⟩
    refine ⟨x, rfl, ?_, ?_, hb.mono (by simp [own])⟩
    · show RR mo x.data.toList (unfoldL nodes 0)
      rw [hx]
      simpa using h2.1
    · rw [hx, bS_size]
      omega
  obtain ⟨nb, ncap, hnv, hncap, _⟩ := hG.node 0 hpos
  clear hG
  have hsplit : (20000 < most ∧ mo = 20000) ∨ (¬ 20000 < most ∧ mo = most) := by
    rw [hmo]; unfold mostM; split
    · exact .inl ⟨by assumption, rfl⟩
    · exact .inr ⟨by assumption, rfl⟩
  clear hmo
  rcases hsplit with ⟨hs, hme⟩ | ⟨hs, hme⟩
  all_goals
    first | subst hme | (have hme2 := hme.symm; subst hme2)
    go_enter Tryz.func39, Tryz.ntmps39
    go_upto_region 5 with fail
    go_loopw [6, 7] (fun ni iv wr => ∃ (k : Nat) (nm : Value), k ≤ rows.length ∧ nm = ni ∧ iv = .int .i64 (k : Int) ∧ wr.ownsRow w.heap.size 3 1 nm k (intsV (List.replicate k (-1))) ∧ But [] w wr) (fun _ iv _ => rows.length - (intOf iv).toNat)
    case atStart => exact ⟨0, _, Nat.zero_le _, rfl, rfl, World.ownsRow_nil _ _ _ _, But.refl _ _⟩
    case round =>
      obtain ⟨k, nm, hk, hni, rfl, hnm, hbk⟩ := hrel
      subst hni
      have hGk := HG.out.below (hbk.below HG.out.N (by simp))
      obtain ⟨cs, hcs, h8⟩ := hGk.rd
      have d8 : wr.cell? ⟨b, 8, none⟩ = some nv := hcs.cell h8
      rw [hnv] at d8
      have hsz := hbk.size
      have HNM : Hid (wr.ownsRow w.heap.size 3 1 nm k (intsV (List.replicate k (-1)))) := hnm
      have HBK : Hid (But [] w wr) := hbk
      have HGK : Hid (RG N b nv rows base wr) := hGk
      clear hcs h8 hGk hnm hbk
      by_cases hkl : k < rows.length
      · go_wp2_with (at_builtin; refine wpList_append_own_at _ rfl _ _ 42 rfl w.heap.size 3 i0 (.int .i64 0) 1 8 undInts hi0 hz0 hz1 hz2 rfl (by decide) _ _ _ rfl (World.ownsRow.alloc HNM.out _) ⟨wr.heap.size, 0, none⟩ 1 1 [.int .i64 (-1)] rfl rfl (cells_new wr _ _ _ rfl) (fun u hu => by simp at hu; subst hu; rfl) (by unfold maxLen; omega) (by omega) (by simp; omega) ?_)
        intro v' w4 hown hgrow _ hloc
        have hbb := ((But.refl (own nm) wr).alloc (.cells #[.int .i64 (-1)] 3)).trans (grown_but hgrow) (fun x hx => .inl hx)
        go_wp2_with fail
        go_roundw
        case rel =>
          refine ⟨k + 1, v', by omega, rfl, by go_num, ?_, ?_⟩
          · have e : intsV (List.replicate (k + 1) (-1)) = intsV (List.replicate k (-1)) ++ [.int .i64 (-1)] := by rw [List.replicate_succ']; simp
            have e2 : intsV (List.replicate k (-1)) = List.replicate k (.int .i64 (-1)) := by simp
            rw [e, e2]; exact hown
          · exact HBK.out.trans hbb (fun x hx => .inr (ownsRow_lt HNM.out hx).1)
        case measure => simp [intOf]; omega
      · have hkn : k = rows.length := by omega
        subst hkn
        have HC : Hid _ := HWR.out nm wr HGK.out (own_rebase HNM.out HG.out.N)
        go_wp2_with fail
        refine Calls.mono HC.out ?_
        rintro e w5 ⟨x, rfl, hRR, hxs, hb5⟩
        have HB5 : Hid (But [] w w5) := HBK.out.trans hb5 (by simp)
        rcases rr_case hRR.out with ⟨hx, hT, hle⟩ | ⟨h1, h2⟩
        · have HX : Hid (x = ⟨(unfoldL nodes 0).toArray⟩) := hx
          have HT : Hid _ := hT
          clear hx hT hRR hb5
          go_wp2_with fail
          go_ret2
          exact ⟨by unfold unfV; rw [if_pos HT.out, HX.out]; rfl, HB5.out⟩
        · have HT : Hid _ := h2
          clear h2 hRR hb5
          go_wp2_with fail
          go_ret2
          exact ⟨by unfold unfV; rw [if_neg (by have := HT.out; omega)]; rfl, HB5.out⟩

end Go.Proofs.YtkflkmmbakccoaaGreatDoor

/- WALKS: package grafter: Unfold. -/
namespace Go.Proofs.YtkflkmmbakccoaaGreatDoor
open Go.RowKit Go.Maps

theorem unfB_case (nodes : List NodeV) (most : Int) : (unfB nodes 0 most = .tuple #[.string ⟨(unfoldL nodes 0).toArray⟩, .bool true] ∧ unfV nodes most = .tuple #[.string ⟨(unfoldL nodes 0).toArray⟩, .int .i64 0]) ∨ (unfB nodes 0 most = .tuple #[.string ⟨#[]⟩, .bool false] ∧ unfV nodes most = .tuple #[.string ⟨#[]⟩, .int .i64 9]) := by
  unfold unfB unfV
  by_cases h : ((unfoldL nodes 0).length : Int) ≤ most
  · rw [if_pos h, if_pos h]; exact .inl ⟨rfl, rfl⟩
  · rw [if_neg h, if_neg h]; exact .inr ⟨rfl, rfl⟩

set_option maxRecDepth 20000 in
set_option maxHeartbeats 1000000 in
theorem dUnfold_any (E : Env) (t : PS) (nv : Value) (rows : List Row) (w : World) (h : PInv E t nv rows w) (hn : 0 < rows.length) (hW : Whole t.nodes) (N0 : Nat) (hT : Tabs N0 w) (hN0 : N0 ≤ w.heap.size) (d : Nat) (hd : Blk w d #[.pointer (some ⟨E.g, 0, none⟩)] 59) (most : Int) (hm1 : -9223372036854775808 ≤ most) (hm2 : most ≤ 9223372036854775807) :
    Calls Tryz.prog 24 #[.pointer (some ⟨d, 0, none⟩), .int .i64 most] w fun e w' => e = .returned (unfV t.nodes (mostM most)) ∧ But [] w w' := by
  have hsame := h.same
  have c0 : w.cell? ⟨d, 0, none⟩ = some (.pointer (some ⟨E.g, 0, none⟩)) := hd.cell rfl
  have hGI : GI (wenv w.heap.size E.g) t.anchors nv rows E.base w := h.toGI _ rfl rfl
  have HGI : Hid (Bs (wenv w.heap.size E.g) t.anchors nv rows E.base w) := ⟨hGI, hT.mono hN0⟩
  rw [hsame] at hW
  have HS : Hid (t.nodes = rows.map Row.n) := hsame
  have hmo : mostM most ≤ 20000 := by unfold mostM; split <;> omega
  have HU : Hid (∀ W, WS (wenv w.heap.size E.g) [] (fun _ => 0) [] (.slice none 0 0) [] W → Bs (wenv w.heap.size E.g) t.anchors nv rows E.base W → Calls Tryz.prog 33 #[wpt (wenv w.heap.size E.g), .int .i64 ((0 : Nat) : Int), .int .i64 (mostM most)] W fun e w' => e = .returned (unfB (rows.map Row.n) 0 (mostM most)) ∧ Below (wenv w.heap.size E.g).N W w') := fun W h1 h2 => wUnfolded_any _ _ _ _ _ _ W h1 t.anchors nv rows E.base hW h2 0 hn (mostM most) hmo
  have hme : mostM most = min most 20000 := by unfold mostM; split <;> omega
  have HCS : Hid _ := unfB_case (rows.map Row.n) (mostM most)
  clear hsame hGI h hT hmo
  rw [hme] at HU HCS ⊢
  clear hme
  go_enter Tryz.func24, Tryz.ntmps24
  go_wp2_with fail
  refine (isNothing_any d E.g w hd).mono ?_
  rintro e w1 ⟨rfl, hw1⟩
  rw [hw1]
  clear hw1
  go_wp2_with fail
  refine (newWriter_any E.g w).mono ?_
  rintro e w2 ⟨rfl, hS2, hb2⟩
  have hBs2 := HGI.out.below (hb2.below (Nat.le_refl _) (by simp))
  have HU2 : Hid _ := HU.out w2 hS2 hBs2
  go_wp2_with fail
  refine Calls.mono HU2.out ?_
  rintro e w3 ⟨rfl, hb3⟩
  have HB3 : Hid (But [] w w3) := below_but ((hb2.below (Nat.le_refl _) (by simp)).trans hb3)
  rcases HCS.out with ⟨h1, h2⟩ | ⟨h1, h2⟩
  all_goals
    rw [h1]
    have H2 : Hid _ := h2
    clear h1 h2
    go_wp2_with fail
    go_ret2
    refine ⟨?_, HB3.out⟩
    rw [HS.out, H2.out]
    rfl

end Go.Proofs.YtkflkmmbakccoaaGreatDoor

/- WALKS: package grafterlaw: gets. -/
namespace Go.Proofs.YtkflkmmbakccoaaGreatDoor
open Go.RowKit Go.Maps

abbrev strsV (l : List ByteArray) : List Value := l.map Value.string

/-- The row that Get is handed, two words more behind it. -/
theorem made_copy (w : World) (A : Nat) (v : Value) (path : List ByteArray) (hP : PathOk w v path) (va : Option Addr) (vcap : Nat) (hv : v = .slice va path.length vcap) (hA : Blk w A (madeCells #[.string ⟨#[]⟩] (path.length + 2)) 9) :
    ∃ W2 Y, (Builtin.copy_ #[46, 46] 3 #[.slice (some ⟨A, 0, none⟩) (path.length + 2) (path.length + 2), .slice va path.length vcap]).run Tryz.prog w = .ok (.int .i64 (path.length : Int)) W2 ∧ Blk W2 A Y 9 ∧ Y.toList = strsV path ++ [.string ⟨#[]⟩, .string ⟨#[]⟩] ∧ But [A] w W2 := by
  have hm : (madeCells #[.string ⟨#[]⟩] (path.length + 2)).toList = List.replicate (path.length + 2) (.string ⟨#[]⟩) := by
    apply List.ext_getElem?
    intro i
    by_cases hi : i < path.length + 2
    · simp [madeCells, hi, Nat.mod_one]
    · rw [List.getElem?_eq_none (by rw [Array.length_toList, size_madeCells]; omega), List.getElem?_eq_none (by simp; omega)]
  obtain ⟨i0, hi, hz0, hz1, hz2⟩ := info_parts infoStr
  have hinfo : (Tryz.prog.info? 9).map (·.size) = some 1 := by rw [hi]; simp [hz1]
  by_cases h0 : path.length = 0
  · refine ⟨w, _, ?_, hA, ?_, But.refl _ _⟩
    · have := run_copy_none (P := Tryz.prog) w 46 46 3 9 (some ⟨A, 0, none⟩) va (path.length + 2) (path.length + 2) path.length vcap undStrs hinfo (by simp [h0])
      rw [this, h0]
      rfl
    · have : path = [] := List.eq_nil_of_length_eq_zero h0
      subst this
      rw [hm]
      rfl
  · obtain ⟨pb, off, cap', e2, _, _⟩ := hP.cell (i := 0) (by omega)
    rw [hv] at e2
    obtain ⟨rfl, rfl⟩ : va = some ⟨pb, off, none⟩ ∧ vcap = cap' := by simpa using e2
    have hcell : ∀ i (hi : i < path.length), w.cell? ⟨pb, off + i, none⟩ = some (.string path[i]) := fun i hi => by
      obtain ⟨pb', off', cap'', e3, _, hc⟩ := hP.cell hi
      rw [hv] at e3
      obtain ⟨⟨rfl, rfl⟩, rfl⟩ : (pb = pb' ∧ off = off') ∧ vcap = cap'' := by simpa using e3
      exact hc w (But.refl _ _)
    have hcp := run_copy_row (P := Tryz.prog) w 46 46 3 9 A 0 (path.length + 2) (path.length + 2) ⟨pb, off, none⟩ path.length vcap (madeCells #[.string ⟨#[]⟩] (path.length + 2)) 9 (strsV path) undStrs hinfo hA (by simp) (fun j u hj => by
      simp only [strsV, List.getElem?_map, Option.map_eq_some_iff] at hj
      obtain ⟨y, hy, rfl⟩ := hj
      obtain ⟨hj2, rfl⟩ := List.getElem?_eq_some_iff.1 hy
      have e : (⟨pb, off, none⟩ : Addr).add j = ⟨pb, off + j, none⟩ := by unfold Addr.add; by_cases h : j = 0 <;> simp [h]
      rw [e]
      exact hcell j hj2) (by simp [size_madeCells]) (fun u hu => by
      obtain ⟨y, _, rfl⟩ := List.mem_map.1 hu
      rfl)
    have hl : (strsV path).length = path.length := by simp
    rw [hl] at hcp
    refine ⟨_, _, hcp, setRow_heap _ _ _ _ _ _ hA, ?_, ?_⟩
    · rw [hm]
      simp [strsV, List.drop_replicate]
    · refine ⟨rfl, rfl, rfl, by simp [World.setRow], fun i hi hn => ?_⟩
      simp only [World.setRow]
      rw [Array.getElem?_modify]
      simp at hn
      rw [if_neg (fun e => hn e.symm)]

end Go.Proofs.YtkflkmmbakccoaaGreatDoor

/- WALKS: package grafterlaw: gets, II. -/
namespace Go.Proofs.YtkflkmmbakccoaaGreatDoor
open Go.RowKit Go.Maps

theorem getV_shape (nodes : List NodeV) (o : Option Nat) : ∃ (x : ByteArray) (n : Int), getV nodes o = .tuple #[.string x, .int .i64 n] := by
  cases o
  · exact ⟨_, _, rfl⟩
  · exact ⟨_, _, rfl⟩

/-- The row of words that Get is handed: it lies as it was laid. -/
theorem row_path {w : World} {A : Nat} {Y : Array Value} {path : List ByteArray} (hB : Blk w A Y 9) (hY : Y.toList = strsV path ++ [.string ⟨#[55, 55]⟩, .string ⟨#[55, 56]⟩]) (hs : ∀ x ∈ path, x.size ≤ 281474976710656) (hl : path.length ≤ 9000000000000) : PathOk w (.slice (some ⟨A, 0, none⟩) path.length (path.length + 2)) path := by
  refine ⟨⟨_, _, rfl, by omega, fun _ => ⟨A, 0, rfl, hB.lt, fun i hi => ?_⟩⟩, hs, hl⟩
  rw [Nat.zero_add]
  refine hB.cell ?_
  rw [← Array.getElem?_toList, hY, List.getElem?_append_left (by simpa using hi)]
  simp [strsV, hi]

set_option maxRecDepth 20000 in
set_option maxHeartbeats 2000000 in
theorem lgets_any (E : Env) (t : PS) (nv : Value) (rows : List Row) (w : World) (hI : PInv E t nv rows w) (hn : 0 < rows.length) (hW : Whole t.nodes) (N0 : Nat) (hT : Tabs N0 w) (hN0 : N0 ≤ w.heap.size) (d : Nat) (hd : Blk w d #[.pointer (some ⟨E.g, 0, none⟩)] 59)
    {N b : Nat} {nv2 : Value} {rows2 : List RRow} {base : Nat} (hR : RSame t.nodes rows2) (hpos : 0 < rows2.length) (hG : RG N b nv2 rows2 base w) (v : Value) (path : List ByteArray) (hP : PathOk w v path) :
    Calls Tryz.prog 38 #[.agg #[.pointer (some ⟨d, 0, none⟩), .pointer (some ⟨b, 0, none⟩)], v] w fun e w' => e = .returned (.bool true) ∧ But [] w w' := by
  have hmk : ∀ W : World, (Instr.makeSlice 46 (.int .i64 ((path.length : Int) + 2)) (.int .i64 ((path.length : Int) + 2))).run Tryz.prog W = .ok (.slice (some ⟨W.heap.size, 0, none⟩) (path.length + 2) (path.length + 2)) (W.alloc (.cells (madeCells #[.string ⟨#[]⟩] (path.length + 2)) 9)) := fun W => by
    have := run_make_row' (P := Tryz.prog) 46 9 (.string ⟨#[]⟩) 16 undStrs infoStr rfl .i64 .i64 (path.length + 2) (by have := hP.len; omega) (by have := hP.len; omega) W
    simpa using this
  obtain ⟨va, vcap, hv, hvc, _⟩ := hP.shape
  subst hv
  have hnil : ∀ (W : World) (a : Option Addr), (binOp .eql 46 (.slice a path.length vcap) (.slice none 0 0)).run Tryz.prog W = .ok (.bool a.isNone) W := fun W a => by
    first | exact Lib.run_eql_slice_nil _ _ _ _ _ _ undStrs | exact Lib.run_eql_slice_nil _ _ _ _ _ _ _ _ undStrs
  have hlen := hP.len
  have HP : Hid (PathOk w (.slice va path.length vcap) path) := hP
  have HI : Hid (PInv E t nv rows w) := hI
  have HT : Hid (Tabs N0 w) := hT
  have HD : Hid (Blk w d #[.pointer (some ⟨E.g, 0, none⟩)] 59) := hd
  have HG : Hid (RG N b nv2 rows2 base w) := hG
  clear hI hT hd hG hP
  go_enter Tryz.func38, Tryz.ntmps38
  go_upto_region 2 with fail
  refine name_world fun W1 hW1 => ?_
  have hb1 : But [] w W1 := by rw [hW1.out]; exact ((But.refl [] w).alloc _).alloc _
  have hBg1 : Blk W1 w.heap.size #[.pointer (some ⟨d, 0, none⟩), .pointer (some ⟨b, 0, none⟩)] 72 := by rw [hW1.out]; exact (alloc_but _ _).blk (blk_new _ _ _) (by simp)
  have hA1 : Blk W1 (w.alloc (.cells #[.pointer (some ⟨d, 0, none⟩), .pointer (some ⟨b, 0, none⟩)] 72)).heap.size (madeCells #[.string ⟨#[]⟩] (path.length + 2)) 9 := by rw [hW1.out]; exact blk_new _ _ _
  have hAs : (w.alloc (.cells #[.pointer (some ⟨d, 0, none⟩), .pointer (some ⟨b, 0, none⟩)] 72)).heap.size = w.heap.size + 1 := by simp
  rw [hAs] at hA1
  obtain ⟨A, hA⟩ : ∃ A, A = w.heap.size + 1 := ⟨_, rfl⟩
  obtain ⟨gb, hgb⟩ : ∃ gb, gb = w.heap.size := ⟨_, rfl⟩
  rw [← hA] at hA1 ⊢
  rw [← hgb] at hBg1 ⊢
  have HAg : Hid (A = gb + 1 ∧ gb = w.heap.size) := ⟨by omega, hgb⟩
  obtain ⟨W2, Y, hcp, hA2, hY2, hb2⟩ := made_copy W1 A _ path (HP.out.still hb1) va vcap rfl hA1
  have hYs : Y.size = path.length + 2 := by rw [← Array.length_toList, hY2]; simp
  have a0 : W2.cell? ⟨A, path.length, none⟩ = some (.string ⟨#[]⟩) := hA2.cell (by
    rw [← Array.getElem?_toList, hY2, List.getElem?_append_right (by simp)]
    simp)
  have f0 := hA2.free path.length
  have hA3 := hA2.set path.length (.string ⟨#[55, 55]⟩)
  have a1 : (W2.setCell ⟨A, path.length, none⟩ (.string ⟨#[55, 55]⟩)).cell? ⟨A, path.length + 1, none⟩ = some (.string ⟨#[]⟩) := hA3.cell (by
    rw [Array.getElem?_setIfInBounds_ne (by omega), ← Array.getElem?_toList, hY2, List.getElem?_append_right (by simp)]
    simp)
  have f1 := hA3.free (path.length + 1)
  have hA4 := hA3.set (path.length + 1) (.string ⟨#[55, 56]⟩)
  have hY4 : ((Y.setIfInBounds path.length (.string ⟨#[55, 55]⟩)).setIfInBounds (path.length + 1) (.string ⟨#[55, 56]⟩)).toList = strsV path ++ [.string ⟨#[55, 55]⟩, .string ⟨#[55, 56]⟩] := by
    rw [Array.toList_setIfInBounds, Array.toList_setIfInBounds, hY2, List.set_append_right _ _ (by simp), List.set_append_right _ _ (by simp)]
    simp
  have hb4 : But [A] W2 ((W2.setCell ⟨A, path.length, none⟩ (.string ⟨#[55, 55]⟩)).setCell ⟨A, path.length + 1, none⟩ (.string ⟨#[55, 56]⟩)) := ((But.refl [A] W2).setCell (by simp) _).setCell (by simp) _
  have HB1 : Hid (But [] w W1) := hb1
  have HB2 : Hid (But [A] W1 W2) := hb2
  have HBG : Hid (Blk W1 gb #[.pointer (some ⟨d, 0, none⟩), .pointer (some ⟨b, 0, none⟩)] 72) := hBg1
  clear hA hgb hA1 hAs hBg1 hb1 hb2 hW1
  go_upto_region 5 with fail
  refine name_world fun W3 hW3 => ?_
  rw [← hW3.out] at hA4 hb4
  have hb03 : But [] w W3 := HB1.out.trans (HB2.out.trans hb4 (by simp)) (fun x hx => .inr (by rw [List.mem_singleton.1 hx]; have := HAg.out; omega))
  have hBg3 : Blk W3 gb #[.pointer (some ⟨d, 0, none⟩), .pointer (some ⟨b, 0, none⟩)] 72 := (HB2.out.trans hb4 (by simp)).blk HBG.out (by simp; have := HAg.out; omega)
  generalize (Y.setIfInBounds path.length (.string ⟨#[55, 55]⟩)).setIfInBounds (path.length + 1) (.string ⟨#[55, 56]⟩) = Z at *
  have HZ : Hid (Z.toList = strsV path ++ [.string ⟨#[55, 55]⟩, .string ⟨#[55, 56]⟩]) := hY4
  have HAZ : Hid (Blk W3 A Z 9) := hA4
  have HB3 : Hid (But [] w W3) := hb03
  have HP3 : Hid (PathOk W3 (.slice (some ⟨A, 0, none⟩) path.length (path.length + 2)) path) := row_path hA4 hY4 HP.out.size HP.out.len
  have hg0 : W3.cell? ⟨gb, 0, none⟩ = some (.pointer (some ⟨d, 0, none⟩)) := hBg3.cell rfl
  have HBG3 : Hid (Blk W3 gb #[.pointer (some ⟨d, 0, none⟩), .pointer (some ⟨b, 0, none⟩)] 72) := hBg3
  obtain ⟨gs, ge, hgv⟩ := getV_shape t.nodes (getM t.nodes path 0)
  have HGV : Hid (getV t.nodes (getM t.nodes path 0) = .tuple #[.string gs, .int .i64 ge]) := hgv
  have HGET : Hid (∀ q, PathOk W3 q path → Calls Tryz.prog 21 #[.pointer (some ⟨d, 0, none⟩), q] W3 fun e w' => e = .returned (.tuple #[.string gs, .int .i64 ge]) ∧ But [] W3 w') := fun q hq => by
    have := dGet_any E t nv rows W3 (HI.out.frame HB3.out (by simp)) hn hW N0 (HT.out.below (HB3.out.below hN0 (by simp))) (Nat.le_trans hN0 HB3.out.size) d (HB3.out.blk HD.out (by simp)) q path hq
    rw [hgv] at this
    exact this
  have HGET2 : Hid (∀ W, But [] w W → Calls Tryz.prog 54 #[.pointer (some ⟨b, 0, none⟩), .slice va path.length vcap] W fun e w' => e = .returned (.tuple #[.string gs, .int .i64 ge]) ∧ But [] W w') := fun W hWb => by
    have := rGet_any hR hW hpos W (HG.out.below (hWb.below HG.out.N (by simp))) (.slice va path.length vcap) path (HP.out.still hWb)
    rw [hgv] at this
    exact this
  clear hA4 hY4 hb4 hb03 hBg3 hgv hW3 hcp hA2 hY2 hYs a0 f0 hA3 a1 f1
  have HQN : Hid (va = none → PathOk W3 (.slice none 0 0) path) := fun hva => by
    have h0 : path = [] := by
      by_cases h : 0 < path.length
      · obtain ⟨pb, off, cap', e2, _, _⟩ := HP.out.cell h
        rw [hva] at e2
        cases e2
      · exact List.eq_nil_of_length_eq_zero (by omega)
    exact ⟨⟨none, 0, by rw [h0]; rfl, by rw [h0]; exact Nat.le_refl _, fun h => by rw [h0] at h; cases h⟩, HP.out.size, HP.out.len⟩
  have HPC : Hid (∀ i (hi : i < path.length), ∃ pb off cap', Value.slice va path.length vcap = .slice (some ⟨pb, off, none⟩) path.length cap' ∧ path.length ≤ cap' ∧ ∀ (W : World), But [] w W → W.cell? ⟨pb, off + i, none⟩ = some (.string (path[i]))) := fun i hi => HP.out.cell hi
  have HZC : Hid (∀ i (hi : i < path.length), Z[i]? = some (.string path[i])) := fun i hi => by
    rw [← Array.getElem?_toList, HZ.out, List.getElem?_append_left (by simpa using hi)]
    simp [strsV, hi]
  have HZ0 : Hid (Z[path.length]? = some (.string ⟨#[55, 55]⟩)) := by
    unfold Hid
    rw [← Array.getElem?_toList, HZ.out, List.getElem?_append_right (by simp)]
    simp
  have HZ1 : Hid (Z[path.length + 1]? = some (.string ⟨#[55, 56]⟩)) := by
    unfold Hid
    rw [← Array.getElem?_toList, HZ.out, List.getElem?_append_right (by simp)]
    simp
  have HZS : Hid (Z.size = path.length + 2) := by unfold Hid; rw [← Array.length_toList, HZ.out]; simp
  have hvn : va = none → path.length = 0 := fun hva => by
    by_cases h : 0 < path.length
    · obtain ⟨pb, off, cap', e2, _, _⟩ := HP.out.cell h
      rw [hva] at e2
      cases e2
    · omega
  rcases va with _ | a
  case' none => have HC : Hid _ := HGET.out _ (HQN.out rfl)
  case' some => have HC : Hid _ := HGET.out _ HP3.out
  all_goals
    clear hvn
    go_wp2_with fail
    refine Calls.mono HC.out ?_
    rintro e w4 ⟨rfl, hb4⟩
    have g1 : w4.cell? ⟨gb, 1, none⟩ = some (.pointer (some ⟨b, 0, none⟩)) := (hb4.blk HBG3.out (by simp)).cell rfl
    have HB4 : Hid (But [] w w4) := HB3.out.trans hb4 (by simp)
    have HAZ4 : Hid (Blk w4 A Z 9) := hb4.blk HAZ.out (by simp)
    have HC2 : Hid _ := HGET2.out w4 HB4.out
    clear hg0 hb4
    go_wp2_with fail
    refine Calls.mono HC2.out ?_
    rintro e w5 ⟨rfl, hb5⟩
    have HB5 : Hid (But [] w w5) := HB4.out.trans hb5 (by simp)
    have HAZ5 : Hid (Blk w5 A Z 9) := hb5.blk HAZ4.out (by simp)
    have z0 : w5.cell? ⟨A, path.length, none⟩ = some (.string ⟨#[55, 55]⟩) := HAZ5.out.cell HZ0.out
    have z1 : w5.cell? ⟨A, path.length + 1, none⟩ = some (.string ⟨#[55, 56]⟩) := HAZ5.out.cell HZ1.out
    clear hb5 g1
    go_upto_region 12 with fail
    clear z0 z1
    go_loopw [11, 12] (fun okv iv wr => ∃ (i : Nat), i ≤ path.length ∧ iv = .int .i64 (i : Int) ∧ okv = .bool true ∧ But [] w5 wr) (fun _ iv _ => path.length - (intOf iv).toNat)
    case atStart => exact ⟨0, Nat.zero_le _, rfl, rfl, But.refl _ _⟩
    case round =>
      obtain ⟨i, hi, rfl, rfl, hbi⟩ := hrel
      obtain ⟨wo, hwo⟩ : ∃ wo, wo = wr := ⟨wr, rfl⟩
      subst hwo
      by_cases hil : i < path.length
      · first
        | (exfalso
           obtain ⟨pb, off, cap', e2, hle, hc⟩ := HPC.out i hil
           cases e2
           done)
        | (obtain ⟨pb, off, cap', e2, hle, hc⟩ := HPC.out i hil
           have p0 := hc wo (HB5.out.trans hbi (by simp))
           have p1 : wo.cell? ⟨A, i, none⟩ = some (.string path[i]) := (hbi.blk HAZ5.out (by simp)).cell (HZC.out i hil)
           injection e2 with e3 _ e4
           subst e4
           injection e3 with e3
           subst e3
           have HBI : Hid (But [] w5 wo) := hbi
           clear hc hbi
           generalize path[i] = y at *
           have hyy : (y.toList == y.toList) = true := by simp
           go_wp2_with fail
           go_quiet (fail)
           go_wp2_with fail
           go_roundw
           case rel => exact ⟨i + 1, hil, by go_num, rfl, HBI.out.drewN _⟩
           case measure => simp [intOf]; omega)
      · have HBO : Hid (But [] w wo) := HB5.out.trans hbi (by simp)
        have HAO : Hid (Blk wo A Z 9) := hbi.blk HAZ5.out (by simp)
        clear hbi
        go_wp2_with fail
        go_loopw [13] (fun iv wr => ∃ (k : Nat) (Z' : Array Value), k ≤ path.length + 2 ∧ iv = .int .i64 (k : Int) ∧ Blk wr A Z' 9 ∧ Z'.size = path.length + 2 ∧ But [A] wo wr) (fun iv _ => path.length + 2 - (intOf iv).toNat)
        case atStart => exact ⟨0, Z, Nat.zero_le _, rfl, HAO.out, HZS.out, But.refl _ _⟩
        case round =>
          obtain ⟨k, Z', hk, rfl, hBk, hZs, hbk⟩ := hrel
          by_cases hkl : k < path.length + 2
          · have c0 : wr.cell? ⟨A, k, none⟩ = some Z'[k] := hBk.cell (by simp)
            have f0 := hBk.free k
            have HBK : Hid (Blk wr A Z' 9) := hBk
            have HBB : Hid (But [A] wo wr) := hbk
            have HZZ : Hid (Z'.size = path.length + 2) := hZs
            generalize Z'[k] = u at *
            clear hBk hbk hZs
            go_wp2_with fail
            go_roundw
            case rel => exact ⟨k + 1, Z'.setIfInBounds k (.string ⟨#[48]⟩), hkl, by go_num, HBK.out.set k _, by rw [Array.size_setIfInBounds]; exact HZZ.out, HBB.out.setCell (by simp) _⟩
            case measure => simp [intOf]; omega
          · have HBB : Hid (But [] w wr) := HBO.out.trans hbk (fun x hx => .inr (by rw [List.mem_singleton.1 hx]; have := HAg.out; omega))
            have hgg : (gs.toList == gs.toList) = true := by simp
            clear hBk hbk hZs
            go_wp2_with (go_at_call 40; refine (lnum_any _ _).mono ?_; rintro e w' ⟨rfl, hww⟩; have hww2 := hww.symm; clear hww; subst hww2)
            go_ret
            exact ⟨ret_bool (by simp), HBB.out⟩

end Go.Proofs.YtkflkmmbakccoaaGreatDoor
