/- PARTS: B16, B17, C1, C2. -/
import Derived.Test.YtkflkmmbakccoaaGreatDoorH43
import Derived.Test.YtkflkmmbakccoaaGreatDoorH6
import Derived.Test.YtkflkmmbakccoaaGreatDoorH22
import Derived.Test.YtkflkmmbakccoaaGreatDoorH23

/- WALKS: strconv.Atoi; package graph: number, find, At; package grafter: Get. -/
namespace Go.Proofs.YtkflkmmbakccoaaGreatDoor
open Go.RowKit Go.Maps

theorem atoi_decs : ((List.range 1001).all fun j => match Lib.atoiAll (decL j) with | .ok v => decide (v = (j : Int)) | _ => false) = true := by decide +kernel

theorem atoi_dec {j : Nat} (h : j ≤ 1000) : Lib.atoiAll (decL j) = .ok (j : Int) := by
  have := List.all_eq_true.1 atoi_decs j (List.mem_range.2 (by omega))
  split at this
  · rename_i v hv
    rw [hv]
    have := of_decide_eq_true this
    rw [this]
  · cases this

/-- What a number below 'most' says. -/
def numM (x : ByteArray) (most : Nat) : Option Nat := (List.range most).find? (fun j => decide (decL j = x.data.toList))
def optV (o : Option Nat) : Int := match o with | some j => (j : Int) | none => -1

theorem numM_some {x : ByteArray} {most v : Nat} (hv : v < most) (h : decL v = x.data.toList) : numM x most = some v := by
  unfold numM
  have hs : (List.range most).find? (fun j => decide (decL j = x.data.toList)) ≠ none := fun e => by
    have := List.find?_eq_none.1 e v (List.mem_range.2 hv)
    exact this (by simpa using h)
  cases hf : (List.range most).find? (fun j => decide (decL j = x.data.toList)) with
  | none => exact absurd hf hs
  | some u =>
    have := List.find?_some hf
    have hu : decL u = x.data.toList := by simpa using this
    rw [decL_inj (hu.trans h.symm)]

theorem numM_none {x : ByteArray} {most : Nat} (h : ∀ j, j < most → decL j ≠ x.data.toList) : numM x most = none := by
  unfold numM
  rw [List.find?_eq_none]
  intro j hj
  simpa using h j (List.mem_range.1 hj)

theorem str_eq {a : List UInt8} {x : ByteArray} : ((⟨a.toArray⟩ : ByteArray) = x) ↔ a = x.data.toList := by
  constructor
  · intro h; rw [← h]
  · intro h; apply ByteArray.ext; rw [h]

theorem str_bne (a b : ByteArray) : (a.toList != b.toList) = decide (a ≠ b) := by
  by_cases h : a = b
  · subst h; simp
  · have : a.toList ≠ b.toList := fun e => h (bytes_toList e)
    simp [h, this]

theorem bytesWorld_but (w : World) (e : TypeId) (s : ByteArray) : But [] w (Lib.bytesWorld w e s) := by
  unfold Lib.bytesWorld
  exact (((But.refl [] w).drew).alloc _).freeze (.inr (Nat.le_refl _)) _

set_option maxRecDepth 20000 in
set_option maxHeartbeats 1000000 in
theorem number_any (x : ByteArray) (hx : x.size ≤ 281474976710656) (most : Nat) (hm : most ≤ 1000) (N : Nat) (w : World) (hT : Tabs N w) (hN : N ≤ w.heap.size) :
    Calls Tryz.prog 74 #[.string x, .int .i64 (most : Int)] w fun e w' => e = .returned (.int .i64 (optV (numM x most))) ∧ But [] w w' := by
  have bad : (∀ v, Lib.atoiAll x.data.toList ≠ .ok v) → numM x most = none := fun h => numM_none (fun j hj e => h j (by rw [← e]; exact atoi_dec (by omega)))
  cases ha : Lib.atoiAll x.data.toList with
  | ok v =>
    have hbd := Lib.atoiAll_bounds ha
    have hany : ∀ j, j < most → decL j = x.data.toList → (j : Int) = v := fun j hj e => by
      have := atoi_dec (j := j) (by omega)
      rw [e, ha] at this
      simpa using this.symm
    have HA : Hid (Calls Tryz.prog 102 #[.string x] w fun e w' => e = .returned (.tuple #[.int .i64 v, .nilIface]) ∧ But [] w w') := by
      refine Calls.mono (show Calls Tryz.prog 102 #[.string x] w _ from Any.strconv_Atoi_ok Tryz.laysC172 x (by omega) v ha w) ?_
      rintro e w' ⟨rfl, h⟩
      refine ⟨rfl, ?_⟩
      rcases h with rfl | ⟨t, rfl⟩
      · exact But.refl _ _
      · exact bytesWorld_but _ _ _
    by_cases h1 : v < 0
    · have HM : Hid (numM x most = none) := numM_none (fun j hj e => by have := hany j hj e; omega)
      clear ha bad hany
      go_enter Tryz.func74, Tryz.ntmps74
      go_wp2_with fail
      refine Calls.mono HA.out ?_
      rintro e w1 ⟨rfl, hb1⟩
      go_wp2_with fail
      go_ret
      exact ⟨ret_int (by rw [HM.out]; rfl), hb1⟩
    · by_cases h2 : (most : Int) ≤ v
      · have HM : Hid (numM x most = none) := numM_none (fun j hj e => by have := hany j hj e; omega)
        clear ha bad hany
        go_enter Tryz.func74, Tryz.ntmps74
        go_wp2_with fail
        refine Calls.mono HA.out ?_
        rintro e w1 ⟨rfl, hb1⟩
        go_wp2_with fail
        go_ret
        exact ⟨ret_int (by rw [HM.out]; rfl), hb1⟩
      · obtain ⟨u, rfl⟩ : ∃ u : Nat, v = (u : Int) := ⟨v.toNat, by omega⟩
        by_cases he : decL u = x.data.toList
        · have HM : Hid (numM x most = some u) := numM_some (by omega) he
          have hnb : ((⟨(decL u).toArray⟩ : ByteArray).toList != x.toList) = false := by rw [str_bne, str_eq.2 he]; simp
          clear ha bad hany
          go_enter Tryz.func74, Tryz.ntmps74
          go_wp2_with fail
          refine Calls.mono HA.out ?_
          rintro e w1 ⟨rfl, hb1⟩
          have hT1 := hT.below (hb1.below hN (by simp))
          go_wp2_with (go_at_call 100; refine (itoa_any u (by omega) N _ hT1).mono ?_; rintro e w2 ⟨rfl, hb2⟩)
          go_ret
          exact ⟨ret_int (by rw [HM.out]; rfl), hb1.trans hb2 (by simp)⟩
        · have HM : Hid (numM x most = none) := numM_none (fun j hj e => he (by have h := hany j hj e; have h' : j = u := (by omega); rw [← h']; exact e))
          have hnb : ((⟨(decL u).toArray⟩ : ByteArray).toList != x.toList) = true := by
            rw [str_bne]
            simpa using fun e => he (str_eq.1 e)
          have hq : (decL u == x.toList) = false := by simpa using hnb
          clear ha bad hany
          go_enter Tryz.func74, Tryz.ntmps74
          go_wp2_with fail
          refine Calls.mono HA.out ?_
          rintro e w1 ⟨rfl, hb1⟩
          have hT1 := hT.below (hb1.below hN (by simp))
          go_wp2_with (go_at_call 100; refine (itoa_any u (by omega) N _ hT1).mono ?_; rintro e w2 ⟨rfl, hb2⟩)
          go_ret
          exact ⟨ret_int (by rw [HM.out]; rfl), hb1.trans hb2 (by simp)⟩
  | range =>
    obtain ⟨tp, p, hv⟩ := hT.rng
    have HM : Hid (numM x most = none) := bad (fun v e => by rw [ha] at e; cases e)
    have HA : Hid (Calls Tryz.prog 102 #[.string x] w fun e w' => ∃ n T N', e = .returned (.tuple #[.int .i64 n, .iface T (.pointer (some ⟨N', 0, none⟩))]) ∧ But [] w w') := by
      refine Calls.mono (show Calls Tryz.prog 102 #[.string x] w _ from Any.strconv_Atoi_range_var Tryz.laysC172 x hx ha tp p w hv) ?_
      rintro e w' ⟨N', rfl, _, _, hb⟩
      exact ⟨_, _, N', rfl, below_but hb⟩
    clear ha bad
    go_enter Tryz.func74, Tryz.ntmps74
    go_wp2_with fail
    refine Calls.mono HA.out ?_
    rintro e w1 ⟨n, T, N', rfl, hb1⟩
    go_wp2_with fail
    go_ret
    exact ⟨ret_int (by rw [HM.out]; rfl), hb1⟩
  | _ =>
    obtain ⟨tp, p, hv⟩ := hT.syn
    have HM : Hid (numM x most = none) := bad (fun v e => by rw [ha] at e; cases e)
    have HA : Hid (Calls Tryz.prog 102 #[.string x] w fun e w' => ∃ n T N', e = .returned (.tuple #[.int .i64 n, .iface T (.pointer (some ⟨N', 0, none⟩))]) ∧ But [] w w') := by
      refine Calls.mono (show Calls Tryz.prog 102 #[.string x] w _ from Any.strconv_Atoi_syntax_var Tryz.laysC172 x hx ha tp p w hv) ?_
      rintro e w' ⟨N', rfl, _, _, hb⟩
      exact ⟨_, _, N', rfl, below_but hb⟩
    clear ha bad
    go_enter Tryz.func74, Tryz.ntmps74
    go_wp2_with fail
    refine Calls.mono HA.out ?_
    rintro e w1 ⟨n, T, N', rfl, hb1⟩
    go_wp2_with fail
    go_ret
    exact ⟨ret_int (by rw [HM.out]; rfl), hb1⟩

end Go.Proofs.YtkflkmmbakccoaaGreatDoor

/- WALKS: package graph: find, At; package grafter: Get. -/
namespace Go.Proofs.YtkflkmmbakccoaaGreatDoor
open Go.RowKit Go.Maps

theorem findM_list {n : NodeV} {x : ByteArray} (h : n.kind = 1) : findM n x = numM x n.parts.length := by unfold findM numM; rw [if_pos h]
theorem findM_map {n : NodeV} {x : ByteArray} (h : n.kind = 2) : optV (findM n x) = idxS n.keys x := by
  unfold findM optV idxS
  rw [if_neg (by omega), if_pos h]
  cases List.findIdx? (fun y => decide (y = x)) n.keys <;> rfl
theorem findM_text {n : NodeV} {x : ByteArray} (h : n.kind = 0) : findM n x = none := by
  unfold findM
  rw [if_neg (by omega), if_neg (by omega)]

set_option maxHeartbeats 1000000 in
theorem find_any {E : Env} {t : PS} {nb cap : Nat} {rows : List Row} {w : World} (h : PInv E t (.slice (some ⟨nb, 0, none⟩) rows.length cap) rows w) (hW : Whole t.nodes) (N : Nat) (hT : Tabs N w) (hN : N ≤ w.heap.size) (id : Nat) (hid : id < rows.length) (x : ByteArray) (hx : x.size ≤ 281474976710656) :
    Calls Tryz.prog 49 #[.pointer (some ⟨nb, id * 6, none⟩), .string x] w fun e w' => e = .returned (.int .i64 (optV (findM (rows[id]).n x))) ∧ But [] w w' := by
  have hnode := hW.node (i := id) (by rw [h.same]; simpa using hid)
  rw [h.same, nodeAt_rows rows id hid] at hnode
  obtain ⟨nb', cap', e2, hcap, hcn⟩ := h.node id hid
  obtain ⟨rfl, rfl⟩ : nb = nb' ∧ cap = cap' := by simpa using e2
  have d0 := (hcn 0 (by omega)).1
  have d2 := (hcn 2 (by omega)).1
  have d3 := (hcn 3 (by omega)).1
  simp only [Row.cells, List.getElem?_cons_succ, List.getElem?_cons_zero, Nat.add_zero] at d0 d2 d3
  obtain ⟨ka, kc, hkv, hkc⟩ := own_shape (h.rows rows[id] (List.getElem_mem hid)).1
  obtain ⟨pa, pc, hpv, hpc⟩ := own_shape (h.rows rows[id] (List.getElem_mem hid)).2
  rw [hkv] at d2
  rw [hpv] at d3
  have hown := (h.rows rows[id] (List.getElem_mem hid)).1
  rw [hkv] at hown
  have hkl := hnode.keys
  have hpl := hnode.len
  have hkk : (rows[id]).n.kind = 0 ∨ (rows[id]).n.kind = 1 ∨ (rows[id]).n.kind = 2 := by have := hnode.kind; omega
  generalize rows[id] = r at *
  clear hcn e2 hkv hpv h hnode
  rcases hkk with hk | hk | hk
  · have HM : Hid (findM r.n x = none) := findM_text hk
    rw [hk] at d0
    clear hk hkl
    go_enter Tryz.func49, Tryz.ntmps49
    go_wp2_with fail
    go_ret
    exact ⟨ret_int (by rw [HM.out]; rfl), But.refl _ _⟩
  · have HM : Hid (findM r.n x = numM x r.n.parts.length) := findM_list hk
    have HC : Hid _ := number_any x hx r.n.parts.length hpl N w hT hN
    rw [hk] at d0
    clear hk hkl
    go_enter Tryz.func49, Tryz.ntmps49
    go_wp2_with fail
    refine Calls.mono HC.out ?_
    rintro e w1 ⟨rfl, hb⟩
    go_wp2_with fail
    go_ret
    exact ⟨ret_int (by rw [HM.out]), hb⟩
  · have HM : Hid (optV (findM r.n x) = idxS r.n.keys x) := findM_map hk
    rw [if_pos hk] at hkl
    have HC : Hid _ := index_any r.n.keys x _ E.base w hown (by omega)
    rw [hk] at d0
    clear hk hkl
    go_enter Tryz.func49, Tryz.ntmps49
    go_wp2_with fail
    refine Calls.mono HC.out ?_
    rintro e w1 ⟨rfl, hw1⟩
    rw [hw1]
    clear hw1
    go_wp2_with fail
    go_ret
    exact ⟨ret_int HM.out.symm, But.refl _ _⟩

/-- A path in memory. -/
structure PathOk (w : World) (v : Value) (path : List ByteArray) : Prop where
  shape : ∃ a cap, v = .slice a path.length cap ∧ path.length ≤ cap ∧ (0 < path.length → ∃ pb off, a = some ⟨pb, off, none⟩ ∧ pb < w.heap.size ∧ ∀ i (hi : i < path.length), w.cell? ⟨pb, off + i, none⟩ = some (.string (path[i])))
  size : ∀ x ∈ path, x.size ≤ 281474976710656
  len : path.length ≤ 9000000000000

theorem PathOk.cell {w : World} {v : Value} {path : List ByteArray} (h : PathOk w v path) {i : Nat} (hi : i < path.length) : ∃ pb off cap, v = .slice (some ⟨pb, off, none⟩) path.length cap ∧ path.length ≤ cap ∧ ∀ (W : World), But [] w W → W.cell? ⟨pb, off + i, none⟩ = some (.string (path[i])) := by
  obtain ⟨a, cap, e, hc, hs⟩ := h.shape
  obtain ⟨pb, off, rfl, hlt, hcell⟩ := hs (by omega)
  refine ⟨pb, off, cap, e, hc, fun W hW => ?_⟩
  rw [← hcell i hi]
  simp only [World.cell?]
  rw [hW.block pb hlt (by simp)]

theorem PathOk.still {w w' : World} {v : Value} {path : List ByteArray} (h : PathOk w v path) (hb : But [] w w') : PathOk w' v path := by
  obtain ⟨a, cap, e, hc, hs⟩ := h.shape
  refine ⟨⟨a, cap, e, hc, fun h0 => ?_⟩, h.size, h.len⟩
  obtain ⟨pb, off, ha, hlt, hcell⟩ := hs h0
  refine ⟨pb, off, ha, Nat.lt_of_lt_of_le hlt hb.size, fun i hi => ?_⟩
  rw [← hcell i hi]
  simp only [World.cell?]
  rw [hb.block pb hlt (by simp)]

/-- What At answers. -/
def atV (o : Option Nat) : Value := match o with | some k => .tuple #[.int .i64 (k : Int), .bool true] | none => .tuple #[.int .i64 0, .bool false]

theorem findM_lt {nodes : List NodeV} (hW : Whole nodes) {k j : Nat} {x : ByteArray} (hk : k < nodes.length) (h : findM (nodeAt nodes k) x = some j) : j < (nodeAt nodes k).parts.length := by
  unfold findM at h
  split at h
  · have := List.mem_of_find?_eq_some h
    exact List.mem_range.1 this
  · split at h
    · rename_i h2
      obtain ⟨hj, _⟩ := List.findIdx?_eq_some_iff_getElem.1 h
      have := (hW.node hk).keys
      rw [if_pos h2] at this
      omega
    · cases h

theorem getM_lt {nodes : List NodeV} (hW : Whole nodes) : ∀ (path : List ByteArray) (k r : Nat), k < nodes.length → getM nodes path k = some r → r < nodes.length
  | [], k, r, hk, h => by simp [getM] at h; omega
  | x :: xs, k, r, hk, h => by
    simp only [getM] at h
    obtain ⟨j, h1, h2⟩ := Option.bind_eq_some_iff.1 h
    refine getM_lt hW xs _ r ?_ h2
    have hj : j < (nodeAt nodes k).parts.length := findM_lt hW hk h1
    have : (nodeAt nodes k).parts.getD j 0 ∈ (nodeAt nodes k).parts := by
      rw [List.getD_eq_getElem?_getD, List.getElem?_eq_getElem hj]
      exact List.getElem_mem hj
    exact (hW.part hk this).1

set_option maxRecDepth 20000 in
set_option maxHeartbeats 1000000 in
theorem at_any {E : Env} {t : PS} {nv : Value} {rows : List Row} {w : World} (h : PInv E t nv rows w) (hpos : 0 < rows.length) (hW : Whole t.nodes) (N : Nat) (hT : Tabs N w) (hN : N ≤ w.heap.size) (v : Value) (path : List ByteArray) (hP : PathOk w v path) :
    Calls Tryz.prog 32 #[.pointer (some ⟨E.g, 0, none⟩), v] w fun e w' => e = .returned (atV (getM t.nodes path 0)) ∧ But [] w w' := by
  obtain ⟨nb, cap, rfl, hcap, _⟩ := h.node 0 hpos
  obtain ⟨va, vcap, hv, hvc, _⟩ := hP.shape
  subst hv
  have hlen := hP.len
  have hl5 := hW.len
  have hrl : rows.length ≤ 500 := by rw [h.len] at hl5; exact hl5
  go_enter Tryz.func32, Tryz.ntmps32
  go_wp2_with fail
  go_loopw [6, 13] (fun idv i wr => ∃ (j id : Nat), j ≤ path.length ∧ i = .int .i64 (j : Int) ∧ idv = .int .i64 (id : Int) ∧ id < rows.length ∧ getM t.nodes path 0 = getM t.nodes (path.drop j) id ∧ But [] w wr) (fun _ i _ => path.length - (intOf i).toNat)
  case atStart => exact ⟨0, 0, Nat.zero_le _, rfl, rfl, hpos, rfl, But.refl _ _⟩
  case round =>
    obtain ⟨j, id, hj, rfl, rfl, hid, hget, hb⟩ := hrel
    have HG : Hid _ := hget
    clear hget
    by_cases hjl : j < path.length
    · obtain ⟨pb, off, cap', e2, _, hcell⟩ := hP.cell hjl
      obtain ⟨rfl, rfl⟩ : va = some ⟨pb, off, none⟩ ∧ vcap = cap' := by simpa using e2
      have hcj := hcell wr hb
      have hxs := hP.size _ (List.getElem_mem hjl)
      have hIr := h.frame hb (by simp)
      have g0 : wr.cell? ⟨E.g, 0, none⟩ = some (.slice (some ⟨nb, 0, none⟩) rows.length cap) := hIr.gr.cell rfl
      have hTr := hT.below (hb.below hN (by simp))
      have HF : Hid _ := find_any hIr hW N hTr (Nat.le_trans hN hb.size) id hid path[j] hxs
      have hG2 : getM t.nodes path 0 = (findM (rows[id]).n path[j]).bind fun q => getM t.nodes (path.drop (j + 1)) ((rows[id]).n.parts.getD q 0) := by
        rw [HG.out, List.drop_eq_getElem_cons hjl]
        simp only [getM]
        rw [h.same, nodeAt_rows rows id hid]
      have HG2 : Hid _ := hG2
      have hflt : ∀ q, findM (rows[id]).n path[j] = some q → q < (rows[id]).n.parts.length := fun q hq => by
        have := findM_lt hW (k := id) (j := q) (x := path[j]) (by rw [h.same]; simpa using hid) (by rw [h.same, nodeAt_rows rows id hid]; exact hq)
        rwa [h.same, nodeAt_rows rows id hid] at this
      have hplt : ∀ p ∈ (rows[id]).n.parts, p < rows.length := fun p hp => by
        have := (hW.part (i := id) (p := p) (by rw [h.same]; simpa using hid) (by rw [h.same, nodeAt_rows rows id hid]; exact hp)).1
        rw [h.len] at this
        exact this
      have hpl5 : (rows[id]).n.parts.length ≤ 1000 := by
        have := (hW.node (i := id) (by rw [h.same]; simpa using hid)).len
        rwa [h.same, nodeAt_rows rows id hid] at this
      cases hfm : findM (rows[id]).n path[j] with
      | none =>
        have HR : Hid (getM t.nodes path 0 = none) := by unfold Hid; rw [hG2, hfm]; rfl
        rw [hfm] at HF
        have ho : optV none = -1 := rfl
        rw [ho] at HF
        generalize path[j] = x at *
        clear hfm hG2 hcell e2 ho HG2 hflt
        go_wp2_with fail
        refine Calls.mono HF.out ?_
        rintro e w1 ⟨rfl, hb1⟩
        go_wp2_with fail
        go_ret2
        exact ⟨by rw [HR.out]; rfl, hb.trans hb1 (by simp)⟩
      | some q =>
        have hq := hflt q hfm
        have HR : Hid (getM t.nodes path 0 = getM t.nodes (path.drop (j + 1)) ((rows[id]).n.parts[q])) := by
          unfold Hid; rw [hG2, hfm]
          simp [List.getD, hq]
        rw [hfm] at HF
        have ho : optV (some q) = (q : Int) := rfl
        rw [ho] at HF
        have hpq := hplt _ (List.getElem_mem hq)
        have HPC : Hid (∀ W, But [] wr W → ∃ pbk, (rows[id]).pv = .slice (some ⟨pbk, 0, none⟩) (rows[id]).n.parts.length (match (rows[id]).pv with | .slice _ _ c => c | _ => 0) ∧ W.cell? ⟨pbk, q, none⟩ = some (.int .i64 ((rows[id]).n.parts[q] : Int)) ∧ (rows[id]).n.parts.length ≤ (match (rows[id]).pv with | .slice _ _ c => c | _ => 0)) := fun W hWb => by
          obtain ⟨pbk, cap', e2, h2, _, hc2⟩ := ownsInt_cell (n := (rows[id]).n.parts.length) (l := (rows[id]).n.parts) ((hIr.frame hWb (by simp)).rows rows[id] (List.getElem_mem hid)).2 (by omega)
          refine ⟨pbk, ?_, hc2 q hq, ?_⟩
          · rw [e2]
          · rw [e2]; exact h2
        have HD3 : Hid (∀ W, But [] wr W → W.cell? ⟨nb, id * 6 + 3, none⟩ = some (rows[id]).pv) := fun W hWb => by
          obtain ⟨nb', cap', e2, _, hcn⟩ := (hIr.frame hWb (by simp)).node id hid
          obtain ⟨rfl, rfl⟩ : nb = nb' ∧ cap = cap' := by simpa using e2
          exact (hcn 3 (by omega)).1
        generalize path[j] = x at *
        clear hfm hG2 hcell e2 ho HG2 hflt hplt
        go_wp2_with fail
        refine Calls.mono HF.out ?_
        rintro e w1 ⟨rfl, hb1⟩
        obtain ⟨pbk, hpv, hpc, hple⟩ := HPC.out w1 hb1
        have d3 := HD3.out w1 hb1
        rw [hpv] at d3
        generalize (match (rows[id]).pv with | .slice _ _ c => c | _ => 0) = pcap at *
        generalize (rows[id]).n.parts[q] = y at *
        generalize (rows[id]).n.parts.length = pl at *
        clear HPC HD3 hpv HF
        go_wp2_with fail
        go_roundw
        case rel => exact ⟨j + 1, y, by omega, by go_num, rfl, hpq, HR.out, hb.trans hb1 (by simp)⟩
        case measure => simp [intOf]; omega
    · have HR : Hid (getM t.nodes path 0 = some id) := by
        unfold Hid; rw [HG.out, List.drop_eq_nil_of_le (by omega)]; rfl
      go_wp2_with fail
      go_ret2
      exact ⟨by rw [HR.out]; rfl, hb⟩

/-- What Get answers. -/
def getV (nodes : List NodeV) (o : Option Nat) : Value := match o with | some k => .tuple #[.string ⟨(plainM nodes k).toArray⟩, .int .i64 0] | none => .tuple #[.string ⟨#[]⟩, .int .i64 10]

set_option maxHeartbeats 1000000 in
theorem dGet_any (E : Env) (t : PS) (nv : Value) (rows : List Row) (w : World) (h : PInv E t nv rows w) (hn : 0 < rows.length) (hW : Whole t.nodes) (N0 : Nat) (hT : Tabs N0 w) (hN0 : N0 ≤ w.heap.size) (d : Nat) (hd : Blk w d #[.pointer (some ⟨E.g, 0, none⟩)] 59) (v : Value) (path : List ByteArray) (hP : PathOk w v path) :
    Calls Tryz.prog 21 #[.pointer (some ⟨d, 0, none⟩), v] w fun e w' => e = .returned (getV t.nodes (getM t.nodes path 0)) ∧ But [] w w' := by
  have c0 : w.cell? ⟨d, 0, none⟩ = some (.pointer (some ⟨E.g, 0, none⟩)) := hd.cell rfl
  have HAT : Hid _ := at_any h hn hW N0 hT hN0 v path hP
  have HH : Hid _ := h
  have HT : Hid _ := hT
  obtain ⟨va, vcap, hv, _, _⟩ := hP.shape
  subst hv
  clear h hT hP
  go_enter Tryz.func21, Tryz.ntmps21
  go_wp2_with fail
  refine (isNothing_any d E.g w hd).mono ?_
  rintro e w1 ⟨rfl, hw1⟩
  rw [hw1]
  clear hw1
  go_wp2_with fail
  refine Calls.mono HAT.out ?_
  rintro e w2 ⟨rfl, hb2⟩
  cases hg : getM t.nodes path 0 with
  | none =>
    have HG : Hid _ := hg
    unfold atV
    clear hg
    go_wp2_with fail
    go_ret2
    exact ⟨by rw [HG.out]; rfl, hb2⟩
  | some k =>
    have hk := getM_lt hW path 0 k (by rw [HH.out.len]; exact hn) hg
    have hk' : k < rows.length := by rw [HH.out.len] at hk; exact hk
    have HG : Hid _ := hg
    have h2 := HH.out.frame hb2 (by simp)
    have c1 : w2.cell? ⟨d, 0, none⟩ = some (.pointer (some ⟨E.g, 0, none⟩)) := (hb2.blk hd (by simp)).cell rfl
    have hGI : GI (wenv w2.heap.size E.g) t.anchors nv rows E.base w2 := h2.toGI _ rfl rfl
    have HGI : Hid (Bs (wenv w2.heap.size E.g) t.anchors nv rows E.base w2) := ⟨hGI, (HT.out.below (hb2.below hN0 (by simp))).mono (Nat.le_trans hN0 hb2.size)⟩
    have hW2 := hW
    rw [h2.same] at hW2
    have HS : Hid _ := h2.same
    unfold atV
    clear hg hGI h2 c0
    go_wp2_with fail
    refine (newWriter_any E.g w2).mono ?_
    rintro e w3 ⟨rfl, hS3, hb3⟩
    have hBs3 := HGI.out.below (hb3.below (Nat.le_refl _) (by simp))
    go_wp2_with fail
    refine (wPlain_any _ _ _ _ _ _ w3 hS3 t.anchors nv rows E.base hW2 hBs3 k hk').mono ?_
    rintro e w4 ⟨rfl, hb4⟩
    go_wp2_with fail
    go_ret2
    refine ⟨?_, hb2.trans (below_but ((hb3.below (Nat.le_refl _) (by simp)).trans hb4)) (by simp)⟩
    rw [HG.out]
    exact congrArg (fun l => Ending.returned (.tuple #[.string ⟨(plainM l k).toArray⟩, .int .i64 0])) HS.out.symm

end Go.Proofs.YtkflkmmbakccoaaGreatDoor

/- WALKS: package grafterref: decimal, scalar. -/
namespace Go.Proofs.YtkflkmmbakccoaaGreatDoor
open Go.RowKit Go.Maps

/-- Bytes as a string. -/
abbrev bS (l : List UInt8) : ByteArray := ⟨l.toArray⟩

theorem bS_app (a b : List UInt8) : bS a ++ bS b = bS (a ++ b) := by
  apply ByteArray.ext
  simp [ByteArray.data_append]

theorem bS_data (x : ByteArray) : bS x.data.toList = x := by
  apply ByteArray.ext
  simp

theorem bS_size (l : List UInt8) : (bS l).size = l.length := by simp [ByteArray.size]

theorem ret_str {a b : ByteArray} (h : a = b) : Ending.returned (.string a) = .returned (.string b) := by rw [h]

/-- A digit. -/
def dch (d : Nat) : UInt8 := UInt8.ofNat (48 + d)

set_option maxRecDepth 100000 in
theorem digit_run (w : World) : ∀ d : Nat, d < 10 → (Instr.slice 9 (.string ⟨#[48, 49, 50, 51, 52, 53, 54, 55, 56, 57]⟩) (some (.int .i64 (d : Int))) (some (.int .i64 ((d : Int) + 1))) none).run Tryz.prog w = .ok (.string (bS [dch d])) w := by
  intro d hd
  have : d = 0 ∨ d = 1 ∨ d = 2 ∨ d = 3 ∨ d = 4 ∨ d = 5 ∨ d = 6 ∨ d = 7 ∨ d = 8 ∨ d = 9 := by omega
  rcases this with rfl | rfl | rfl | rfl | rfl | rfl | rfl | rfl | rfl | rfl <;> rfl

set_option maxRecDepth 20000 in
set_option maxHeartbeats 400000 in
theorem decimal_any (n : Nat) : ∀ (w : World), n ≤ 1000000 →
    Calls Tryz.prog 84 #[.int .i64 (n : Int)] w fun e w' => ∃ x : ByteArray, e = .returned (.string x) ∧ w' = w ∧ Hid (x = bS (decL n)) ∧ x.size ≤ 1000001 := by
  induction n using Nat.strongRecOn with
  | _ n ih =>
    intro w hn
    have hdr : (Instr.slice 9 (.string ⟨#[48, 49, 50, 51, 52, 53, 54, 55, 56, 57]⟩) (some (.int .i64 ((n : Int) % 10))) (some (.int .i64 ((n : Int) % 10 + 1))) none).run Tryz.prog w = .ok (.string (bS [dch (n % 10)])) w := by
      have := digit_run w (n % 10) (by omega)
      simpa using this
    have h0 : (0 : Int) ≤ (n : Int) := by omega
    by_cases h10 : n < 10
    · have HE : Hid (decL n = [dch (n % 10)]) := by
        unfold Hid
        rw [decL, dif_pos h10, Nat.mod_eq_of_lt h10]; rfl
      clear ih
      go_enter Tryz.func84, Tryz.ntmps84
      go_wp2_with fail
      go_ret
      exact ⟨_, rfl, rfl, by unfold Hid; rw [HE.out], by simp [ByteArray.size]⟩
    · have HI : Hid _ := ih (n / 10) (by omega) w (by omega)
      have HE : Hid (decL n = decL (n / 10) ++ [dch (n % 10)]) := by
        unfold Hid
        rw [decL, dif_neg h10]; rfl
      clear ih
      go_enter Tryz.func84, Tryz.ntmps84
      go_wp2_with fail
      refine Calls.mono HI.out ?_
      rintro e w1 ⟨x, rfl, hw1, HX, hxs⟩
      rw [hw1]
      clear hw1
      obtain ⟨y, hy⟩ : ∃ y, y = bS [dch (n % 10)] := ⟨_, rfl⟩
      have HY : Hid (y = bS [dch (n % 10)]) := hy
      have hys : y.size ≤ 1 := by rw [hy, bS_size]; simp
      rw [← hy]
      clear hy hdr
      go_wp2_with fail
      go_ret
      refine ⟨_, rfl, rfl, by unfold Hid; rw [HE.out, HX.out, HY.out, bS_app], ?_⟩
      rw [HX.out, HY.out, bS_app, ← HE.out, bS_size]
      have := decL_len n
      omega

end Go.Proofs.YtkflkmmbakccoaaGreatDoor

/- WALKS: package grafterref: scalar, count. The graph of grafterref in memory, as it is told. -/
namespace Go.Proofs.YtkflkmmbakccoaaGreatDoor
open Go.RowKit Go.Maps

set_option maxHeartbeats 1000000 in
theorem rScalar_any (x : ByteArray) (w : World) (hs : x.size ≤ 1000) :
    Calls Tryz.prog 85 #[.string x] w fun e w' => ∃ y : ByteArray, e = .returned (.string y) ∧ w' = w ∧ Hid (y = bS (textL x)) ∧ y.size ≤ 1002 := by
  go_enter Tryz.func85, Tryz.ntmps85
  by_cases h1 : 1 ≤ x.size
  all_goals
    go_wp2_with fail
    go_loop [3, 4, 5] (fun wd i _ => ∃ k : Nat, k ≤ x.size ∧ i = .int .i64 k ∧ wd = .bool ((decide (1 ≤ x.size) && decide (x.size ≤ 12)) && (x.data.toList.take k).all (fun b => isWB (b.toNat : Int)))) (fun _ i _ => x.size - (intOf i).toNat)
    case atStart =>
      refine ⟨0, Nat.zero_le _, rfl, ?_⟩
      first | (simp [h1]; done) | (simp [h1]; omega)
    case round =>
      obtain ⟨k, hk, rfl, rfl⟩ := hrel
      by_cases hlt : k < x.size
      · have HT : Hid _ := isWord_take x k hlt
        have hx0 : (0 : Int) ≤ (x[k].toNat : Int) := by omega
        have hx1 : (x[k].toNat : Int) ≤ 255 := by have := x[k].toNat_lt; omega
        generalize hW : (decide (1 ≤ x.size) && decide (x.size ≤ 12) && (x.data.toList.take k).all (fun b => isWB (b.toNat : Int))) = W
        have HW : Hid _ := hW
        clear hW
        cases W
        all_goals
          go_wp2_with (go_at_call 109; refine (letter_any _ _).mono ?_; rintro e w' ⟨rfl, rfl⟩)
          go_round
          case rel =>
            refine ⟨k + 1, by omega, by go_num, ?_⟩
            rw [HT.out, ← Bool.and_assoc, HW.out]
            simp
          case measure => simp [intOf]; omega
      · have e : (decide (1 ≤ x.size) && decide (x.size ≤ 12) && (x.data.toList.take k).all (fun b => isWB (b.toNat : Int))) = isWordB x := by
          unfold isWordB
          rw [List.take_of_length_le (by simp; omega)]
        rw [e]
        by_cases hw : isWordB x = true
        · have HT : Hid (textL x = x.data.toList) := by unfold Hid textL; rw [if_pos hw]
          rw [hw]
          clear e hw
          go_wp2_with fail
          go_ret
          exact ⟨_, rfl, rfl, by unfold Hid; rw [HT.out, bS_data], by omega⟩
        · have hw' : isWordB x = false := by simpa using hw
          have HT : Hid (textL x = 34 :: (x.data.toList ++ [34])) := by unfold Hid textL; rw [if_neg hw]
          rw [hw']
          clear e hw hw'
          go_wp2_with fail
          go_ret
          refine ⟨_, rfl, rfl, ?_, ?_⟩
          · unfold Hid
            rw [HT.out]
            apply ByteArray.ext
            simp [ByteArray.data_append]
          · rw [ByteArray.size_append, ByteArray.size_append]
            show 1 + x.size + 1 ≤ 1002
            omega

end Go.Proofs.YtkflkmmbakccoaaGreatDoor
