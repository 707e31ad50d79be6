/- PARTS: B11, B13, B14, B15. -/
import Derived.Test.YtkflkmmbakccoaaGreatDoorH42
import Derived.Maps.Ext
import Derived.StillTailTactics

/- WALKS: package write: giveNames; maps.Keys, slices.Sorted at the map of names. -/
namespace Go.Proofs.YtkflkmmbakccoaaGreatDoor
open Go.RowKit Go.Maps Go.Sort Go.Shelf

theorem keys_any (b : Nat) (w : World) : Calls Tryz.prog 66 #[.map (some b)] w fun e w' => e = .returned (.func (.func 97) #[] #[.pointer (some ⟨w.heap.size, 0, none⟩)]) ∧ w' = w.alloc (.cells #[.map (some b)] 93) :=
  (callsIn_wide (n := 5)).1 (AnyZI.keys_in Tryz.keysA Fence.wide 5 trivial rfl (some b) w)

theorem sorts (m : Nat) : AnyZI.SortsIn Tryz.prog Tryz.sortedA_ren Fence.wide m :=
  ⟨fun blk off cap ss W hH hblk hsz => callsIn_wide.2 (AnyM.slices_Sort_int Tryz.sortA blk off cap ss W hH hblk hsz),
   fun p cap W => callsIn_wide.2 (AnyM.slices_Sort_int_none Tryz.sortA p cap W)⟩

theorem sorted_any {H : Type} (b nn : Nat) (D0 : DataW H) (R : Value → Option (DataW H × List MemPlace)) (w : World) (hown : w.ownsMap Tryz.prog 3 R b nn D0) (hmax : Maps.size D0 ≤ 1000) :
    Calls Tryz.prog 65 #[.func (.func 97) #[] #[.pointer (some ⟨w.heap.size, 0, none⟩)]] (w.alloc (.cells #[.map (some b)] 93)) fun e w' => ∃ (v : Value) (ss : List Int), e = .returned v ∧ ss.Perm (intKeys D0) ∧
      w'.ownsRow (w.alloc (.cells #[.map (some b)] 93)).heap.size 3 1 v ss.length ((ss.mergeSort (fun x y => decide (x ≤ y))).map encZ) ∧ (v = .slice none 0 0 ↔ ss = []) ∧ Below (w.alloc (.cells #[.map (some b)] 93)).heap.size (w.alloc (.cells #[.map (some b)] 93)) w' := by
  have hbl := hown.lt
  have hseq : SeqGives Fence.wide 2 Tryz.prog 97 #[.pointer (some ⟨w.heap.size, 0, none⟩)] encZ (fun ss => ss.Perm (intKeys D0)) (Maps.size D0) (w.alloc (.cells #[.map (some b)] 93)) :=
    AnyZI.keys_gives (ρ := Tryz.keysA_ren) { Tryz.keysA with } Fence.wide _ trivial rfl (by omega) w.heap.size b nn D0 _ (by simp) (by simp) (by
      obtain ⟨es, clock, hb, Ft, hs, hD⟩ := hown
      exact ⟨es, clock, (Below.heap_alloc _ _ b hbl).trans hb, Ft, hs, hD⟩)
  exact (callsIn_wide (n := 5)).1 (AnyZI.sorted_in Tryz.sortedA Fence.wide 5 trivial trivial trivial trivial rfl (by omega) (sorts _) (enters_of Tryz.func96 (by kernel_rfl) rfl) 97 #[.pointer (some ⟨w.heap.size, 0, none⟩)] trivial (enters_of Tryz.func97 (by kernel_rfl) rfl) _ _ (by unfold maxLen; omega) (by omega) _ hseq)

/-- What slices.Sorted gives of the names: the nodes that have one, in their order. -/
theorem sorted_names {ag : List Nat} {D : DataW Unit} {w : World} {b n : Nat} {R : Value → Option (DataW Unit × List MemPlace)} (hown : w.ownsMap Tryz.prog 3 R b n D) (h2 : ∀ x : Nat, Maps.has D (.int .i64 (x : Int)) = decide (x ∈ ag)) (h4 : ∀ k, Maps.has D k = true → ∃ x ∈ ag, k = .int .i64 ((x : Nat) : Int)) (hlt : ∀ x ∈ ag, x < 1000) {ss : List Int} (hp : ss.Perm (intKeys D)) :
    ss.mergeSort (fun x y => decide (x ≤ y)) = (namesL ag 1000).map (fun (i : Nat) => (i : Int)) := by
  obtain ⟨es, hes, hpw⟩ := hown.tidy lawI
  have hk : ∀ p ∈ es, ∃ x, p.1 = .int .i64 x := fun p hp => by
    have hh : Maps.has D p.1 = true := by
      rw [hes]
      simp only [Maps.has, List.any_eq_true]
      refine ⟨p, hp, ?_⟩
      have := hown.canon lawI
      obtain ⟨es', he', _, hkl⟩ := this
      rw [hes] at he'
      have hes' : es = es' := by simpa using he'
      exact WideAt.sameKey_self (hkl p (hes' ▸ hp))
    obtain ⟨x, _, hx⟩ := h4 _ hh
    exact ⟨x, hx⟩
  have hnd : ((namesL ag 1000).map (fun (i : Nat) => (i : Int))).Nodup := by
    have := namesL_lt ag 1000
    rw [List.nodup_iff_pairwise_ne, List.pairwise_map]
    exact this.imp (fun h e => by omega)
  have hm : ∀ x : Int, x ∈ (namesL ag 1000).map (fun (i : Nat) => (i : Int)) ↔ Maps.has (.map es) (.int .i64 x) = true := fun x => by
    rw [← hes]
    constructor
    · intro hx
      obtain ⟨y, hy, rfl⟩ := List.mem_map.1 hx
      rw [h2 y]
      simpa using (namesL_mem.1 hy).2
    · intro hx
      obtain ⟨y, hy, e⟩ := h4 _ hx
      simp only [Lit.int.injEq, true_and] at e
      subst e
      exact List.mem_map.2 ⟨y, namesL_mem.2 ⟨hlt y hy, hy⟩, rfl⟩
  have hp2 := perm_intKeys hpw hk hnd hm
  rw [← hes] at hp2
  have e1 := mergeSort_of_perm_i (hp.trans hp2.symm)
  have e2 : ((namesL ag 1000).map (fun (i : Nat) => (i : Int))).mergeSort leI = (namesL ag 1000).map (fun (i : Nat) => (i : Int)) := by
    apply List.mergeSort_of_pairwise
    rw [List.pairwise_map]
    exact (namesL_lt ag 1000).imp (fun h => by simp [leI]; omega)
  exact e1.trans e2

theorem NmOk.congr {X : WEnv} {ag ag' : List Nat} {val val' : Nat → Nat} {w : World} (h : NmOk X ag val w) (hm : ∀ x, x ∈ ag ↔ x ∈ ag') (hv : ∀ x ∈ ag, val' x = val x) : NmOk X ag' val' w := by
  obtain ⟨L, D, hL, hown, h2, h3, h4⟩ := h
  refine ⟨L, D, ⟨hL.1, fun x => (hL.2.1 x).trans (hm x), hL.2.2⟩, hown, fun x => by rw [h2 x]; exact decide_eq_decide.2 (hm x), fun x hx => ?_, fun k hk => ?_⟩
  · rw [h3 x ((hm x).2 hx), hv x ((hm x).2 hx)]
  · obtain ⟨x, hx, e⟩ := h4 k hk
    exact ⟨x, (hm x).1 hx, e⟩

end Go.Proofs.YtkflkmmbakccoaaGreatDoor

/- WALKS: package write: giveNames, tell, begin. -/
namespace Go.Proofs.YtkflkmmbakccoaaGreatDoor
open Go.RowKit Go.Maps

/-- A region whose operations but the last ones only read, in the order of the text. -/
theorem region_tail {P : Program} {id : Nat} {Q : Exit → Act → World → Prop} {a : Act} {w : World} {l : List Oper} (n : Nat) (hm : P.follows .mixedOrders = true) (hB : Region.lexTailB .any l.toArray n = true)
    (h : wpStill P l.toArray w.drew (fun a' => wpList P l.toArray Q (l.drop n) a' w.drew) (l.take n) a) : (Code.region id l.toArray true).wp P Q a w := wp_region_still_tail n hm hB h

/-- How a piece reads. -/
def pieceElem : Value → Option (DataW Unit × List MemPlace)
  | .agg #[.int .i64 a, .int .i64 b] => some (.agg [.lit (.int .i64 a), .lit (.int .i64 b)], [])
  | _ => none

/-- The writer and all that belongs to it. -/
structure WS (X : WEnv) (ag : List Nat) (val : Nat → Nat) (out : List UInt8) (bv : Value) (met : List Nat) (w : World) : Prop where
  bw : BW X out bv w
  nm : NmOk X ag val w
  wk : WkOk X met w
  pc : ∃ (n : Nat) (D : DataW Unit), w.ownsMap Tryz.prog 3 pieceElem X.pc n D
  Nwr : X.N ≤ X.wr
  Nwk : X.N ≤ X.wk
  Nmm : X.N ≤ X.m
  Nnm : X.N ≤ X.nm
  Npc : X.N ≤ X.pc
  mn : X.m ≠ X.nm
  mp : X.m ≠ X.pc
  np : X.nm ≠ X.pc

theorem WS.bx_no {X : WEnv} {ag : List Nat} {val : Nat → Nat} {out : List UInt8} {bv : Value} {met : List Nat} {w : World} (h : WS X ag val out bv met w) {bx : Nat} (hb : Blk w bx #[wpt X] 63) (hN : X.N ≤ bx) : C0 X (bx :: X.nm :: X.wr :: own bv) w ∧ X.pc ∉ X.m :: bx :: X.nm :: X.wr :: own bv := by
  obtain ⟨hwB, D, hmo, _⟩ := h.wk
  obtain ⟨L, Dn, _, hno, _⟩ := h.nm
  obtain ⟨n, Dp, hpo⟩ := h.pc
  obtain ⟨A, _, hwr⟩ := h.bw.blk
  have key : ∀ {b cs T}, Blk w b cs T → T ≠ 63 → T ≠ 100 → T ≠ 5 → b ∉ bx :: X.nm :: X.wr :: own bv := fun {b cs T} h1 t1 t2 t3 hx => by
    simp only [List.mem_cons] at hx
    rcases hx with rfl | rfl | rfl | hx
    · exact t1 (h1.inj hb).2
    · exact h1.not_map hno
    · exact t2 (h1.inj hwr).2
    · obtain ⟨_, cs', fz, hg⟩ := ownsRowF_mem h.bw.row hx
      unfold Blk at h1
      rw [hg] at h1
      simp only [Option.some.injEq, Obj.cells.injEq] at h1
      exact t3 h1.2.1.symm
  have keyM : ∀ {b n : Nat} {R : Value → Option (DataW Unit × List MemPlace)} {D : DataW Unit}, w.ownsMap Tryz.prog 3 R b n D → b ≠ X.nm → b ∉ bx :: X.nm :: X.wr :: own bv := fun {b n R D} h1 h2 hx => by
    simp only [List.mem_cons] at hx
    rcases hx with rfl | rfl | rfl | hx
    · exact hb.not_map h1
    · exact h2 rfl
    · exact hwr.not_map h1
    · obtain ⟨_, cs', fz, hg⟩ := ownsRowF_mem h.bw.row hx
      obtain ⟨es, clock, h3⟩ := ownsMap_block h1
      rw [hg] at h3
      simp at h3
  refine ⟨⟨h.bw.N, fun x hx => ?_, key hwB (by decide) (by decide) (by decide), keyM hmo h.mn, hwB.lt, hmo.lt, h.Nmm⟩, fun hx => ?_⟩
  · refine ⟨?_, VT.lt (X := X) (bx := bx) (ag := ag) (val := val) (out := out) ⟨bv, hb, h.bw, h.nm, rfl⟩ x hx⟩
    simp only [List.mem_cons] at hx
    rcases hx with rfl | rfl | rfl | hx
    · exact hN
    · exact h.Nnm
    · exact h.Nwr
    · exact (ownsRowF_mem h.bw.row hx).1
  · rcases List.mem_cons.1 hx with e | hx
    · exact h.mp e.symm
    · exact keyM hpo (Ne.symm h.np) hx

/-- What a writer's method leaves: only what is its own is written. -/
def SPost (X : WEnv) (ag : List Nat) (val : Nat → Nat) (out : List UInt8) (w w' : World) : Prop :=
  (∃ bv' met', WS X ag val out bv' met' w') ∧ Below X.N w w'

/-- A walk's end, in the writer's words. -/
theorem WS.walked {X : WEnv} {ag ag' : List Nat} {val val' : Nat → Nat} {out out' : List UInt8} {bv : Value} {met : List Nat} {w : World} (h : WS X ag val out bv met w) {bx : Nat} (hb : Blk w bx #[wpt X] 63) (hN : X.N ≤ bx) {met' : List Nat} {w' : World} {σ : Type} {V : σ → List Nat → World → Prop} {st' : σ} (hv : ∀ fp, V st' fp w' → VT X bx ag' val' out' fp w')
    (hp : CPost V X (bx :: X.nm :: X.wr :: own bv) w met' st' w') : ∃ bv', WS X ag' val' out' bv' met' w' ∧ Blk w' bx #[wpt X] 63 ∧ Below X.N w w' := by
  obtain ⟨h0, hpc⟩ := h.bx_no hb hN
  obtain ⟨fp', h1, h2, h3, _⟩ := hp
  obtain ⟨bv', hb', hB', hN', rfl⟩ := hv _ h1
  obtain ⟨n, D, hpo⟩ := h.pc
  refine ⟨bv', ⟨hB', hN', h2, ⟨n, D, ownsMap_but hpo h3 hpc⟩, h.Nwr, h.Nwk, h.Nmm, h.Nnm, h.Npc, h.mn, h.mp, h.np⟩, hb', h3.below h0.N (fun x hx => ?_)⟩
  rcases List.mem_cons.1 hx with rfl | hx
  · exact h.Nmm
  · exact (h0.fp x hx).1

theorem WS.still {X : WEnv} {ag : List Nat} {val : Nat → Nat} {out : List UInt8} {bv : Value} {met : List Nat} {w w' : World} (h : WS X ag val out bv met w) (hb : But [] w w') : WS X ag val out bv met w' := by
  obtain ⟨n, D, hpo⟩ := h.pc
  exact ⟨h.bw.frame hb (by simp) (by simp), h.nm.but hb (by simp), h.wk.but hb (by simp) (by simp), ⟨n, D, ownsMap_but hpo hb (by simp)⟩, h.Nwr, h.Nwk, h.Nmm, h.Nnm, h.Npc, h.mn, h.mp, h.np⟩

set_option maxRecDepth 20000 in
set_option maxHeartbeats 2000000 in
theorem wTell_any (X : WEnv) (ag : List Nat) (val : Nat → Nat) (hval : ∀ x, val x = rankOf ag x) (bv : Value) (met : List Nat) (w : World) (h : WS X ag val [] bv met w) (an : Nat) (nv : Value) (rows : List Row) (base : Nat) (hW : Whole (rows.map Row.n)) (hBs : Bs X an nv rows base w) (k : Nat) (hk : k < rows.length) (met' : List Nat) (out : List UInt8)
    (hS : comeS (rows.map Row.n) (tFirst (rows.map Row.n) ag) (tAgain (rows.map Row.n) ag) (tFin (rows.map Row.n)) 101 k none ([], []) = some (met', out)) :
    Calls Tryz.prog 47 #[wpt X, .int .i64 (k : Int)] w fun e w' => e = .returned (.tuple #[]) ∧ SPost X ag val out w w' := by
  have hbA : But [] w (w.alloc (.cells #[wpt X] 63)) := alloc_but _ _
  have hBA : Blk (w.alloc (.cells #[wpt X] 63)) w.heap.size #[wpt X] 63 := blk_new _ _ _
  have hA := h.still hbA
  have hNb : X.N ≤ w.heap.size := h.bw.N
  have hBsA := hBs.below (hbA.below hNb (by simp))
  have c1 := hA.bw.cell.2.1
  have hd : But [] (w.alloc (.cells #[wpt X] 63)) (w.alloc (.cells #[wpt X] 63)).drew := (But.refl [] _).drew
  have hWd := hA.still hd
  have hBd := hd.blk hBA (by simp)
  have HWK : Hid _ := walk_tell X w.heap.size an nv rows base h.Nwr hW ag val hval k hk met met' [] out hS (w.heap.size :: X.nm :: X.wr :: own bv) _ (hBsA.below (hd.below (Nat.le_trans hNb hbA.size) (by simp))) ⟨bv, hBd, hWd.bw, hWd.nm, rfl⟩ hWd.wk (hWd.bx_no hBd hNb).1
  have HWD : Hid _ := hWd
  have HBD : Hid _ := hBd
  have HDD : Hid _ := hd
  have HBB : Hid _ := hbA
  clear hA h hBs hBsA hS hBA hbA hWd hBd hd
  go_enter Tryz.func47, Tryz.ntmps47
  go_wp2_with fail
  refine region_tail 10 (by kernel_rfl) (by kernel_rfl) ?_
  simp only [List.take_succ_cons, List.take_zero, List.drop_succ_cons, List.drop_zero]
  repeat still_step
  refine wpStill_nil ?_
  go_wp2_with fail
  refine Calls.mono HWK.out ?_
  rintro e w2 ⟨rfl, hp⟩
  go_wp2_with fail
  go_end0
  obtain ⟨bv2, q1, q2, q3⟩ := WS.walked (V := VT X w.heap.size ag val) (st' := out) (ag' := ag) (val' := val) (out' := out) (met' := met') HWD.out HBD.out hNb (fun _ h => h) hp
  exact ⟨rfl, ⟨bv2, met', q1⟩, ((HBB.out.trans HDD.out (by simp)).below hNb (by simp)).trans q3⟩

end Go.Proofs.YtkflkmmbakccoaaGreatDoor

/- WALKS: package write: giveNames. -/
namespace Go.Proofs.YtkflkmmbakccoaaGreatDoor
open Go.RowKit Go.Maps

/-- The numbers while they are given. -/
def valTo (ag : List Nat) (k : Nat) (x : Nat) : Nat := if rankOf ag x < k then rankOf ag x else 0

theorem NmOk.lt {X : WEnv} {ag : List Nat} {val : Nat → Nat} {w : World} (h : NmOk X ag val w) : ∀ x ∈ ag, x < 1000 := by
  obtain ⟨L, D, hL, _⟩ := h
  exact fun x hx => hL.2.2 x ((hL.2.1 x).2 hx)

set_option maxRecDepth 20000 in
set_option maxHeartbeats 1000000 in
theorem wGive_any (X : WEnv) (bv : Value) (met : List Nat) (w : World) (h : WS X [] (fun _ => 0) [] bv met w) (an : Nat) (nv : Value) (rows : List Row) (base : Nat) (hW : Whole (rows.map Row.n)) (hBs : Bs X an nv rows base w) (k : Nat) (hk : k < rows.length) (met' ag : List Nat)
    (hS : comeS (rows.map Row.n) nFirst nAgain nFin 101 k none ([], []) = some (met', ag)) :
    Calls Tryz.prog 46 #[wpt X, .int .i64 (k : Int)] w fun e w' => e = .returned (.tuple #[]) ∧ SPost X ag (rankOf ag) [] w w' := by
  have hbA : But [] w (w.alloc (.cells #[wpt X] 63)) := alloc_but _ _
  have hBA : Blk (w.alloc (.cells #[wpt X] 63)) w.heap.size #[wpt X] 63 := blk_new _ _ _
  have hA := h.still hbA
  have hNb : X.N ≤ w.heap.size := h.bw.N
  have hBsA := hBs.below (hbA.below hNb (by simp))
  have c1 := hA.bw.cell.2.1
  have x0 := hBA.cell (i := 0) rfl
  have HWK : Hid _ := walk_names X w.heap.size an nv rows base h.Nwr hW k hk met met' [] ag hS (w.heap.size :: X.nm :: X.wr :: own bv) _ hBsA ⟨bv, hBA, hA.bw, hA.nm, rfl⟩ hA.wk (hA.bx_no hBA hNb).1
  have HA : Hid _ := hA
  have HBA : Hid _ := hBA
  have HBB : Hid _ := hbA
  clear hA h hBs hBsA hS hBA hbA
  go_enter Tryz.func46, Tryz.ntmps46
  go_wp2_with fail
  refine Calls.mono HWK.out ?_
  rintro e w1 ⟨rfl, hp⟩
  obtain ⟨bv1, q1, q2, q3⟩ := WS.walked (V := VN X w.heap.size) (st' := ag) (ag' := ag) (val' := fun _ => 0) (out' := []) (met' := met') HA.out HBA.out hNb (fun _ h => h) hp
  have x1 := q2.cell (i := 0) rfl
  have d2 := q1.bw.cell.2.2.1
  have hlt := q1.nm.lt
  obtain ⟨L, D, hL, hown, h2, h3, h4⟩ := q1.nm
  have hLl := nodup_lt_length 1000 L hL.1 hL.2.2
  have hsz := hown.size_le
  have HSO : Hid _ := sorted_any X.nm L.length D _ w1 hown (by omega)
  have HQ1 : Hid _ := q1
  have HQ2 : Hid _ := q2
  have HSN : Hid (∀ ss : List Int, ss.Perm (intKeys D) → ss.mergeSort (fun x y => decide (x ≤ y)) = (namesL ag 1000).map (fun (i : Nat) => (i : Int))) := fun ss hp => sorted_names hown h2 h4 hlt hp
  have HLT : Hid _ := hlt
  clear HWK hp x0 c1 hL hown h2 h3 h4 hLl hsz q1 q2 hlt HA HBA
  go_wp2_with fail
  refine (keys_any X.nm w1).mono ?_
  rintro e w2 ⟨rfl, hw2⟩
  rw [hw2]
  clear hw2 x1 d2
  go_wp2_with fail
  refine Calls.mono HSO.out ?_
  rintro e w3 ⟨v, ss, rfl, hperm, hrow, hnil, hbel⟩
  rw [HSN.out ss hperm] at hrow
  have hb3 : But [] w1 w3 := by
    have h1 : But [] w1 (w1.alloc (.cells #[.map (some X.nm)] 93)) := alloc_but _ _
    exact ⟨hbel.os.trans h1.os, hbel.tape.trans h1.tape, hbel.output.trans h1.output, Nat.le_trans h1.size hbel.size, fun i hi _ => by
      rw [hbel.block i (by simp; omega)]
      exact h1.block i hi (by simp)⟩
  have hW3 := HQ1.out.still hb3
  have hB3 := hb3.blk HQ2.out (by simp)
  have hsl : ss.length = (namesL ag 1000).length := by
    have := hrow.1
    simpa using this.symm
  obtain ⟨va, vcap, rfl, hvc⟩ := own_shape hrow
  rw [hsl] at hrow hvc
  have hnl : (namesL ag 1000).length ≤ 1000 := by
    have := List.length_filter_le (fun j => decide (j ∈ ag)) (List.range 1000)
    simpa [namesL] using this
  have HROW : Hid _ := hrow
  have HW3 : Hid _ := hW3
  have HB3 : Hid (Blk w3 w.heap.size #[wpt X] 63) := hB3
  have HBE : Hid (Below X.N w w3) := ((HBB.out.below hNb (by simp)).trans q3).trans (hb3.below (Nat.le_trans hNb (Nat.le_trans HBB.out.size q3.size)) (by simp))
  rw [hsl]
  clear hnil hbel hb3 hW3 hB3 hrow hsl hperm HSO HQ1 HQ2 HSN hvc q3
  go_wp2_with fail
  go_loopw [21] (fun i wr => ∃ j : Nat, j ≤ (namesL ag 1000).length ∧ i = .int .i64 (j : Int) ∧ NmOk X ag (valTo ag j) wr ∧ But [X.nm] w3 wr) (fun i _ => (namesL ag 1000).length - (intOf i).toNat)
  case atStart => exact ⟨0, Nat.zero_le _, rfl, HW3.out.nm.congr (fun _ => Iff.rfl) (fun x _ => by simp [valTo]), But.refl _ _⟩
  case round =>
    obtain ⟨j, hj, rfl, hnm, hbr⟩ := hrel
    have hnmw : X.nm ≠ w.heap.size := fun e => by
      obtain ⟨L, D, _, h1, _⟩ := HW3.out.nm
      have := HB3.out
      rw [← e] at this
      exact this.not_map h1
    have hBr := hbr.blk HB3.out (by simpa using fun e => hnmw e.symm)
    by_cases hjl : j < (namesL ag 1000).length
    · have hx := namesL_mem.1 (List.getElem_mem hjl)
      have hrk := namesL_rank ag 1000 j _ (List.getElem?_eq_getElem hjl)
      obtain ⟨vb, cap', e2, _, _, hcell⟩ := row1_cell HROW.out (by omega)
      obtain ⟨rfl, rfl⟩ : va = some ⟨vb, 0, none⟩ ∧ vcap = cap' := by simpa using e2
      have hvn : vb ≠ X.nm := fun e => by
        obtain ⟨_, cs, hc⟩ := ownsRow_lt HROW.out (x := vb) (by simp [own])
        obtain ⟨L, D, _, h1, _⟩ := HW3.out.nm
        rw [e] at hc
        exact hc.not_map h1
      have hcj : wr.cell? ⟨vb, j, none⟩ = some (.int .i64 ((namesL ag 1000)[j] : Int)) := by
        have h1 := hcell j (.int .i64 ((namesL ag 1000)[j] : Int)) (by simp [hjl, encZ])
        obtain ⟨_, cs, hc⟩ := ownsRow_lt HROW.out (x := vb) (by simp [own])
        simp only [World.cell?] at h1 ⊢
        rw [hbr.block vb hc.lt (by simpa using hvn)]
        exact h1
      have hnr : X.nm ≠ X.wr := fun e => nmap_apart HW3.out.nm HW3.out.bw (by rw [e]; exact List.mem_cons_self ..)
      have hno : ∀ x ∈ own bv1, x ∉ [X.nm] := fun x hx hy => nmap_apart HW3.out.nm HW3.out.bw (by rw [← List.mem_singleton.1 hy]; exact List.mem_cons_of_mem _ hx)
      have y0 := hBr.cell (i := 0) rfl
      have y2 := (HW3.out.bw.frame hbr (by simpa using fun e => hnr e.symm) hno).cell.2.2.1
      obtain ⟨L, D, hL, hown, h2, h3, h4⟩ := hnm
      have hLl := nodup_lt_length 1000 L hL.1 hL.2.2
      have hT := hown.tidy lawI
      have hsz := hown.size_le
      have HK : Hid _ := hx
      have HR : Hid _ := hrk
      have H2 : Hid _ := h2
      have H3 : Hid _ := h3
      have H4 : Hid _ := h4
      generalize (namesL ag 1000)[j] = x at *
      have hxl : x ≤ 1000000 := by omega
      clear h2 h3 h4 hrk hx e2 hcell
      go_wp2_with (at_mapUpdate; refine wpList_mapUpdate_own _ rfl _ _ _ 93 rfl 3 3 lawI Tryz.underlying93 _ X.nm L.length D rfl hown (by unfold maxLen; omega) _ _ _ rfl rfl (keyI hxl) _ [] (plainElem_int Tryz.underlying3 (WalkArith.wf_i64 (by omega))) ?_)
      intro w4 hown4 hgrow4
      go_wp2_with fail
      go_roundw
      case rel =>
        refine ⟨j + 1, by omega, by go_num, ?_, hbr.trans (grown_butB hgrow4) (fun x hx => .inl hx)⟩
        have hput := NmOk.put (X := X) (val' := valTo ag (j + 1)) hL HK.out.1 hT H2.out H3.out H4.out hsz (by unfold valTo; rw [HR.out, if_pos (by omega)]) (fun y hy hne => by
          unfold valTo
          have : rankOf ag y ≠ j := fun e => hne (rankOf_inj hy HK.out.2 (by rw [e, HR.out]))
          by_cases hlt : rankOf ag y < j
          · rw [if_pos hlt, if_pos (by omega)]
          · rw [if_neg hlt, if_neg (by omega)]) hown4
        exact hput.congr (fun y => by
          rw [List.mem_cons]
          exact ⟨fun h => by rcases h with rfl | h; exact HK.out.2; exact h, fun h => .inr h⟩) (fun _ _ => rfl)
      case measure => simp [intOf]; omega
    · go_wp2_with fail
      go_end0
      have hnr : X.nm ≠ X.wr := fun e => nmap_apart HW3.out.nm HW3.out.bw (by rw [e]; exact List.mem_cons_self ..)
      have hno : ∀ x ∈ own bv1, x ∉ [X.nm] := fun x hx hy => nmap_apart HW3.out.nm HW3.out.bw (by rw [← List.mem_singleton.1 hy]; exact List.mem_cons_of_mem _ hx)
      have hS := HW3.out
      obtain ⟨n, Dp, hpo⟩ := hS.pc
      have hwkn : X.wk ≠ X.nm := fun e => by
        obtain ⟨L, D, _, h1, _⟩ := hS.nm
        have := hS.wk.1
        rw [e] at this
        exact this.not_map h1
      have hnm' : NmOk X ag (rankOf ag) wr := hnm.congr (fun _ => Iff.rfl) (fun x hx => by
        unfold valTo
        rw [if_pos]
        have hm : x ∈ namesL ag 1000 := namesL_mem.2 ⟨HLT.out x hx, hx⟩
        obtain ⟨i, hi, e⟩ := List.mem_iff_getElem.1 hm
        have := namesL_rank ag 1000 i x (by rw [List.getElem?_eq_getElem hi, e])
        omega)
      refine ⟨rfl, ⟨bv1, met', ⟨hS.bw.frame hbr (by simpa using fun e => hnr e.symm) hno, hnm', hS.wk.but hbr (by simpa using hwkn) (by simpa using hS.mn), ⟨n, Dp, ownsMap_but hpo hbr (by simpa using fun e => hS.np e.symm)⟩, hS.Nwr, hS.Nwk, hS.Nmm, hS.Nnm, hS.Npc, hS.mn, hS.mp, hS.np⟩⟩, HBE.out.trans (hbr.below hS.bw.N (fun x hx => by rw [List.mem_singleton.1 hx]; exact hS.Nnm))⟩

end Go.Proofs.YtkflkmmbakccoaaGreatDoor

/- WALKS: package graph: NewWalker; package write: NewWriter, begin, Plain; package grafter: Plain. -/
namespace Go.Proofs.YtkflkmmbakccoaaGreatDoor
open Go.RowKit Go.Maps

set_option maxHeartbeats 400000 in
theorem newWalker_any (g : Nat) (w : World) :
    Calls Tryz.prog 44 #[.pointer (some ⟨g, 0, none⟩)] w fun e w' => e = .returned (.pointer (some ⟨w.heap.size + 1, 0, none⟩)) ∧ w' = (w.alloc (.map #[] 0)).alloc (.cells #[.pointer (some ⟨g, 0, none⟩), .map (some w.heap.size)] 121) := by
  have hmm := @run_makeMap Tryz.prog
  go_enter Tryz.func44, Tryz.ntmps44
  go_wp2_with fail
  go_ret
  exact ⟨rfl, rfl⟩

/-- The writer's blocks, made when the heap had N. -/
def wenv (N g : Nat) : WEnv := ⟨N, g, N + 4, N + 1, N, N + 2, N + 3⟩

theorem NmOk.empty {X : WEnv} {w : World} {n : Nat} {D : DataW Unit} (h : w.ownsMap Tryz.prog 3 (plainElem Tryz.prog 3) X.nm n D) (hD : D = .map []) (hn : n = 0) : NmOk X [] (fun _ => 0) w := by
  subst hD hn
  exact ⟨[], .map [], ⟨(by simp), (fun x => Iff.rfl), (fun x hx => by cases hx)⟩, h, (fun x => by simp [Maps.has]), (fun x hx => by cases hx), (fun k hk => by simp [Maps.has] at hk)⟩

set_option maxHeartbeats 1000000 in
theorem newWriter_any (g : Nat) (w : World) :
    Calls Tryz.prog 30 #[.pointer (some ⟨g, 0, none⟩)] w fun e w' => e = .returned (wpt (wenv w.heap.size g)) ∧ WS (wenv w.heap.size g) [] (fun _ => 0) [] (.slice none 0 0) [] w' ∧ But [] w w' := by
  have hmm := @run_makeMap Tryz.prog
  go_enter Tryz.func30, Tryz.ntmps30
  go_wp2_with fail
  refine (newWalker_any g w).mono ?_
  rintro e w1 ⟨rfl, hw1⟩
  have HW1 : Hid _ := hw1
  have hs1 : w1.heap.size = w.heap.size + 2 := by rw [hw1]; simp
  clear hw1
  have key : ∀ W, W = ((w1.alloc (.map #[] 0)).alloc (.map #[] 0)).alloc (.cells (wcells (wenv w.heap.size g) (.pointer none) (.slice none 0 0)) 100) → WS (wenv w.heap.size g) [] (fun _ => 0) [] (.slice none 0 0) [] W ∧ But [] w W := by
    intro W bW
    have m1 : (w.alloc (.map #[] 0)).ownsMap Tryz.prog 3 (unitElem (H := Unit)) w.heap.size 0 (.map []) := World.ownsMap_made _ _ _ _
    have m1' : w1.ownsMap Tryz.prog 3 (unitElem (H := Unit)) w.heap.size 0 (.map []) := by rw [HW1.out]; exact m1.alloc _
    have b1 : Blk w1 (w.heap.size + 1) #[.pointer (some ⟨g, 0, none⟩), .map (some w.heap.size)] 121 := by
      rw [HW1.out]
      have := blk_new (w.alloc (.map #[] 0)) #[.pointer (some ⟨g, 0, none⟩), .map (some w.heap.size)] 121
      simpa using this
    have m2 : (w1.alloc (.map #[] 0)).ownsMap Tryz.prog 3 (plainElem (H := Unit) Tryz.prog 3) w1.heap.size 0 (.map []) := World.ownsMap_made _ _ _ _
    have m3 : ((w1.alloc (.map #[] 0)).alloc (.map #[] 0)).ownsMap Tryz.prog 3 pieceElem (w1.alloc (.map #[] 0)).heap.size 0 (.map []) := World.ownsMap_made _ _ _ _
    have e3 : (w1.alloc (.map #[] 0)).heap.size = w.heap.size + 3 := by simp [hs1]
    rw [e3] at m3
    rw [hs1] at m2
    have b4 : Blk W (w.heap.size + 4) (wcells (wenv w.heap.size g) (.pointer none) (.slice none 0 0)) 100 := by
      rw [bW]
      have := blk_new ((w1.alloc (.map #[] 0)).alloc (.map #[] 0)) (wcells (wenv w.heap.size g) (.pointer none) (.slice none 0 0)) 100
      simpa [hs1] using this
    have hb1 : But [] w w1 := by rw [HW1.out]; exact (alloc_but _ _).alloc _
    have hbW : But [] w1 W := by rw [bW]; exact ((alloc_but _ _).alloc _).alloc _
    have m2' : W.ownsMap Tryz.prog 3 (plainElem (H := Unit) Tryz.prog 3) (w.heap.size + 2) 0 (.map []) := by rw [bW]; exact (m2.alloc _).alloc _
    have m3' : W.ownsMap Tryz.prog 3 pieceElem (w.heap.size + 3) 0 (.map []) := by rw [bW]; exact m3.alloc _
    exact ⟨⟨⟨Nat.le_trans hb1.size hbW.size, ⟨.pointer none, .inl rfl, b4⟩, World.ownsRowF_nil _ _ _ _⟩, NmOk.empty m2' rfl rfl, ⟨hbW.blk b1 (by simp), .map [], ownsMap_but m1' hbW (by simp), fun x => by simp [Maps.has]⟩, ⟨0, _, m3'⟩, by simp [wenv], by simp [wenv], by simp [wenv], by simp [wenv], by simp [wenv], by simp [wenv], by simp [wenv], by simp [wenv]⟩, hb1.trans hbW (by simp)⟩
  have HK : Hid _ := key
  clear key
  go_wp2_with fail
  go_ret
  exact ⟨rfl, HK.out _ rfl⟩

set_option maxHeartbeats 1000000 in
/-- begin: all of what was told last is forgotten. -/
theorem wBegin_any (X : WEnv) (ag : List Nat) (val : Nat → Nat) (out : List UInt8) (bv : Value) (met : List Nat) (w : World) (h : WS X ag val out bv met w) :
    Calls Tryz.prog 45 #[wpt X] w fun e w' => e = .returned (.tuple #[]) ∧ WS X [] (fun _ => 0) [] (.slice none 0 0) met w' ∧ (∃ n, n = 0 ∧ w'.ownsMap Tryz.prog 3 pieceElem X.pc n (.map [])) ∧ Below X.N w w' := by
  have hap := nmap_apart h.nm h.bw
  obtain ⟨L, D, hL, hown, h2, h3, h4⟩ := h.nm
  obtain ⟨np, Dp, hpo⟩ := h.pc
  obtain ⟨w1, hcl1, ho1, hb1⟩ := run_clear hown Tryz.underlying93
  have hpo1 := ownsMap_but hpo hb1 (by simpa using fun e => h.np e.symm)
  obtain ⟨w2, hcl2, ho2, hb2⟩ := run_clear hpo1 Tryz.underlying94
  have hbw1 := h.bw.frame hb1 (fun hx => hap (by rw [← List.mem_singleton.1 hx]; exact List.mem_cons_self ..)) (fun x hx hy => hap (by rw [← List.mem_singleton.1 hy]; exact List.mem_cons_of_mem _ hx))
  have hpx : X.pc ∉ X.wr :: own bv := fun hx => by
    rcases List.mem_cons.1 hx with e | hx
    · obtain ⟨A, _, hB⟩ := h.bw.blk
      rw [← e] at hB
      exact hB.not_map hpo
    · obtain ⟨_, cs', fz, hg⟩ := ownsRowF_mem h.bw.row hx
      obtain ⟨es, clock, h3⟩ := ownsMap_block hpo
      rw [hg] at h3
      simp at h3
  have hbw2 := hbw1.frame hb2 (fun hx => hpx (by rw [← List.mem_singleton.1 hx]; exact List.mem_cons_self ..)) (fun x hx hy => hpx (by rw [← List.mem_singleton.1 hy]; exact List.mem_cons_of_mem _ hx))
  have hwk1 := h.wk.but hb1 (by
    intro e
    have := h.wk.1
    rw [List.mem_singleton.1 e] at this
    exact this.not_map hown) (by simpa using h.mn)
  have hwk2 := hwk1.but hb2 (by
    intro e
    have := h.wk.1
    rw [List.mem_singleton.1 e] at this
    exact this.not_map hpo) (by simpa using h.mp)
  have ho12 := ownsMap_but ho1 hb2 (by simpa using h.np)
  have HR : Hid _ := bReset_any X out bv w2 hbw2
  have c2 := h.bw.cell.2.2.1
  have c3 := hbw1.cell.2.2.2
  have HB : Hid (Below X.N w w2) := (hb1.below h.bw.N (fun x hx => by rw [List.mem_singleton.1 hx]; exact h.Nnm)).trans (hb2.below (Nat.le_trans h.bw.N hb1.size) (fun x hx => by rw [List.mem_singleton.1 hx]; exact h.Npc))
  have HH : Hid _ := h
  have hnwr : X.nm ≠ X.wr := fun e => hap (by rw [e]; exact List.mem_cons_self ..)
  have hpwr : X.pc ≠ X.wr := fun e => hpx (by rw [e]; exact List.mem_cons_self ..)
  have H1 : Hid (WkOk X met w2) := hwk2
  have H2 : Hid _ := ho12
  have H3 : Hid _ := ho2
  have hwkwr : X.wk ≠ X.wr := fun e => by
    obtain ⟨A, _, hB⟩ := hbw2.blk
    have := hwk2.1
    rw [e] at this
    exact absurd (this.inj hB).2 (by decide)
  have hmwr : X.m ≠ X.wr := fun e => by
    obtain ⟨A, _, hB⟩ := hbw2.blk
    obtain ⟨_, D, hm, _⟩ := hwk2
    rw [e] at hm
    exact hB.not_map hm
  have HN : Hid (X.N ≤ w2.heap.size) := hbw2.N
  have HNE : Hid (X.nm ≠ X.wr ∧ X.pc ≠ X.wr ∧ X.wk ≠ X.wr ∧ X.m ≠ X.wr) := ⟨hnwr, hpwr, hwkwr, hmwr⟩
  clear hown h2 h3 h4 hpo ho1 hb1 hpo1 ho2 hb2 hbw1 hbw2 hwk1 hwk2 ho12 h hL hap hpx hnwr hpwr hwkwr hmwr
  go_enter Tryz.func45, Tryz.ntmps45
  go_wp2_with fail
  refine Calls.mono HR.out ?_
  rintro e w3 ⟨rfl, hB3, hb3⟩
  go_wp2_with fail
  go_end0
  obtain ⟨n1, n2, n3, n4⟩ := HNE.out
  have hm2 := ownsMap_but H2.out hb3 (by simpa using n1)
  have hm3 := ownsMap_but H3.out hb3 (by simpa using n2)
  refine ⟨rfl, ⟨hB3, NmOk.empty hm2 rfl rfl, H1.out.but hb3 (by simpa using n3) (by simpa using n4), ⟨0, _, hm3⟩, HH.out.Nwr, HH.out.Nwk, HH.out.Nmm, HH.out.Nnm, HH.out.Npc, HH.out.mn, HH.out.mp, HH.out.np⟩, ⟨0, rfl, hm3⟩, HB.out.trans (hb3.below HN.out (fun x hx => by rw [List.mem_singleton.1 hx]; exact HH.out.Nwr))⟩

set_option maxHeartbeats 1000000 in
theorem wPlain_any (X : WEnv) (ag0 : List Nat) (val : Nat → Nat) (out : List UInt8) (bv : Value) (met : List Nat) (w : World) (h : WS X ag0 val out bv met w) (an : Nat) (nv : Value) (rows : List Row) (base : Nat) (hW : Whole (rows.map Row.n)) (hBs : Bs X an nv rows base w) (k : Nat) (hk : k < rows.length) :
    Calls Tryz.prog 31 #[wpt X, .int .i64 (k : Int)] w fun e w' => e = .returned (.string ⟨(plainM (rows.map Row.n) k).toArray⟩) ∧ Below X.N w w' := by
  obtain ⟨hc1, hc2, hpl⟩ := plain_come hW (k := k) (by simpa using hk)
  have hne : plainM (rows.map Row.n) k ≠ [] := plainM_ne hW (by simpa using hk)
  have HNE : Hid _ := hne
  have H1 : Hid _ := hc1
  have H2 : Hid _ := hc2
  have HB : Hid _ := wBegin_any X ag0 val out bv met w h
  clear hc1 hc2 hpl hne
  go_enter Tryz.func31, Tryz.ntmps31
  go_wp2_with fail
  refine Calls.mono HB.out ?_
  rintro e w1 ⟨rfl, hS1, _, hb1⟩
  have hBs1 := hBs.below hb1
  go_wp2_with fail
  refine (wGive_any X _ met w1 hS1 an nv rows base hW hBs1 k hk _ _ H1.out).mono ?_
  rintro e w2 ⟨rfl, ⟨bv2, met2, hS2⟩, hb2⟩
  have hBs2 := hBs1.below hb2
  go_wp2_with fail
  refine (wTell_any X _ _ (fun _ => rfl) bv2 met2 w2 hS2 an nv rows base hW hBs2 k hk _ _ H2.out).mono ?_
  rintro e w3 ⟨rfl, ⟨bv3, met3, hS3⟩, hb3⟩
  go_wp2_with fail
  refine (bString_any X _ bv3 w3 hS3.bw HNE.out).mono ?_
  rintro e w4 ⟨rfl, hB4, hb4⟩
  go_wp2_with fail
  go_ret
  exact ⟨rfl, ((hb1.trans hb2).trans hb3).trans (hb4.below hS3.bw.N (fun x hx => (ownsRowF_mem hS3.bw.row hx).1))⟩

/-- A doc: its graph is whole. -/
theorem below_but {w w' : World} (h : Below w.heap.size w w') : But [] w w' := ⟨h.os, h.tape, h.output, h.size, fun k hk _ => h.block k hk⟩

set_option maxHeartbeats 1000000 in
theorem dPlain_any (E : Env) (t : PS) (nv : Value) (rows : List Row) (w : World) (h : PInv E t nv rows w) (hn : 0 < rows.length) (hW : Whole t.nodes) (N0 : Nat) (hT : Tabs N0 w) (hN0 : N0 ≤ w.heap.size) (d : Nat) (hd : Blk w d #[.pointer (some ⟨E.g, 0, none⟩)] 59) :
    Calls Tryz.prog 19 #[.pointer (some ⟨d, 0, none⟩)] w fun e w' => e = .returned (.string ⟨(plainM t.nodes 0).toArray⟩) ∧ But [] w w' := by
  have hsame := h.same
  have c0 : w.cell? ⟨d, 0, none⟩ = some (.pointer (some ⟨E.g, 0, none⟩)) := hd.cell rfl
  have hGI : GI (wenv w.heap.size E.g) t.anchors nv rows E.base w := h.toGI _ rfl rfl
  have HGI : Hid (Bs (wenv w.heap.size E.g) t.anchors nv rows E.base w) := ⟨hGI, hT.mono hN0⟩
  rw [hsame] at hW
  have HS : Hid _ := hsame
  clear hsame hGI h hT
  go_enter Tryz.func19, Tryz.ntmps19
  go_wp2_with fail
  refine (isNothing_any d E.g w hd).mono ?_
  rintro e w1 ⟨rfl, hw1⟩
  rw [hw1]
  clear hw1
  go_wp2_with fail
  refine (newWriter_any E.g w).mono ?_
  rintro e w2 ⟨rfl, hS2, hb2⟩
  have hBs2 := HGI.out.below (hb2.below (Nat.le_refl _) (by simp))
  go_wp2_with fail
  refine (wPlain_any _ _ _ _ _ _ w2 hS2 t.anchors nv rows E.base hW hBs2 0 hn).mono ?_
  rintro e w3 ⟨rfl, hb3⟩
  go_wp2_with fail
  go_ret
  refine ⟨congrArg (fun l => Ending.returned (.string ⟨(plainM l 0).toArray⟩)) HS.out.symm, ?_⟩
  exact below_but ((hb2.below (Nat.le_refl _) (by simp)).trans hb3)

end Go.Proofs.YtkflkmmbakccoaaGreatDoor
