/- PARTS: B13, B18, B19, B20, B21. -/
import Derived.Test.YtkflkmmbakccoaaGreatDoorJ24
import Derived.StillTailTactics
import Derived.Test.YtkflkmmbakccoaaGreatDoorJ16

/- WALKS: package write: giveNames, tell, begin. -/
namespace Go.Proofs.YtkflkmmbakccoaaGreatDoor
open Go.RowKit Go.Maps

/-- A region whose operations but the last ones only read, in the order of the text. -/
theorem region_tail {P : Program} {id : Nat} {Q : Exit → Act → World → Prop} {a : Act} {w : World} {l : List Oper} (n : Nat) (hm : P.follows .mixedOrders = true) (hB : Region.lexTailB .any l.toArray n = true)
    (h : wpStill P l.toArray w.drew (fun a' => wpList P l.toArray Q (l.drop n) a' w.drew) (l.take n) a) : (Code.region id l.toArray true).wp P Q a w := wp_region_still_tail n hm hB h

/-- How a piece reads. -/
def pieceElem : Value → Option (DataW Unit × List MemPlace)
  | .agg c => match c.toList with
    | [.int .i64 a, .int .i64 b] => some (.agg [.lit (.int .i64 a), .lit (.int .i64 b)], [])
    | _ => none
  | _ => none

/-- The writer and all that belongs to it. -/
structure WS (X : WEnv) (ag : List Nat) (val : Nat → Nat) (out : List UInt8) (bv : Value) (met : List Nat) (w : World) : Prop where
  bw : BW X out bv w
  nm : NmOk X ag val w
  wk : WkOk X met w
  pc : ∃ (n : Nat) (D : DataW Unit), w.ownsMap Tryz.prog 3 pieceElem X.pc n D
  Nwr : X.N ≤ X.wr
  Nwk : X.N ≤ X.wk
  Nmm : X.N ≤ X.m
  Nnm : X.N ≤ X.nm
  Npc : X.N ≤ X.pc
  mn : X.m ≠ X.nm
  mp : X.m ≠ X.pc
  np : X.nm ≠ X.pc

theorem WS.bx_no {X : WEnv} {ag : List Nat} {val : Nat → Nat} {out : List UInt8} {bv : Value} {met : List Nat} {w : World} (h : WS X ag val out bv met w) {bx : Nat} (hb : Blk w bx #[wpt X] 63) (hN : X.N ≤ bx) : C0 X (bx :: X.nm :: X.wr :: own bv) w ∧ X.pc ∉ X.m :: bx :: X.nm :: X.wr :: own bv := by
  obtain ⟨hwB, D, hmo, _⟩ := h.wk
  obtain ⟨L, Dn, _, hno, _⟩ := h.nm
  obtain ⟨n, Dp, hpo⟩ := h.pc
  obtain ⟨A, _, hwr⟩ := h.bw.blk
  have key : ∀ {b cs T}, Blk w b cs T → T ≠ 63 → T ≠ 100 → T ≠ 5 → b ∉ bx :: X.nm :: X.wr :: own bv := fun {b cs T} h1 t1 t2 t3 hx => by
    simp only [List.mem_cons] at hx
    rcases hx with rfl | rfl | rfl | hx
    · exact t1 (h1.inj hb).2
    · exact h1.not_map hno
    · exact t2 (h1.inj hwr).2
    · obtain ⟨_, cs', fz, hg⟩ := ownsRowF_mem h.bw.row hx
      unfold Blk at h1
      rw [hg] at h1
      simp only [Option.some.injEq, Obj.cells.injEq] at h1
      exact t3 h1.2.1.symm
  have keyM : ∀ {b n : Nat} {R : Value → Option (DataW Unit × List MemPlace)} {D : DataW Unit}, w.ownsMap Tryz.prog 3 R b n D → b ≠ X.nm → b ∉ bx :: X.nm :: X.wr :: own bv := fun {b n R D} h1 h2 hx => by
    simp only [List.mem_cons] at hx
    rcases hx with rfl | rfl | rfl | hx
    · exact hb.not_map h1
    · exact h2 rfl
    · exact hwr.not_map h1
    · obtain ⟨_, cs', fz, hg⟩ := ownsRowF_mem h.bw.row hx
      obtain ⟨es, clock, h3⟩ := ownsMap_block h1
      rw [hg] at h3
      simp at h3
  refine ⟨⟨h.bw.N, fun x hx => ?_, key hwB (by decide) (by decide) (by decide), keyM hmo h.mn, hwB.lt, hmo.lt, h.Nmm⟩, fun hx => ?_⟩
  · refine ⟨?_, VT.lt (X := X) (bx := bx) (ag := ag) (val := val) (out := out) ⟨bv, hb, h.bw, h.nm, rfl⟩ x hx⟩
    simp only [List.mem_cons] at hx
    rcases hx with rfl | rfl | rfl | hx
    · exact hN
    · exact h.Nnm
    · exact h.Nwr
    · exact (ownsRowF_mem h.bw.row hx).1
  · rcases List.mem_cons.1 hx with e | hx
    · exact h.mp e.symm
    · exact keyM hpo (Ne.symm h.np) hx

/-- What a writer's method leaves: only what is its own is written. -/
def SPost (X : WEnv) (ag : List Nat) (val : Nat → Nat) (out : List UInt8) (w w' : World) : Prop :=
  (∃ bv' met', WS X ag val out bv' met' w') ∧ Below X.N w w'

/-- A walk's end, in the writer's words. -/
theorem WS.walked {X : WEnv} {ag ag' : List Nat} {val val' : Nat → Nat} {out out' : List UInt8} {bv : Value} {met : List Nat} {w : World} (h : WS X ag val out bv met w) {bx : Nat} (hb : Blk w bx #[wpt X] 63) (hN : X.N ≤ bx) {met' : List Nat} {w' : World} {σ : Type} {V : σ → List Nat → World → Prop} {st' : σ} (hv : ∀ fp, V st' fp w' → VT X bx ag' val' out' fp w')
    (hp : CPost V X (bx :: X.nm :: X.wr :: own bv) w met' st' w') : ∃ bv', WS X ag' val' out' bv' met' w' ∧ Blk w' bx #[wpt X] 63 ∧ Below X.N w w' := by
  obtain ⟨h0, hpc⟩ := h.bx_no hb hN
  obtain ⟨fp', h1, h2, h3, _⟩ := hp
  obtain ⟨bv', hb', hB', hN', rfl⟩ := hv _ h1
  obtain ⟨n, D, hpo⟩ := h.pc
  refine ⟨bv', ⟨hB', hN', h2, ⟨n, D, ownsMap_but hpo h3 hpc⟩, h.Nwr, h.Nwk, h.Nmm, h.Nnm, h.Npc, h.mn, h.mp, h.np⟩, hb', h3.below h0.N (fun x hx => ?_)⟩
  rcases List.mem_cons.1 hx with rfl | hx
  · exact h.Nmm
  · exact (h0.fp x hx).1

theorem WS.still {X : WEnv} {ag : List Nat} {val : Nat → Nat} {out : List UInt8} {bv : Value} {met : List Nat} {w w' : World} (h : WS X ag val out bv met w) (hb : But [] w w') : WS X ag val out bv met w' := by
  obtain ⟨n, D, hpo⟩ := h.pc
  exact ⟨h.bw.frame hb (by simp) (by simp), h.nm.but hb (by simp), h.wk.but hb (by simp) (by simp), ⟨n, D, ownsMap_but hpo hb (by simp)⟩, h.Nwr, h.Nwk, h.Nmm, h.Nnm, h.Npc, h.mn, h.mp, h.np⟩

set_option maxRecDepth 20000 in
set_option maxHeartbeats 2000000 in
theorem wTell_any (X : WEnv) (ag : List Nat) (val : Nat → Nat) (hval : ∀ x, val x = rankOf ag x) (bv : Value) (met : List Nat) (w : World) (h : WS X ag val [] bv met w) (an : Nat) (nv : Value) (rows : List Row) (base : Nat) (hW : Whole (rows.map Row.n)) (hBs : Bs X an nv rows base w) (k : Nat) (hk : k < rows.length) (met' : List Nat) (out : List UInt8)
    (hS : comeS (rows.map Row.n) (tFirst (rows.map Row.n) ag) (tAgain (rows.map Row.n) ag) (tFin (rows.map Row.n)) 101 k none ([], []) = some (met', out)) :
    Calls Tryz.prog 47 #[wpt X, .int .i64 (k : Int)] w fun e w' => e = .returned (.tuple #[]) ∧ SPost X ag val out w w' := by
  have hbA : But [] w (w.alloc (.cells #[wpt X] 63)) := alloc_but _ _
  have hBA : Blk (w.alloc (.cells #[wpt X] 63)) w.heap.size #[wpt X] 63 := blk_new _ _ _
  have hA := h.still hbA
  have hNb : X.N ≤ w.heap.size := h.bw.N
  have hBsA := hBs.below (hbA.below hNb (by simp))
  have c1 := hA.bw.cell.2.1
  have hd : But [] (w.alloc (.cells #[wpt X] 63)) (w.alloc (.cells #[wpt X] 63)).drew := (But.refl [] _).drew
  have hWd := hA.still hd
  have hBd := hd.blk hBA (by simp)
  have HWK : Hid _ := walk_tell X w.heap.size an nv rows base h.Nwr hW ag val hval k hk met met' [] out hS (w.heap.size :: X.nm :: X.wr :: own bv) _ (hBsA.below (hd.below (Nat.le_trans hNb hbA.size) (by simp))) ⟨bv, hBd, hWd.bw, hWd.nm, rfl⟩ hWd.wk (hWd.bx_no hBd hNb).1
  have HWD : Hid _ := hWd
  have HBD : Hid _ := hBd
  have HDD : Hid _ := hd
  have HBB : Hid _ := hbA
  clear hA h hBs hBsA hS hBA hbA hWd hBd hd
  go_enter Tryz.func47, Tryz.ntmps47
  go_wp2_with fail
  refine region_tail 10 (by kernel_rfl) (by kernel_rfl) ?_
  simp only [List.take_succ_cons, List.take_zero, List.drop_succ_cons, List.drop_zero]
  repeat still_step
  refine wpStill_nil ?_
  go_wp2_with fail
  refine Calls.mono HWK.out ?_
  rintro e w2 ⟨rfl, hp⟩
  go_wp2_with fail
  go_end0
  obtain ⟨bv2, q1, q2, q3⟩ := WS.walked (V := VT X w.heap.size ag val) (st' := out) (ag' := ag) (val' := val) (out' := out) (met' := met') HWD.out HBD.out hNb (fun _ h => h) hp
  exact ⟨rfl, ⟨bv2, met', q1⟩, ((HBB.out.trans HDD.out (by simp)).below hNb (by simp)).trans q3⟩

end Go.Proofs.YtkflkmmbakccoaaGreatDoor

/- WALKS: package write: the pieces of the line; copy. -/
namespace Go.Proofs.YtkflkmmbakccoaaGreatDoor
open Go.RowKit Go.Maps

/-- How a piece reads. -/
def pcD (p : Nat × Nat) : DataW Unit := .agg [.lit (.int .i64 (p.1 : Int)), .lit (.int .i64 (p.2 : Int))]

theorem pieceElem_mk (a b : Int) : pieceElem (.agg #[.int .i64 a, .int .i64 b]) = some (.agg [.lit (.int .i64 a), .lit (.int .i64 b)], []) := rfl

theorem pieceElem_inv {v : Value} {p : Nat × Nat} {ps : List MemPlace} (h : pieceElem v = some (pcD p, ps)) : v = .agg #[.int .i64 (p.1 : Int), .int .i64 (p.2 : Int)] := by
  unfold pieceElem at h
  split at h
  · rename_i c
    split at h
    · rename_i a b hc
      simp only [pcD, Option.some.injEq, Prod.mk.injEq, DataW.agg.injEq, List.cons.injEq, DataW.lit.injEq, Lit.int.injEq, true_and, and_true] at h
      obtain ⟨⟨rfl, rfl⟩, _⟩ := h
      obtain ⟨l⟩ := c
      simp only at hc
      rw [hc]
    · cases h
  · cases h

theorem zeroP (w : World) : (zeroValue 141).run Tryz.prog w = .ok (.agg #[.int .i64 0, .int .i64 0]) w := by kernel_rfl

/-- The pieces, in memory. -/
def PcOk (X : WEnv) (pcs : List (Nat × (Nat × Nat))) (w : World) : Prop :=
  ∃ (L : List Nat) (D : DataW Unit), (L.Nodup ∧ ∀ x ∈ L, x < 1000) ∧ w.ownsMap Tryz.prog 3 pieceElem X.pc L.length D ∧ (∀ x : Nat, Maps.has D (.int .i64 (x : Int)) = decide (x ∈ L)) ∧ ∀ x : Nat, D.atKey (.int .i64 (x : Int)) (pcD (0, 0)) = pcD (lookP pcs x)

theorem PcOk.but {X : WEnv} {pcs : List (Nat × (Nat × Nat))} {w w' : World} {S : List Nat} (h : PcOk X pcs w) (hb : But S w w') (hS : X.pc ∉ S) : PcOk X pcs w' := by
  obtain ⟨L, D, hn, h1, h2⟩ := h
  exact ⟨L, D, hn, ownsMap_but h1 hb hS, h2⟩

theorem PcOk.lt {X : WEnv} {pcs : List (Nat × (Nat × Nat))} {w : World} (h : PcOk X pcs w) : X.pc < w.heap.size := by
  obtain ⟨L, D, hn, h1, h2⟩ := h
  exact h1.lt

theorem PcOk.look {X : WEnv} {pcs : List (Nat × (Nat × Nat))} {w : World} (h : PcOk X pcs w) {id : Nat} (hb : id ≤ 1000000) : (Instr.lookup 94 (.map (some X.pc)) (.int .i64 (id : Int)) false).run Tryz.prog w = .ok (.agg #[.int .i64 ((lookP pcs id).1 : Int), .int .i64 ((lookP pcs id).2 : Int)]) w := by
  obtain ⟨L, D, _, h1, _, h3⟩ := h
  obtain ⟨v, ps, hrun, hv⟩ := h1.lookup lawI Tryz.underlying94 (zeroP _) (pieceElem_mk 0 0) (keyI hb)
  have e : D.atKey (.int .i64 (id : Int)) (.agg [.lit (.int .i64 0), .lit (.int .i64 0)]) = pcD (lookP pcs id) := h3 id
  rw [e] at hv
  rw [hrun, pieceElem_inv hv]

/-- A piece is laid into the map. -/
theorem PcOk.store {X : WEnv} {pcs : List (Nat × (Nat × Nat))} {w : World} (h : PcOk X pcs w) {id : Nat} (hid : id < 1000) (p : Nat × Nat) : ∃ w', (Instr.mapUpdate 94 (.map (some X.pc)) (.int .i64 (id : Int)) (.agg #[.int .i64 (p.1 : Int), .int .i64 (p.2 : Int)])).run Tryz.prog w = .ok () w' ∧ PcOk X ((id, p) :: pcs) w' ∧ But [X.pc] w w' := by
  obtain ⟨L, D, hL, h1, h2, h3⟩ := h
  have hLl := nodup_lt_length 1000 L hL.1 hL.2
  have hT := h1.tidy lawI
  have hs := h1.size_le
  obtain ⟨w', hrun, hown, hgrow⟩ := h1.update lawI Tryz.underlying94 (by unfold maxLen; omega) (keyI (n := id) (by omega)) (pieceElem_mk (p.1 : Int) (p.2 : Int))
  have hne : ∀ {x : Nat}, x ≠ id → (Lit.int .i64 (x : Int)) ≠ .int .i64 (id : Int) := fun hx e => hx (by simp only [Lit.int.injEq, true_and] at e; omega)
  have hat : ∀ x : Nat, (D.put (.int .i64 (id : Int)) (.agg [.lit (.int .i64 (p.1 : Int)), .lit (.int .i64 (p.2 : Int))])).atKey (.int .i64 (x : Int)) (pcD (0, 0)) = pcD (lookP ((id, p) :: pcs) x) := fun x => by
    by_cases e : x = id
    · subst e
      rw [atKey_put_same hT.isMap (isKeyI _), lookP_same]
      rfl
    · rw [atKey_put_other (hne e), h3 x, lookP_other pcs p e]
  have hhas : ∀ x : Nat, Maps.has (D.put (.int .i64 (id : Int)) (.agg [.lit (.int .i64 (p.1 : Int)), .lit (.int .i64 (p.2 : Int))])) (.int .i64 (x : Int)) = decide (x = id ∨ x ∈ L) := fun x => by
    by_cases e : x = id
    · subst e
      rw [has_put_same hT.isMap (isKeyI _)]
      simp
    · rw [has_put_other (hne e), h2 x]
      simp [e]
  refine ⟨w', hrun, ?_, grown_butB hgrow⟩
  by_cases hm : id ∈ L
  · have hsz : Maps.size (D.put (.int .i64 (id : Int)) (.agg [.lit (.int .i64 (p.1 : Int)), .lit (.int .i64 (p.2 : Int))])) ≤ L.length := by
      rw [size_put hT, h2 id]
      simpa [hm] using hs
    refine ⟨L, _, hL, (ownsMap_tight hown).mono hsz, fun x => ?_, hat⟩
    rw [hhas x]
    by_cases e : x = id
    · simp [e, hm]
    · simp [e]
  · refine ⟨id :: L, _, ⟨List.nodup_cons.2 ⟨hm, hL.1⟩, fun x hx => ?_⟩, by simpa using hown, fun x => ?_, hat⟩
    · rcases List.mem_cons.1 hx with rfl | hx
      · exact hid
      · exact hL.2 x hx
    · rw [hhas x]; simp

theorem pmap_apart {X : WEnv} {pcs : List (Nat × (Nat × Nat))} {w : World} (h : PcOk X pcs w) {out : List UInt8} {bv : Value} (hB : BW X out bv w) : X.pc ∉ X.wr :: own bv := by
  obtain ⟨n, D, _, h1, _⟩ := h
  obtain ⟨es, clock, h2⟩ := ownsMap_block h1
  intro hx
  rcases List.mem_cons.1 hx with e | hx
  · obtain ⟨A, _, hb⟩ := hB.blk
    unfold Blk at hb
    rw [← e, h2] at hb
    cases hb
  · obtain ⟨_, cs, fz, hg⟩ := ownsRowF_mem hB.row hx
    rw [h2] at hg
    cases hg

end Go.Proofs.YtkflkmmbakccoaaGreatDoor

/- WALKS: package write: the closures of unfold. -/
namespace Go.Proofs.YtkflkmmbakccoaaGreatDoor
open Go.RowKit Go.Maps

/-- What the unfolding keeps: the boxes with the writer's address and the bound, the writer, the pieces. -/
def VU (X : WEnv) (bx mb : Nat) (most : Int) (s : UnfS) (fp : List Nat) (w : World) : Prop :=
  ∃ bv, Blk w bx #[wpt X] 63 ∧ Blk w mb #[.int .i64 most] 3 ∧ BW X s.1 bv w ∧ PcOk X s.2 w ∧ fp = bx :: mb :: X.pc :: X.wr :: own bv

theorem VU.frame (X : WEnv) (bx mb : Nat) (most : Int) : VFrame (VU X bx mb most) := by
  intro st fp w w' S h hb hS
  obtain ⟨bv, h1, h0, h2, h3, rfl⟩ := h
  have hn : ∀ x ∈ bx :: mb :: X.pc :: X.wr :: own bv, x ∉ S := fun x hx hs => hS x hs hx
  exact ⟨bv, hb.blk h1 (hn _ (by simp)), hb.blk h0 (hn _ (by simp)), h2.frame hb (hn _ (by simp)) (fun x hx => hn x (by simp [hx])), h3.but hb (hn _ (by simp)), rfl⟩

theorem VU.lt {X : WEnv} {bx mb : Nat} {most : Int} {s : UnfS} {fp : List Nat} {w : World} (h : VU X bx mb most s fp w) : ∀ x ∈ fp, x < w.heap.size := by
  obtain ⟨bv, h1, h0, h2, h3, rfl⟩ := h
  intro x hx
  simp only [List.mem_cons] at hx
  rcases hx with rfl | rfl | rfl | rfl | hx
  · exact h1.lt
  · exact h0.lt
  · exact h3.lt
  · exact h2.lt
  · exact ownsRowF_lt h2.row hx

theorem mb_no {X : WEnv} {mb : Nat} {most : Int} {out : List UInt8} {bv : Value} {w : World} (h1 : Blk w mb #[.int .i64 most] 3) (h2 : BW X out bv w) : mb ∉ X.wr :: own bv := by
  intro hx
  rcases List.mem_cons.1 hx with e | hx
  · obtain ⟨A, _, hb⟩ := h2.blk
    rw [e] at h1
    exact absurd (h1.inj hb).2 (by decide)
  · obtain ⟨_, cs, fz, hg⟩ := ownsRowF_mem h2.row hx
    unfold Blk at h1
    rw [hg] at h1
    simp only [Option.some.injEq, Obj.cells.injEq] at h1
    exact absurd h1.2.1 (by decide)

/-- What the closures leave: the line, the pieces. -/
theorem VU.of {X : WEnv} {bx mb : Nat} {most : Int} {s s' : UnfS} {bv bv' : Value} {w w' : World} (h1 : Blk w bx #[wpt X] 63) (h0 : Blk w mb #[.int .i64 most] 3) (h2 : BW X s.1 bv w) (h3 : PcOk X s.2 w)
    (hB : BW X s'.1 bv' w') (hP : PcOk X s'.2 w') (hb : But (X.pc :: X.wr :: own bv) w w') (ho : ∀ x ∈ own bv', x ∈ own bv ∨ w.heap.size ≤ x) :
    ∃ fp', VU X bx mb most s' fp' w' ∧ But (bx :: mb :: X.pc :: X.wr :: own bv) w w' ∧ ∀ x ∈ fp', x ∈ bx :: mb :: X.pc :: X.wr :: own bv ∨ w.heap.size ≤ x := by
  have hpm : ∀ {cs T} {x : Nat}, Blk w x cs T → x ≠ X.pc := fun hb e => by
    obtain ⟨L, D, _, hm, _⟩ := h3
    rw [e] at hb
    exact hb.not_map hm
  have nbx : bx ∉ X.pc :: X.wr :: own bv := fun hx => by
    rcases List.mem_cons.1 hx with e | hx
    · exact hpm h1 e
    · exact VT.bx h1 h2 hx
  have nmb : mb ∉ X.pc :: X.wr :: own bv := fun hx => by
    rcases List.mem_cons.1 hx with e | hx
    · exact hpm h0 e
    · exact mb_no h0 h2 hx
  refine ⟨_, ⟨bv', hb.blk h1 nbx, hb.blk h0 nmb, hB, hP, rfl⟩, hb.mono (fun x hx => .inl (List.mem_cons_of_mem _ (List.mem_cons_of_mem _ hx))), fun x hx => ?_⟩
  simp only [List.mem_cons] at hx ⊢
  rcases hx with hx | hx | hx | hx | hx
  · exact .inl (.inl hx)
  · exact .inl (.inr (.inl hx))
  · exact .inl (.inr (.inr (.inl hx)))
  · exact .inl (.inr (.inr (.inr (.inl hx))))
  · rcases ho x hx with h | h
    · exact .inl (.inr (.inr (.inr (.inr h))))
    · exact .inr h

set_option maxRecDepth 20000 in
set_option maxHeartbeats 1000000 in
theorem unf1_any (X : WEnv) (bx mb : Nat) (most : Int) (an : Nat) (nv : Value) (rows : List Row) (base : Nat) (hNwr : X.N ≤ X.wr) (hNpc : X.N ≤ X.pc) (hW : Whole (rows.map Row.n)) (id : Nat) (hid : id < rows.length) (pl : PlaceV) (hpl : PlOk (rows.map Row.n) pl)
    (s s' : UnfS) (hf : uFirst (rows.map Row.n) id pl s = some s') (fp : List Nat) (w : World) (hBs : Bs X an nv rows base w) (hV : VU X bx mb most s fp w) :
    Calls Tryz.prog 76 #[.int .i64 (id : Int), plV pl, .pointer (some ⟨bx, 0, none⟩)] w fun e w' => VPost (VU X bx mb most) fp w s' e w' := by
  obtain ⟨bv, hb1, hb0, hB, hN, rfl⟩ := hV
  unfold uFirst at hf
  obtain ⟨o, hcap, hs'⟩ := Option.map_eq_some_iff.1 hf
  obtain ⟨hout, hlen⟩ := capL_some hcap
  have HS : Hid (s' = (s.1 ++ leadL (rows.map Row.n) pl ++ openL (rows.map Row.n) id, (id, ((s.1 ++ leadL (rows.map Row.n) pl).length, 0)) :: s.2)) := by unfold Hid; rw [← hs', hout]
  have hlenN := hW.len
  have hnode := hW.node (i := id) (by simpa using hid)
  rw [nodeAt_rows rows id hid] at hnode
  have hidl : id < 500 := by simp at hlenN; omega
  simp only [List.length_append] at hlen
  clear hout hf hcap hs'
  obtain ⟨pa, pb, hpv⟩ := plV_agg pl
  have hbA : But [] w (w.alloc (.cells #[.int .i64 pa, .int .i64 pb] 124)) := alloc_but _ _
  have hBA := hB.frame hbA (by simp) (by simp)
  have hBsA := hBs.below (hbA.below hB.N (by simp))
  have HL : Hid _ := wLead_any X s.1 bv _ hBA an nv rows base hBsA.gi hNwr hW pl hpl (by omega)
  have hx1 : (w.alloc (.cells #[.int .i64 pa, .int .i64 pb] 124)).cell? ⟨bx, 0, none⟩ = some (wpt X) := (hbA.blk hb1 (by simp)).cell rfl
  rw [hpv] at HL ⊢
  clear hpv
  go_enter Tryz.func76, Tryz.ntmps76
  go_wp2_with fail
  refine Calls.mono HL.out ?_
  rintro e w1 ⟨rfl, hp1⟩
  have hp1' : WPost X (s.1 ++ leadL (rows.map Row.n) pl) bv w w1 := by
    obtain ⟨bv1, q1, q2, q3⟩ := hp1
    refine ⟨bv1, q1, (hbA.mono (S' := X.wr :: own bv) (by simp)).trans q2 (fun x hx => .inl hx), fun x hx => ?_⟩
    rcases q3 x hx with h | h
    · exact .inl h
    · exact .inr (by simp at h; omega)
  obtain ⟨o1, hO1⟩ : ∃ o1, o1 = s.1 ++ leadL (rows.map Row.n) pl := ⟨_, rfl⟩
  have hl1 : o1.length + (openL (rows.map Row.n) id).length ≤ 900000000 := by rw [hO1]; simp only [List.length_append]; omega
  rw [← hO1] at HS hp1'
  clear hO1
  obtain ⟨bv1, hB1, hbb1, ho1⟩ := hp1'
  have hN1 := hN.but hbb1 (pmap_apart hN hB)
  have hx2 : w1.drew.cell? ⟨bx, 0, none⟩ = some (wpt X) := (hbb1.blk hb1 (VT.bx hb1 hB)).cell rfl
  have c3 : w1.drew.cell? ⟨X.wr, 3, none⟩ = some (.map (some X.pc)) := hB1.cell.2.2.2
  clear HL hp1 hbA hBA hBsA hx1
  go_wp2_with fail
  refine region_tail 10 (by kernel_rfl) (by kernel_rfl) ?_
  simp only [List.take_succ_cons, List.take_zero, List.drop_succ_cons, List.drop_zero]
  repeat still_step
  have hBd : BW X o1 bv1 w1.drew := hB1.frame (But.refl [] w1).drew (by simp) (by simp)
  have hNd : PcOk X s.2 w1.drew := hN1.but (But.refl [] w1).drew (by simp)
  still_call (bLen_any X _ bv1 _ hBd)
  repeat still_step
  refine wpStill_nil ?_
  obtain ⟨w2, hrun, hP2, hbP⟩ := hNd.store (id := id) (by omega) (o1.length, 0)
  have hrun' : (Instr.mapUpdate 94 (.map (some X.pc)) (.int .i64 (id : Int)) (.agg #[.int .i64 (o1.length : Int), .int .i64 0])).run Tryz.prog w1.drew = .ok () w2 := hrun
  have hap1 := pmap_apart hNd hBd
  have hB2 : BW X o1 bv1 w2 := hBd.frame hbP (fun h => hap1 (by rw [← List.mem_singleton.1 h]; exact List.mem_cons_self ..)) (fun x hx h => hap1 (by rw [← List.mem_singleton.1 h]; exact List.mem_cons_of_mem _ hx))
  have hbb2 : But (X.pc :: X.wr :: own bv) w w2 := ((hbb1.mono (S' := X.pc :: X.wr :: own bv) (fun x hx => .inl (List.mem_cons_of_mem _ hx))).drew).trans hbP (fun x hx => .inl (by rw [List.mem_singleton.1 hx]; exact List.mem_cons_self ..))
  have hx3 : w2.cell? ⟨bx, 0, none⟩ = some (wpt X) := (hbb2.blk hb1 (fun hx => by
    rcases List.mem_cons.1 hx with e | hx
    · obtain ⟨L, D, _, hm, _⟩ := hN
      rw [e] at hb1
      exact hb1.not_map hm
    · exact VT.bx hb1 hB hx)).cell rfl
  have hBs2 := hBs.below (hbb2.below hB.N (fun x hx => by
    rcases List.mem_cons.1 hx with rfl | hx
    · exact hNpc
    · rcases List.mem_cons.1 hx with rfl | hx
      · exact hNwr
      · exact (ownsRowF_mem hB.row hx).1))
  have HOP : Hid _ := wOpen_any X _ bv1 w2 hB2 an nv rows base hBs2.gi id hid hnode.kind hnode.text.1 (by omega)
  have HP2 : Hid (PcOk X ((id, (o1.length, 0)) :: s.2) w2) := hP2
  clear hrun hP2
  go_wp2_with fail
  refine Calls.mono HOP.out ?_
  rintro e w4 ⟨rfl, hp4⟩
  obtain ⟨bv4, hB4, hb4, ho4⟩ := hp4
  go_wp2_with fail
  go_end0
  refine ⟨rfl, ?_⟩
  rw [HS.out]
  refine VU.of hb1 hb0 hB hN hB4 (HP2.out.but hb4 (pmap_apart HP2.out hB2)) (hbb2.trans hb4 (fun x hx => ?_)) (fun x hx => ?_)
  · rcases List.mem_cons.1 hx with rfl | hx
    · exact .inl (List.mem_cons_of_mem _ (List.mem_cons_self ..))
    · rcases ho1 x hx with h | h
      · exact .inl (List.mem_cons_of_mem _ (List.mem_cons_of_mem _ h))
      · exact .inr h
  · rcases ho4 x hx with h | h
    · exact ho1 x h
    · exact .inr (Nat.le_trans hbb2.size h)

end Go.Proofs.YtkflkmmbakccoaaGreatDoor

/- WALKS: package write: copy. -/
namespace Go.Proofs.YtkflkmmbakccoaaGreatDoor
open Go.RowKit Go.Maps

theorem But.ownW {X : WEnv} {bv : Value} {w w' : World} (h : But (own bv) w w') : But (X.wr :: own bv) w w' := h.mono (fun _ hx => .inl (List.mem_cons_of_mem _ hx))

set_option maxRecDepth 20000 in
set_option maxHeartbeats 8000000 in
theorem wCopy_any (X : WEnv) (out : List UInt8) (bv : Value) (w : World) (h : BW X out bv w) (a b : Nat) (hab : a < b) (hb : b ≤ out.length) (hl : out.length + out.length ≤ 1000000000) :
    Calls Tryz.prog 78 #[wpt X, .agg #[.int .i64 (a : Int), .int .i64 (b : Int)]] w fun e w' => e = .returned (.tuple #[]) ∧ WPost X (out ++ (out.drop a).take (b - a)) bv w w' := by
  have hne : out ≠ [] := fun e => by rw [e] at hb; simp at hb; omega
  obtain ⟨W, HW⟩ : ∃ W, Hid (W = w.alloc (.cells #[.int .i64 (a : Int), .int .i64 (b : Int)] 141)) := ⟨_, (rfl : w.alloc (.cells #[.int .i64 (a : Int), .int .i64 (b : Int)] 141) = w.alloc (.cells #[.int .i64 (a : Int), .int .i64 (b : Int)] 141))⟩
  have hbA : But [] w W := by rw [HW.out]; exact alloc_but _ _
  have hP : Blk W w.heap.size #[.int .i64 (a : Int), .int .i64 (b : Int)] 141 := by rw [HW.out]; exact blk_new _ _ _
  have hBA := h.frame hbA (by simp) (by simp)
  have hlt : ∀ x ∈ own bv, x < w.heap.size := fun x hx => ownsRowF_lt h.row hx
  have HS : Hid (∀ V, But [] W V → Calls Tryz.prog 48 #[bpt X] V fun e w' => e = .returned (.string ⟨out.toArray⟩) ∧ BW X out bv w' ∧ But (own bv) V w' ∧ w'.cell? ⟨w.heap.size, 0, none⟩ = some (.int .i64 (a : Int)) ∧ w'.cell? ⟨w.heap.size, 1, none⟩ = some (.int .i64 (b : Int))) := fun V hV => by
    refine (bString_any X out bv V (hBA.frame hV (by simp) (by simp)) hne).mono ?_
    rintro e w' ⟨rfl, h1, h2⟩
    have hP' := h2.blk (hV.blk hP (by simp)) (fun hx => by have := hlt _ hx; omega)
    exact ⟨rfl, h1, h2, hP'.cell rfl, hP'.cell rfl⟩
  have hsz : (⟨out.toArray⟩ : ByteArray).size = out.length := by simp [ByteArray.size]
  obtain ⟨y, hy⟩ : ∃ y : ByteArray, y = (⟨out.toArray⟩ : ByteArray).extract a b := ⟨_, rfl⟩
  have hyl : y.data.toList = (out.drop a).take (b - a) := by
    rw [hy]
    rw [ByteArray.data_extract, Array.toList_extract, List.extract_eq_take_drop]
  have HYL : Hid (y.data.toList = (out.drop a).take (b - a)) := hyl
  have hys : y.size ≤ out.length := by
    rw [Lib.size_eq, hyl]; simp; omega
  have hsl : ∀ V : World, (Instr.slice 9 (.string ⟨out.toArray⟩) (some (.int .i64 (a : Int))) (some (.int .i64 (b : Int))) none).run Tryz.prog V = .ok (.string y) V := fun V => by
    rw [hy]
    have := run_slice_string (P := Tryz.prog) (w := V) 9 ⟨out.toArray⟩ .i64 .i64 (a : Int) (b : Int) Tryz.underlying9 (by omega) (by omega) (by rw [hsz]; omega)
    simpa using this
  clear hyl
  have p0 := hP.cell (i := 0) rfl
  have p1 := hP.cell (i := 1) rfl
  clear hy
  have HWS : Hid (∀ V, BW X out bv V → Calls Tryz.prog 98 #[bpt X, .string y] V fun e w' => e = .returned (.tuple #[.int .i64 y.size, .nilIface]) ∧ WPost X (out ++ y.data.toList) bv V w') := fun V hV => wStr_any X out bv V hV y (by omega)
  go_enter Tryz.func78, Tryz.ntmps78
  go_upto_region 1 with fail
  rw [← HW.out]
  have hlb : b ≤ (⟨out.toArray⟩ : ByteArray).size := by rw [hsz]; exact hb
  generalize (⟨out.toArray⟩ : ByteArray) = z at *
  go_region_with ((first | (go_at_call 48; refine (HS.out _ (But.refl [] W).drew).mono ?_; rintro e w3 ⟨rfl, hB3, hb3, q0, q1⟩) | (go_at_call 98; refine (HWS.out _ hB3).mono ?_; rintro e w4 ⟨rfl, hp4⟩)))
  all_goals
    go_wp2_with fail
    go_end0
    refine ⟨rfl, ?_⟩
    rw [← HYL.out]
    have hb03 : But (X.wr :: own bv) w w3 := (hbA.mono (S' := X.wr :: own bv) (by simp)).trans (((But.refl [] W).drew.mono (by simp)).trans (But.ownW hb3) (fun x hx => .inl hx)) (fun x hx => .inl hx)
    exact WPost.trans hb03 (fun x hx => .inl hx) hp4

end Go.Proofs.YtkflkmmbakccoaaGreatDoor

/- WALKS: package write: the closures of unfold, II. -/
namespace Go.Proofs.YtkflkmmbakccoaaGreatDoor
open Go.RowKit Go.Maps

set_option maxRecDepth 20000 in
set_option maxHeartbeats 1000000 in
theorem unf3_any (X : WEnv) (bx mb : Nat) (most : Int) (an : Nat) (nv : Value) (rows : List Row) (base : Nat) (hW : Whole (rows.map Row.n)) (id : Nat) (hid : id < rows.length)
    (s s' : UnfS) (hf : uFin (rows.map Row.n) id s = some s') (fp : List Nat) (w : World) (hBs : Bs X an nv rows base w) (hV : VU X bx mb most s fp w) :
    Calls Tryz.prog 79 #[.int .i64 (id : Int), .pointer (some ⟨bx, 0, none⟩)] w fun e w' => VPost (VU X bx mb most) fp w s' e w' := by
  obtain ⟨bv, hb1, hb0, hB, hN, rfl⟩ := hV
  unfold uFin at hf
  obtain ⟨o, hcap, hs'⟩ := Option.map_eq_some_iff.1 hf
  obtain ⟨hout, hlen⟩ := capL_some hcap
  have HS : Hid (s' = (s.1 ++ shutL (rows.map Row.n) id, (id, ((lookP s.2 id).1, (s.1 ++ shutL (rows.map Row.n) id).length)) :: s.2)) := by unfold Hid; rw [← hs', hout]
  have hlenN := hW.len
  have hnode := hW.node (i := id) (by simpa using hid)
  rw [nodeAt_rows rows id hid] at hnode
  have hidl : id < 500 := by simp at hlenN; omega
  simp only [List.length_append] at hlen
  clear hout hf hcap hs'
  have HSH : Hid _ := wShut_any X s.1 bv w hB an nv rows base hBs.gi id hid hnode.kind (by omega)
  have hx1 : w.cell? ⟨bx, 0, none⟩ = some (wpt X) := hb1.cell rfl
  go_enter Tryz.func79, Tryz.ntmps79
  go_wp2_with fail
  refine Calls.mono HSH.out ?_
  rintro e w1 ⟨rfl, hp1⟩
  obtain ⟨o1, hO1⟩ : ∃ o1, o1 = s.1 ++ shutL (rows.map Row.n) id := ⟨_, rfl⟩
  rw [← hO1] at HS hp1
  clear hO1
  obtain ⟨bv1, hB1, hbb1, ho1⟩ := hp1
  have hN1 := hN.but hbb1 (pmap_apart hN hB)
  have hx2 : w1.drew.cell? ⟨bx, 0, none⟩ = some (wpt X) := (hbb1.blk hb1 (VT.bx hb1 hB)).cell rfl
  have c3 : w1.drew.cell? ⟨X.wr, 3, none⟩ = some (.map (some X.pc)) := hB1.cell.2.2.2
  have hBd : BW X o1 bv1 w1.drew := hB1.frame (But.refl [] w1).drew (by simp) (by simp)
  have hNd : PcOk X s.2 w1.drew := hN1.but (But.refl [] w1).drew (by simp)
  have hlk := hNd.look (id := id) (by omega)
  obtain ⟨lk1, hlk1⟩ : ∃ k, k = (lookP s.2 id).1 := ⟨_, rfl⟩
  obtain ⟨lk2, hlk2⟩ : ∃ k, k = (lookP s.2 id).2 := ⟨_, rfl⟩
  rw [← hlk1, ← hlk2] at hlk
  rw [← hlk1] at HS
  clear hlk1 hlk2 HSH hx1
  have hfld : ∀ V : World, (Instr.field 141 (.agg #[.int .i64 (lk1 : Int), .int .i64 (lk2 : Int)]) 0).run Tryz.prog V = .ok (.int .i64 (lk1 : Int)) V := fun V => rfl
  go_wp2_with fail
  refine region_tail 17 (by kernel_rfl) (by kernel_rfl) ?_
  simp only [List.take_succ_cons, List.take_zero, List.drop_succ_cons, List.drop_zero]
  repeat still_step
  still_call (bLen_any X _ bv1 _ hBd)
  repeat still_step
  refine wpStill_nil ?_
  obtain ⟨w2, hrun, hP2, hbP⟩ := hNd.store (id := id) (by omega) (lk1, o1.length)
  have hap1 := pmap_apart hNd hBd
  have hB2 : BW X o1 bv1 w2 := hBd.frame hbP (fun h => hap1 (by rw [← List.mem_singleton.1 h]; exact List.mem_cons_self ..)) (fun x hx h => hap1 (by rw [← List.mem_singleton.1 h]; exact List.mem_cons_of_mem _ hx))
  have hbb2 : But (X.pc :: X.wr :: own bv) w w2 := ((hbb1.mono (S' := X.pc :: X.wr :: own bv) (fun x hx => .inl (List.mem_cons_of_mem _ hx))).drew).trans hbP (fun x hx => .inl (by rw [List.mem_singleton.1 hx]; exact List.mem_cons_self ..))
  have HP2 : Hid (PcOk X ((id, (lk1, o1.length)) :: s.2) w2) := hP2
  clear hP2
  go_wp2_with fail
  go_end0
  refine ⟨rfl, ?_⟩
  rw [HS.out]
  exact VU.of hb1 hb0 hB hN hB2 HP2.out hbb2 ho1

set_option maxRecDepth 20000 in
set_option maxHeartbeats 1000000 in
theorem unf2_any (X : WEnv) (bx mb : Nat) (most : Int) (hm : most ≤ 20000) (an : Nat) (nv : Value) (rows : List Row) (base : Nat) (hNwr : X.N ≤ X.wr) (hW : Whole (rows.map Row.n)) (id : Nat) (hid : id < rows.length) (pl : PlaceV) (hpl : PlOk (rows.map Row.n) pl)
    (s s' : UnfS) (hf : uAgain (rows.map Row.n) most id pl s = some s') (fp : List Nat) (w : World) (hBs : Bs X an nv rows base w) (hV : VU X bx mb most s fp w) :
    Calls Tryz.prog 77 #[.int .i64 (id : Int), plV pl, .pointer (some ⟨bx, 0, none⟩), .pointer (some ⟨mb, 0, none⟩)] w fun e w' => VPost (VU X bx mb most) fp w s' e w' := by
  obtain ⟨bv, hb1, hb0, hB, hN, rfl⟩ := hV
  have hlenN := hW.len
  have hidl : id < 500 := by simp at hlenN; omega
  obtain ⟨pa, pb, hpv⟩ := plV_agg pl
  obtain ⟨W, HWe⟩ : ∃ W, Hid (W = w.alloc (.cells #[.int .i64 pa, .int .i64 pb] 124)) := ⟨_, (rfl : w.alloc (.cells #[.int .i64 pa, .int .i64 pb] 124) = w.alloc (.cells #[.int .i64 pa, .int .i64 pb] 124))⟩
  have hbA : But [] w W := by rw [HWe.out]; exact alloc_but _ _
  have hPl : Blk W w.heap.size #[.int .i64 pa, .int .i64 pb] 124 := by rw [HWe.out]; exact blk_new _ _ _
  have hBA := hB.frame hbA (by simp) (by simp)
  have hBsA := hBs.below (hbA.below hB.N (by simp))
  have hx1 : W.cell? ⟨bx, 0, none⟩ = some (wpt X) := (hbA.blk hb1 (by simp)).cell rfl
  have hm1 : W.cell? ⟨mb, 0, none⟩ = some (.int .i64 most) := (hbA.blk hb0 (by simp)).cell rfl
  have HBA : Hid (BW X s.1 bv W) := hBA
  have HPL : Hid (plV pl = .agg #[.int .i64 pa, .int .i64 pb]) := hpv
  unfold uAgain at hf
  rw [hpv]
  by_cases hov : most < (s.1.length : Int)
  · rw [if_pos hov] at hf
    have HS : Hid (s' = s) := (Option.some.inj hf).symm
    have hd : decide ((s.1.length : Int) > most) = true := by simpa using hov
    clear hf hpv hBA
    go_enter Tryz.func77, Tryz.ntmps77
    go_upto_region 1 with fail
    rw [← HWe.out]
    go_quiet ((go_at_call 51; exact Calls.quiet_of_same (bLen_any X _ bv _ (HBA.out.frame ((But.refl [] W).drewN _) (by simp) (by simp)))))
    go_wp2_with fail
    go_end0
    rw [HS.out]
    have hbF : But [] w (W.drewN nq) := hbA.drewN _
    exact ⟨rfl, VU.of hb1 hb0 hB hN (hB.frame hbF (by simp) (by simp)) (hN.but hbF (by simp)) (hbF.mono (by simp)) (fun x hx => .inl hx)⟩
  · rw [if_neg hov] at hf
    split at hf
    case isFalse => cases hf
    rename_i hc
    obtain ⟨o, hcap, hs'⟩ := Option.map_eq_some_iff.1 hf
    obtain ⟨hout, hlen⟩ := capL_some hcap
    have hll : (leadL (rows.map Row.n) pl).length ≤ 26 := by
      cases pl with
      | none => simp [leadL]
      | some q => exact leadL_len hW (hpl q.1 q.2 rfl).1
    obtain ⟨o1, hO1⟩ : ∃ o1, o1 = s.1 ++ leadL (rows.map Row.n) pl := ⟨_, rfl⟩
    rw [← hO1] at hout hc
    have hl1 : o1.length ≤ 20026 := by rw [hO1]; simp only [List.length_append]; omega
    have HS : Hid (s' = (o1 ++ (o1.drop (lookP s.2 id).1).take ((lookP s.2 id).2 - (lookP s.2 id).1), s.2)) := by unfold Hid; rw [← hs', hout]
    have HO1 : Hid (o1 = s.1 ++ leadL (rows.map Row.n) pl) := hO1
    have hd : decide ((s.1.length : Int) > most) = false := by simp; omega
    have hls : s.1.length + 100 ≤ 1000000000 := by omega
    obtain ⟨lk1, hlk1⟩ : ∃ k, k = (lookP s.2 id).1 := ⟨_, rfl⟩
    obtain ⟨lk2, hlk2⟩ : ∃ k, k = (lookP s.2 id).2 := ⟨_, rfl⟩
    have HLK : Hid (lk1 = (lookP s.2 id).1 ∧ lk2 = (lookP s.2 id).2) := ⟨hlk1, hlk2⟩
    rw [← hlk1, ← hlk2] at HS hc
    clear hf hpv hBA hcap hs' hout hlen hO1 hlk1 hlk2 hll
    go_enter Tryz.func77, Tryz.ntmps77
    go_upto_region 1 with fail
    rw [← HWe.out]
    go_quiet ((go_at_call 51; exact Calls.quiet_of_same (bLen_any X _ bv _ (HBA.out.frame ((But.refl [] W).drewN _) (by simp) (by simp)))))
    have hbF : But [] w (W.drewN nq) := hbA.drewN _
    have hbG : But [] W (W.drewN nq) := (But.refl [] W).drewN _
    have y1 : (W.drewN nq).cell? ⟨bx, 0, none⟩ = some (wpt X) := hx1
    have y2 := (hbG.blk hPl (by simp)).cell (i := 0) rfl
    have y3 := (hbG.blk hPl (by simp)).cell (i := 1) rfl
    have HL : Hid _ := wLead_any X s.1 bv (W.drewN nq) (hB.frame hbF (by simp) (by simp)) an nv rows base (hBs.below (hbF.below hB.N (by simp))).gi hNwr hW pl hpl hls
    rw [HPL.out, ← HO1.out] at HL
    generalize W.drewN nq = W2 at *
    clear hx1 hm1
    go_wp2_with fail
    refine Calls.mono HL.out ?_
    rintro e w1 ⟨rfl, hp1⟩
    obtain ⟨bv1, hB1, hbb1, ho1⟩ := hp1
    have hbw : But (X.wr :: own bv) w w1 := (hbF.mono (S' := X.wr :: own bv) (by simp)).trans hbb1 (fun x hx => .inl hx)
    have hN1 := hN.but hbw (pmap_apart hN hB)
    have hx2 : w1.drew.cell? ⟨bx, 0, none⟩ = some (wpt X) := (hbw.blk hb1 (VT.bx hb1 hB)).cell rfl
    have c3 : w1.drew.cell? ⟨X.wr, 3, none⟩ = some (.map (some X.pc)) := hB1.cell.2.2.2
    have hBd : BW X o1 bv1 w1.drew := hB1.frame (But.refl [] w1).drew (by simp) (by simp)
    have hNd : PcOk X s.2 w1.drew := hN1.but (But.refl [] w1).drew (by simp)
    have hlk := hNd.look (id := id) (by omega)
    rw [← HLK.out.1, ← HLK.out.2] at hlk
    have HCP : Hid _ := wCopy_any X o1 bv1 w1.drew hBd lk1 lk2 hc.1 hc.2 (by omega)
    have ho1' : ∀ x ∈ own bv1, x ∈ own bv ∨ w.heap.size ≤ x := fun x hx => by
      rcases ho1 x hx with h | h
      · exact .inl h
      · exact .inr (Nat.le_trans hbF.size h)
    clear HL y1 y2 y3 hc hd
    go_wp2_with fail
    refine region_tail 7 (by kernel_rfl) (by kernel_rfl) ?_
    simp only [List.take_succ_cons, List.take_zero, List.drop_succ_cons, List.drop_zero]
    repeat still_step
    refine wpStill_nil ?_
    go_wp2_with fail
    refine Calls.mono HCP.out ?_
    rintro e w3 ⟨rfl, hp3⟩
    obtain ⟨bv3, hB3, hb3, ho3⟩ := hp3
    go_wp2_with fail
    go_end0
    refine ⟨rfl, ?_⟩
    rw [HS.out]
    refine VU.of hb1 hb0 hB hN hB3 (hNd.but hb3 (pmap_apart hNd hBd)) (((hbw.drew).trans hb3 (fun x hx => ?_)).mono (fun x hx => .inl (List.mem_cons_of_mem _ hx))) (fun x hx => ?_)
    · rcases List.mem_cons.1 hx with rfl | hx
      · exact .inl (List.mem_cons_self ..)
      · rcases ho1' x hx with h | h
        · exact .inl (List.mem_cons_of_mem _ h)
        · exact .inr h
    · rcases ho3 x hx with h | h
      · exact ho1' x h
      · exact .inr (Nat.le_trans hbw.size h)

end Go.Proofs.YtkflkmmbakccoaaGreatDoor
