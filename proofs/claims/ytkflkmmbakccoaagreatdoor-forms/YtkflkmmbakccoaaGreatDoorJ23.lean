/- PARTS: B5, B6, B7. -/
import Derived.Test.YtkflkmmbakccoaaGreatDoorJ21
import Derived.Test.YtkflkmmbakccoaaGreatDoorJ22

/- WALKS: strconv.Itoa at small numbers; package write: name. -/
namespace Go.Proofs.YtkflkmmbakccoaaGreatDoor
open Go.RowKit Go.Maps

theorem g_pow : Tryz.prog.globalNamed "internal/strconv.uint64pow10" = some 2 := by kernel_rfl
theorem g_syn : Tryz.prog.globalNamed "strconv.ErrSyntax" = some 0 := by kernel_rfl
theorem g_rng : Tryz.prog.globalNamed "strconv.ErrRange" = some 1 := by kernel_rfl

/-- The library's table, as its initialiser lays it; it lies below N. -/
structure TabW (N : Nat) (w : World) : Prop where
  pow : Lib.TabIs Tryz.prog w "internal/strconv.uint64pow10" .u64 Lib.pow10Tab
  n1 : 2 < N

/-- The library's tables and errors, as their initialisers lay them; they lie below N. -/
structure Tabs (N : Nat) (w : World) : Prop where
  pow : Lib.TabIs Tryz.prog w "internal/strconv.uint64pow10" .u64 Lib.pow10Tab
  syn : ∃ tp p, w.var? Tryz.prog "strconv.ErrSyntax" = some #[.iface tp p]
  rng : ∃ tp p, w.var? Tryz.prog "strconv.ErrRange" = some #[.iface tp p]
  n1 : 2 < N
  n2 : 0 < N
  n3 : 1 < N

theorem var_below {N g : Nat} {name : String} (hg : Tryz.prog.globalNamed name = some g) (hN : g < N) {w w' : World} (hb : Below N w w') : w'.var? Tryz.prog name = w.var? Tryz.prog name := by
  unfold World.var?
  rw [hg]
  simp only [Option.bind_some]
  rw [hb.block g hN]

theorem TabW.below {N : Nat} {w w' : World} (h : TabW N w) (hb : Below N w w') : TabW N w' := ⟨by unfold Lib.TabIs; rw [var_below g_pow h.n1 hb]; exact h.pow, h.n1⟩
theorem TabW.mono {N N' : Nat} {w : World} (h : TabW N w) (hN : N ≤ N') : TabW N' w := ⟨h.pow, by have := h.n1; omega⟩
theorem Tabs.w {N : Nat} {w : World} (h : Tabs N w) : TabW N w := ⟨h.pow, h.n1⟩

theorem Tabs.below {N : Nat} {w w' : World} (h : Tabs N w) (hb : Below N w w') : Tabs N w' :=
  ⟨by unfold Lib.TabIs; rw [var_below g_pow h.n1 hb]; exact h.pow, by rw [var_below g_syn h.n2 hb]; exact h.syn, by rw [var_below g_rng h.n3 hb]; exact h.rng, h.n1, h.n2, h.n3⟩

theorem Tabs.mono {N N' : Nat} {w : World} (h : Tabs N w) (hN : N ≤ N') : Tabs N' w := ⟨h.pow, h.syn, h.rng, by have := h.n1; omega, by have := h.n2; omega, by have := h.n3; omega⟩

theorem decL_eq (u : Nat) : decL u = Lib.decDigits u := by
  induction u using Nat.strongRecOn with
  | _ u ih =>
    rw [decL, Lib.decDigits]
    split
    · rfl
    · rw [ih (u / 10) (by omega)]

theorem grow_but (w : World) (k : Nat) (os : Array Obj) : But [] w (Sort.grow (w.drewN k) os) := by
  refine ⟨rfl, rfl, rfl, ?_, fun i hi _ => ?_⟩
  · simp [Sort.grow]
  · simp [Sort.grow, Array.getElem?_append_left hi]

theorem itoa_any (u : Nat) (hu : u ≤ 1000000) (N : Nat) (w : World) (h : TabW N w) :
    Calls Tryz.prog 100 #[.int .i64 (u : Int)] w fun e w' => e = .returned (.string ⟨(decL u).toArray⟩) ∧ But [] w w' := by
  refine Calls.mono (show Calls Tryz.prog 100 #[.int .i64 (u : Int)] w _ from Any.strconv_Itoa Tryz.laysM171 (u : Int) (by omega) (by omega) w h.pow) ?_
  rintro e w' ⟨rfl, k, os, rfl⟩
  refine ⟨?_, grow_but w k os⟩
  rw [decL_eq, Lib.itoa_nonneg]

/-- The map of names: which nodes have one, and its number. -/
def NmOk (X : WEnv) (ag : List Nat) (val : Nat → Nat) (w : World) : Prop :=
  ∃ (L : List Nat) (D : DataW Unit), (L.Nodup ∧ (∀ x, x ∈ L ↔ x ∈ ag) ∧ ∀ x ∈ L, x < 1000) ∧ w.ownsMap Tryz.prog 3 (plainElem Tryz.prog 3) X.nm L.length D ∧ (∀ x : Nat, Maps.has D (.int .i64 (x : Int)) = decide (x ∈ ag)) ∧ (∀ x ∈ ag, D.atKey (.int .i64 (x : Int)) (.lit (.int .i64 0)) = .lit (.int .i64 (val x : Int))) ∧ ∀ k, Maps.has D k = true → ∃ x ∈ ag, k = .int .i64 ((x : Nat) : Int)

theorem NmOk.but {X : WEnv} {ag : List Nat} {val : Nat → Nat} {w w' : World} {S : List Nat} (h : NmOk X ag val w) (hb : But S w w') (hS : X.nm ∉ S) : NmOk X ag val w' := by
  obtain ⟨n, D, hn, h1, h2⟩ := h
  exact ⟨n, D, hn, ownsMap_but h1 hb hS, h2⟩

theorem lawI : Keyed Tryz.prog 3 := int_keyed Tryz.underlying3
theorem zeroI (w : World) : (zeroValue 3).run Tryz.prog w = .ok (.int .i64 0) w := by kernel_rfl
theorem keyI {n : Nat} (h : n ≤ 1000000) : keyOf Tryz.prog 3 (.int .i64 (n : Int)) = some (.int .i64 (n : Int)) := keyOf_int_mk Tryz.underlying3 (WalkArith.wf_i64 (by omega))

theorem NmOk.look {X : WEnv} {ag : List Nat} {val : Nat → Nat} {w : World} (h : NmOk X ag val w) {id : Nat} (hid : id ∈ ag) (hb : id ≤ 1000000) : (Instr.lookup 93 (.map (some X.nm)) (.int .i64 (id : Int)) false).run Tryz.prog w = .ok (.int .i64 (val id : Int)) w := by
  obtain ⟨n, D, hn, h1, h2, h3, _⟩ := h
  obtain ⟨c, hrun, hat, _⟩ := h1.lookup_int lawI Tryz.underlying93 Tryz.underlying3 (zeroI _) (keyI hb)
  rw [h3 id hid] at hat
  simp only [DataW.lit.injEq, Lit.int.injEq, true_and] at hat
  rw [hrun, hat]

theorem nmap_apart {X : WEnv} {ag : List Nat} {val : Nat → Nat} {w : World} (h : NmOk X ag val w) {out : List UInt8} {bv : Value} (hB : BW X out bv w) : X.nm ∉ X.wr :: own bv := by
  obtain ⟨n, D, _, h1, _⟩ := h
  obtain ⟨es, clock, h2⟩ := ownsMap_block h1
  intro hx
  rcases List.mem_cons.1 hx with e | hx
  · obtain ⟨A, _, hb⟩ := hB.blk
    rw [← e] at hb
    exact hb.not_map h1
  · obtain ⟨_, cs, fz, hg⟩ := ownsRowF_mem hB.row hx
    rw [hg] at h2
    simp at h2

set_option maxRecDepth 20000 in
set_option maxHeartbeats 2000000 in
theorem wName_any (X : WEnv) (out : List UInt8) (bv : Value) (w : World) (h : BW X out bv w) (ag : List Nat) (val : Nat → Nat) (hN : NmOk X ag val w) (hT : TabW X.N w) (hNwr : X.N ≤ X.wr) (c : UInt8) (n : Int) (hn : n = (c.toNat : Int)) (id : Nat) (hid : id ∈ ag) (hidl : id ≤ 1000) (hv : val id ≤ 1000) (hl : out.length + 2000 ≤ 1000000000) :
    Calls Tryz.prog 69 #[wpt X, .int .u8 n, .int .i64 (id : Int)] w fun e w' => WSaid X (out ++ (c :: 110 :: decL (val id))) bv w e w' := by
  have hap := nmap_apart hN h
  have hdl := decL_len (val id)
  have HW : Hid _ := wByte_any X out bv w h c n hn (by omega)
  clear hn
  go_enter Tryz.func69, Tryz.ntmps69
  go_wp2_with fail
  refine Calls.mono HW.out ?_
  rintro e w1 ⟨rfl, bv1, hB1, hb1, ho1⟩
  go_wp2_with fail
  refine (wByte_any X _ bv1 w1 hB1 110 110 rfl (by simp; omega)).mono ?_
  rintro e w2 ⟨rfl, hp2⟩
  obtain ⟨bv2, hB2, hb2, ho2⟩ := WPost.trans hb1 ho1 hp2
  have hN2 := hN.but hb2 hap
  have hT2 := hT.below (hb2.below h.N (fun x hx => by
    rcases List.mem_cons.1 hx with rfl | hx
    · exact hNwr
    · exact (ownsRowF_mem h.row hx).1))
  have c2 := hB2.cell.2.2.1
  have hlk := NmOk.look (w := w2.drew) hN2 hid (by omega)
  have HI : Hid _ := fun (W : World) (hW : But [] w2 W) => itoa_any (val id) (by omega) X.N W (hT2.below (hW.below hB2.N (by simp)))
  have HS : Hid _ := fun (W : World) (hW : But [] w2 W) => wStr_any X _ bv2 W (hB2.frame hW (by simp) (by simp)) ⟨(decL (val id)).toArray⟩ (by
    have e1 : (⟨(decL (val id)).toArray⟩ : ByteArray).size = (decL (val id)).length := by simp [ByteArray.size]
    rw [e1]
    simp
    omega)
  have HB2 : Hid _ := hB2
  clear HW hB1 hb1 ho1 hp2 hN2 hT2 hB2
  go_wp2_with fail
  go_region_with (first
    | (go_at_call 100; refine (HI.out _ (But.refl [] w2).drew).mono ?_; rintro e w3 ⟨rfl, hb3⟩)
    | (go_at_call 98; refine (HS.out _ ((But.refl [] w2).drew.trans hb3 (by simp))).mono ?_; rintro e w4 ⟨rfl, hp4⟩))
  all_goals
    go_wp2_with fail
    go_end0
    refine ⟨rfl, ?_⟩
    have h23 : But [] w2 w3 := (But.refl [] w2).drew.trans hb3 (by simp)
    have q := WPost.trans (bv1 := bv2) (hb2.trans h23 (by simp)) ho2 hp4
    simpa [List.append_assoc] using q

end Go.Proofs.YtkflkmmbakccoaaGreatDoor

/- A WALK THROUGH A GRAPH, IN MEMORY: the walker, what it has met, and what the one who walks keeps. -/
namespace Go.Proofs.YtkflkmmbakccoaaGreatDoor
open Go.RowKit Go.Maps

/-- What the walker has met. -/
def WkOk (X : WEnv) (met : List Nat) (w : World) : Prop :=
  Blk w X.wk #[.pointer (some ⟨X.g, 0, none⟩), .map (some X.m)] 121 ∧ ∃ D : DataW Unit, w.ownsMap Tryz.prog 3 unitElem X.m met.length D ∧ ∀ x : Nat, Maps.has D (.int .i64 (x : Int)) = decide (x ∈ met)

theorem WkOk.but {X : WEnv} {met : List Nat} {w w' : World} {S : List Nat} (h : WkOk X met w) (hb : But S w w') (h1 : X.wk ∉ S) (h2 : X.m ∉ S) : WkOk X met w' := by
  obtain ⟨hB, D, h3, h4⟩ := h
  exact ⟨hb.blk hB h1, D, ownsMap_but h3 hb h2, h4⟩

theorem WkOk.lt {X : WEnv} {met : List Nat} {w : World} (h : WkOk X met w) : X.wk < w.heap.size ∧ X.m < w.heap.size := by
  obtain ⟨hB, D, h3, _⟩ := h
  exact ⟨hB.lt, h3.lt⟩

theorem WkOk.ne {X : WEnv} {met : List Nat} {w : World} (h : WkOk X met w) : X.wk ≠ X.m := fun e => by
  obtain ⟨hB, D, h3, _⟩ := h
  rw [e] at hB
  exact hB.not_map h3

theorem zeroU (w : World) : (zeroValue 167).run Tryz.prog w = .ok (.agg #[]) w := by kernel_rfl

theorem WkOk.look {X : WEnv} {met : List Nat} {w : World} (h : WkOk X met w) {id : Nat} (hid : id ≤ 1000000) : (Instr.lookup 119 (.map (some X.m)) (.int .i64 (id : Int)) true).run Tryz.prog w = .ok (.tuple #[.agg #[], .bool (decide (id ∈ met))]) w := by
  obtain ⟨hB, D, h3, h4⟩ := h
  obtain ⟨v, ps, hrun, hv⟩ := h3.look_ok lawI Tryz.underlying119 (zeroU _) unitElem_mk (keyI hid)
  obtain ⟨rfl, _⟩ := unitElem_inv hv
  rw [hrun, h4 id]

theorem isKeyI (x : Int) : WideAt.IsKeyLit (.int .i64 x) := trivial

/-- One more is met. -/
theorem WkOk.meet {X : WEnv} {met : List Nat} {w w1 : World} {D : DataW Unit} {id : Nat} (hB : Blk w X.wk #[.pointer (some ⟨X.g, 0, none⟩), .map (some X.m)] 121) (hne : X.wk ≠ X.m) (hD : IsMap D) (h4 : ∀ x : Nat, Maps.has D (.int .i64 (x : Int)) = decide (x ∈ met))
    (hown : w1.ownsMap Tryz.prog 3 unitElem X.m (met.length + 1) (D.put (.int .i64 (id : Int)) (.agg []))) (hg : w.grownBy w1 (some X.m)) : WkOk X (id :: met) w1 ∧ But [X.m] w w1 := by
  have hb : But [X.m] w w1 := ⟨hg.os, hg.tape, hg.output, hg.size, fun k hk hn => hg.block k hk (fun e => hn (by have := Option.some.inj e; simp [this]))⟩
  refine ⟨⟨hb.blk hB (by simpa using hne), _, by simpa using hown, fun x => ?_⟩, hb⟩
  by_cases e : x = id
  · subst e
    rw [has_put_same hD (isKeyI _)]
    simp
  · rw [has_put_other (fun h => e (by simp only [Lit.int.injEq, true_and] at h; omega)), h4 x]
    simp [e]

section
variable {σ : Type} (V : σ → List Nat → World → Prop)

/-- What one who walks keeps: it stays while others are written. -/
def VFrame : Prop := ∀ st fp w w' S, V st fp w → But S w w' → (∀ x ∈ S, x ∉ fp) → V st fp w'

/-- What stands throughout: the graph, the library's tables. -/
structure Bs (X : WEnv) (an : Nat) (nv : Value) (rows : List Row) (base : Nat) (w : World) : Prop where
  gi : GI X an nv rows base w
  tabs : TabW X.N w

theorem Bs.below {X : WEnv} {an : Nat} {nv : Value} {rows : List Row} {base : Nat} {w w' : World} (h : Bs X an nv rows base w) (hb : Below X.N w w') : Bs X an nv rows base w' := ⟨h.gi.below hb, h.tabs.below hb⟩

/-- A walk under way: since W0, when fp0 was what was kept. -/
structure CS (X : WEnv) (B : World → Prop) (fp0 : List Nat) (W0 : World) (met : List Nat) (st : σ) (fp : List Nat) (w : World) : Prop where
  base : B w
  v : V st fp w
  wk : WkOk X met w
  but : But (X.m :: fp0) W0 w
  own : ∀ x ∈ fp, x ∈ fp0 ∨ W0.heap.size ≤ x

/-- What holds at the walk's beginning. -/
structure C0 (X : WEnv) (fp0 : List Nat) (W0 : World) : Prop where
  N : X.N ≤ W0.heap.size
  fp : ∀ x ∈ fp0, X.N ≤ x ∧ x < W0.heap.size
  wk : X.wk ∉ fp0
  m : X.m ∉ fp0
  wkl : X.wk < W0.heap.size
  ml : X.m < W0.heap.size
  Nm : X.N ≤ X.m

variable {V} {X : WEnv} {B : World → Prop} {fp0 : List Nat} {W0 : World}

theorem CS.no (h0 : C0 X fp0 W0) {met : List Nat} {st : σ} {fp : List Nat} {w : World} (h : CS V X B fp0 W0 met st fp w) : X.wk ∉ fp ∧ X.m ∉ fp ∧ ∀ x ∈ fp, X.N ≤ x := by
  refine ⟨fun hx => ?_, fun hx => ?_, fun x hx => ?_⟩
  · rcases h.own _ hx with h1 | h1
    · exact h0.wk h1
    · have := h0.wkl; omega
  · rcases h.own _ hx with h1 | h1
    · exact h0.m h1
    · have := h0.ml; omega
  · rcases h.own x hx with h1 | h1
    · exact (h0.fp x h1).1
    · have := h0.N; omega

/-- A block that was there at the beginning and is not of what is kept stays. -/
theorem CS.blk (_h0 : C0 X fp0 W0) {met : List Nat} {st : σ} {fp : List Nat} {w : World} (h : CS V X B fp0 W0 met st fp w) {b : Nat} {cs : Array Value} {T : TypeId} (hb : Blk W0 b cs T) (h1 : b ≠ X.m) (h2 : b ∉ fp0) : Blk w b cs T :=
  h.but.blk hb (fun hx => by
    rcases List.mem_cons.1 hx with e | hx
    · exact h1 e
    · exact h2 hx)

/-- One of the three steps has been done. -/
theorem CS.step (h0 : C0 X fp0 W0) (hB : ∀ w w', B w → Below X.N w w' → B w') {met : List Nat} {st st' : σ} {fp fp' : List Nat} {w w' : World} (h : CS V X B fp0 W0 met st fp w) (hv : V st' fp' w') (hb : But fp w w') (ho : ∀ x ∈ fp', x ∈ fp ∨ w.heap.size ≤ x) : CS V X B fp0 W0 met st' fp' w' := by
  obtain ⟨n1, n2, n3⟩ := h.no h0
  have hN : X.N ≤ w.heap.size := Nat.le_trans h0.N h.but.size
  refine ⟨hB w w' h.base (hb.below hN n3), hv, h.wk.but hb n1 n2, h.but.trans hb (fun x hx => ?_), fun x hx => ?_⟩
  · rcases h.own x hx with h1 | h1
    · exact .inl (List.mem_cons_of_mem _ h1)
    · exact .inr h1
  · rcases ho x hx with h1 | h1
    · exact h.own x h1
    · exact .inr (Nat.le_trans h.but.size h1)

/-- Draws and new blocks turn nothing. -/
theorem CS.still (h0 : C0 X fp0 W0) (hB : ∀ w w', B w → Below X.N w w' → B w') (hV : VFrame V) {met : List Nat} {st : σ} {fp : List Nat} {w w' : World} (h : CS V X B fp0 W0 met st fp w) (hb : But [] w w') : CS V X B fp0 W0 met st fp w' :=
  h.step h0 hB (hV _ _ _ _ _ h.v hb (by simp)) (hb.mono (by simp)) (fun x hx => .inl hx)

/-- One more node is met. -/
theorem CS.meet (h0 : C0 X fp0 W0) (hB : ∀ w w', B w → Below X.N w w' → B w') (hV : VFrame V) {met : List Nat} {st : σ} {fp : List Nat} {w w' : World} {id : Nat} (h : CS V X B fp0 W0 met st fp w) (hw : WkOk X (id :: met) w') (hb : But [X.m] w w') : CS V X B fp0 W0 (id :: met) st fp w' := by
  obtain ⟨n1, n2, n3⟩ := h.no h0
  have hN : X.N ≤ w.heap.size := Nat.le_trans h0.N h.but.size
  refine ⟨hB w w' h.base (hb.below hN (fun x hx => by rw [List.mem_singleton.1 hx]; exact h0.Nm)), hV _ _ _ _ _ h.v hb (fun x hx => by rw [List.mem_singleton.1 hx]; exact n2), hw, h.but.trans hb (fun x hx => .inl (by rw [List.mem_singleton.1 hx]; exact List.mem_cons_self ..)), h.own⟩

/-- What 'come' leaves. -/
def CPost (V : σ → List Nat → World → Prop) (X : WEnv) (fp : List Nat) (w : World) (met' : List Nat) (st' : σ) (w' : World) : Prop :=
  ∃ fp', V st' fp' w' ∧ WkOk X met' w' ∧ But (X.m :: fp) w w' ∧ ∀ x ∈ fp', x ∈ fp ∨ w.heap.size ≤ x

/-- A part has been gone through. -/
theorem CS.come (h0 : C0 X fp0 W0) (hB : ∀ w w', B w → Below X.N w w' → B w') {met met' : List Nat} {st st' : σ} {fp : List Nat} {w w' : World} (h : CS V X B fp0 W0 met st fp w) (hp : CPost V X fp w met' st' w') : ∃ fp', CS V X B fp0 W0 met' st' fp' w' := by
  obtain ⟨fp', hv, hw, hb, ho⟩ := hp
  obtain ⟨n1, n2, n3⟩ := h.no h0
  have hN : X.N ≤ w.heap.size := Nat.le_trans h0.N h.but.size
  refine ⟨fp', hB w w' h.base (hb.below hN (fun x hx => ?_)), hv, hw, h.but.trans hb (fun x hx => ?_), fun x hx => ?_⟩
  · rcases List.mem_cons.1 hx with rfl | hx
    · exact h0.Nm
    · exact n3 x hx
  · rcases List.mem_cons.1 hx with rfl | hx
    · exact .inl (List.mem_cons_self ..)
    · rcases h.own x hx with h1 | h1
      · exact .inl (List.mem_cons_of_mem _ h1)
      · exact .inr h1
  · rcases ho x hx with h1 | h1
    · exact h.own x h1
    · exact .inr (Nat.le_trans h.but.size h1)

/-- The end: what 'come' leaves, of its own walk. -/
theorem CS.post {w : World} (hb : But [] w W0) {met : List Nat} {st : σ} {fp : List Nat} {w' : World} (h : CS V X B fp0 W0 met st fp w') : CPost V X fp0 w met st w' :=
  ⟨fp, h.v, h.wk, (hb.mono (S' := X.m :: fp0) (by simp)).trans h.but (fun x hx => .inl hx), fun x hx => by
    rcases h.own x hx with h1 | h1
    · exact .inl h1
    · exact .inr (Nat.le_trans hb.size h1)⟩
end

theorem partsGo_cons {σ : Type} (go : Nat → PlaceV → List Nat × σ → Option (List Nat × σ)) (id : Nat) (ps : List Nat) (k : Nat) (hk : k < ps.length) (st r : List Nat × σ) (h : partsGo go id (ps.drop k) k st = some r) : ∃ st1, go ps[k] (some (id, k)) st = some st1 ∧ partsGo go id (ps.drop (k + 1)) (k + 1) st1 = some r := by
  rw [List.drop_eq_getElem_cons hk] at h
  simp only [partsGo] at h
  obtain ⟨st1, h1, h2⟩ := Option.bind_eq_some_iff.1 h
  exact ⟨st1, h1, h2⟩

theorem partsGo_end {σ : Type} (go : Nat → PlaceV → List Nat × σ → Option (List Nat × σ)) (id : Nat) (ps : List Nat) (k : Nat) (hk : ¬ k < ps.length) (st r : List Nat × σ) (h : partsGo go id (ps.drop k) k st = some r) : st = r := by
  rw [List.drop_eq_nil_of_le (by omega)] at h
  simpa [partsGo] using h

end Go.Proofs.YtkflkmmbakccoaaGreatDoor

/- WALKS: package write: the closures of tell. -/
namespace Go.Proofs.YtkflkmmbakccoaaGreatDoor
open Go.RowKit Go.Maps

theorem ownsMap_tight {H : Type} {w : World} {P : Program} {k : TypeId} {R : Value → Option (DataW H × List MemPlace)} {b n : Nat} {D : DataW H} (h : w.ownsMap P k R b n D) : w.ownsMap P k R b (Maps.size D) D := by
  obtain ⟨es, clock, h1, F, _, rfl⟩ := h
  exact ⟨es, clock, h1, F, by simp [Maps.size, length_sorted], rfl⟩

theorem grown_butB {w w' : World} {b : Nat} (hg : w.grownBy w' (some b)) : But [b] w w' :=
  ⟨hg.os, hg.tape, hg.output, hg.size, fun k hk hn => hg.block k hk (fun e => hn (by have := Option.some.inj e; simp [this]))⟩

/-- clear(m). -/
theorem run_clear {H : Type} {P : Program} {k e t : TypeId} {R : Value → Option (DataW H × List MemPlace)} {b n : Nat} {D : DataW H} {w : World} (h : w.ownsMap P k R b n D) (ht : P.underlying t = some (.map k e)) :
    ∃ w', (∀ ty, (Builtin.clear_ #[t] ty #[.map (some b)]).run P w = .ok (.tuple #[]) w') ∧ w'.ownsMap P k R b 0 (.map []) ∧ But [b] w w' := by
  obtain ⟨es, clock, hb, F, hs, rfl⟩ := h
  refine ⟨ChangeMaps.setBlock w b (.map #[] clock), fun ty => ?_, ⟨#[], clock, ChangeMaps.heap_setBlock_same hb _, ⟨by simp, MapKept.stamped_empty clock, by simp⟩, Nat.le_refl _, rfl⟩, ⟨rfl, rfl, rfl, by simp [ChangeMaps.setBlock], fun i _ hi => ChangeMaps.heap_setBlock_other hb _ (fun e => hi (by simp [e]))⟩⟩
  simp [Builtin.clear_, run_underlying ht, MapKept.run_getObj_map hb, MapKept.run_setObj_map _ hb, Result.andThen]
  rfl

theorem NmOk.lookOk {X : WEnv} {ag : List Nat} {val : Nat → Nat} {w : World} (h : NmOk X ag val w) {id : Nat} (hb : id ≤ 1000000) : ∃ c : Int, (Instr.lookup 93 (.map (some X.nm)) (.int .i64 (id : Int)) true).run Tryz.prog w = .ok (.tuple #[.int .i64 c, .bool (decide (id ∈ ag))]) w := by
  obtain ⟨n, D, hn, h1, h2, h3, _⟩ := h
  obtain ⟨v, ps, hrun, hv⟩ := h1.look_ok lawI Tryz.underlying93 (zeroI _) (plainElem_int Tryz.underlying3 (by decide)) (keyI hb)
  obtain ⟨c, rfl, _, _⟩ := plainElem_int_inv Tryz.underlying3 hv
  exact ⟨c, by rw [hrun, h2 id]⟩

/-- What the telling keeps: the box with the writer's address, the writer, the names. -/
def VT (X : WEnv) (bx : Nat) (ag : List Nat) (val : Nat → Nat) (out : List UInt8) (fp : List Nat) (w : World) : Prop :=
  ∃ bv, Blk w bx #[wpt X] 63 ∧ BW X out bv w ∧ NmOk X ag val w ∧ fp = bx :: X.nm :: X.wr :: own bv

theorem VT.frame (X : WEnv) (bx : Nat) (ag : List Nat) (val : Nat → Nat) : VFrame (VT X bx ag val) := by
  intro st fp w w' S h hb hS
  obtain ⟨bv, h1, h2, h3, rfl⟩ := h
  have hn : ∀ x ∈ bx :: X.nm :: X.wr :: own bv, x ∉ S := fun x hx hs => hS x hs hx
  exact ⟨bv, hb.blk h1 (hn _ (by simp)), h2.frame hb (hn _ (by simp)) (fun x hx => hn x (by simp [hx])), h3.but hb (hn _ (by simp)), rfl⟩

theorem VT.bx {X : WEnv} {bx : Nat} {out : List UInt8} {bv : Value} {w : World} (h1 : Blk w bx #[wpt X] 63) (h2 : BW X out bv w) : bx ∉ X.wr :: own bv := by
  intro hx
  rcases List.mem_cons.1 hx with e | hx
  · obtain ⟨A, _, hb⟩ := h2.blk
    rw [e] at h1
    exact absurd (h1.inj hb).2 (by decide)
  · obtain ⟨_, cs, fz, hg⟩ := ownsRowF_mem h2.row hx
    unfold Blk at h1
    rw [hg] at h1
    simp only [Option.some.injEq, Obj.cells.injEq] at h1
    exact absurd h1.2.1 (by decide)

theorem VT.lt {X : WEnv} {bx : Nat} {ag : List Nat} {val : Nat → Nat} {out : List UInt8} {fp : List Nat} {w : World} (h : VT X bx ag val out fp w) : ∀ x ∈ fp, x < w.heap.size := by
  obtain ⟨bv, h1, h2, h3, rfl⟩ := h
  intro x hx
  simp only [List.mem_cons] at hx
  rcases hx with rfl | rfl | rfl | hx
  · exact h1.lt
  · obtain ⟨n, D, _, h4, _⟩ := h3
    exact h4.lt
  · exact h2.lt
  · exact ownsRowF_lt h2.row hx

/-- Whatever a walk does: no node is met twice. -/
theorem come_met {σ : Type} {nodes : List NodeV} (hW : Whole nodes) (first again : Nat → PlaceV → σ → Option σ) (fin : Nat → σ → Option σ) (f : Nat) : ∀ id pl met met' (st st' : σ), comeS nodes first again fin f id pl (met, st) = some (met', st') → id < nodes.length → met.Nodup → (∀ x ∈ met, x < nodes.length) → met'.Nodup ∧ ∀ x ∈ met', x < nodes.length := by
  induction f with
  | zero => intro id pl met met' st st' h; cases h
  | succ f ih =>
    intro id pl met met' st st' h hid hn hl
    unfold comeS at h
    by_cases hm : id ∈ met
    · simp only [hm, if_true] at h
      obtain ⟨s1, _, h2⟩ := Option.map_eq_some_iff.1 h
      cases h2
      exact ⟨hn, hl⟩
    · simp only [hm, if_false] at h
      obtain ⟨s1, _, h2⟩ := Option.bind_eq_some_iff.1 h
      obtain ⟨r, h3, h4⟩ := Option.bind_eq_some_iff.1 h2
      obtain ⟨s2, _, h6⟩ := Option.map_eq_some_iff.1 h4
      cases h6
      have key : ∀ ps i m s r, (∀ p ∈ ps, p < nodes.length) → m.Nodup → (∀ x ∈ m, x < nodes.length) → partsGo (comeS nodes first again fin f) id ps i (m, s) = some r → r.1.Nodup ∧ ∀ x ∈ r.1, x < nodes.length := by
        intro ps
        induction ps with
        | nil => intro i m s r _ a b h; cases h; exact ⟨a, b⟩
        | cons p ps ihp =>
          intro i m s r hp a b h
          simp only [partsGo] at h
          obtain ⟨⟨m1, s1⟩, h1, h2⟩ := Option.bind_eq_some_iff.1 h
          obtain ⟨a1, b1⟩ := ih p _ m m1 s s1 h1 (hp p (List.mem_cons_self ..)) a b
          exact ihp _ _ _ _ (fun q hq => hp q (List.mem_cons_of_mem _ hq)) a1 b1 h2
      exact key _ _ _ _ _ (fun p hp => (hW.part hid hp).1) (List.nodup_cons.2 ⟨hm, hn⟩) (fun x hx => by
        rcases List.mem_cons.1 hx with rfl | hx
        · exact hid
        · exact hl x hx) h3

/-- What a closure leaves. -/
def VPost {σ : Type} (V : σ → List Nat → World → Prop) (fp : List Nat) (w : World) (st' : σ) (e : Ending) (w' : World) : Prop :=
  e = .returned (.tuple #[]) ∧ ∃ fp', V st' fp' w' ∧ But fp w w' ∧ ∀ x ∈ fp', x ∈ fp ∨ w.heap.size ≤ x

/-- The writer's steps since w, in the telling's words. -/
theorem VT.of {X : WEnv} {bx : Nat} {ag : List Nat} {val : Nat → Nat} {out' : List UInt8} {bv : Value} {w w' : World} {out : List UInt8} (h1 : Blk w bx #[wpt X] 63) (h2 : BW X out bv w) (h3 : NmOk X ag val w) (hp : WPost X out' bv w w') :
    ∃ fp', VT X bx ag val out' fp' w' ∧ But (bx :: X.nm :: X.wr :: own bv) w w' ∧ ∀ x ∈ fp', x ∈ bx :: X.nm :: X.wr :: own bv ∨ w.heap.size ≤ x := by
  obtain ⟨bv', hB, hb, ho⟩ := hp
  refine ⟨_, ⟨bv', hb.blk h1 (VT.bx h1 h2), hB, h3.but hb (nmap_apart h3 h2), rfl⟩, hb.mono (fun x hx => .inl ?_), fun x hx => ?_⟩
  · simp only [List.mem_cons] at hx ⊢
    rcases hx with hx | hx
    · exact .inr (.inr (.inl hx))
    · exact .inr (.inr (.inr hx))
  · simp only [List.mem_cons] at hx ⊢
    rcases hx with hx | hx | hx | hx
    · exact .inl (.inl hx)
    · exact .inl (.inr (.inl hx))
    · exact .inl (.inr (.inr (.inl hx)))
    · rcases ho x hx with h | h
      · exact .inl (.inr (.inr (.inr h)))
      · exact .inr h

theorem capL_some {l l' : List UInt8} (h : capL l = some l') : l' = l ∧ l.length ≤ 900000000 := by
  unfold capL at h
  split at h
  · cases h; exact ⟨rfl, by assumption⟩
  · cases h

theorem plV_agg (pl : PlaceV) : ∃ a b : Int, plV pl = .agg #[.int .i64 a, .int .i64 b] := by
  cases pl with
  | none => exact ⟨_, _, rfl⟩
  | some q => exact ⟨_, _, rfl⟩

set_option maxRecDepth 20000 in
set_option maxHeartbeats 2000000 in
theorem tell1_any (X : WEnv) (bx : Nat) (ag : List Nat) (val : Nat → Nat) (hval : ∀ x, val x = rankOf ag x) (an : Nat) (nv : Value) (rows : List Row) (base : Nat) (hNwr : X.N ≤ X.wr) (hW : Whole (rows.map Row.n)) (id : Nat) (hid : id < rows.length) (pl : PlaceV) (hpl : PlOk (rows.map Row.n) pl)
    (out out' : List UInt8) (hf : tFirst (rows.map Row.n) ag id pl out = some out') (fp : List Nat) (w : World) (hBs : Bs X an nv rows base w) (hV : VT X bx ag val out fp w) :
    Calls Tryz.prog 67 #[.int .i64 (id : Int), plV pl, .pointer (some ⟨bx, 0, none⟩)] w fun e w' => VPost (VT X bx ag val) fp w out' e w' := by
  obtain ⟨bv, hb1, hB, hN, rfl⟩ := hV
  obtain ⟨hout, hlen⟩ := capL_some hf
  have HO : Hid _ := hout
  have hlenN := hW.len
  have hnode := hW.node (i := id) (by simpa using hid)
  rw [nodeAt_rows rows id hid] at hnode
  have hrk := rankOf_le ag id
  have hidl : id ≤ 500 := by simp at hlenN; omega
  simp only [List.length_append] at hlen
  clear hout hf
  have hNm := hval id
  obtain ⟨pa, pb, hpv⟩ := plV_agg pl
  have HPV : Hid _ := hpv
  have hbA : But [] w (w.alloc (.cells #[.int .i64 pa, .int .i64 pb] 124)) := alloc_but _ _
  have hBA := hB.frame hbA (by simp) (by simp)
  have hBsA := hBs.below (hbA.below hB.N (by simp))
  have HL : Hid _ := wLead_any X out bv _ hBA an nv rows base hBsA.gi hNwr hW pl hpl (by omega)
  have hx1 : (w.alloc (.cells #[.int .i64 pa, .int .i64 pb] 124)).cell? ⟨bx, 0, none⟩ = some (wpt X) := (hbA.blk hb1 (by simp)).cell rfl
  rw [hpv] at HL ⊢
  clear hpv
  go_enter Tryz.func67, Tryz.ntmps67
  go_wp2_with fail
  refine Calls.mono HL.out ?_
  rintro e w1 ⟨rfl, hp1⟩
  have hp1' : WPost X (out ++ leadL (rows.map Row.n) pl) bv w w1 := by
    obtain ⟨bv1, q1, q2, q3⟩ := hp1
    refine ⟨bv1, q1, (hbA.mono (S' := X.wr :: own bv) (by simp)).trans q2 (fun x hx => .inl hx), fun x hx => ?_⟩
    rcases q3 x hx with h | h
    · exact .inl h
    · exact .inr (by simp at h; omega)
  obtain ⟨bv1, hB1, hbb1, ho1⟩ := hp1'
  have hN1 := hN.but hbb1 (nmap_apart hN hB)
  have hx2 : w1.cell? ⟨bx, 0, none⟩ = some (wpt X) := (hbb1.blk hb1 (VT.bx hb1 hB)).cell rfl
  have c2 := hB1.cell.2.2.1
  have hBel : ∀ {W W' : World} {o : List UInt8} {b : Value}, BW X o b W → But (X.wr :: own b) W W' → Below X.N W W' := fun hq hbq => hbq.below hq.N (fun x hx => by
    rcases List.mem_cons.1 hx with rfl | hx
    · exact hNwr
    · exact (ownsRowF_mem hq.row hx).1)
  have hBs1 := hBs.below (hBel hB hbb1)
  obtain ⟨c, hlk⟩ := hN1.lookOk (id := id) (by omega)
  clear HL hp1 hbA hBA hBsA hx1
  by_cases hag : id ∈ ag
  · have hd : decide (id ∈ ag) = true := by simpa using hag
    have hh : headL ag id = nameL 38 ag id ++ [32] := by unfold headL; rw [if_pos hag]
    have HH : Hid _ := hh
    have hnl : (nameL 38 ag id).length = (38 :: 110 :: decL (val id)).length := by rw [hNm]; rfl
    rw [hd] at hlk
    rw [hh] at hlen
    simp only [List.length_append, List.length_cons, List.length_nil] at hlen
    have HNM : Hid _ := wName_any X _ bv1 w1 hB1 ag val hN1 hBs1.tabs hNwr 38 38 rfl id hag (by omega) (by omega) (by simp only [List.length_append]; omega)
    clear hh hd
    go_wp2_with fail
    refine Calls.mono HNM.out ?_
    rintro e w2 ⟨rfl, hp2⟩
    obtain ⟨bv2, hB2, hbb2, ho2⟩ := WPost.trans hbb1 ho1 hp2
    have hx3 : w2.cell? ⟨bx, 0, none⟩ = some (wpt X) := (hbb2.blk hb1 (VT.bx hb1 hB)).cell rfl
    clear HNM hlk hx2 c2
    go_wp2_with fail
    refine (wByte_any X _ bv2 w2 hB2 32 32 rfl (by rw [hNm]; simp only [List.length_append]; simp only [nameL] at hlen; simp only [List.length_cons] at hlen ⊢; omega)).mono ?_
    rintro e w3 ⟨rfl, hp3⟩
    obtain ⟨bv3, hB3, hbb3, ho3⟩ := WPost.trans hbb2 ho2 hp3
    have hx4 : w3.cell? ⟨bx, 0, none⟩ = some (wpt X) := (hbb3.blk hb1 (VT.bx hb1 hB)).cell rfl
    have hBs3 := hBs.below (hBel hB hbb3)
    clear hx3
    go_wp2_with fail
    refine (wOpen_any X _ bv3 w3 hB3 an nv rows base hBs3.gi id hid hnode.kind hnode.text.1 (by rw [hNm]; simp only [List.length_append]; simp only [nameL] at hlen; simp only [List.length_cons, List.length_nil] at hlen ⊢; omega)).mono ?_
    rintro e w4 ⟨rfl, hp4⟩
    have hp := WPost.trans hbb3 ho3 hp4
    go_wp2_with fail
    go_end0
    refine ⟨rfl, ?_⟩
    rw [HO.out, HH.out]
    refine VT.of hb1 hB hN ?_
    rw [hNm] at hp
    simpa [List.append_assoc, nameL] using hp
  · have hd : decide (id ∈ ag) = false := by simpa using hag
    have HH : Hid (headL ag id = []) := by unfold Hid headL; rw [if_neg hag]
    rw [hd] at hlk
    have HOP : Hid _ := wOpen_any X _ bv1 w1 hB1 an nv rows base hBs1.gi id hid hnode.kind hnode.text.1 (by simp only [List.length_append]; omega)
    clear hd
    go_wp2_with fail
    refine Calls.mono HOP.out ?_
    rintro e w4 ⟨rfl, hp4⟩
    have hp := WPost.trans hbb1 ho1 hp4
    go_wp2_with fail
    go_end0
    refine ⟨rfl, ?_⟩
    rw [HO.out, HH.out]
    refine VT.of hb1 hB hN ?_
    simpa [List.append_assoc] using hp

set_option maxRecDepth 20000 in
set_option maxHeartbeats 2000000 in
theorem tell2_any (X : WEnv) (bx : Nat) (ag : List Nat) (val : Nat → Nat) (hval : ∀ x, val x = rankOf ag x) (an : Nat) (nv : Value) (rows : List Row) (base : Nat) (hNwr : X.N ≤ X.wr) (hW : Whole (rows.map Row.n)) (id : Nat) (hid : id < rows.length) (pl : PlaceV) (hpl : PlOk (rows.map Row.n) pl)
    (out out' : List UInt8) (hf : tAgain (rows.map Row.n) ag id pl out = some out') (fp : List Nat) (w : World) (hBs : Bs X an nv rows base w) (hV : VT X bx ag val out fp w) :
    Calls Tryz.prog 72 #[.int .i64 (id : Int), plV pl, .pointer (some ⟨bx, 0, none⟩)] w fun e w' => VPost (VT X bx ag val) fp w out' e w' := by
  obtain ⟨bv, hb1, hB, hN, rfl⟩ := hV
  unfold tAgain at hf
  split at hf
  case isFalse => cases hf
  rename_i hag
  obtain ⟨hout, hlen⟩ := capL_some hf
  have HO : Hid _ := hout
  have hlenN := hW.len
  have hrk := rankOf_le ag id
  have hidl : id ≤ 500 := by simp at hlenN; omega
  simp only [List.length_append] at hlen
  clear hout hf
  have hNm := hval id
  obtain ⟨pa, pb, hpv⟩ := plV_agg pl
  have hbA : But [] w (w.alloc (.cells #[.int .i64 pa, .int .i64 pb] 124)) := alloc_but _ _
  have hBA := hB.frame hbA (by simp) (by simp)
  have hBsA := hBs.below (hbA.below hB.N (by simp))
  have HL : Hid _ := wLead_any X out bv _ hBA an nv rows base hBsA.gi hNwr hW pl hpl (by omega)
  have hx1 : (w.alloc (.cells #[.int .i64 pa, .int .i64 pb] 124)).cell? ⟨bx, 0, none⟩ = some (wpt X) := (hbA.blk hb1 (by simp)).cell rfl
  rw [hpv] at HL ⊢
  clear hpv
  go_enter Tryz.func72, Tryz.ntmps72
  go_wp2_with fail
  refine Calls.mono HL.out ?_
  rintro e w1 ⟨rfl, hp1⟩
  have hp1' : WPost X (out ++ leadL (rows.map Row.n) pl) bv w w1 := by
    obtain ⟨bv1, q1, q2, q3⟩ := hp1
    refine ⟨bv1, q1, (hbA.mono (S' := X.wr :: own bv) (by simp)).trans q2 (fun x hx => .inl hx), fun x hx => ?_⟩
    rcases q3 x hx with h | h
    · exact .inl h
    · exact .inr (by simp at h; omega)
  obtain ⟨bv1, hB1, hbb1, ho1⟩ := hp1'
  have hN1 := hN.but hbb1 (nmap_apart hN hB)
  have hx2 : w1.cell? ⟨bx, 0, none⟩ = some (wpt X) := (hbb1.blk hb1 (VT.bx hb1 hB)).cell rfl
  have hBs1 := hBs.below (hbb1.below hB.N (fun x hx => by
    rcases List.mem_cons.1 hx with rfl | hx
    · exact hNwr
    · exact (ownsRowF_mem hB.row hx).1))
  have hnl : (nameL 42 ag id).length = (42 :: 110 :: decL (val id)).length := by rw [hNm]; rfl
  have HNM : Hid _ := wName_any X _ bv1 w1 hB1 ag val hN1 hBs1.tabs hNwr 42 42 rfl id hag (by omega) (by omega) (by simp only [List.length_append]; omega)
  clear HL hp1 hbA hBA hBsA hx1
  go_wp2_with fail
  refine Calls.mono HNM.out ?_
  rintro e w2 ⟨rfl, hp2⟩
  have hp := WPost.trans hbb1 ho1 hp2
  go_wp2_with fail
  go_end0
  refine ⟨rfl, ?_⟩
  rw [HO.out]
  refine VT.of hb1 hB hN ?_
  rw [hNm] at hp
  simpa [List.append_assoc, nameL] using hp

theorem tell3_any (X : WEnv) (bx : Nat) (ag : List Nat) (val : Nat → Nat) (an : Nat) (nv : Value) (rows : List Row) (base : Nat) (hW : Whole (rows.map Row.n)) (id : Nat) (hid : id < rows.length)
    (out out' : List UInt8) (hf : tFin (rows.map Row.n) id out = some out') (fp : List Nat) (w : World) (hBs : Bs X an nv rows base w) (hV : VT X bx ag val out fp w) :
    Calls Tryz.prog 73 #[wpt X, .int .i64 (id : Int)] w fun e w' => VPost (VT X bx ag val) fp w out' e w' := by
  obtain ⟨bv, hb1, hB, hN, rfl⟩ := hV
  obtain ⟨hout, hlen⟩ := capL_some hf
  have hnode := hW.node (i := id) (by simpa using hid)
  rw [nodeAt_rows rows id hid] at hnode
  simp only [List.length_append] at hlen
  refine (wShut_any X out bv w hB an nv rows base hBs.gi id hid hnode.kind (by omega)).mono ?_
  rintro e w1 ⟨rfl, hp⟩
  rw [hout]
  exact ⟨rfl, VT.of hb1 hB hN hp⟩

end Go.Proofs.YtkflkmmbakccoaaGreatDoor
