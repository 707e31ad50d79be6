/- PARTS: S0, K5, RG. -/
import Derived.Test.YtkflkmmbakccoaaGreatDoorJ29
import Derived.ChangeMaps5
import Derived.Test.YtkflkmmbakccoaaGreatDoorJ19
import Derived.Test.YtkflkmmbakccoaaGreatDoorJ2
import Derived.StillTailTactics

/- THE STATEMENTS' GROUND: the laid table, where no error is laid. -/
namespace Go.Proofs.YtkflkmmbakccoaaGreatDoor
open Go.ChangeShapes Go.WideShapes Go.ChangeAt Go.WideElems Go.RowKit Go.Deep

set_option maxRecDepth 100000 in
theorem tabw_of_laid {W : World} (h : laidMetH Tryz.prog Rows.leastRow.laid W) : TabW W.heap.size W := by
  have h0 : laidMet Tryz.prog Rows.leastRow.laid W := by
    rw [MakeChecks.laidMetH_plain _ _ _ (by kernel_rfl)] at h
    exact h
  have h1 : laidMet Tryz.prog [("internal/strconv.uint64pow10", Lib.tabData .u64 Lib.pow10Tab)] W := by
    rw [← pow_data]
    exact h0.tail.tail
  have p1 : Lib.TabIs Tryz.prog W "internal/strconv.uint64pow10" .u64 Lib.pow10Tab := Lib.tabIs_of_head g_pow (t := 220) (e := 191) (n := 20) (by kernel_rfl) (by kernel_rfl) (by kernel_rfl) (by kernel_rfl) (by kernel_rfl) h1
  exact ⟨p1, var_lt g_pow p1⟩

/-- The door's own heap meets the condition. -/
theorem doorW_met (os : Os) (args : Array Value) : laidMetH Tryz.prog Rows.leastRow.laid ((World.doorLaid Tryz.prog 4000 os).forCall (fun _ _ => 0) ⟨#[], args, []⟩).memory :=
  laidMetH_of_parts3 (fuel := 8) (laidMet_of_run' 8 (by kernel_rfl) (by kernel_rfl)) (by kernel_rfl) (by kernel_rfl)

theorem maxLen_le : maxLen ≤ 9223372036854775807 := by decide

end Go.Proofs.YtkflkmmbakccoaaGreatDoor

/- WALKS: package grafterkeep: pick. -/
namespace Go.Proofs.YtkflkmmbakccoaaGreatDoor
open Go.RowKit Go.Maps

/-- Which of n numbers a raw one speaks of. -/
def pickM (c n : Int) : Int := if c < 0 then -(c + 1).tmod n else c % n

theorem pickM_bd {c n : Int} (hn : 0 < n) : 0 ≤ pickM c n ∧ pickM c n < n := by
  unfold pickM
  split
  · rw [← Int.neg_tmod]
    exact ⟨Int.tmod_nonneg n (by omega), Int.tmod_lt_of_pos _ hn⟩
  · exact ⟨Int.emod_nonneg _ (by omega), Int.emod_lt_of_pos _ hn⟩

set_option maxHeartbeats 400000 in
theorem kPick_any (c n : Int) (hc : -9223372036854775808 ≤ c ∧ c ≤ 9223372036854775807) (hn : 0 < n ∧ n ≤ 100000) (w : World) :
    Calls Tryz.prog 17 #[.int .i64 c, .int .i64 n] w fun e w' => e = .returned (.int .i64 (pickM c n)) ∧ w' = w := by
  obtain ⟨c1, c2⟩ := hc
  obtain ⟨n1, n2⟩ := hn
  have hb := pickM_bd (c := c) n1
  by_cases h0 : c < 0
  · have HP : Hid (pickM c n = -(c + 1).tmod n) := by unfold Hid pickM; rw [if_pos h0]
    rw [HP.out] at hb
    go_enter Tryz.func17, Tryz.ntmps17
    go_wp2_with fail
    go_ret
    rw [HP.out]
    exact ⟨rfl, rfl⟩
  · have HP : Hid (pickM c n = c % n) := by unfold Hid pickM; rw [if_neg h0]
    rw [HP.out] at hb
    go_enter Tryz.func17, Tryz.ntmps17
    go_wp2_with fail
    go_ret
    rw [HP.out]
    exact ⟨rfl, rfl⟩

end Go.Proofs.YtkflkmmbakccoaaGreatDoor

/- A LAW OF REGIONS: a statement that draws its order, whose operations only read but for one that makes a block (at whatever time) and the last, which stores. -/
namespace Go.Proofs.YtkflkmmbakccoaaGreatDoor
open Go

section
variable {P : Program} {ops : Array Oper}

/-- The first n operations in any order, in one world. -/
def HeadAny (P : Program) (ops : Array Oper) (W : World) (n : Nat) (E : Array Bool → Prop) (QF : Act → Prop) : Nat → Array Bool → Act → Prop
  | 0, listed, a => E listed ∧ QF a
  | f + 1, listed, a => (∃ i ∈ Region.ready .any ops listed, i < n) ∧ ∀ i ∈ Region.ready .any ops listed, i < n → stOp P ops W i (HeadAny P ops W n E QF f (listed.setIfInBounds i true)) a

theorem HeadAny.first {W : World} {n i : Nat} {oi : Oper} {v : Value} {E : Array Bool → Prop} {QF : Act → Prop} (hi : ops[i]? = some oi) (hsel : ∀ (j : Nat) (o : Oper) cs b, ops[j]? = some o → o.op ≠ .select cs b) (hin : i < n)
    (hdone : ∀ listed, E listed → ∀ j ∈ Region.ready .any ops listed, n ≤ j) : ∀ (f : Nat) (listed : Array Bool) (a : Act),
      (∀ j oj, ops[j]? = some oj → j ≠ i → listed.getD j true = false → (∀ e ∈ oj.after, Region.binds .any e = true → e.on ≠ i) → oi.apart ops oj = true) →
      i ∈ Region.ready .any ops listed → YieldsAt P ops W oi v a → HeadAny P ops W n E QF f (listed.setIfInBounds i true) (a.put oi.dst v) → HeadAny P ops W n E QF (f + 1) listed a := by
  intro f
  induction f with
  | zero =>
    intro listed a _ hr hy H
    refine ⟨⟨i, hr, hin⟩, fun j hj hjn => ?_⟩
    by_cases hji : j = i
    · subst hji; exact hy.stOp hi H
    · have := hdone _ H.1 j (ready_mono hj hji)
      omega
  | succ f ih =>
    intro listed a hfree hr hy H
    have hun := (mem_ready.1 hr).1
    refine ⟨⟨i, hr, hin⟩, fun j hj hjn => ?_⟩
    by_cases hji : j = i
    · subst hji; exact hy.stOp hi H
    · have h1 := H.2 j (ready_mono hj hji) hjn
      obtain ⟨hjun, oj, hoj, hall⟩ := mem_ready.1 hj
      have hnot : ∀ e ∈ oj.after, Region.binds .any e = true → e.on ≠ i := fun e he hb heq => by
        have h1 := hall e he hb
        rw [heq, getD_both hun] at h1
        cases h1
      have h2 := stOp_put hoj (hfree j oj hoj hji hjun hnot) (fun cs b => hsel i oi cs b hi) (fun cs b => hsel j oj cs b hoj) hy h1
      have hfree' : ∀ k ok, ops[k]? = some ok → k ≠ i → (listed.setIfInBounds j true).getD k true = false →
          (∀ e ∈ ok.after, Region.binds .any e = true → e.on ≠ i) → oi.apart ops ok = true := fun k ok hk hki hun hno => by
        refine hfree k ok hk hki ?_ hno
        by_cases hjk : j = k
        · subst hjk; exact hjun
        · rw [getD_set_ne true hjk] at hun; exact hun
      refine stOp_mono (fun a' h3 => ih (listed.setIfInBounds j true) a' hfree' (ready_mono hr (Ne.symm hji)) h3.1 ?_) h2
      rw [Array.setIfInBounds_comm _ _ hji]
      exact h3.2

/-- The order of the text is one that may be. -/
def headB (ops : Array Oper) (fin : Array Bool → Bool) : Nat → Nat → Array Bool → Bool
  | 0, _, listed => fin listed
  | f + 1, k, listed => (Region.ready .any ops listed).contains k && Region.free .any ops listed k && headB ops fin f (k + 1) (listed.setIfInBounds k true)

theorem HeadAny.lex {W : World} {n : Nat} {fin : Array Bool → Bool} {QF : Act → Prop} (hsel : Region.noSelect ops = true) (hdone : ∀ listed, fin listed = true → ∀ j ∈ Region.ready .any ops listed, n ≤ j) :
    ∀ (l : List Oper) (k : Nat) (listed : Array Bool) (a : Act), (∀ j, j < l.length → l[j]? = ops[k + j]?) → k + l.length = n → headB ops fin l.length k listed = true → wpStill P ops W QF l a →
      HeadAny P ops W n (fun x => fin x = true) QF l.length listed a
  | [], k, listed, a, _, _, hB, h => ⟨hB, h⟩
  | o :: l, k, listed, a, hl, hk, hB, h => by
    have h0 : ops[k]? = some o := by simpa using (hl 0 (by simp)).symm
    simp only [List.length_cons, headB, Bool.and_eq_true] at hB
    obtain ⟨⟨hr, hf⟩, hB'⟩ := hB
    have hkn : k < n := by simp only [List.length_cons] at hk; omega
    have hst : stOp P ops W k (wpStill P ops W QF l) a := by unfold stOp; simp only [h0]; exact h
    obtain ⟨v, hy, hK⟩ := yieldsAt_of_stOp h0 hst
    exact HeadAny.first h0 (Region.noSelect_spec hsel) hkn hdone l.length listed a (Region.free_spec h0 hf) (by simpa using hr) hy
      (HeadAny.lex hsel hdone l (k + 1) _ _ (fun j hj => by have := hl (j + 1) (by simp; omega); simpa [Nat.add_assoc, Nat.add_comm 1 j] using this) (by simp only [List.length_cons] at hk; omega) hB' hK)

theorem put_getD_ne (a : Act) {d : Option Tmp} (v : Value) {x : Nat} (h : d ≠ some x) : (a.put d v).tmps.getD x undef = a.tmps.getD x undef := by
  cases d with
  | none => rfl
  | some y =>
    have hxy : y ≠ x := fun e => h (by rw [e])
    simp [Act.put, Array.getElem?_setIfInBounds_ne hxy]

/-- What an operation has yielded stays. -/
theorem HeadAny.keep {W : World} {n : Nat} {E : Array Bool → Prop} {QF : Act → Prop} {aX : Act} (hQ : ∀ a, QF a → a = aX) (x : Nat) : ∀ (f : Nat) (listed : Array Bool) (a : Act),
    (∀ i oi, i < n → ops[i]? = some oi → listed.getD i true = false → oi.dst ≠ some x) → HeadAny P ops W n E QF f listed a → aX.tmps.getD x undef = a.tmps.getD x undef := by
  intro f
  induction f with
  | zero => intro listed a _ h; rw [hQ a h.2]
  | succ f ih =>
    intro listed a hx h
    obtain ⟨⟨i, hr, hin⟩, hall⟩ := h
    obtain ⟨hun, oi, hoi, _⟩ := mem_ready.1 hr
    obtain ⟨v, _, hK⟩ := yieldsAt_of_stOp hoi (hall i hr hin)
    have := ih _ _ (fun j oj hj hoj hlj => by
      by_cases hij : i = j
      · subst hij; exact hx i oj hj hoj hun
      · rw [getD_set_ne true hij] at hlj; exact hx j oj hj hoj hlj) hK
    rw [this, put_getD_ne a v (hx i oi hin hoi hun)]

/-- The block is made: what is left. -/
theorem head_made {W1 : World} {n : Nat} {os : Oper} {Q : Exit → Act → World → Prop} {QF : Act → Prop} (hs : ops[n + 1]? = some os) (hsz : ops.size = n + 2) (hwait : ∀ i, i ≤ n → Region.waitsFor .any ops (n + 1) i = true) (hQ : ∀ a, QF a → wpList P ops Q [os] a W1) :
    ∀ (f : Nat) (listed : Array Bool) (a : Act), listed.getD n true = true → HeadAny P ops W1 n (fun x => Region.seqB .any ops 1 (n + 1) x = true) QF f listed a → wpAny P .any ops Q (f + 1) listed a W1 := by
  intro f
  induction f with
  | zero =>
    intro listed a _ h
    refine wpAny_of_seq [os] (n + 1) listed a W1 (fun j => ?_) h.1 (hQ a h.2)
    cases j with
    | zero => simpa using hs.symm
    | succ j => rw [Array.getElem?_eq_none (by omega)]; rfl
  | succ f ih =>
    intro listed a hn h
    obtain ⟨⟨j, hjr, hjn⟩, hall⟩ := h
    refine ⟨fun h => (by rw [h] at hjr; cases hjr), fun i hi => ?_⟩
    obtain ⟨hiun, oi, hoi, hdeps⟩ := mem_ready.1 hi
    have hin : i < n := by
      have hilt : i < ops.size := (Array.getElem?_eq_some_iff.1 hoi).1
      by_cases h1 : i < n
      · exact h1
      · exfalso
        by_cases h2 : i = n
        · rw [h2, hn] at hiun; cases hiun
        · have h3 : i = n + 1 := by omega
          subst h3
          obtain ⟨oj, hoj, e, he, hb, hon⟩ := Region.waitsFor_spec (hwait j (by omega))
          have : oj = oi := Option.some.inj (hoj.symm.trans hoi)
          subst this
          have h4 := hdeps e he hb
          rw [hon, getD_both (mem_ready.1 hjr).1] at h4
          cases h4
    exact wpOp_of_stOp (fun a' h' => ih _ a' (by rw [getD_set_ne true (by omega)]; exact hn) h') (hall i hi hin)

/-- The block may be made at any time. -/
theorem head_any {W0 W1 : World} {n dq : Nat} {oq os : Oper} {ptr : Value} {Q : Exit → Act → World → Prop} {aF : Act} {QT : Act → Prop} (hq : ops[n]? = some oq) (hdq : oq.dst = some dq)
    (halloc : ∀ a : Act, Region.wanted oq (yielded ops a.tmps) = true ∧ (execOp a.eval oq).run P W0 = .ok (.value ptr) W1) (hs : ops[n + 1]? = some os) (hsz : ops.size = n + 2) (hwait : ∀ i, i ≤ n → Region.waitsFor .any ops (n + 1) i = true)
    (hdist : ∀ i j oi oj, i < n → j < n → i ≠ j → ops[i]? = some oi → ops[j]? = some oj → ∀ x, oi.dst = some x → oj.dst ≠ some x) (hne : ∀ i oi, i < n → ops[i]? = some oi → oi.dst ≠ some dq) (hQ : ∀ a, QT a → wpList P ops Q [os] a W1) :
    ∀ (f : Nat) (listed : Array Bool) (a : Act), n < listed.size → listed.getD n true = false → HeadAny P ops W0 n (fun x => decide (Region.ready .any ops x = [n]) = true) (fun a' => a' = aF) f listed a →
      HeadAny P ops W1 n (fun x => Region.seqB .any ops 1 (n + 1) x = true) (fun a' => a' = aF.put (some dq) ptr ∧ QT a') f (listed.setIfInBounds n true) (a.put (some dq) ptr) → wpAny P .any ops Q (f + 2) listed a W0 := by
  have hop : ∀ (f : Nat) (listed : Array Bool) (a : Act), n < listed.size → HeadAny P ops W1 n (fun x => Region.seqB .any ops 1 (n + 1) x = true) (fun a' => a' = aF.put (some dq) ptr ∧ QT a') f (listed.setIfInBounds n true) (a.put (some dq) ptr) →
      wpOp P ops Q n (wpAny P .any ops Q (f + 1) (listed.setIfInBounds n true)) a W0 := fun f listed a hl h => by
    unfold wpOp
    simp only [hq]
    rw [if_pos (halloc a).1]
    left
    unfold Oper.wp
    rw [(halloc a).2]
    simp only [Oper.upon]
    rw [hdq]
    exact head_made hs hsz hwait (fun a h => hQ a h.2) f _ _ (by simp [hl]) h
  intro f
  induction f with
  | zero =>
    intro listed a hl _ h0 h1
    have hr : Region.ready .any ops listed = [n] := by simpa using h0.1
    refine ⟨fun h => (by rw [h] at hr; cases hr), fun i hi => ?_⟩
    rw [hr] at hi
    have : i = n := by simpa using hi
    subst this
    exact hop 0 listed a hl h1
  | succ f ih =>
    intro listed a hl hn h0 h1
    have h1' := h1
    obtain ⟨⟨j, hjr, hjn⟩, hall⟩ := h0
    obtain ⟨_, hall1⟩ := h1
    refine ⟨fun h => (by rw [h] at hjr; cases hjr), fun i hi => ?_⟩
    obtain ⟨hiun, oi, hoi, hdeps⟩ := mem_ready.1 hi
    have hilt : i < ops.size := (Array.getElem?_eq_some_iff.1 hoi).1
    by_cases hin : i < n
    · obtain ⟨v, hy, hK⟩ := yieldsAt_of_stOp hoi (hall i hi hin)
      obtain ⟨v', hy', hK'⟩ := yieldsAt_of_stOp hoi (hall1 i (ready_mono hi (by omega)) hin)
      have hcomm : (listed.setIfInBounds n true).setIfInBounds i true = (listed.setIfInBounds i true).setIfInBounds n true := Array.setIfInBounds_comm _ _ (by omega)
      rw [hcomm] at hK'
      have hpc : (a.put (some dq) ptr).put oi.dst v' = (a.put oi.dst v').put (some dq) ptr := Act.put_comm a ptr v' (fun d hd e => hne i oi hin hoi (by rw [e, ← hd]))
      rw [hpc] at hK'
      have hvv : a.put oi.dst v' = a.put oi.dst v := by
        cases hd : oi.dst with
        | none => rfl
        | some x =>
          by_cases hx : x < a.tmps.size
          · have hun : ∀ (k : Nat) (ok : Oper), k < n → ops[k]? = some ok → (listed.setIfInBounds i true).getD k true = false → ok.dst ≠ some x := fun k ok hk hok hlk => by
              by_cases hik : i = k
              · subst hik
                simp only [Array.getD_eq_getD_getElem?] at hlk
                rw [Array.getElem?_setIfInBounds_self_of_lt (by omega)] at hlk
                cases hlk
              · exact hdist i k oi ok hin hk hik hoi hok x hd
            have e0 := HeadAny.keep (aX := aF) (fun a h => h) x f _ _ hun hK
            have e1 := HeadAny.keep (aX := aF.put (some dq) ptr) (fun a h => h.1) x f _ _ (fun k ok hk hok hlk => hun k ok hk hok (by
              by_cases hnk : n = k
              · omega
              · rw [getD_set_ne true hnk] at hlk; exact hlk)) hK'
            have hdx : (some dq : Option Tmp) ≠ some x := fun e => hne i oi hin hoi (by rw [hd, e])
            rw [put_getD_ne _ _ hdx, put_getD_ne _ _ hdx, hd] at e1
            rw [hd] at e0
            have s0 : (a.put (some x) v).tmps.getD x undef = v := by simp [Act.put, hx]
            have s1 : (a.put (some x) v').tmps.getD x undef = v' := by simp [Act.put, hx]
            rw [s0] at e0
            rw [s1] at e1
            rw [← e0, ← e1]
          · simp [Act.put, Array.setIfInBounds, hx]
      rw [hvv] at hK'
      have := ih (listed.setIfInBounds i true) (a.put oi.dst v) (by simpa using hl) (by rw [getD_set_ne true (by omega)]; exact hn) hK hK'
      exact wpOp_of_stOp (K := fun a' => wpAny P .any ops Q (f + 2) (listed.setIfInBounds i true) a' W0) (fun a' h' => h') (hy.stOp hoi this)
    · by_cases h2 : i = n
      · subst h2
        exact hop (f + 1) listed a hl h1'
      · exfalso
        have h3 : i = n + 1 := by omega
        subst h3
        obtain ⟨oj, hoj, e, he, hb, hon⟩ := Region.waitsFor_spec (hwait n (Nat.le_refl _))
        have : oj = oi := Option.some.inj (hoj.symm.trans hoi)
        subst this
        have h4 := hdeps e he hb
        rw [hon, getD_both hn] at h4
        cases h4

/-- Each operation of the head yields into a slot of its own. -/
def distB (ops : Array Oper) (n dq : Nat) : Bool :=
  (List.range n).all fun i => ((ops[i]?).map fun oi => oi.dst != some dq && (List.range n).all fun j => i == j || ((ops[j]?).map fun oj => oi.dst == none || oj.dst != oi.dst).getD true).getD true

theorem distB_spec {n dq : Nat} (h : distB ops n dq = true) : (∀ i j oi oj, i < n → j < n → i ≠ j → ops[i]? = some oi → ops[j]? = some oj → ∀ x, oi.dst = some x → oj.dst ≠ some x) ∧ ∀ i oi, i < n → ops[i]? = some oi → oi.dst ≠ some dq := by
  have key : ∀ i oi, i < n → ops[i]? = some oi → (oi.dst != some dq) = true ∧ ∀ j, j < n → (i == j || ((ops[j]?).map fun oj => oi.dst == none || oj.dst != oi.dst).getD true) = true := fun i oi hi hoi => by
    have h1 := List.all_eq_true.1 h i (List.mem_range.2 hi)
    rw [hoi] at h1
    simp only [Option.map_some, Option.getD_some, Bool.and_eq_true] at h1
    exact ⟨h1.1, fun j hj => List.all_eq_true.1 h1.2 j (List.mem_range.2 hj)⟩
  refine ⟨fun i j oi oj hi hj hij hoi hoj x hx => ?_, fun i oi hi hoi => by simpa using (key i oi hi hoi).1⟩
  have h2 := (key i oi hi hoi).2 j hj
  rw [hoj] at h2
  simp only [Option.map_some, Option.getD_some, hx] at h2
  intro e
  rw [e] at h2
  simp at h2
  exact hij h2

/-- A region of which n operations only read, the next makes a block, the last stores into it. -/
theorem region_new {id : Nat} {Q : Exit → Act → World → Prop} {a : Act} {w : World} {l : List Oper} (n dq : Nat) (oq os : Oper) (ptr : Value) (W1 : World) (hm : P.follows .mixedOrders = true)
    (hB : (Region.noSelect l.toArray && decide (l.length = n + 2) && (List.range (n + 1)).all (fun i => Region.waitsFor .any l.toArray (n + 1) i) && distB l.toArray n dq && headB l.toArray (fun x => decide (Region.ready .any l.toArray x = [n])) n 0 (Array.replicate (n + 2) false) &&
      headB l.toArray (fun x => Region.seqB .any l.toArray 1 (n + 1) x) n 0 ((Array.replicate (n + 2) false).setIfInBounds n true)) = true)
    (hq : l[n]? = some oq) (hs : l[n + 1]? = some os) (hdq : oq.dst = some dq) (halloc : ∀ a : Act, Region.wanted oq (yielded l.toArray a.tmps) = true ∧ (execOp a.eval oq).run P w.drew = .ok (.value ptr) W1)
    (h : ∃ aF : Act, wpStill P l.toArray w.drew (fun a' => a' = aF) (l.take n) a ∧ wpStill P l.toArray W1 (fun a' => a' = aF.put (some dq) ptr ∧ wpList P l.toArray Q [os] a' W1) (l.take n) (a.put (some dq) ptr)) : (Code.region id l.toArray true).wp P Q a w := by
  simp only [Bool.and_eq_true, decide_eq_true_eq] at hB
  obtain ⟨⟨⟨⟨⟨hsel, hlen⟩, hwait⟩, hdist⟩, hb0⟩, hb1⟩ := hB
  obtain ⟨aF, h0, h1⟩ := h
  obtain ⟨hd1, hd2⟩ := distB_spec hdist
  have hsz : l.toArray.size = n + 2 := by simpa using hlen
  have hwait' : ∀ i, i ≤ n → Region.waitsFor .any l.toArray (n + 1) i = true := fun i hi => List.all_eq_true.1 hwait i (List.mem_range.2 (by omega))
  have htl : (l.take n).length = n := by simp; omega
  have hget : ∀ j, j < (l.take n).length → (l.take n)[j]? = l.toArray[0 + j]? := fun j hj => by
    rw [htl] at hj
    simp [hj]
  have hdone0 : ∀ listed, decide (Region.ready .any l.toArray listed = [n]) = true → ∀ j ∈ Region.ready .any l.toArray listed, n ≤ j := fun listed hE j hj => by
    have hE' : Region.ready .any l.toArray listed = [n] := by simpa using hE
    rw [hE'] at hj
    have : j = n := by simpa using hj
    omega
  have hdone1 : ∀ listed, Region.seqB .any l.toArray 1 (n + 1) listed = true → ∀ j ∈ Region.ready .any l.toArray listed, n ≤ j := fun listed hE j hj => by
    have := seqB_ready hE j hj
    omega
  have H0 := HeadAny.lex (P := P) (ops := l.toArray) (W := w.drew) (n := n) (fin := fun x => decide (Region.ready .any l.toArray x = [n])) (QF := fun a' => a' = aF) hsel hdone0 (l.take n) 0 (Array.replicate (n + 2) false) a hget (by rw [htl]; omega) (by rw [htl]; exact hb0) h0
  have H1 := HeadAny.lex (P := P) (ops := l.toArray) (W := W1) (n := n) (fin := fun x => Region.seqB .any l.toArray 1 (n + 1) x) (QF := fun a' => a' = aF.put (some dq) ptr ∧ wpList P l.toArray Q [os] a' W1) hsel hdone1 (l.take n) 0 ((Array.replicate (n + 2) false).setIfInBounds n true) (a.put (some dq) ptr) hget (by rw [htl]; omega) (by rw [htl]; exact hb1) h1
  rw [htl] at H0 H1
  refine wp_region_any hm ?_
  rw [hsz]
  exact head_any (oq := oq) (os := os) (by simpa using hq) hdq halloc (by simpa using hs) hsz hwait' hd1 hd2 (fun a h => h) n (Array.replicate (n + 2) false) a (by simp) (by simp) H0 H1

end

end Go.Proofs.YtkflkmmbakccoaaGreatDoor
