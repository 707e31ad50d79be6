/- PARTS: K5, Mod23, K7, K8, S0. -/
import Derived.Test.YtkflkmmbakccoaaGreatDoorJ19
import Derived.Test.YtkflkmmbakccoaaGreatDoorJ29
import Derived.ChangeMaps5

/- WALKS: package grafterkeep: pick. -/
namespace Go.Proofs.YtkflkmmbakccoaaGreatDoor
open Go.RowKit Go.Maps

/-- Which of n numbers a raw one speaks of. -/
def pickM (c n : Int) : Int := if c < 0 then -(c + 1).tmod n else c % n

theorem pickM_bd {c n : Int} (hn : 0 < n) : 0 ≤ pickM c n ∧ pickM c n < n := by
  unfold pickM
  split
  · rw [← Int.neg_tmod]
    exact ⟨Int.tmod_nonneg n (by omega), Int.tmod_lt_of_pos _ hn⟩
  · exact ⟨Int.emod_nonneg _ (by omega), Int.emod_lt_of_pos _ hn⟩

set_option maxHeartbeats 400000 in
theorem kPick_any (c n : Int) (hc : -9223372036854775808 ≤ c ∧ c ≤ 9223372036854775807) (hn : 0 < n ∧ n ≤ 100000) (w : World) :
    Calls Tryz.prog 17 #[.int .i64 c, .int .i64 n] w fun e w' => e = .returned (.int .i64 (pickM c n)) ∧ w' = w := by
  obtain ⟨c1, c2⟩ := hc
  obtain ⟨n1, n2⟩ := hn
  have hb := pickM_bd (c := c) n1
  by_cases h0 : c < 0
  · have HP : Hid (pickM c n = -(c + 1).tmod n) := by unfold Hid pickM; rw [if_pos h0]
    rw [HP.out] at hb
    go_enter Tryz.func17, Tryz.ntmps17
    go_wp2_with fail
    go_ret
    rw [HP.out]
    exact ⟨rfl, rfl⟩
  · have HP : Hid (pickM c n = c % n) := by unfold Hid pickM; rw [if_neg h0]
    rw [HP.out] at hb
    go_enter Tryz.func17, Tryz.ntmps17
    go_wp2_with fail
    go_ret
    rw [HP.out]
    exact ⟨rfl, rfl⟩

end Go.Proofs.YtkflkmmbakccoaaGreatDoor

/- THE PLAIN FUNCTIONS: a short text that says very much: what the reader makes of it. No program is named here. -/
namespace Go.Proofs.YtkflkmmbakccoaaGreatDoor

/-- A name of one letter. -/
def letterB (i : Nat) : ByteArray := ⟨#[UInt8.ofNat (97 + i)]⟩

/-- So many aliases. -/
def als : Nat → ByteArray → Frst
  | 0, _ => .nil
  | k + 1, x => .cons ByteArray.empty none 3 x false .nil (als k x)

/-- Lines, each of which has the one above so many times. -/
def bombT (k : Nat) : Nat → Nat → Frst
  | _, 0 => .nil
  | i, c + 1 => .cons ByteArray.empty (some (letterB i)) 1 ByteArray.empty false (als k (letterB (i - 1))) (bombT k (i + 1) c)

def bombF (n k : Nat) : Frst := .cons ByteArray.empty (some (letterB 0)) 0 ⟨#[120]⟩ false .nil (bombT k 1 n)

/-- How heavy a line is; all lines. -/
def wtM (k : Nat) : Nat → Nat
  | 0 => 1
  | i + 1 => min (1 + k * wtM k i) 1000000000001
def smM (k : Nat) : Nat → Nat
  | 0 => 2
  | i + 1 => min (smM k i + wtM k (i + 1)) 1000000000001

theorem wtM_le (k : Nat) : ∀ i, wtM k i ≤ 1000000000001
  | 0 => by simp [wtM]
  | i + 1 => by rw [wtM]; exact Nat.min_le_right _ _
theorem smM_le (k : Nat) : ∀ i, smM k i ≤ 1000000000001
  | 0 => by simp [smM]
  | i + 1 => by rw [smM]; exact Nat.min_le_right _ _
theorem smM_ge (k : Nat) : ∀ i, 2 ≤ smM k i
  | 0 => by simp [smM]
  | i + 1 => by
    rw [smM]
    have := smM_ge k i
    omega

theorem als_run (x : ByteArray) (j : Nat) (k : Nat) : ∀ t : PS, lookM t.names x = some j → (als k x).run t = (List.replicate k j, t) := by
  induction k with
  | zero => intro t _; rfl
  | succ k ih =>
    intro t h
    unfold als
    rw [run_cons]
    have ha : after none 3 x Frst.nil t = t := by simp [after]
    have hi : idOf 3 x t = j := by simp [idOf, h]
    rw [ha, hi, ih t h, List.replicate_succ]

theorem als_fits {B : Bud} {x : ByteArray} (hx : isWordB x = true) {j : Nat} {lv : Int} (k : Nat) : ∀ t : PS, lookM t.names x = some j → lv + (highOf t.nodes j : Int) - 1 ≤ B.depth → (als k x).fits B lv t := by
  induction k with
  | zero => intro t _ _; trivial
  | succ k ih =>
    intro t h hd
    unfold als
    refine fits_cons.2 ⟨⟨fun _ => ⟨rfl, hx, j, h, hd⟩, fun h3 => absurd rfl h3⟩, ?_⟩
    have ha : after none 3 x Frst.nil t = t := by simp [after]
    rw [ha]
    exact ih t h hd

theorem fold_rep_min (N : List NodeV) (j c : Nat) (k : Nat) : ∀ a, a ≤ c → (List.replicate k j).foldl (fun a i => min (a + heavyOf N i) c) a = min (a + k * heavyOf N j) c := by
  induction k with
  | zero => intro a h; simp; omega
  | succ k ih =>
    intro a h
    rw [List.replicate_succ, List.foldl_cons, ih _ (Nat.min_le_right _ _), Nat.succ_mul]
    omega

theorem fold_rep_max (N : List NodeV) (j : Nat) (k : Nat) : ∀ a, (List.replicate k j).foldl (fun a i => max a (highOf N i)) a = if k = 0 then a else max a (highOf N j) := by
  induction k with
  | zero => intro a; simp
  | succ k ih =>
    intro a
    rw [List.replicate_succ, List.foldl_cons, ih]
    split <;> simp

theorem letter_word {i : Nat} (h : i ≤ 25) : isWordB (letterB i) = true := by
  have h1 : (UInt8.ofNat (97 + i)).toNat = 97 + i := by rw [UInt8.toNat_ofNat']; omega
  unfold isWordB letterB
  simp only [Bool.and_eq_true, decide_eq_true_eq, List.all_eq_true]
  refine ⟨⟨by decide +revert, by decide +revert⟩, fun b hb => ?_⟩
  have : b = UInt8.ofNat (97 + i) := by simpa using hb
  subst this
  rw [h1]
  simp only [isWB, Bool.or_eq_true, Bool.and_eq_true, decide_eq_true_eq]
  omega

/-- Where the reader stands behind line i. -/
structure BombSt (k i : Nat) (t : PS) : Prop where
  len : t.nodes.length = i + 2
  anch : t.anchors = i + 1
  look : lookM t.names (letterB i) = some (i + 1)
  node : ∀ j, j ≤ i → highOf t.nodes (j + 1) = j + 1 ∧ heavyOf t.nodes (j + 1) = wtM k j

theorem lookM_cons (x : ByteArray) (i : Nat) (l : List (ByteArray × Nat)) : lookM ((x, i) :: l) x = some i := by simp [lookM]

theorem heavyOf_appB (nodes : List NodeV) (i : Nat) : heavyOf (nodes ++ [NodeV.blank]) i = heavyOf nodes i := heavyOf_app nodes i

/-- A line is read. -/
theorem bomb_step {k i : Nat} (hk : 0 < k) {t : PS} (h : BombSt k i t) : BombSt k (i + 1) (after (some (letterB (i + 1))) 1 ByteArray.empty (als k (letterB i)) t) := by
  have hb : lookM (begun (some (letterB (i + 1))) t).names (letterB i) = some (i + 1) := h.look
  unfold after
  rw [if_neg (by omega), als_run _ _ k _ hb]
  simp only
  have hn : (begun (some (letterB (i + 1))) t).nodes = t.nodes ++ [NodeV.blank] := rfl
  have hid : t.nodes.length < (begun (some (letterB (i + 1))) t).nodes.length := by rw [hn]; simp
  have e : ended (some (letterB (i + 1))) t.nodes.length (mkNode 1 ByteArray.empty (als k (letterB i)).keysOf (List.replicate k (i + 1))) (begun (some (letterB (i + 1))) t) = { endM t.nodes.length (mkNode 1 ByteArray.empty (als k (letterB i)).keysOf (List.replicate k (i + 1))) (begun (some (letterB (i + 1))) t) with names := (letterB (i + 1), t.nodes.length) :: t.names } := rfl
  rw [e]
  obtain ⟨h1, h2⟩ := h.node i (Nat.le_refl _)
  refine ⟨?_, ?_, ?_, fun j hj => ?_⟩
  · show (endM _ _ _).nodes.length = _
    rw [endM_len, hn]; simp [h.len]
  · show t.anchors + 1 = _
    rw [h.anch]
  · show lookM ((letterB (i + 1), t.nodes.length) :: t.names) (letterB (i + 1)) = _
    rw [lookM_cons, h.len]
  · show highOf ((begun (some (letterB (i + 1))) t).nodes.set t.nodes.length (measured _ _)) (j + 1) = _ ∧ heavyOf ((begun (some (letterB (i + 1))) t).nodes.set t.nodes.length (measured _ _)) (j + 1) = _
    rw [highOf_set _ _ _ _ hid, heavyOf_set _ _ _ _ hid]
    by_cases hj1 : j = i + 1
    · subst hj1
      rw [if_pos (by rw [h.len]), if_pos (by rw [h.len])]
      simp only [measured, mkNode]
      rw [fold_rep_max, fold_rep_min _ _ _ _ _ (by omega), if_neg (by omega), hn, highOf_appB, heavyOf_appB, h1, h2]
      exact ⟨by omega, rfl⟩
    · rw [if_neg (by rw [h.len]; omega), if_neg (by rw [h.len]; omega), hn, highOf_appB, heavyOf_appB]
      exact h.node j (by omega)

theorem bombT_run {k : Nat} (hk : 0 < k) (c : Nat) : ∀ (i : Nat) (t : PS), BombSt k i t → BombSt k (i + c) ((bombT k (i + 1) c).run t).2 ∧ ((bombT k (i + 1) c).run t).1 = (List.range c).map (fun j => i + 2 + j) := by
  induction c with
  | zero => intro i t h; exact ⟨h, rfl⟩
  | succ c ih =>
    intro i t h
    unfold bombT
    rw [run_cons]
    simp only [Nat.add_sub_cancel]
    obtain ⟨a, b⟩ := ih (i + 1) _ (bomb_step hk h)
    refine ⟨by rw [show i + (c + 1) = i + 1 + c by omega]; exact a, ?_⟩
    rw [b, List.range_succ_eq_map, List.map_cons, List.map_map]
    have : idOf 1 ByteArray.empty t = i + 2 := by simp [idOf, h.len]
    rw [this]
    congr 1
    apply List.map_congr_left
    intro j _
    simp only [Function.comp]
    omega

theorem bombT_fits {B : Bud} {k : Nat} (hk : 0 < k) (c : Nat) : ∀ (i : Nat) (t : PS), BombSt k i t → (i : Int) + c + 2 ≤ B.depth → (i : Int) + c + 2 ≤ B.nodes → (i : Int) + c + 1 ≤ B.anchors → i + c ≤ 25 → (bombT k (i + 1) c).fits B 2 t := by
  induction c with
  | zero => intro i t _ _ _ _ _; trivial
  | succ c ih =>
    intro i t h hd hn ha hc
    unfold bombT
    simp only [Nat.add_sub_cancel]
    have hl := h.len
    have han := h.anch
    push_cast at hd hn ha
    refine fits_cons.2 ⟨⟨fun h3 => by omega, fun _ => ⟨by omega, by omega, fun x hx => ?_, by omega, fun h0 => by omega, fun h2 => by omega, ?_⟩⟩, ?_⟩
    · cases hx
      exact ⟨letter_word (by omega), by omega⟩
    · refine als_fits (letter_word (by omega)) (j := i + 1) k _ h.look ?_
      show (2 : Int) + 1 + (highOf (t.nodes ++ [NodeV.blank]) (i + 1) : Int) - 1 ≤ _
      rw [highOf_appB, (h.node i (Nat.le_refl _)).1]
      push_cast
      omega
    · exact ih (i + 1) _ (bomb_step hk h) (by push_cast; omega) (by push_cast; omega) (by push_cast; omega) (by omega)

theorem bomb_first (k : Nat) : BombSt k 0 (after (some (letterB 0)) 0 ⟨#[120]⟩ .nil (begun none ⟨0, 0, [], 0, []⟩)) := by
  refine ⟨rfl, rfl, ?_, fun j hj => ?_⟩
  · exact lookM_cons _ _ _
  · have : j = 0 := by omega
    subst this
    exact ⟨rfl, rfl⟩

theorem bomb_sum (N : List NodeV) (k n : Nat) (h : ∀ j, j ≤ n → heavyOf N (j + 1) = wtM k j) : ((List.range (n + 1)).map (· + 1)).foldl (fun a i => min (a + heavyOf N i) 1000000000001) 1 = smM k n := by
  induction n with
  | zero =>
    have := h 0 (by omega)
    simp only [wtM] at this
    simp [List.range_succ, this, smM]
  | succ n ih =>
    rw [List.range_succ, List.map_append, List.foldl_append, ih (fun j hj => h j (by omega))]
    simp only [List.map_cons, List.map_nil, List.foldl_cons, List.foldl_nil]
    rw [h (n + 1) (Nat.le_refl _), smM]

theorem bomb_high (N : List NodeV) (n : Nat) (h : ∀ j, j ≤ n → highOf N (j + 1) = j + 1) : ((List.range (n + 1)).map (· + 1)).foldl (fun a i => max a (highOf N i)) 0 = n + 1 := by
  induction n with
  | zero => simp [List.range_succ, h 0]
  | succ n ih =>
    rw [List.range_succ, List.map_append, List.foldl_append, ih (fun j hj => h j (by omega))]
    simp only [List.map_cons, List.map_nil, List.foldl_cons, List.foldl_nil]
    rw [h (n + 1) (Nat.le_refl _)]
    omega

theorem bombT_lok (k : Nat) (c : Nat) : ∀ i, (bombT k i c).lok := by
  induction c with
  | zero => intro i; trivial
  | succ c ih => intro i; exact ⟨(fun h => by cases h), ih (i + 1)⟩

/-- The made text is read: how high, how many nodes and names, how heavy. -/
theorem bomb_read {B : Bud} {n k : Nat} (hk : 0 < k) (hn : n ≤ 18) (hD : B.depth ≤ 20) (h1 : (n : Int) + 2 ≤ B.depth) (h2 : (n : Int) + 2 ≤ B.nodes) (h3 : (n : Int) + 1 ≤ B.anchors) :
    ∃ t, textM ⟨((bombF n k).lns [44] [10] 0 false).toArray⟩ B ⟨0, 0, [], 0, []⟩ = .ok () t ∧ highOf t.nodes 0 = n + 2 ∧ t.nodes.length = n + 2 ∧ t.anchors = n + 1 ∧ heavyOf t.nodes 0 = smM k n := by
  have hx : TokOk ⟨#[120]⟩ := ⟨by decide, by decide⟩
  have hw0 : isWordB (letterB 0) = true := letter_word (by omega)
  have hfit : (bombF n k).fits B 2 (begun none ⟨0, 0, [], 0, []⟩) := by
    unfold bombF
    refine fits_cons.2 ⟨⟨fun h3 => by omega, fun _ => ⟨by omega, ?_, fun x hxx => ?_, by omega, fun _ => ⟨hx, rfl⟩, fun h2 => by omega, trivial⟩⟩, ?_⟩
    · show ((1 : Nat) : Int) < B.nodes
      omega
    · cases hxx
      exact ⟨hw0, by show ((0 : Nat) : Int) < B.anchors; omega⟩
    · have := bombT_fits (B := B) hk n 0 _ (bomb_first k) (by push_cast; omega) (by push_cast; omega) (by push_cast; omega) (by omega)
      exact this
  obtain ⟨a, b, he⟩ := text_lines (s := ⟨((bombF n k).lns [44] [10] 0 false).toArray⟩) (B := B) (F := bombF n k) (m := false) (t := ⟨0, 0, [], 0, []⟩) (.inl rfl) (.inl rfl) hD (by unfold bombF; exact fun e => by cases e) (by unfold bombF; exact ⟨(fun h => by cases h), bombT_lok k n 1⟩) rfl (by omega) (by show ((0 : Nat) : Int) < B.nodes; omega) hfit (fun e => by cases e) (At.all _) (by simp [ByteArray.size])
  refine ⟨_, he, ?_⟩
  have hrun : (bombF n k).run (begun none ⟨0, 0, [], 0, []⟩) = (1 :: ((bombT k 1 n).run (after (some (letterB 0)) 0 ⟨#[120]⟩ .nil (begun none ⟨0, 0, [], 0, []⟩))).1, ((bombT k 1 n).run (after (some (letterB 0)) 0 ⟨#[120]⟩ .nil (begun none ⟨0, 0, [], 0, []⟩))).2) := by
    unfold bombF
    rw [run_cons]
    rfl
  obtain ⟨g1, g2⟩ := bombT_run hk n 0 _ (bomb_first k)
  rw [Nat.zero_add] at g1
  simp only [Nat.zero_add] at g2
  rw [hrun, g2]
  simp only
  generalize ((bombT k 1 n).run (after (some (letterB 0)) 0 ⟨#[120]⟩ .nil (begun none ⟨0, 0, [], 0, []⟩))).2 = u at *
  have hids : (1 :: (List.range n).map (fun j => 2 + j)) = (List.range (n + 1)).map (· + 1) := by
    rw [List.range_succ_eq_map, List.map_cons, List.map_map]
    congr 1
    apply List.map_congr_left
    intro j _
    simp only [Function.comp]
    omega
  rw [hids]
  have hz : 0 < u.nodes.length := by rw [g1.len]; omega
  refine ⟨?_, ?_, g1.anch, ?_⟩
  · show highOf (u.nodes.set 0 (measured u.nodes _)) 0 = _
    rw [highOf_set _ _ _ _ hz, if_pos rfl]
    simp only [measured, mkNode]
    rw [bomb_high u.nodes n (fun j hj => (g1.node j hj).1)]
  · show (u.nodes.set 0 _).length = _
    rw [List.length_set, g1.len]
  · show heavyOf (u.nodes.set 0 (measured u.nodes _)) 0 = _
    rw [heavyOf_set _ _ _ _ hz, if_pos rfl]
    simp only [measured, mkNode]
    rw [bomb_sum u.nodes k n (fun j hj => (g1.node j hj).2)]

/-- The aliases of a line, as they are written. -/
def alsT (k : Nat) (x : ByteArray) : List UInt8 := (als k x).txt [44] false true

theorem alsT_zero (x : ByteArray) : alsT 0 x = [] := rfl

theorem als_snoc (x : ByteArray) (k : Nat) : ∀ b, (als (k + 1) x).txt [44] false b = (als k x).txt [44] false b ++ ((if b = true ∧ k = 0 then [] else [44]) ++ (42 :: x.data.toList)) := by
  induction k with
  | zero =>
    intro b
    simp only [als, Frst.txt_cons, Frst.txt_nil, itemT]
    cases b <;> simp
  | succ k ih =>
    intro b
    rw [als, Frst.txt_cons, ih false]
    conv => rhs; rw [als, Frst.txt_cons]
    simp

theorem alsT_succ (x : ByteArray) (k : Nat) : alsT (k + 1) x = alsT k x ++ ((if k = 0 then [] else [44]) ++ (42 :: x.data.toList)) := by
  unfold alsT
  rw [als_snoc]
  simp

theorem alsT_len (i k : Nat) : (alsT k (letterB i)).length ≤ 3 * k := by
  induction k with
  | zero => simp [alsT_zero]
  | succ k ih =>
    rw [alsT_succ]
    simp only [List.length_append, List.length_cons]
    have h1 : (if k = 0 then [] else ([44] : List UInt8)).length ≤ 1 := by split <;> simp
    have h2 : (letterB i).data.toList.length = 1 := rfl
    omega

/-- A line. -/
def lineT (k i : Nat) : List UInt8 := [45, 32, 38] ++ (letterB i).data.toList ++ [32, 91] ++ alsT k (letterB (i - 1)) ++ [93, 10]

/-- The text of so many lines. -/
def bombL (k q : Nat) : List UInt8 := (bombF q k).lns [44] [10] 0 false

theorem bombT_snoc (k : Nat) (c : Nat) : ∀ i, (bombT k i (c + 1)).lns [44] [10] 0 false = (bombT k i c).lns [44] [10] 0 false ++ lineT k (i + c) := by
  induction c with
  | zero =>
    intro i
    simp [bombT, Frst.lns_cons, Frst.lns_nil, itemT, lineT, alsT]
  | succ c ih =>
    intro i
    rw [bombT, Frst.lns_cons, ih (i + 1)]
    conv => rhs; rw [bombT, Frst.lns_cons]
    simp only [List.append_assoc]
    rw [show i + 1 + c = i + (c + 1) by omega]

theorem bombL_zero (k : Nat) : bombL k 0 = [45, 32, 38, 97, 32, 120, 10] := by
  unfold bombL bombF
  simp only [bombT, Frst.lns_cons, Frst.lns_nil, itemT]
  rfl

theorem bombL_succ (k q : Nat) : bombL k (q + 1) = bombL k q ++ lineT k (q + 1) := by
  unfold bombL bombF
  rw [Frst.lns_cons, Frst.lns_cons, bombT_snoc, show 1 + q = q + 1 by omega]
  simp only [List.append_assoc]

theorem lineT_len (k i : Nat) : (lineT k i).length ≤ 8 + 3 * k := by
  have := alsT_len (i - 1) k
  have h2 : (letterB i).data.toList.length = 1 := rfl
  simp only [lineT, List.length_append, List.length_cons, List.length_nil]
  omega

theorem bombL_len {k : Nat} (hk : k ≤ 17) (q : Nat) : (bombL k q).length ≤ 7 + 59 * q := by
  induction q with
  | zero => rw [bombL_zero]; simp
  | succ q ih =>
    rw [bombL_succ, List.length_append]
    have := lineT_len k (q + 1)
    omega

end Go.Proofs.YtkflkmmbakccoaaGreatDoor

/- WALKS: package grafterkeep: letter; Bomb. -/
namespace Go.Proofs.YtkflkmmbakccoaaGreatDoor
open Go.RowKit Go.Maps

/-- Bytes as a string. -/
abbrev bK (l : List UInt8) : ByteArray := ⟨l.toArray⟩

theorem bK_app (a b : List UInt8) : bK a ++ bK b = bK (a ++ b) := by
  apply ByteArray.ext
  simp [ByteArray.data_append]
theorem bK_size (l : List UInt8) : (bK l).size = l.length := by simp [ByteArray.size]
theorem bK_data (x : ByteArray) : bK x.data.toList = x := by
  apply ByteArray.ext
  simp

set_option maxRecDepth 100000 in
theorem letter_run (w : World) : ∀ d : Nat, d < 26 → (Instr.slice 9 (.string ⟨#[97, 98, 99, 100, 101, 102, 103, 104, 105, 106, 107, 108, 109, 110, 111, 112, 113, 114, 115, 116, 117, 118, 119, 120, 121, 122]⟩) (some (.int .i64 (d : Int))) (some (.int .i64 ((d : Int) + 1))) none).run Tryz.prog w = .ok (.string (letterB d)) w := by
  intro d hd
  have : d = 0 ∨ d = 1 ∨ d = 2 ∨ d = 3 ∨ d = 4 ∨ d = 5 ∨ d = 6 ∨ d = 7 ∨ d = 8 ∨ d = 9 ∨ d = 10 ∨ d = 11 ∨ d = 12 ∨ d = 13 ∨ d = 14 ∨ d = 15 ∨ d = 16 ∨ d = 17 ∨ d = 18 ∨ d = 19 ∨ d = 20 ∨ d = 21 ∨ d = 22 ∨ d = 23 ∨ d = 24 ∨ d = 25 := by omega
  rcases this with rfl | rfl | rfl | rfl | rfl | rfl | rfl | rfl | rfl | rfl | rfl | rfl | rfl | rfl | rfl | rfl | rfl | rfl | rfl | rfl | rfl | rfl | rfl | rfl | rfl | rfl <;> rfl

set_option maxHeartbeats 400000 in
theorem kLetter_any (n : Nat) (hn : n < 26) (w : World) :
    Calls Tryz.prog 20 #[.int .i64 (n : Int)] w fun e w' => e = .returned (.string (letterB n)) ∧ w' = w := by
  have hr := letter_run w n hn
  go_enter Tryz.func20, Tryz.ntmps20
  go_wp2_with fail
  go_ret
  exact ⟨rfl, rfl⟩

end Go.Proofs.YtkflkmmbakccoaaGreatDoor

/- WALKS: package grafterkeep: Bomb. -/
namespace Go.Proofs.YtkflkmmbakccoaaGreatDoor
open Go.RowKit Go.Maps

set_option maxRecDepth 20000 in
set_option maxHeartbeats 4000000 in
theorem kBomb_any (lines times : Int) (hl : -9223372036854775808 ≤ lines ∧ lines ≤ 9223372036854775807) (ht : -9223372036854775808 ≤ times ∧ times ≤ 9223372036854775807)
    (w : World) (HK : Hid (∀ W, But [] w W → Calls Tryz.prog 13 #[] W fun e w' => e = .returned (.bool true) ∧ But [] W w')) :
    Calls Tryz.prog 8 #[.int .i64 lines, .int .i64 times] w fun e w' => e = .returned (.bool true) ∧ But [] w w' := by
  obtain ⟨a, ha, ha1⟩ : ∃ a : Nat, pickM lines 18 = (a : Int) ∧ a ≤ 17 := by
    have := pickM_bd (c := lines) (n := 18) (by omega)
    exact ⟨(pickM lines 18).toNat, by omega, by omega⟩
  obtain ⟨b, hb, hb1⟩ : ∃ b : Nat, pickM times 17 = (b : Int) ∧ b ≤ 16 := by
    have := pickM_bd (c := times) (n := 17) (by omega)
    exact ⟨(pickM times 17).toNat, by omega, by omega⟩
  have H1 : Hid (∀ W : World, Calls Tryz.prog 17 #[.int .i64 lines, .int .i64 18] W fun e w' => e = .returned (.int .i64 (a : Int)) ∧ w' = W) := fun W => by
    rw [← ha]; exact kPick_any lines 18 hl (by omega) W
  have H2 : Hid (∀ W : World, Calls Tryz.prog 17 #[.int .i64 times, .int .i64 17] W fun e w' => e = .returned (.int .i64 (b : Int)) ∧ w' = W) := fun W => by
    rw [← hb]; exact kPick_any times 17 ht (by omega) W
  clear ha hb hl ht
  go_enter Tryz.func8, Tryz.ntmps8
  go_wp2_with fail
  refine Calls.mono (H1.out w) ?_
  rintro e w1 ⟨rfl, hw1⟩
  rw [hw1]
  clear hw1
  go_wp2_with fail
  refine Calls.mono (H2.out w) ?_
  rintro e w1 ⟨rfl, hw1⟩
  rw [hw1]
  clear hw1
  clear H1 H2
  go_wp2_with fail
  go_loop [7, 8, 9, 10, 11, 12] (fun s wt sm nd i _ => ∃ (q : Nat) (x : ByteArray), q ≤ a + 1 ∧ i = .int .i64 ((q : Int) + 1) ∧ s = .string x ∧ Hid (x = bK (bombL (b + 1) q)) ∧ x.size ≤ 7 + 59 * q ∧ wt = .int .i64 (wtM (b + 1) q : Int) ∧ sm = .int .i64 (smM (b + 1) q : Int) ∧ nd = .int .i64 ((q : Int) + 2)) (fun _ _ _ _ i _ => a + 3 - (intOf i).toNat)
  case atStart =>
    refine ⟨0, _, by omega, rfl, rfl, ?_, ?_, rfl, rfl, rfl⟩
    · unfold Hid; rw [bombL_zero]
    · decide
  case round =>
    obtain ⟨q, x, hq, rfl, rfl, HX, hxs, rfl, rfl, rfl⟩ := hrel
    have hw1 := wtM_le (b + 1) q
    have hs1 := smM_le (b + 1) q
    have hcast : (((b + 1) * wtM (b + 1) q : Nat) : Int) = (1 + (b : Int)) * ((wtM (b + 1) q : Nat) : Int) := by
      push_cast
      rw [Int.add_comm]
    have HW : Hid (((wtM (b + 1) (q + 1) : Nat) : Int) = min (1 + (1 + (b : Int)) * ((wtM (b + 1) q : Nat) : Int)) 1000000000001) := by
      unfold Hid
      rw [wtM, ← hcast]
      omega
    have HS : Hid (((smM (b + 1) (q + 1) : Nat) : Int) = min (((smM (b + 1) q : Nat) : Int) + min (1 + (1 + (b : Int)) * ((wtM (b + 1) q : Nat) : Int)) 1000000000001) 1000000000001) := by
      unfold Hid
      rw [← HW.out, smM]
      omega
    clear hcast
    have hmul : 0 ≤ (1 + (b : Int)) * ((wtM (b + 1) q : Nat) : Int) ∧ (1 + (b : Int)) * ((wtM (b + 1) q : Nat) : Int) ≤ 17000000000017 := by
      have h1 : (1 + b) * wtM (b + 1) q ≤ 17 * 1000000000001 := Nat.mul_le_mul (by omega) hw1
      have h2 : (((1 + b) * wtM (b + 1) q : Nat) : Int) = (1 + (b : Int)) * ((wtM (b + 1) q : Nat) : Int) := by push_cast; rfl
      omega
    generalize hwq : wtM (b + 1) q = wq at *
    generalize hsq : smM (b + 1) q = sq at *
    have HWQ : Hid _ := hwq
    have HSQ : Hid _ := hsq
    clear hwq hsq
    by_cases hlt : q ≤ a
    · obtain ⟨y, hy⟩ : ∃ y, y = letterB (q + 1) := ⟨_, rfl⟩
      obtain ⟨y0, hy0⟩ : ∃ y, y = letterB q := ⟨_, rfl⟩
      have hys : y.size ≤ 1 := by rw [hy]; exact Nat.le_refl 1
      have hy0s : y0.size ≤ 1 := by rw [hy0]; exact Nat.le_refl 1
      have H1 : Hid (∀ W : World, Calls Tryz.prog 20 #[.int .i64 ((q : Int) + 1)] W fun e w' => e = .returned (.string y) ∧ w' = W) := fun W => by
        have := kLetter_any (q + 1) (by omega) W
        rw [← hy] at this
        push_cast at this
        exact this
      have H0 : Hid (∀ W : World, Calls Tryz.prog 20 #[.int .i64 (q : Int)] W fun e w' => e = .returned (.string y0) ∧ w' = W) := fun W => by
        have := kLetter_any q (by omega) W
        rw [← hy0] at this
        exact this
      have HY : Hid _ := hy
      have HY0 : Hid _ := hy0
      clear hy hy0
      go_wp2_with fail
      refine Calls.mono (H1.out w) ?_
      rintro e w1 ⟨rfl, hw1⟩
      rw [hw1]
      clear hw1 H1
      go_wp2_with fail
      go_loop [7, 12] (fun s j => ∃ (r : Nat) (z : ByteArray), r ≤ b + 1 ∧ j = .int .i64 (r : Int) ∧ s = .string z ∧ Hid (z = bK (bombL (b + 1) q ++ ([45, 32, 38] ++ (letterB (q + 1)).data.toList ++ [32, 91] ++ alsT r (letterB q)))) ∧ z.size ≤ 7 + 59 * q + 6 + 3 * r) (fun _ j => b + 2 - (intOf j).toNat)
      case atStart =>
        refine ⟨0, _, by omega, rfl, rfl, ?_, ?_⟩
        · unfold Hid
          rw [HX.out, HY.out, alsT_zero]
          apply ByteArray.ext
          simp [ByteArray.data_append]
        · simp only [ByteArray.size_append]
          show x.size + 3 + y.size + 2 ≤ _
          omega
      case round =>
        obtain ⟨r, z, hr, rfl, rfl, HZ, hzs⟩ := hrel
        by_cases hrb : r ≤ b
        · cases r with
          | zero =>
            go_wp2_with fail
            refine Calls.mono (H0.out w) ?_
            rintro e w1 ⟨rfl, hw1⟩
            rw [hw1]
            clear hw1
            go_wp2_with fail
            go_round
            case rel =>
              refine ⟨1, _, by omega, rfl, rfl, ?_, ?_⟩
              · unfold Hid
                rw [HZ.out, HY0.out, alsT_succ, alsT_zero]
                apply ByteArray.ext
                simp [ByteArray.data_append]
              · simp only [ByteArray.size_append]
                show z.size + 1 + y0.size ≤ _
                omega
            case measure => simp [intOf]
          | succ r =>
            go_wp2_with fail
            refine Calls.mono (H0.out w) ?_
            rintro e w1 ⟨rfl, hw1⟩
            rw [hw1]
            clear hw1
            go_wp2_with fail
            go_round
            case rel =>
              refine ⟨r + 2, _, by omega, by go_num, rfl, ?_, ?_⟩
              · unfold Hid
                rw [HZ.out, HY0.out, alsT_succ (letterB q) (r + 1)]
                apply ByteArray.ext
                simp [ByteArray.data_append]
              · simp only [ByteArray.size_append]
                show z.size + 1 + 1 + y0.size ≤ _
                omega
            case measure => simp [intOf]; omega
        · have hre : r = b + 1 := by omega
          subst hre
          go_wp2_with fail
          go_round
          case rel =>
            refine ⟨q + 1, _, by omega, by go_num, rfl, ?_, ?_, ?_, ?_, by go_num⟩
            · unfold Hid
              rw [HZ.out, bombL_succ, lineT, Nat.add_sub_cancel]
              apply ByteArray.ext
              simp [ByteArray.data_append]
            · simp only [ByteArray.size_append]
              show z.size + 2 ≤ _
              omega
            · rw [HW.out]
            · rw [HS.out]
          case measure => simp [intOf]; omega
    · have hqe : q = a + 1 := by omega
      subst hqe
      by_cases hlen : 1000 < x.size
      · go_wp2_with fail
        refine Calls.mono (HK.out w (But.refl [] w)) ?_
        rintro e w1 ⟨rfl, hb1'⟩
        go_wp2_with fail
        go_ret
        exact ⟨rfl, hb1'⟩
      · by_cases hsum : 1000000000000 < sq
        · have HL : Hid (loadM x maxB = .bad 9 0) := by
            obtain ⟨t, g1, _, _, _, g5⟩ := bomb_read (B := maxB) (n := a + 1) (k := b + 1) (by omega) (by omega) (by simp [maxB]) (by simp only [maxB]; push_cast; omega) (by simp only [maxB]; push_cast; omega) (by simp only [maxB]; push_cast; omega)
            unfold Hid
            rw [HX.out]
            rw [HX.out] at hlen
            refine load_heavy (by decide) (by rw [bK_size] at hlen ⊢; omega) g1 ?_
            rw [g5, HSQ.out]
            simp only [maxB]
            omega
          go_wp2_with fail
          have hb2 : But [] w (w.alloc (.cells #[.int .i64 (1 + (a : Int) + 2), .int .i64 ((a : Int) + 1 + 2), .int .i64 (1 + (a : Int) + 1), .int .i64 (sq : Int)] 29)) := alloc_but _ _
          refine Calls.mono (HK.out _ hb2) ?_
          rintro e w2 ⟨rfl, hb3⟩
          go_wp2_with fail
          refine Calls.mono (kMost_any w2) ?_
          rintro e w3 ⟨rfl, hb4⟩
          have HLD : Hid _ := load_any x maxB (by omega) w3
          go_wp2_with fail
          refine Calls.mono HLD.out ?_
          intro e w4 hp
          rw [HL.out] at hp
          obtain ⟨rfl, hb5, _⟩ := hp
          have HB : Hid (But [] w w4) := ((hb2.trans hb3 (by simp)).trans hb4 (by simp)).trans hb5 (by simp)
          clear HL HLD hb2 hb3 hb4 hb5 HK
          go_wp2_with fail
          go_ret
          exact ⟨rfl, HB.out⟩
        · have hs2 : 2 ≤ sq := by rw [← HSQ.out]; exact smM_ge _ _
          have HL : Hid (∃ t, textM x ⟨1 + (a : Int) + 2, (a : Int) + 1 + 2, 1 + (a : Int) + 1, (sq : Int)⟩ ps0 = .ok () t ∧ measM t = ⟨1 + (a : Int) + 2, (a : Int) + 1 + 2, 1 + (a : Int) + 1, (sq : Int)⟩ ∧ (heavyOf t.nodes 0 : Int) = sq ∧ textM x ⟨1 + (a : Int) + 2, (a : Int) + 1 + 2, 1 + (a : Int) + 1, (sq : Int) - 1⟩ ps0 = .ok () t) := by
            have key : ∀ wt : Int, ∃ t, textM x ⟨1 + (a : Int) + 2, (a : Int) + 1 + 2, 1 + (a : Int) + 1, wt⟩ ps0 = .ok () t ∧ highOf t.nodes 0 = a + 1 + 2 ∧ t.nodes.length = a + 1 + 2 ∧ t.anchors = a + 1 + 1 ∧ heavyOf t.nodes 0 = sq := fun wt => by
              obtain ⟨t, g1, g2, g3, g4, g5⟩ := bomb_read (B := ⟨1 + (a : Int) + 2, (a : Int) + 1 + 2, 1 + (a : Int) + 1, wt⟩) (n := a + 1) (k := b + 1) (by omega) (by omega) (by simp only; omega) (by simp only; push_cast; omega) (by simp only; push_cast; omega) (by simp only; push_cast; omega)
              rw [HX.out]
              exact ⟨t, g1, g2, g3, g4, by rw [g5]; exact HSQ.out⟩
            obtain ⟨t, e1, e2, e3, e4, e5⟩ := key sq
            obtain ⟨t', f1, _⟩ := key ((sq : Int) - 1)
            have hle : BudLe ⟨1 + (a : Int) + 2, (a : Int) + 1 + 2, 1 + (a : Int) + 1, (sq : Int) - 1⟩ ⟨1 + (a : Int) + 2, (a : Int) + 1 + 2, 1 + (a : Int) + 1, (sq : Int)⟩ := ⟨Int.le_refl _, Int.le_refl _, Int.le_refl _⟩
            have hee : textM x ⟨1 + (a : Int) + 2, (a : Int) + 1 + 2, 1 + (a : Int) + 1, (sq : Int) - 1⟩ ps0 = textM x ⟨1 + (a : Int) + 2, (a : Int) + 1 + 2, 1 + (a : Int) + 1, (sq : Int)⟩ ps0 := by
              rcases textM_lets (s := x) hle ps0 with e | ⟨e, p, he, _⟩
              · exact e
              · rw [f1] at he; cases he
            refine ⟨t, e1, ?_, by rw [e5], by rw [hee]; exact e1⟩
            unfold measM
            rw [e2, e3, e4, e5]
            congr 1
            · push_cast; omega
            · push_cast; omega
          obtain ⟨t, t1, t2, t3, t4⟩ := HL.out
          have hok : okBud ⟨1 + (a : Int) + 2, (a : Int) + 1 + 2, 1 + (a : Int) + 1, (sq : Int)⟩ = true := okBud_iff.2 (by simp only; omega)
          have hok2 : okBud ⟨1 + (a : Int) + 2, (a : Int) + 1 + 2, 1 + (a : Int) + 1, (sq : Int) - 1⟩ = true := okBud_iff.2 (by simp only; omega)
          have HL1 : Hid (loadM x ⟨1 + (a : Int) + 2, (a : Int) + 1 + 2, 1 + (a : Int) + 1, (sq : Int)⟩ = .ok () t) := load_of hok (by omega) t1 (by rw [t3]; exact Int.le_refl _)
          have HL2 : Hid (loadM x ⟨1 + (a : Int) + 2, (a : Int) + 1 + 2, 1 + (a : Int) + 1, (sq : Int) - 1⟩ = .bad 9 0) := load_heavy hok2 (by omega) t4 (by simp only; omega)
          have HME : Hid _ := t2
          clear HL t1 t2 t3 t4 hok hok2
          go_wp2_with fail
          have hb2 : But [] w (w.alloc (.cells #[.int .i64 (1 + (a : Int) + 2), .int .i64 ((a : Int) + 1 + 2), .int .i64 (1 + (a : Int) + 1), .int .i64 (sq : Int)] 29)) := alloc_but _ _
          have hB2 : Blk (w.alloc (.cells #[.int .i64 (1 + (a : Int) + 2), .int .i64 ((a : Int) + 1 + 2), .int .i64 (1 + (a : Int) + 1), .int .i64 (sq : Int)] 29)) w.heap.size #[.int .i64 (1 + (a : Int) + 2), .int .i64 ((a : Int) + 1 + 2), .int .i64 (1 + (a : Int) + 1), .int .i64 (sq : Int)] 29 := blk_new _ _ _
          refine Calls.mono (load_any x ⟨1 + (a : Int) + 2, (a : Int) + 1 + 2, 1 + (a : Int) + 1, (sq : Int)⟩ (by omega) _) ?_
          intro e w4 hp
          rw [HL1.out] at hp
          obtain ⟨E', nv', rows', d', rfl, _, _, hI, hr, hd, _, _, hb5⟩ := hp
          have hB4 := hb5.blk hB2 (by simp)
          have HB4 : Hid (But [] w w4) := hb2.trans hb5 (by simp)
          have HM : Hid _ := dMeasure_any E' t nv' rows' w4 hI hr d' hd
          rw [HME.out] at HM
          clear hb2 hB2 hb5 HL1 HME hI hr hd HK
          go_wp2_with fail
          refine Calls.mono HM.out ?_
          rintro e w5 ⟨rfl, hb6⟩
          have hB5 := hb6.blk hB4 (by simp)
          have HB5 : Hid (But [] w w5) := HB4.out.trans hb6 (by simp)
          have hz : w.heap.size < w5.heap.size := hB5.lt
          have l0 := hB5.cell (i := 0) rfl
          have l1 := hB5.cell (i := 1) rfl
          have l2 := hB5.cell (i := 2) rfl
          have l3 := hB5.cell (i := 3) rfl
          have f3 := hB5.free 3
          clear HB4 hb6 HM hB4
          go_wp2_with fail
          have hB6 : Blk ((w5.setCell ⟨w.heap.size, 3, none⟩ (.int .i64 ((sq : Int) - 1))).alloc (.cells #[.int .i64 (1 + (a : Int) + 2), .int .i64 ((a : Int) + 1 + 2), .int .i64 (1 + (a : Int) + 1), .int .i64 (sq : Int)] 29)) w5.heap.size #[.int .i64 (1 + (a : Int) + 2), .int .i64 ((a : Int) + 1 + 2), .int .i64 (1 + (a : Int) + 1), .int .i64 (sq : Int)] 29 := blk_at (by simp)
          have hb6 : But [] w ((w5.setCell ⟨w.heap.size, 3, none⟩ (.int .i64 ((sq : Int) - 1))).alloc (.cells #[.int .i64 (1 + (a : Int) + 2), .int .i64 ((a : Int) + 1 + 2), .int .i64 (1 + (a : Int) + 1), .int .i64 (sq : Int)] 29)) := (HB5.out.setCell (.inr (Nat.le_refl _)) _).alloc _
          refine Calls.mono (load_any x ⟨1 + (a : Int) + 2, (a : Int) + 1 + 2, 1 + (a : Int) + 1, (sq : Int) - 1⟩ (by omega) _) ?_
          intro e w7 hp
          rw [HL2.out] at hp
          obtain ⟨rfl, hb7, _⟩ := hp
          have hB7 := hb7.blk hB6 (by simp)
          have HB7 : Hid (But [] w w7) := hb6.trans hb7 (by simp)
          have k0 := hB7.cell (i := 0) rfl
          have k1 := hB7.cell (i := 1) rfl
          have k2 := hB7.cell (i := 2) rfl
          have k3 := hB7.cell (i := 3) rfl
          clear l0 l1 l2 l3 f3 hB5 HB5 hB6 hb6 hb7 hB7 HL2
          go_wp2_with fail
          go_ret
          exact ⟨rfl, HB7.out⟩

end Go.Proofs.YtkflkmmbakccoaaGreatDoor

/- THE STATEMENTS' GROUND: the laid table, where no error is laid. -/
namespace Go.Proofs.YtkflkmmbakccoaaGreatDoor
open Go.ChangeShapes Go.WideShapes Go.ChangeAt Go.WideElems Go.RowKit Go.Deep

set_option maxRecDepth 100000 in
theorem tabw_of_laid {W : World} (h : laidMetH Tryz.prog Rows.leastRow.laid W) : TabW W.heap.size W := by
  have h0 : laidMet Tryz.prog Rows.leastRow.laid W := by
    rw [MakeChecks.laidMetH_plain _ _ _ (by kernel_rfl)] at h
    exact h
  have h1 : laidMet Tryz.prog [("internal/strconv.uint64pow10", Lib.tabData .u64 Lib.pow10Tab)] W := by
    rw [← pow_data]
    exact h0.tail.tail
  have p1 : Lib.TabIs Tryz.prog W "internal/strconv.uint64pow10" .u64 Lib.pow10Tab := Lib.tabIs_of_head g_pow (t := 220) (e := 191) (n := 20) (by kernel_rfl) (by kernel_rfl) (by kernel_rfl) (by kernel_rfl) (by kernel_rfl) h1
  exact ⟨p1, var_lt g_pow p1⟩

/-- The door's own heap meets the condition. -/
theorem doorW_met (os : Os) (args : Array Value) : laidMetH Tryz.prog Rows.leastRow.laid ((World.doorLaid Tryz.prog 4000 os).forCall (fun _ _ => 0) ⟨#[], args, []⟩).memory :=
  laidMetH_of_parts3 (fuel := 8) (laidMet_of_run' 8 (by kernel_rfl) (by kernel_rfl)) (by kernel_rfl) (by kernel_rfl)

theorem maxLen_le : maxLen ≤ 9223372036854775807 := by decide

end Go.Proofs.YtkflkmmbakccoaaGreatDoor
