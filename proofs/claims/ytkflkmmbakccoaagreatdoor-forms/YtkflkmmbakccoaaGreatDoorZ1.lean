/- PARTS: K5, Mod23, K7, Mod36, Mod37. -/
import Derived.Test.YtkflkmmbakccoaaGreatDoorJ19
import Derived.Test.YtkflkmmbakccoaaGreatDoorJ17
import Derived.Test.YtkflkmmbakccoaaGreatDoorJ13
import Derived.Test.YtkflkmmbakccoaaGreatDoorJ18

/- WALKS: package grafterkeep: pick. -/
namespace Go.Proofs.YtkflkmmbakccoaaGreatDoor
open Go.RowKit Go.Maps

/-- Which of n numbers a raw one speaks of. -/
def pickM (c n : Int) : Int := if c < 0 then -(c + 1).tmod n else c % n

theorem pickM_bd {c n : Int} (hn : 0 < n) : 0 ≤ pickM c n ∧ pickM c n < n := by
  unfold pickM
  split
  · rw [← Int.neg_tmod]
    exact ⟨Int.tmod_nonneg n (by omega), Int.tmod_lt_of_pos _ hn⟩
  · exact ⟨Int.emod_nonneg _ (by omega), Int.emod_lt_of_pos _ hn⟩

set_option maxHeartbeats 400000 in
theorem kPick_any (c n : Int) (hc : -9223372036854775808 ≤ c ∧ c ≤ 9223372036854775807) (hn : 0 < n ∧ n ≤ 100000) (w : World) :
    Calls Tryz.prog 17 #[.int .i64 c, .int .i64 n] w fun e w' => e = .returned (.int .i64 (pickM c n)) ∧ w' = w := by
  obtain ⟨c1, c2⟩ := hc
  obtain ⟨n1, n2⟩ := hn
  have hb := pickM_bd (c := c) n1
  by_cases h0 : c < 0
  · have HP : Hid (pickM c n = -(c + 1).tmod n) := by unfold Hid pickM; rw [if_pos h0]
    rw [HP.out] at hb
    go_enter Tryz.func17, Tryz.ntmps17
    go_wp2_with fail
    go_ret
    rw [HP.out]
    exact ⟨rfl, rfl⟩
  · have HP : Hid (pickM c n = c % n) := by unfold Hid pickM; rw [if_neg h0]
    rw [HP.out] at hb
    go_enter Tryz.func17, Tryz.ntmps17
    go_wp2_with fail
    go_ret
    rw [HP.out]
    exact ⟨rfl, rfl⟩

end Go.Proofs.YtkflkmmbakccoaaGreatDoor

/- THE PLAIN FUNCTIONS: a short text that says very much: what the reader makes of it. No program is named here. -/
namespace Go.Proofs.YtkflkmmbakccoaaGreatDoor

/-- A name of one letter. -/
def letterB (i : Nat) : ByteArray := ⟨#[UInt8.ofNat (97 + i)]⟩

/-- So many aliases. -/
def als : Nat → ByteArray → Frst
  | 0, _ => .nil
  | k + 1, x => .cons ByteArray.empty none 3 x false .nil (als k x)

/-- Lines, each of which has the one above so many times. -/
def bombT (k : Nat) : Nat → Nat → Frst
  | _, 0 => .nil
  | i, c + 1 => .cons ByteArray.empty (some (letterB i)) 1 ByteArray.empty false (als k (letterB (i - 1))) (bombT k (i + 1) c)

def bombF (n k : Nat) : Frst := .cons ByteArray.empty (some (letterB 0)) 0 ⟨#[120]⟩ false .nil (bombT k 1 n)

/-- How heavy a line is; all lines. -/
def wtM (k : Nat) : Nat → Nat
  | 0 => 1
  | i + 1 => min (1 + k * wtM k i) 1000000000001
def smM (k : Nat) : Nat → Nat
  | 0 => 2
  | i + 1 => min (smM k i + wtM k (i + 1)) 1000000000001

theorem wtM_le (k : Nat) : ∀ i, wtM k i ≤ 1000000000001
  | 0 => by simp [wtM]
  | i + 1 => by rw [wtM]; exact Nat.min_le_right _ _
theorem smM_le (k : Nat) : ∀ i, smM k i ≤ 1000000000001
  | 0 => by simp [smM]
  | i + 1 => by rw [smM]; exact Nat.min_le_right _ _
theorem smM_ge (k : Nat) : ∀ i, 2 ≤ smM k i
  | 0 => by simp [smM]
  | i + 1 => by
    rw [smM]
    have := smM_ge k i
    omega

theorem als_run (x : ByteArray) (j : Nat) (k : Nat) : ∀ t : PS, lookM t.names x = some j → (als k x).run t = (List.replicate k j, t) := by
  induction k with
  | zero => intro t _; rfl
  | succ k ih =>
    intro t h
    unfold als
    rw [run_cons]
    have ha : after none 3 x Frst.nil t = t := by simp [after]
    have hi : idOf 3 x t = j := by simp [idOf, h]
    rw [ha, hi, ih t h, List.replicate_succ]

theorem als_fits {B : Bud} {x : ByteArray} (hx : isWordB x = true) {j : Nat} {lv : Int} (k : Nat) : ∀ t : PS, lookM t.names x = some j → lv + (highOf t.nodes j : Int) - 1 ≤ B.depth → (als k x).fits B lv t := by
  induction k with
  | zero => intro t _ _; trivial
  | succ k ih =>
    intro t h hd
    unfold als
    refine fits_cons.2 ⟨⟨fun _ => ⟨rfl, hx, j, h, hd⟩, fun h3 => absurd rfl h3⟩, ?_⟩
    have ha : after none 3 x Frst.nil t = t := by simp [after]
    rw [ha]
    exact ih t h hd

theorem fold_rep_min (N : List NodeV) (j c : Nat) (k : Nat) : ∀ a, a ≤ c → (List.replicate k j).foldl (fun a i => min (a + heavyOf N i) c) a = min (a + k * heavyOf N j) c := by
  induction k with
  | zero => intro a h; simp; omega
  | succ k ih =>
    intro a h
    rw [List.replicate_succ, List.foldl_cons, ih _ (Nat.min_le_right _ _), Nat.succ_mul]
    omega

theorem fold_rep_max (N : List NodeV) (j : Nat) (k : Nat) : ∀ a, (List.replicate k j).foldl (fun a i => max a (highOf N i)) a = if k = 0 then a else max a (highOf N j) := by
  induction k with
  | zero => intro a; simp
  | succ k ih =>
    intro a
    rw [List.replicate_succ, List.foldl_cons, ih]
    split <;> simp

theorem letter_word {i : Nat} (h : i ≤ 25) : isWordB (letterB i) = true := by
  have h1 : (UInt8.ofNat (97 + i)).toNat = 97 + i := by rw [UInt8.toNat_ofNat']; omega
  unfold isWordB letterB
  simp only [Bool.and_eq_true, decide_eq_true_eq, List.all_eq_true]
  refine ⟨⟨by decide +revert, by decide +revert⟩, fun b hb => ?_⟩
  have : b = UInt8.ofNat (97 + i) := by simpa using hb
  subst this
  rw [h1]
  simp only [isWB, Bool.or_eq_true, Bool.and_eq_true, decide_eq_true_eq]
  omega

/-- Where the reader stands behind line i. -/
structure BombSt (k i : Nat) (t : PS) : Prop where
  len : t.nodes.length = i + 2
  anch : t.anchors = i + 1
  look : lookM t.names (letterB i) = some (i + 1)
  node : ∀ j, j ≤ i → highOf t.nodes (j + 1) = j + 1 ∧ heavyOf t.nodes (j + 1) = wtM k j

theorem lookM_cons (x : ByteArray) (i : Nat) (l : List (ByteArray × Nat)) : lookM ((x, i) :: l) x = some i := by simp [lookM]

theorem heavyOf_appB (nodes : List NodeV) (i : Nat) : heavyOf (nodes ++ [NodeV.blank]) i = heavyOf nodes i := heavyOf_app nodes i

/-- A line is read. -/
theorem bomb_step {k i : Nat} (hk : 0 < k) {t : PS} (h : BombSt k i t) : BombSt k (i + 1) (after (some (letterB (i + 1))) 1 ByteArray.empty (als k (letterB i)) t) := by
  have hb : lookM (begun (some (letterB (i + 1))) t).names (letterB i) = some (i + 1) := h.look
  unfold after
  rw [if_neg (by omega), als_run _ _ k _ hb]
  simp only
  have hn : (begun (some (letterB (i + 1))) t).nodes = t.nodes ++ [NodeV.blank] := rfl
  have hid : t.nodes.length < (begun (some (letterB (i + 1))) t).nodes.length := by rw [hn]; simp
  have e : ended (some (letterB (i + 1))) t.nodes.length (mkNode 1 ByteArray.empty (als k (letterB i)).keysOf (List.replicate k (i + 1))) (begun (some (letterB (i + 1))) t) = { endM t.nodes.length (mkNode 1 ByteArray.empty (als k (letterB i)).keysOf (List.replicate k (i + 1))) (begun (some (letterB (i + 1))) t) with names := (letterB (i + 1), t.nodes.length) :: t.names } := rfl
  rw [e]
  obtain ⟨h1, h2⟩ := h.node i (Nat.le_refl _)
  refine ⟨?_, ?_, ?_, fun j hj => ?_⟩
  · show (endM _ _ _).nodes.length = _
    rw [endM_len, hn]; simp [h.len]
  · show t.anchors + 1 = _
    rw [h.anch]
  · show lookM ((letterB (i + 1), t.nodes.length) :: t.names) (letterB (i + 1)) = _
    rw [lookM_cons, h.len]
  · show highOf ((begun (some (letterB (i + 1))) t).nodes.set t.nodes.length (measured _ _)) (j + 1) = _ ∧ heavyOf ((begun (some (letterB (i + 1))) t).nodes.set t.nodes.length (measured _ _)) (j + 1) = _
    rw [highOf_set _ _ _ _ hid, heavyOf_set _ _ _ _ hid]
    by_cases hj1 : j = i + 1
    · subst hj1
      rw [if_pos (by rw [h.len]), if_pos (by rw [h.len])]
      simp only [measured, mkNode]
      rw [fold_rep_max, fold_rep_min _ _ _ _ _ (by omega), if_neg (by omega), hn, highOf_appB, heavyOf_appB, h1, h2]
      exact ⟨by omega, rfl⟩
    · rw [if_neg (by rw [h.len]; omega), if_neg (by rw [h.len]; omega), hn, highOf_appB, heavyOf_appB]
      exact h.node j (by omega)

theorem bombT_run {k : Nat} (hk : 0 < k) (c : Nat) : ∀ (i : Nat) (t : PS), BombSt k i t → BombSt k (i + c) ((bombT k (i + 1) c).run t).2 ∧ ((bombT k (i + 1) c).run t).1 = (List.range c).map (fun j => i + 2 + j) := by
  induction c with
  | zero => intro i t h; exact ⟨h, rfl⟩
  | succ c ih =>
    intro i t h
    unfold bombT
    rw [run_cons]
    simp only [Nat.add_sub_cancel]
    obtain ⟨a, b⟩ := ih (i + 1) _ (bomb_step hk h)
    refine ⟨by rw [show i + (c + 1) = i + 1 + c by omega]; exact a, ?_⟩
    rw [b, List.range_succ_eq_map, List.map_cons, List.map_map]
    have : idOf 1 ByteArray.empty t = i + 2 := by simp [idOf, h.len]
    rw [this]
    congr 1
    apply List.map_congr_left
    intro j _
    simp only [Function.comp]
    omega

theorem bombT_fits {B : Bud} {k : Nat} (hk : 0 < k) (c : Nat) : ∀ (i : Nat) (t : PS), BombSt k i t → (i : Int) + c + 2 ≤ B.depth → (i : Int) + c + 2 ≤ B.nodes → (i : Int) + c + 1 ≤ B.anchors → i + c ≤ 25 → (bombT k (i + 1) c).fits B 2 t := by
  induction c with
  | zero => intro i t _ _ _ _ _; trivial
  | succ c ih =>
    intro i t h hd hn ha hc
    unfold bombT
    simp only [Nat.add_sub_cancel]
    have hl := h.len
    have han := h.anch
    push_cast at hd hn ha
    refine fits_cons.2 ⟨⟨fun h3 => by omega, fun _ => ⟨by omega, by omega, fun x hx => ?_, by omega, fun h0 => by omega, fun h2 => by omega, ?_⟩⟩, ?_⟩
    · cases hx
      exact ⟨letter_word (by omega), by omega⟩
    · refine als_fits (letter_word (by omega)) (j := i + 1) k _ h.look ?_
      show (2 : Int) + 1 + (highOf (t.nodes ++ [NodeV.blank]) (i + 1) : Int) - 1 ≤ _
      rw [highOf_appB, (h.node i (Nat.le_refl _)).1]
      push_cast
      omega
    · exact ih (i + 1) _ (bomb_step hk h) (by push_cast; omega) (by push_cast; omega) (by push_cast; omega) (by omega)

theorem bomb_first (k : Nat) : BombSt k 0 (after (some (letterB 0)) 0 ⟨#[120]⟩ .nil (begun none ⟨0, 0, [], 0, []⟩)) := by
  refine ⟨rfl, rfl, ?_, fun j hj => ?_⟩
  · exact lookM_cons _ _ _
  · have : j = 0 := by omega
    subst this
    exact ⟨rfl, rfl⟩

theorem bomb_sum (N : List NodeV) (k n : Nat) (h : ∀ j, j ≤ n → heavyOf N (j + 1) = wtM k j) : ((List.range (n + 1)).map (· + 1)).foldl (fun a i => min (a + heavyOf N i) 1000000000001) 1 = smM k n := by
  induction n with
  | zero =>
    have := h 0 (by omega)
    simp only [wtM] at this
    simp [List.range_succ, this, smM]
  | succ n ih =>
    rw [List.range_succ, List.map_append, List.foldl_append, ih (fun j hj => h j (by omega))]
    simp only [List.map_cons, List.map_nil, List.foldl_cons, List.foldl_nil]
    rw [h (n + 1) (Nat.le_refl _), smM]

theorem bomb_high (N : List NodeV) (n : Nat) (h : ∀ j, j ≤ n → highOf N (j + 1) = j + 1) : ((List.range (n + 1)).map (· + 1)).foldl (fun a i => max a (highOf N i)) 0 = n + 1 := by
  induction n with
  | zero => simp [List.range_succ, h 0]
  | succ n ih =>
    rw [List.range_succ, List.map_append, List.foldl_append, ih (fun j hj => h j (by omega))]
    simp only [List.map_cons, List.map_nil, List.foldl_cons, List.foldl_nil]
    rw [h (n + 1) (Nat.le_refl _)]
    omega

theorem bombT_lok (k : Nat) (c : Nat) : ∀ i, (bombT k i c).lok := by
  induction c with
  | zero => intro i; trivial
  | succ c ih => intro i; exact ⟨(fun h => by cases h), ih (i + 1)⟩

/-- The made text is read: how high, how many nodes and names, how heavy. -/
theorem bomb_read {B : Bud} {n k : Nat} (hk : 0 < k) (hn : n ≤ 18) (hD : B.depth ≤ 20) (h1 : (n : Int) + 2 ≤ B.depth) (h2 : (n : Int) + 2 ≤ B.nodes) (h3 : (n : Int) + 1 ≤ B.anchors) :
    ∃ t, textM ⟨((bombF n k).lns [44] [10] 0 false).toArray⟩ B ⟨0, 0, [], 0, []⟩ = .ok () t ∧ highOf t.nodes 0 = n + 2 ∧ t.nodes.length = n + 2 ∧ t.anchors = n + 1 ∧ heavyOf t.nodes 0 = smM k n := by
  have hx : TokOk ⟨#[120]⟩ := ⟨by decide, by decide⟩
  have hw0 : isWordB (letterB 0) = true := letter_word (by omega)
  have hfit : (bombF n k).fits B 2 (begun none ⟨0, 0, [], 0, []⟩) := by
    unfold bombF
    refine fits_cons.2 ⟨⟨fun h3 => by omega, fun _ => ⟨by omega, ?_, fun x hxx => ?_, by omega, fun _ => ⟨hx, rfl⟩, fun h2 => by omega, trivial⟩⟩, ?_⟩
    · show ((1 : Nat) : Int) < B.nodes
      omega
    · cases hxx
      exact ⟨hw0, by show ((0 : Nat) : Int) < B.anchors; omega⟩
    · have := bombT_fits (B := B) hk n 0 _ (bomb_first k) (by push_cast; omega) (by push_cast; omega) (by push_cast; omega) (by omega)
      exact this
  obtain ⟨a, b, he⟩ := text_lines (s := ⟨((bombF n k).lns [44] [10] 0 false).toArray⟩) (B := B) (F := bombF n k) (m := false) (t := ⟨0, 0, [], 0, []⟩) (.inl rfl) (.inl rfl) hD (by unfold bombF; exact fun e => by cases e) (by unfold bombF; exact ⟨(fun h => by cases h), bombT_lok k n 1⟩) rfl (by omega) (by show ((0 : Nat) : Int) < B.nodes; omega) hfit (fun e => by cases e) (At.all _) (by simp [ByteArray.size])
  refine ⟨_, he, ?_⟩
  have hrun : (bombF n k).run (begun none ⟨0, 0, [], 0, []⟩) = (1 :: ((bombT k 1 n).run (after (some (letterB 0)) 0 ⟨#[120]⟩ .nil (begun none ⟨0, 0, [], 0, []⟩))).1, ((bombT k 1 n).run (after (some (letterB 0)) 0 ⟨#[120]⟩ .nil (begun none ⟨0, 0, [], 0, []⟩))).2) := by
    unfold bombF
    rw [run_cons]
    rfl
  obtain ⟨g1, g2⟩ := bombT_run hk n 0 _ (bomb_first k)
  rw [Nat.zero_add] at g1
  simp only [Nat.zero_add] at g2
  rw [hrun, g2]
  simp only
  generalize ((bombT k 1 n).run (after (some (letterB 0)) 0 ⟨#[120]⟩ .nil (begun none ⟨0, 0, [], 0, []⟩))).2 = u at *
  have hids : (1 :: (List.range n).map (fun j => 2 + j)) = (List.range (n + 1)).map (· + 1) := by
    rw [List.range_succ_eq_map, List.map_cons, List.map_map]
    congr 1
    apply List.map_congr_left
    intro j _
    simp only [Function.comp]
    omega
  rw [hids]
  have hz : 0 < u.nodes.length := by rw [g1.len]; omega
  refine ⟨?_, ?_, g1.anch, ?_⟩
  · show highOf (u.nodes.set 0 (measured u.nodes _)) 0 = _
    rw [highOf_set _ _ _ _ hz, if_pos rfl]
    simp only [measured, mkNode]
    rw [bomb_high u.nodes n (fun j hj => (g1.node j hj).1)]
  · show (u.nodes.set 0 _).length = _
    rw [List.length_set, g1.len]
  · show heavyOf (u.nodes.set 0 (measured u.nodes _)) 0 = _
    rw [heavyOf_set _ _ _ _ hz, if_pos rfl]
    simp only [measured, mkNode]
    rw [bomb_sum u.nodes k n (fun j hj => (g1.node j hj).2)]

/-- The aliases of a line, as they are written. -/
def alsT (k : Nat) (x : ByteArray) : List UInt8 := (als k x).txt [44] false true

theorem alsT_zero (x : ByteArray) : alsT 0 x = [] := rfl

theorem als_snoc (x : ByteArray) (k : Nat) : ∀ b, (als (k + 1) x).txt [44] false b = (als k x).txt [44] false b ++ ((if b = true ∧ k = 0 then [] else [44]) ++ (42 :: x.data.toList)) := by
  induction k with
  | zero =>
    intro b
    simp only [als, Frst.txt_cons, Frst.txt_nil, itemT]
    cases b <;> simp
  | succ k ih =>
    intro b
    rw [als, Frst.txt_cons, ih false]
    conv => rhs; rw [als, Frst.txt_cons]
    simp

theorem alsT_succ (x : ByteArray) (k : Nat) : alsT (k + 1) x = alsT k x ++ ((if k = 0 then [] else [44]) ++ (42 :: x.data.toList)) := by
  unfold alsT
  rw [als_snoc]
  simp

theorem alsT_len (i k : Nat) : (alsT k (letterB i)).length ≤ 3 * k := by
  induction k with
  | zero => simp [alsT_zero]
  | succ k ih =>
    rw [alsT_succ]
    simp only [List.length_append, List.length_cons]
    have h1 : (if k = 0 then [] else ([44] : List UInt8)).length ≤ 1 := by split <;> simp
    have h2 : (letterB i).data.toList.length = 1 := rfl
    omega

/-- A line. -/
def lineT (k i : Nat) : List UInt8 := [45, 32, 38] ++ (letterB i).data.toList ++ [32, 91] ++ alsT k (letterB (i - 1)) ++ [93, 10]

/-- The text of so many lines. -/
def bombL (k q : Nat) : List UInt8 := (bombF q k).lns [44] [10] 0 false

theorem bombT_snoc (k : Nat) (c : Nat) : ∀ i, (bombT k i (c + 1)).lns [44] [10] 0 false = (bombT k i c).lns [44] [10] 0 false ++ lineT k (i + c) := by
  induction c with
  | zero =>
    intro i
    simp [bombT, Frst.lns_cons, Frst.lns_nil, itemT, lineT, alsT]
  | succ c ih =>
    intro i
    rw [bombT, Frst.lns_cons, ih (i + 1)]
    conv => rhs; rw [bombT, Frst.lns_cons]
    simp only [List.append_assoc]
    rw [show i + 1 + c = i + (c + 1) by omega]

theorem bombL_zero (k : Nat) : bombL k 0 = [45, 32, 38, 97, 32, 120, 10] := by
  unfold bombL bombF
  simp only [bombT, Frst.lns_cons, Frst.lns_nil, itemT]
  rfl

theorem bombL_succ (k q : Nat) : bombL k (q + 1) = bombL k q ++ lineT k (q + 1) := by
  unfold bombL bombF
  rw [Frst.lns_cons, Frst.lns_cons, bombT_snoc, show 1 + q = q + 1 by omega]
  simp only [List.append_assoc]

theorem lineT_len (k i : Nat) : (lineT k i).length ≤ 8 + 3 * k := by
  have := alsT_len (i - 1) k
  have h2 : (letterB i).data.toList.length = 1 := rfl
  simp only [lineT, List.length_append, List.length_cons, List.length_nil]
  omega

theorem bombL_len {k : Nat} (hk : k ≤ 17) (q : Nat) : (bombL k q).length ≤ 7 + 59 * q := by
  induction q with
  | zero => rw [bombL_zero]; simp
  | succ q ih =>
    rw [bombL_succ, List.length_append]
    have := lineT_len k (q + 1)
    omega

end Go.Proofs.YtkflkmmbakccoaaGreatDoor

/- WALKS: package grafterkeep: letter; Bomb. -/
namespace Go.Proofs.YtkflkmmbakccoaaGreatDoor
open Go.RowKit Go.Maps

/-- Bytes as a string. -/
abbrev bK (l : List UInt8) : ByteArray := ⟨l.toArray⟩

theorem bK_app (a b : List UInt8) : bK a ++ bK b = bK (a ++ b) := by
  apply ByteArray.ext
  simp [ByteArray.data_append]
theorem bK_size (l : List UInt8) : (bK l).size = l.length := by simp [ByteArray.size]
theorem bK_data (x : ByteArray) : bK x.data.toList = x := by
  apply ByteArray.ext
  simp

set_option maxRecDepth 100000 in
theorem letter_run (w : World) : ∀ d : Nat, d < 26 → (Instr.slice 9 (.string ⟨#[97, 98, 99, 100, 101, 102, 103, 104, 105, 106, 107, 108, 109, 110, 111, 112, 113, 114, 115, 116, 117, 118, 119, 120, 121, 122]⟩) (some (.int .i64 (d : Int))) (some (.int .i64 ((d : Int) + 1))) none).run Tryz.prog w = .ok (.string (letterB d)) w := by
  intro d hd
  have : d = 0 ∨ d = 1 ∨ d = 2 ∨ d = 3 ∨ d = 4 ∨ d = 5 ∨ d = 6 ∨ d = 7 ∨ d = 8 ∨ d = 9 ∨ d = 10 ∨ d = 11 ∨ d = 12 ∨ d = 13 ∨ d = 14 ∨ d = 15 ∨ d = 16 ∨ d = 17 ∨ d = 18 ∨ d = 19 ∨ d = 20 ∨ d = 21 ∨ d = 22 ∨ d = 23 ∨ d = 24 ∨ d = 25 := by omega
  rcases this with rfl | rfl | rfl | rfl | rfl | rfl | rfl | rfl | rfl | rfl | rfl | rfl | rfl | rfl | rfl | rfl | rfl | rfl | rfl | rfl | rfl | rfl | rfl | rfl | rfl | rfl <;> rfl

set_option maxHeartbeats 400000 in
theorem kLetter_any (n : Nat) (hn : n < 26) (w : World) :
    Calls Tryz.prog 20 #[.int .i64 (n : Int)] w fun e w' => e = .returned (.string (letterB n)) ∧ w' = w := by
  have hr := letter_run w n hn
  go_enter Tryz.func20, Tryz.ntmps20
  go_wp2_with fail
  go_ret
  exact ⟨rfl, rfl⟩

end Go.Proofs.YtkflkmmbakccoaaGreatDoor

/- THE PLAIN FUNCTIONS: what is written in one line, with texts in quotes that need none (kind 4), and what the reader makes of it. No program is named here. -/
namespace Go.Proofs.YtkflkmmbakccoaaGreatDoor.Q

/-- Items, one behind another: key, name, kind (3: an alias), text, whether it stands below, what is in it; the rest. -/
inductive Frst where
  | nil : Frst
  | cons (key : ByteArray) (nm : Option ByteArray) (kind : Nat) (text : ByteArray) (blw : Bool) (kids rest : Frst) : Frst

namespace Frst

def keysOf : Frst → List ByteArray
  | .nil => []
  | .cons key _ _ _ _ _ rest => key :: rest.keysOf

def len : Frst → Nat
  | .nil => 0
  | .cons _ _ _ _ _ _ rest => rest.len + 1

def hgt : Frst → Nat
  | .nil => 0
  | .cons _ _ kind _ _ kids rest => if kind = 3 then rest.hgt else max (kids.hgt + 1) rest.hgt

end Frst

/-- A node has begun. -/
def begun (nm : Option ByteArray) (t : PS) : PS := { t with nodes := t.nodes ++ [NodeV.blank], anchors := t.anchors + (if nm.isSome then 1 else 0) }

/-- A node has ended. -/
def ended (nm : Option ByteArray) (id : Nat) (n : NodeV) (t : PS) : PS :=
  match nm with
  | none => endM id n t
  | some x => { endM id n t with names := (x, id) :: t.names }

def mkNode (kind : Nat) (text : ByteArray) (keys : List ByteArray) (ids : List Nat) : NodeV :=
  { NodeV.blank with kind := if kind = 4 then 0 else kind, text := if kind = 0 ∨ kind = 4 then text else ByteArray.empty, keys := if kind = 2 then keys else [], parts := ids }

namespace Frst

/-- What the reader makes of items: their nodes' numbers, and where it stands then. -/
def run : Frst → PS → List Nat × PS
  | .nil, t => ([], t)
  | .cons _ nm kind text _ kids rest, t =>
    if kind = 3 then ((lookM t.names text).getD 0 :: (rest.run t).1, (rest.run t).2)
    else (t.nodes.length :: (rest.run (ended nm t.nodes.length (mkNode kind text kids.keysOf (kids.run (begun nm t)).1) (kids.run (begun nm t)).2)).1, (rest.run (ended nm t.nodes.length (mkNode kind text kids.keysOf (kids.run (begun nm t)).1) (kids.run (begun nm t)).2)).2)

/-- Nothing bars the reader from these items. -/
def fits (B : Bud) : Frst → Int → PS → Prop
  | .nil, _, _ => True
  | .cons _ nm kind text _ kids rest, lv, t =>
    (kind = 3 → nm = none ∧ isWordB text = true ∧ (∃ i, lookM t.names text = some i ∧ lv + (highOf t.nodes i : Int) - 1 ≤ B.depth) ∧ rest.fits B lv t) ∧
    (kind ≠ 3 → lv ≤ B.depth ∧ (t.nodes.length : Int) < B.nodes ∧ (∀ x, nm = some x → isWordB x = true ∧ (t.anchors : Int) < B.anchors) ∧ (kind ≤ 2 ∨ kind = 4) ∧ (kind = 0 ∨ kind = 4 → TokOk text ∧ kids = .nil) ∧
      (kind = 2 → (∀ x ∈ kids.keysOf, TokOk x) ∧ kids.keysOf.Nodup) ∧ kids.fits B (lv + 1) (begun nm t) ∧
      rest.fits B lv (ended nm t.nodes.length (mkNode kind text kids.keysOf (kids.run (begun nm t)).1) (kids.run (begun nm t)).2))

end Frst

/-- One item in a line. -/
def itemT (nm : Option ByteArray) (kind : Nat) (text : ByteArray) (inner : List UInt8) : List UInt8 :=
  (match nm with
  | none => []
  | some x => 38 :: (x.data.toList ++ [32])) ++ (if kind = 3 then 42 :: text.data.toList else if kind = 0 then textL text else if kind = 4 then 34 :: (text.data.toList ++ [34]) else if kind = 1 then 91 :: (inner ++ [93]) else 123 :: (inner ++ [125]))

namespace Frst

/-- Items in a line. -/
def txt (sep : List UInt8) : Frst → Bool → Bool → List UInt8
  | .nil, _, _ => []
  | .cons key nm kind text _ kids rest, m, fst => (if fst then [] else sep) ++ ((if m then textL key ++ [58, 32] else []) ++ (itemT nm kind text (kids.txt sep (kind == 2) true) ++ rest.txt sep m false))

theorem txt_nil (sep : List UInt8) (m fst : Bool) : txt sep .nil m fst = [] := rfl
theorem txt_cons (sep : List UInt8) (key : ByteArray) (nm : Option ByteArray) (kind : Nat) (text : ByteArray) (blw : Bool) (kids rest : Frst) (m fst : Bool) :
    txt sep (.cons key nm kind text blw kids rest) m fst = (if fst then [] else sep) ++ ((if m then textL key ++ [58, 32] else []) ++ (itemT nm kind text (kids.txt sep (kind == 2) true) ++ rest.txt sep m false)) := rfl

theorem run_k (F : Frst) : ∀ (t : PS) (a b : Nat), F.run { t with k := a, ind := b } = ((F.run t).1, { (F.run t).2 with k := a, ind := b }) := by
  induction F with
  | nil => intro t a b; rfl
  | cons key nm kind text blw kids rest ih1 ih2 =>
    intro t a b
    unfold run
    by_cases h3 : kind = 3
    · rw [if_pos h3, if_pos h3, ih2 t a b]
    · rw [if_neg h3, if_neg h3]
      have e1 : begun nm { t with k := a, ind := b } = { begun nm t with k := a, ind := b } := rfl
      rw [e1, ih1 (begun nm t) a b]
      have e2 : ∀ n u, ended nm t.nodes.length n { u with k := a, ind := b } = { ended nm t.nodes.length n u with k := a, ind := b } := fun n u => by cases nm <;> rfl
      simp only
      rw [e2, ih2 _ a b]

theorem fits_k (B : Bud) (F : Frst) : ∀ (lv : Int) (t : PS) (a b : Nat), F.fits B lv t → F.fits B lv { t with k := a, ind := b } := by
  induction F with
  | nil => intro lv t a b _; trivial
  | cons key nm kind text blw kids rest ih1 ih2 =>
    intro lv t a b h
    unfold fits at h ⊢
    refine ⟨fun h3 => ?_, fun h3 => ?_⟩
    · obtain ⟨h1, h2, h4, h5⟩ := h.1 h3
      exact ⟨h1, h2, h4, ih2 _ _ _ _ h5⟩
    · obtain ⟨h1, h2, h4, h5, h6, h7, h8, h9⟩ := h.2 h3
      have e1 : begun nm { t with k := a, ind := b } = { begun nm t with k := a, ind := b } := rfl
      have e2 : ∀ n u, ended nm t.nodes.length n { u with k := a, ind := b } = { ended nm t.nodes.length n u with k := a, ind := b } := fun n u => by cases nm <;> rfl
      refine ⟨h1, h2, h4, h5, h6, h7, ?_, ?_⟩
      · rw [e1]; exact ih1 _ _ _ _ h8
      · rw [e1, run_k]
        simp only
        rw [e2]
        exact ih2 _ _ _ _ h9

theorem run_k1 (F : Frst) (t : PS) (a : Nat) : F.run { t with k := a } = ((F.run t).1, { (F.run t).2 with k := a }) := by
  have h := run_k F t a t.ind
  have e : (F.run t).2.ind = t.ind := by
    have := run_k F t t.k t.ind
    exact congrArg (fun r : List Nat × PS => r.2.ind) this
  rw [h]
  congr 1
  cases hr : (F.run t).2
  rw [hr] at e
  simp only at e
  subst e
  rfl

theorem fits_k1 {B : Bud} {F : Frst} {lv : Int} {t : PS} (a : Nat) (h : F.fits B lv t) : F.fits B lv { t with k := a } := fits_k B F lv t a t.ind h

theorem len_txt (sep : List UInt8) (F : Frst) : ∀ m fst, F.len ≤ (F.txt sep m fst).length := by
  induction F with
  | nil => intro m fst; simp [len]
  | cons key nm kind text blw kids rest _ ih =>
    intro m fst
    have h1 := ih m false
    have h2 : 1 ≤ (if kind = 3 then 42 :: text.data.toList else if kind = 0 then textL text else if kind = 4 then 34 :: (text.data.toList ++ [34]) else if kind = 1 then 91 :: (kids.txt sep (kind == 2) true ++ [93]) else 123 :: (kids.txt sep (kind == 2) true ++ [125])).length := by
      split
      · simp
      · split
        · unfold textL
          split
          · rename_i hw
            simp only [isWordB, Bool.and_eq_true, decide_eq_true_eq] at hw
            exact hw.1.1
          · simp
        · split
          · simp
          · split <;> simp
    unfold txt len itemT
    simp only [List.length_append]
    omega

theorem hgt_le {B : Bud} (F : Frst) : ∀ (lv : Int) (t : PS), F.fits B lv t → F.hgt = 0 ∨ lv + (F.hgt : Int) ≤ B.depth + 1 := by
  induction F with
  | nil => intro lv t _; exact .inl rfl
  | cons key nm kind text blw kids rest ih1 ih2 =>
    intro lv t h
    unfold fits at h
    unfold hgt
    by_cases h3 : kind = 3
    · rw [if_pos h3]
      exact ih2 _ _ (h.1 h3).2.2.2
    · rw [if_neg h3]
      obtain ⟨h1, _, _, _, _, _, h8, h9⟩ := h.2 h3
      have a := ih1 _ _ h8
      have b := ih2 _ _ h9
      right
      omega

end Frst

/-- With what an item begins. -/
theorem item_first {s : ByteArray} {k : Nat} {nm : Option ByteArray} {kind : Nat} {text : ByteArray} {inner w : List UInt8} (h : At s k (itemT nm kind text inner ++ w)) :
    byteAt s k ≠ 32 ∧ (kindAt s k = 2 ∨ kindAt s k = 3 ∨ kindAt s k = 7 ∨ kindAt s k = 8 ∨ kindAt s k = 9 ∨ kindAt s k = 11) := by
  unfold itemT at h
  cases nm with
  | some x =>
    obtain ⟨h1, h2, _⟩ := At.head (show At s k (38 :: _) from h)
    rw [kindAt_byte h1 h2]
    exact ⟨by rw [h2]; decide, .inr (.inr (.inr (.inl rfl)))⟩
  | none =>
    simp only [List.nil_append] at h
    split at h
    · obtain ⟨h1, h2, _⟩ := At.head (show At s k (42 :: _) from h)
      rw [kindAt_byte h1 h2]
      exact ⟨by rw [h2]; decide, .inr (.inr (.inl rfl))⟩
    · split at h
      · obtain ⟨a, b⟩ := text_first h
        exact ⟨b, by rcases a with a | a <;> simp [a]⟩
      · split at h
        · obtain ⟨h1, h2, _⟩ := At.head (show At s k (34 :: _) from h)
          rw [kindAt_byte h1 h2]
          exact ⟨by rw [h2]; decide, .inr (.inl rfl)⟩
        · split at h
          · obtain ⟨h1, h2, _⟩ := At.head (show At s k (91 :: _) from h)
            rw [kindAt_byte h1 h2]
            exact ⟨by rw [h2]; decide, .inr (.inr (.inr (.inr (.inl rfl))))⟩
          · obtain ⟨h1, h2, _⟩ := At.head (show At s k (123 :: _) from h)
            rw [kindAt_byte h1 h2]
            exact ⟨by rw [h2]; decide, .inr (.inr (.inr (.inr (.inr rfl))))⟩

/-- With what items begin. -/
theorem txt_first {s : ByteArray} {k : Nat} {sep : List UInt8} {F : Frst} {m : Bool} {w : List UInt8} (hF : F ≠ .nil) (h : At s k (F.txt sep m true ++ w)) :
    byteAt s k ≠ 32 ∧ (kindAt s k = 2 ∨ kindAt s k = 3 ∨ kindAt s k = 7 ∨ kindAt s k = 8 ∨ kindAt s k = 9 ∨ kindAt s k = 11) := by
  cases F with
  | nil => exact absurd rfl hF
  | cons key nm kind text blw kids rest =>
    unfold Frst.txt at h
    simp only [if_true, List.nil_append] at h
    cases m with
    | true =>
      simp only [if_true, List.append_assoc] at h
      obtain ⟨a, b⟩ := text_first h
      exact ⟨b, by rcases a with a | a <;> simp [a]⟩
    | false =>
      simp only [Bool.false_eq_true, if_false, List.nil_append, List.append_assoc] at h
      exact item_first h

/-- A text in quotes stands at k. -/
theorem quote_at {s : ByteArray} {k : Nat} {x : ByteArray} (hx : TokOk x) (h : At s k (34 :: (x.data.toList ++ [34]))) :
    kindAt s k = 3 ∧ rdAny s k = (x, true, k + (34 :: (x.data.toList ++ [34])).length) ∧ byteAt s k ≠ 32 := by
  obtain ⟨g1, g2, g3⟩ := h.head
  have hk : kindAt s k = 3 := by rw [kindAt_byte g1 g2]; rfl
  have hq := qEnd_at x.data.toList (k + 1) g3 hx.2
  have hl : x.data.toList.length = x.size := rfl
  have h20 := hx.1
  refine ⟨hk, ?_, by rw [g2]; decide⟩
  unfold rdAny
  rw [if_pos hk]
  unfold rdStr
  obtain ⟨g4, g5⟩ := g3.app
  obtain ⟨_, g6, _⟩ := g5.head
  rw [hq, if_neg (by omega), if_pos (by rw [g6]; rfl), g4.extract]
  have e : (⟨x.data.toList.toArray⟩ : ByteArray) = x := by cases x; simp
  rw [e]
  simp only [List.length_cons, List.length_append, List.length_nil]
  rw [show k + 1 + x.data.toList.length + 1 = k + (x.data.toList.length + (0 + 1) + 1) by omega]

end Go.Proofs.YtkflkmmbakccoaaGreatDoor.Q

/- THE PLAIN FUNCTIONS: the reader reads what is written in one line. No program is named here. -/
namespace Go.Proofs.YtkflkmmbakccoaaGreatDoor.Q

/-- A value in a line. -/
def valT (kind : Nat) (text : ByteArray) (inner : List UInt8) : List UInt8 := if kind = 0 then textL text else if kind = 4 then 34 :: (text.data.toList ++ [34]) else if kind = 1 then 91 :: (inner ++ [93]) else 123 :: (inner ++ [125])

theorem itemT_val (nm : Option ByteArray) (kind : Nat) (text : ByteArray) (inner : List UInt8) (h : kind ≠ 3) : itemT nm kind text inner = (match nm with
  | none => []
  | some x => 38 :: (x.data.toList ++ [32])) ++ valT kind text inner := by
  unfold itemT valT
  cases nm <;> rw [if_neg h] <;> rfl

/-- The rounds inside brackets read these items. -/
def InLaw (s : ByteArray) (B : Bud) (sep : List UInt8) (F : Frst) : Prop :=
  ∀ (f : Nat) (lv : Int) (m : Bool) (keys : List ByteArray) (parts : List Nat) (n : Nat) (t : PS) (k : Nat), F ≠ .nil → F.hgt ≤ f → F.len ≤ n → F.fits B lv t →
    (m = true → (∀ x ∈ F.keysOf, TokOk x) ∧ (keys ++ F.keysOf).Nodup) → skipBl s t.k = k → At s k (F.txt sep m true ++ [if m then 125 else 93]) →
    inLoop s (flowM s B f lv) m (if m then 12 else 10) n keys parts t = .ok (keys ++ (if m then F.keysOf else []), parts ++ (F.run t).1) { (F.run t).2 with k := k + (F.txt sep m true).length + 1 }

section
variable {s : ByteArray} {B : Bud} {sep : List UInt8}

theorem brackets_at {kids : Frst} (hin : kids ≠ .nil → InLaw s B sep kids) {f : Nat} {lv : Int} {m : Bool} {t : PS} (hf : kids.hgt ≤ f) (hfit : kids.fits B lv t) (hk : m = true → (∀ x ∈ kids.keysOf, TokOk x) ∧ kids.keysOf.Nodup)
    (h : At s (t.k + 1) (kids.txt sep m true ++ [if m then 125 else 93])) :
    bracketsM s (flowM s B f lv) m (if m then 12 else 10) t = .ok (if m then kids.keysOf else [], (kids.run t).1) { (kids.run t).2 with k := t.k + 1 + (kids.txt sep m true).length + 1 } := by
  unfold bracketsM
  simp only
  by_cases hn : kids = .nil
  · subst hn
    simp only [Frst.txt, List.nil_append] at h
    obtain ⟨h1, h2, _⟩ := h.head
    have hsk : skipBl s (t.k + 1) = t.k + 1 := skip_at (by rw [h2]; cases m <;> decide)
    rw [hsk, if_pos (by rw [kindAt_byte h1 h2]; cases m <;> rfl)]
    cases m <;> rfl
  · obtain ⟨a, b⟩ := txt_first hn h
    have hsk : skipBl s (t.k + 1) = t.k + 1 := skip_at a
    have hl := h.le (by simp)
    have hlen := Frst.len_txt sep kids m true
    simp only [List.length_append, List.length_cons, List.length_nil] at hl
    rw [hsk, if_neg (by cases m <;> simp <;> omega)]
    rw [hin hn f lv m [] [] (s.size + 1) { t with k := t.k + 1 } (t.k + 1) hn hf (by omega) (Frst.fits_k1 _ hfit) (fun e => by simpa using hk e) hsk h]
    rw [Frst.run_k1]
    simp

theorem value_at {kids : Frst} (hin : kids ≠ .nil → InLaw s B sep kids) {kind : Nat} {text : ByteArray} {f id : Nat} {lv : Int} {t : PS} {k : Nat} (hk2 : kind ≤ 2 ∨ kind = 4) (h0 : kind = 0 ∨ kind = 4 → TokOk text ∧ kids = .nil) (hk : kind = 2 → (∀ x ∈ kids.keysOf, TokOk x) ∧ kids.keysOf.Nodup)
    (hf : kids.hgt ≤ f) (hfit : kids.fits B (lv + 1) t) (hs : skipBl s t.k = k) (h : At s k (valT kind text (kids.txt sep (kind == 2) true))) (hw : isWB (byteAt s (k + (valT kind text (kids.txt sep (kind == 2) true)).length)) = false) :
    valueS s (flowM s B f) id lv t = .ok () { endM id (mkNode kind text kids.keysOf (kids.run t).1) (kids.run t).2 with k := k + (valT kind text (kids.txt sep (kind == 2) true)).length } := by
  unfold valueS
  simp only
  rw [hs]
  have hkk : kind = 0 ∨ kind = 4 ∨ kind = 1 ∨ kind = 2 := by omega
  rcases hkk with rfl | rfl | rfl | rfl
  · obtain ⟨ht, rfl⟩ := h0 (.inl rfl)
    simp only [valT, if_true] at h hw ⊢
    obtain ⟨a, b, c⟩ := text_at ht h hw
    rw [if_pos a, readM_at (k := k) (by show skipBl s k = k; rw [← hs, skipBl_idem]) b]
    rfl
  · obtain ⟨ht, rfl⟩ := h0 (.inr rfl)
    simp only [valT, if_neg (show ¬ (4 : Nat) = 0 by omega), if_true] at h hw ⊢
    obtain ⟨a, b, c⟩ := quote_at ht h
    rw [if_pos (.inr a), readM_at (k := k) (by show skipBl s k = k; rw [← hs, skipBl_idem]) b]
    rfl
  · simp only [valT, if_neg (show ¬ (1 : Nat) = 0 by omega), if_neg (show ¬ (1 : Nat) = 4 by omega), if_true] at h hw ⊢
    obtain ⟨h1, h2, h3⟩ := At.head (show At s k (91 :: _) from h)
    have hkd : kindAt s k = 9 := by rw [kindAt_byte h1 h2]; rfl
    rw [if_neg (by omega), if_pos hkd]
    have e := brackets_at (m := false) (t := { t with k := k }) hin hf (Frst.fits_k1 k hfit) (fun e => by cases e) h3
    simp only [Bool.false_eq_true, if_false] at e
    rw [e, Res.bind_ok, Frst.run_k1]
    simp only [List.length_cons, List.length_append, List.length_nil]
    rw [show k + 1 + (kids.txt sep false true).length + 1 = k + ((kids.txt sep (1 == 2) true).length + (0 + 1) + 1) by show _ = k + ((kids.txt sep false true).length + (0 + 1) + 1); omega]
    rfl
  · simp only [valT, if_neg (show ¬ (2 : Nat) = 0 by omega), if_neg (show ¬ (2 : Nat) = 4 by omega), if_neg (show ¬ (2 : Nat) = 1 by omega)] at h hw ⊢
    obtain ⟨h1, h2, h3⟩ := At.head (show At s k (123 :: _) from h)
    have hkd : kindAt s k = 11 := by rw [kindAt_byte h1 h2]; rfl
    rw [if_neg (by omega), if_neg (by omega), if_pos hkd]
    have e := brackets_at (m := true) (t := { t with k := k }) hin hf (Frst.fits_k1 k hfit) (fun _ => hk rfl) h3
    simp only [if_true] at e
    rw [e, Res.bind_ok, Frst.run_k1]
    simp only [List.length_cons, List.length_append, List.length_nil]
    rw [show k + 1 + (kids.txt sep true true).length + 1 = k + ((kids.txt sep (2 == 2) true).length + (0 + 1) + 1) by show _ = k + ((kids.txt sep true true).length + (0 + 1) + 1); omega]
    rfl

/-- A name, and what stands behind it. -/
theorem named_at {x : ByteArray} {lv : Int} {rest : Nat → PS → Res Unit} {t t' : PS} (hx : isWordB x = true) (h1 : lv ≤ B.depth) (h2 : (t.nodes.length : Int) < B.nodes) (h3 : (t.anchors : Int) < B.anchors) (h : At s t.k (38 :: (x.data.toList ++ [32])))
    (hr : rest t.nodes.length { begun (some x) t with k := t.k + 1 + x.data.toList.length } = .ok () t') :
    namedM s B lv rest t = .ok t.nodes.length { t' with names := (x, t.nodes.length) :: t'.names } := by
  unfold namedM
  rw [beginM_go h1 h2, Res.bind_ok]
  simp only
  rw [if_neg (by omega)]
  obtain ⟨_, _, g3⟩ := h.head
  obtain ⟨g4, g5⟩ := g3.app
  obtain ⟨_, g6, _⟩ := g5.head
  obtain ⟨a, b, c⟩ := word_at hx g4 (by rw [g6]; decide)
  rw [wordM_at (k := t.k + 1) (skip_at c) a b, Res.bind_ok]
  have e : ({ t with k := t.k + 1 + x.data.toList.length, nodes := t.nodes ++ [NodeV.blank], anchors := t.anchors + 1 } : PS) = { begun (some x) t with k := t.k + 1 + x.data.toList.length } := rfl
  rw [e, hr]
  rfl

/-- The first number of an item. -/
def idOf (kind : Nat) (text : ByteArray) (t : PS) : Nat := if kind = 3 then (lookM t.names text).getD 0 else t.nodes.length

/-- Where the reader stands behind an item. -/
def after (nm : Option ByteArray) (kind : Nat) (text : ByteArray) (kids : Frst) (t : PS) : PS :=
  if kind = 3 then t else ended nm t.nodes.length (mkNode kind text kids.keysOf (kids.run (begun nm t)).1) (kids.run (begun nm t)).2

theorem run_cons (key : ByteArray) (nm : Option ByteArray) (kind : Nat) (text : ByteArray) (blw : Bool) (kids rest : Frst) (t : PS) :
    (Frst.cons key nm kind text blw kids rest).run t = (idOf kind text t :: (rest.run (after nm kind text kids t)).1, (rest.run (after nm kind text kids t)).2) := by
  rw [Frst.run]
  unfold idOf after
  by_cases h : kind = 3
  · rw [if_pos h, if_pos h, if_pos h]
  · rw [if_neg h, if_neg h, if_neg h]

/-- Nothing bars the reader from an item. -/
def fitsI (B : Bud) (nm : Option ByteArray) (kind : Nat) (text : ByteArray) (kids : Frst) (lv : Int) (t : PS) : Prop :=
    (kind = 3 → nm = none ∧ isWordB text = true ∧ (∃ i, lookM t.names text = some i ∧ lv + (highOf t.nodes i : Int) - 1 ≤ B.depth)) ∧
    (kind ≠ 3 → lv ≤ B.depth ∧ (t.nodes.length : Int) < B.nodes ∧ (∀ x, nm = some x → isWordB x = true ∧ (t.anchors : Int) < B.anchors) ∧ (kind ≤ 2 ∨ kind = 4) ∧ (kind = 0 ∨ kind = 4 → TokOk text ∧ kids = .nil) ∧
      (kind = 2 → (∀ x ∈ kids.keysOf, TokOk x) ∧ kids.keysOf.Nodup) ∧ kids.fits B (lv + 1) (begun nm t))

theorem fits_cons {key : ByteArray} {nm : Option ByteArray} {kind : Nat} {text : ByteArray} {blw : Bool} {kids rest : Frst} {lv : Int} {t : PS} :
    (Frst.cons key nm kind text blw kids rest).fits B lv t ↔ fitsI B nm kind text kids lv t ∧ rest.fits B lv (after nm kind text kids t) := by
  rw [Frst.fits]
  unfold fitsI after
  by_cases h3 : kind = 3
  · rw [if_pos h3]
    constructor
    · intro h
      obtain ⟨a, b, c, d⟩ := h.1 h3
      exact ⟨⟨fun _ => ⟨a, b, c⟩, fun h => absurd h3 h⟩, d⟩
    · intro h
      obtain ⟨a, b, c⟩ := h.1.1 h3
      exact ⟨fun _ => ⟨a, b, c, h.2⟩, fun h => absurd h3 h⟩
  · rw [if_neg h3]
    constructor
    · intro h
      obtain ⟨a, b, c, d, e, f, g, i⟩ := h.2 h3
      exact ⟨⟨fun h => absurd h h3, fun _ => ⟨a, b, c, d, e, f, g⟩⟩, i⟩
    · intro h
      obtain ⟨a, b, c, d, e, f, g⟩ := h.1.2 h3
      exact ⟨fun h => absurd h h3, fun _ => ⟨a, b, c, d, e, f, g, h.2⟩⟩

theorem fitsI_k {nm : Option ByteArray} {kind : Nat} {text : ByteArray} {kids : Frst} {lv : Int} {t : PS} (a b : Nat) (h : fitsI B nm kind text kids lv t) : fitsI B nm kind text kids lv { t with k := a, ind := b } := by
  have := Frst.fits_k B (.cons ByteArray.empty nm kind text false kids .nil) lv t a b (fits_cons.2 ⟨h, trivial⟩)
  exact (fits_cons.1 this).1

theorem after_k (nm : Option ByteArray) (kind : Nat) (text : ByteArray) (kids : Frst) (t : PS) (a b : Nat) : after nm kind text kids { t with k := a, ind := b } = { after nm kind text kids t with k := a, ind := b } := by
  have := Frst.run_k (.cons ByteArray.empty nm kind text false kids .nil) t a b
  rw [run_cons, run_cons] at this
  exact congrArg (fun r : List Nat × PS => r.2) this

theorem after_ind (nm : Option ByteArray) (kind : Nat) (text : ByteArray) (kids : Frst) (t : PS) : (after nm kind text kids t).ind = t.ind := by
  have h := congrArg PS.ind (after_k nm kind text kids t t.k t.ind)
  exact h

theorem after_k1 (nm : Option ByteArray) (kind : Nat) (text : ByteArray) (kids : Frst) (t : PS) (a : Nat) : after nm kind text kids { t with k := a } = { after nm kind text kids t with k := a } := by
  have h := after_k nm kind text kids t a t.ind
  have e := after_ind nm kind text kids t
  rw [show ({ t with k := a } : PS) = { t with k := a, ind := t.ind } from rfl, h]
  cases hr : after nm kind text kids t
  rw [hr] at e
  simp only at e
  subst e
  rfl

/-- The value that stands behind a name, or with none. -/
theorem val_at {kids : Frst} (hin : kids ≠ .nil → InLaw s B sep kids) {nm : Option ByteArray} {kind : Nat} {text : ByteArray} {f : Nat} {lv : Int} {t u : PS} {k : Nat} (h3 : kind ≠ 3) (hfit : fitsI B nm kind text kids lv t) (hf : kids.hgt ≤ f) (a : Nat) (hu : u = { begun nm t with k := a })
    (hs : skipBl s a = k) (h : At s k (valT kind text (kids.txt sep (kind == 2) true))) (hw : isWB (byteAt s (k + (valT kind text (kids.txt sep (kind == 2) true)).length)) = false) :
    valueS s (flowM s B f) t.nodes.length lv u = .ok () { endM t.nodes.length (mkNode kind text kids.keysOf (kids.run (begun nm t)).1) (kids.run (begun nm t)).2 with k := k + (valT kind text (kids.txt sep (kind == 2) true)).length } := by
  obtain ⟨_, _, _, g4, g5, g6, g7⟩ := hfit.2 h3
  subst hu
  rw [value_at hin g4 g5 g6 hf (Frst.fits_k1 a g7) hs h hw, Frst.run_k1]
  rfl

/-- One item in a line is read. -/
theorem item_at {kids : Frst} (hin : kids ≠ .nil → InLaw s B sep kids) {nm : Option ByteArray} {kind : Nat} {text : ByteArray} {f : Nat} {lv : Int} {t : PS} {k : Nat} (hf : kind ≠ 3 → kids.hgt + 1 ≤ f) (hfit : fitsI B nm kind text kids lv t)
    (hs : skipBl s t.k = k) (h : At s k (itemT nm kind text (kids.txt sep (kind == 2) true))) (hw : isWB (byteAt s (k + (itemT nm kind text (kids.txt sep (kind == 2) true)).length)) = false) :
    flowM s B f lv t = .ok (idOf kind text t) { after nm kind text kids t with k := k + (itemT nm kind text (kids.txt sep (kind == 2) true)).length } := by
  by_cases h3 : kind = 3
  · obtain ⟨rfl, hword, i, hi, hd⟩ := hfit.1 h3
    unfold itemT at h hw ⊢
    simp only [h3, if_true, List.nil_append] at h hw ⊢
    obtain ⟨g1, g2, g4⟩ := h.head
    have hkd : kindAt s k = 7 := by rw [kindAt_byte g1 g2]; rfl
    obtain ⟨a, b, c⟩ := word_at hword g4 (by rw [List.length_cons] at hw; rw [show k + 1 + text.data.toList.length = k + (text.data.toList.length + 1) by omega]; exact hw)
    have key : flowM s B f lv t = aliasM s B lv { t with k := k } := by
      cases f with
      | zero => unfold flowM flowS; simp only; rw [hs, if_pos hkd]
      | succ f => unfold flowM flowS; simp only; rw [hs, if_pos hkd]
    rw [key]
    unfold aliasM
    rw [wordM_at (k := k + 1) (skip_at c) a b, Res.bind_ok]
    simp only
    rw [hi]
    simp only
    rw [if_neg (by omega)]
    unfold idOf after
    rw [if_pos rfl, if_pos rfl, hi]
    simp only [Option.getD_some, List.length_cons]
    rw [show k + 1 + text.data.toList.length = k + (text.data.toList.length + 1) by omega]
  · obtain ⟨f, rfl⟩ : ∃ g, f = g + 1 := ⟨f - 1, by have := hf h3; omega⟩
    have hf' : kids.hgt ≤ f := by have := hf h3; omega
    obtain ⟨g1, g2, g3, _⟩ := hfit.2 h3
    rw [itemT_val _ _ _ _ h3] at h hw ⊢
    unfold idOf
    rw [if_neg h3]
    cases nm with
    | none =>
      simp only [List.nil_append] at h hw ⊢
      have hfst : At s k (itemT none kind text (kids.txt sep (kind == 2) true) ++ []) := by rw [itemT_val _ _ _ _ h3, List.append_nil]; exact h
      obtain ⟨p1, _⟩ := item_first hfst
      have p2 : kindAt s k = 2 ∨ kindAt s k = 3 ∨ kindAt s k = 9 ∨ kindAt s k = 11 := by
        obtain ⟨_, _, _, g4, _⟩ := hfit.2 h3
        have hkk : kind = 0 ∨ kind = 4 ∨ kind = 1 ∨ kind = 2 := by omega
        unfold valT at h
        rcases hkk with rfl | rfl | rfl | rfl
        · rw [if_pos rfl] at h
          have q := (text_first (w := []) (by rw [List.append_nil]; exact h)).1
          omega
        · obtain ⟨q1, q2, _⟩ := At.head (show At s k (34 :: _) from h)
          rw [kindAt_byte q1 q2]; exact .inr (.inl rfl)
        · obtain ⟨q1, q2, _⟩ := At.head (show At s k (91 :: _) from h)
          rw [kindAt_byte q1 q2]; exact .inr (.inr (.inl rfl))
        · obtain ⟨q1, q2, _⟩ := At.head (show At s k (123 :: _) from h)
          rw [kindAt_byte q1 q2]; exact .inr (.inr (.inr rfl))
      unfold flowM flowS
      simp only
      rw [hs, if_neg (by omega), if_neg (by omega), if_pos p2, beginM_go (t := { t with k := k }) g1 g2, Res.bind_ok]
      have hv := val_at hin (nm := none) (t := t) h3 hfit hf' k rfl (by rw [← hs, skipBl_idem]) h hw
      show (valueS s (flowM s B f) t.nodes.length lv { begun none t with k := k }).bind _ = _
      rw [hv, Res.bind_ok]
      unfold after
      rw [if_neg h3]
      rfl
    | some x =>
      simp only [List.cons_append, List.append_assoc, List.nil_append] at h hw ⊢
      obtain ⟨q1, q2, q3⟩ := h.head
      obtain ⟨q4, q5⟩ := q3.app
      have hkd : kindAt s k = 8 := by rw [kindAt_byte q1 q2]; rfl
      obtain ⟨g4, g5⟩ := g3 x rfl
      obtain ⟨_, q7⟩ := At.app (a := [32]) q5
      have hne : byteAt s (k + 1 + x.data.toList.length + 1) ≠ 32 := (item_first (nm := none) (kind := kind) (text := text) (inner := kids.txt sep (kind == 2) true) (w := []) (by rw [itemT_val _ _ _ _ h3, List.append_nil]; exact q7)).1
      have hsk : skipBl s (k + 1 + x.data.toList.length) = k + 1 + x.data.toList.length + 1 := by
        rw [skip_one (w := valT kind text (kids.txt sep (kind == 2) true)) q5]
        exact skip_at hne
      have hL : k + (38 :: (x.data.toList ++ 32 :: valT kind text (kids.txt sep (kind == 2) true))).length = k + 1 + x.data.toList.length + 1 + (valT kind text (kids.txt sep (kind == 2) true)).length := by
        simp only [List.length_cons, List.length_append]; omega
      have hv := val_at hin (nm := some x) (t := t) (u := { begun (some x) t with k := k + 1 + x.data.toList.length }) h3 hfit hf' (k + 1 + x.data.toList.length) rfl hsk q7 (by rw [← hL]; exact hw)
      unfold flowM flowS
      simp only
      rw [hs, if_neg (by omega), if_pos hkd]
      rw [named_at (x := x) (t := { t with k := k }) (rest := fun id v => valueS s (flowM s B f) id lv v) g4 g1 g2 g5 (by
        show At s k (38 :: (x.data.toList ++ [32]))
        refine At.of (a := [38]) ?_ ?_
        · exact (At.app (a := [38]) h).1
        · exact At.of q4 (At.app (a := [32]) q5).1) hv]
      unfold after
      rw [if_neg h3, hL]
      rfl

/-- The rounds inside brackets read what is written. -/
theorem in_law (hsep : sep = [44] ∨ sep = [44, 32]) (F : Frst) : InLaw s B sep F := by
  induction F with
  | nil => intro f lv m keys parts n t k h; exact absurd rfl h
  | cons key nm kind text blw kids rest ih1 ih2 =>
    intro f lv m keys parts n t k _ hf hn hfit hkeys hs h
    obtain ⟨hI, hR⟩ := fits_cons.1 hfit
    have hfI : kind ≠ 3 → kids.hgt + 1 ≤ f := fun h3 => by
      unfold Frst.hgt at hf
      rw [if_neg h3] at hf
      omega
    have hfR : rest.hgt ≤ f := by
      unfold Frst.hgt at hf
      split at hf
      · exact hf
      · omega
    obtain ⟨n, rfl⟩ : ∃ g, n = g + 1 := ⟨n - 1, by unfold Frst.len at hn; omega⟩
    have hnR : rest.len ≤ n := by unfold Frst.len at hn; omega
    rw [run_cons]
    rw [Frst.txt_cons] at h ⊢
    simp only [if_true, List.nil_append] at h ⊢
    -- the key
    have hkey : ∃ k1 k2 keys1, (if m then keyM s keys t else .ok keys t) = .ok keys1 { t with k := k1 } ∧ skipBl s k1 = k2 ∧ k2 = k + (if m then textL key ++ [58, 32] else []).length ∧ keys1 = keys ++ (if m then [key] else []) ∧ At s k2 ((itemT nm kind text (kids.txt sep (kind == 2) true) ++ rest.txt sep m false) ++ [if m then 125 else 93]) := by
      cases m with
      | false =>
        simp only [Bool.false_eq_true, if_false, List.nil_append] at h ⊢
        refine ⟨t.k, k, keys, rfl, hs, ?_, ?_, h⟩ <;> simp
      | true =>
        simp only [if_true, List.append_assoc, List.cons_append, List.nil_append] at h hkeys ⊢
        obtain ⟨p1, p2⟩ := h.app
        obtain ⟨p3, p4, p5⟩ := p2.head
        obtain ⟨p6, p7, p8⟩ := p5.head
        have hkt : TokOk key := (hkeys trivial).1 key (by unfold Frst.keysOf; exact List.mem_cons_self ..)
        obtain ⟨a, b, c⟩ := text_at hkt p1 (by rw [p4]; decide)
        have hnot : key ∉ keys := by
          have := (hkeys trivial).2
          unfold Frst.keysOf at this
          rw [List.nodup_append] at this
          intro hm
          exact this.2.2 key hm key (List.mem_cons_self ..) rfl
        refine ⟨_, _, _, keyM_at hs a b hnot p4 p3, ?_, rfl, rfl, ?_⟩
        · rw [skip_one p5]
          rw [skip_at (item_first p8).1]
          simp only [List.length_append, List.length_cons, List.length_nil]; omega
        · simp only [List.length_append, List.length_cons, List.length_nil]
          rw [show k + ((textL key).length + (0 + 1 + 1)) = k + (textL key).length + 1 + 1 by omega]
          exact p8
    obtain ⟨k1, k2, keys1, e1, e2, e3, e4, h2⟩ := hkey
    rw [List.append_assoc] at h2
    obtain ⟨h5, h6⟩ := h2.app
    have hnext : isWB (byteAt s (k2 + (itemT nm kind text (kids.txt sep (kind == 2) true)).length)) = false := by
      cases rest with
      | nil =>
        rw [Frst.txt_nil] at h6
        obtain ⟨_, g, _⟩ := h6.head
        rw [g]
        cases m <;> decide
      | cons =>
        rw [Frst.txt_cons] at h6
        rcases hsep with rfl | rfl
        · obtain ⟨_, g, _⟩ := At.head (show At s _ (44 :: _) from h6)
          rw [g]; decide
        · obtain ⟨_, g, _⟩ := At.head (show At s _ (44 :: _) from h6)
          rw [g]; decide
    have hit := item_at (fun _ => ih1) (t := { t with k := k1 }) hfI (fitsI_k k1 t.ind hI) e2 h5 hnext
    rw [after_k1] at hit
    unfold inLoop
    rw [e1, Res.bind_ok, hit, Res.bind_ok]
    simp only
    have hid : idOf kind text { t with k := k1 } = idOf kind text t := rfl
    rw [hid]
    have hRk : rest.fits B lv { after nm kind text kids t with k := k2 + (itemT nm kind text (kids.txt sep (kind == 2) true)).length + 1 } := Frst.fits_k1 _ hR
    cases hrest : rest with
    | nil =>
      rw [hrest, Frst.txt_nil] at h6
      obtain ⟨g1, g2, _⟩ := h6.head
      have hsk : skipBl s (k2 + (itemT nm kind text (kids.txt sep (kind == 2) true)).length) = k2 + (itemT nm kind text (kids.txt sep (kind == 2) true)).length := skip_at (by rw [g2]; cases m <;> decide)
      have hkd : kindAt s (k2 + (itemT nm kind text (kids.txt sep (kind == 2) true)).length) = if m then 12 else 10 := by rw [kindAt_byte g1 g2]; cases m <;> rfl
      rw [hsk, if_neg (by rw [hkd]; cases m <;> simp), expectM_at hsk hkd, Res.bind_ok]
      rw [e4, e3]
      simp only [Frst.run, Frst.txt_nil, Frst.keysOf, List.length_append, List.length_nil]
      cases m <;> simp <;> omega
    | cons key' nm' kind' text' blw' kids' rest' =>
      have hne : rest ≠ .nil := by rw [hrest]; exact fun e => by cases e
      have hsp : rest.txt sep m false = sep ++ rest.txt sep m true := by rw [hrest, Frst.txt_cons, Frst.txt_cons]; simp
      rw [← hrest]
      rw [hsp, List.append_assoc] at h6
      obtain ⟨c1, c2⟩ := h6.app
      have hb : byteAt s (k2 + (itemT nm kind text (kids.txt sep (kind == 2) true)).length) = 44 ∧ k2 + (itemT nm kind text (kids.txt sep (kind == 2) true)).length < s.size := by
        rcases hsep with rfl | rfl
        · obtain ⟨g1, g, _⟩ := c1.head; exact ⟨g, g1⟩
        · obtain ⟨g1, g, _⟩ := c1.head; exact ⟨g, g1⟩
      have hsk : skipBl s (k2 + (itemT nm kind text (kids.txt sep (kind == 2) true)).length) = k2 + (itemT nm kind text (kids.txt sep (kind == 2) true)).length := skip_at (by rw [hb.1]; decide)
      rw [hsk, if_pos (by rw [kindAt_byte hb.2 hb.1]; rfl)]
      have hsk2 : skipBl s (k2 + (itemT nm kind text (kids.txt sep (kind == 2) true)).length + 1) = k2 + (itemT nm kind text (kids.txt sep (kind == 2) true)).length + sep.length := by
        have q := (txt_first hne c2).1
        rcases hsep with rfl | rfl
        · exact skip_at q
        · obtain ⟨_, _, c3⟩ := c1.head
          rw [skip_one c3]; exact skip_at q
      rw [ih2 f lv m keys1 (parts ++ [idOf kind text t]) n { after nm kind text kids t with k := k2 + (itemT nm kind text (kids.txt sep (kind == 2) true)).length + 1 } _ hne hfR hnR hRk (fun hm => by
        obtain ⟨a, b⟩ := hkeys hm
        rw [e4, if_pos hm]
        unfold Frst.keysOf at a b
        exact ⟨fun x hx => a x (List.mem_cons_of_mem _ hx), by simpa using b⟩) hsk2 c2]
      rw [Frst.run_k1, e4, e3, hsp]
      simp only [Frst.keysOf, List.length_append]
      cases m <;> simp <;> omega

end

end Go.Proofs.YtkflkmmbakccoaaGreatDoor.Q
