import PyProof.Rows.All
import Wide.All
import OpenK.AllK
import Wide.FinOn
import PyProof.EqAt
import PyProof.EqKinds
import PyProof.TupleCall
import Open.SpecLaws
import KE.OsGo
import KE.KSortKeySt
import HandS.ForSpec
import HandS.ForMost
import HandS.Evl
import HandS.Conv
import HandS.Rev
import HandS.Sort
import HandS.SortKw
import HandS.Walk
import HandS.ExcValue
import HandS.TryMany
import PyVbndax
import PySem.Challenge.RW_sealedlots_s01_answers
set_option Elab.async false
set_option linter.all false
set_option maxRecDepth 100000
set_option maxHeartbeats 8000000
namespace Mir
open Vbndax
/-! The mirror of the matching, and that it is the specification's. Plain Lean. -/
theorem rev_ind {α : Type} {P : List α → Prop} (h0 : P []) (hs : ∀ l x, P l → P (l ++ [x])) (l : List α) : P l := by
  have h : ∀ l : List α, P l.reverse := by
    intro l
    induction l with
    | nil => exact h0
    | cons a l ih => rw [List.reverse_cons]; exact hs _ _ ih
  have := h l.reverse
  rwa [List.reverse_reverse] at this
def toI (r : List Nat) : List Int := r.map fun (n : Nat) => (n : Int)
theorem toI_len (r : List Nat) : (toI r).length = r.length := List.length_map ..
theorem toI_get (r : List Nat) (j : Nat) : (toI r).getD j 0 = (r.getD j 0 : Int) := by
  unfold toI
  rw [List.getD_eq_getElem?_getD, List.getD_eq_getElem?_getD, List.getElem?_map]
  cases r[j]? <;> rfl
def lots (n m : Nat) : List Nat := (List.range n).filter fun j => m.testBit j
def sumRes (r : List Int) (L : List Nat) : Int := (L.map fun j => r.getD j 0).sum
def unsold (r : List Int) : List Int := r.foldl (fun s x => s ++ s.map fun o => x + o) [0]
theorem unsold_snoc (r : List Int) (x : Int) : unsold (r ++ [x]) = unsold r ++ (unsold r).map fun o => x + o := by
  simp [unsold, List.foldl_append]
theorem unsold_len (r : List Int) : (unsold r).length = 2 ^ r.length := by
  refine rev_ind (P := fun r => (unsold r).length = 2 ^ r.length) rfl (fun l x ih => ?_) r
  rw [unsold_snoc, List.length_append, List.length_map, ih, List.length_append, List.length_singleton, Nat.pow_succ]
  omega
theorem lots_succ (n m : Nat) : lots (n + 1) m = lots n m ++ (if m.testBit n then [n] else []) := by
  unfold lots
  rw [List.range_succ, List.filter_append]
  congr 1
  by_cases h : m.testBit n <;> simp [h]
theorem lots_lt {n m j : Nat} (h : j ∈ lots n m) : j < n := by
  unfold lots at h
  exact List.mem_range.mp (List.mem_filter.mp h).1
theorem lots_bit {n m j : Nat} (h : j ∈ lots n m) : m.testBit j = true := by
  unfold lots at h
  exact (List.mem_filter.mp h).2
theorem lots_congr {n m m' : Nat} (h : ∀ j, j < n → m.testBit j = m'.testBit j) : lots n m = lots n m' := by
  unfold lots
  exact List.filter_congr fun j hj => h j (List.mem_range.mp hj)
theorem sumRes_append (r : List Int) (L M : List Nat) : sumRes r (L ++ M) = sumRes r L + sumRes r M := by
  unfold sumRes
  rw [List.map_append, List.sum_append]
theorem sumRes_snoc (r : List Int) (x : Int) (L : List Nat) (h : ∀ j ∈ L, j < r.length) : sumRes (r ++ [x]) L = sumRes r L := by
  unfold sumRes
  congr 1
  refine List.map_congr_left fun j hj => ?_
  have := h j hj
  rw [List.getD_eq_getElem?_getD, List.getD_eq_getElem?_getD, List.getElem?_append_left this]
theorem unsold_get (r : List Int) : ∀ m, m < 2 ^ r.length → (unsold r).getD m 0 = sumRes r (lots r.length m) := by
  refine rev_ind (P := fun r => ∀ m, m < 2 ^ r.length → (unsold r).getD m 0 = sumRes r (lots r.length m)) ?_ (fun l x ih => ?_) r
  · intro m hm
    have : m = 0 := by simpa using hm
    subst this
    rfl
  · intro m hm
    rw [List.length_append, List.length_singleton] at hm ⊢
    rw [unsold_snoc, lots_succ]
    have hlen := unsold_len l
    by_cases hlt : m < 2 ^ l.length
    · rw [Nat.testBit_lt_two_pow hlt]
      rw [List.getD_eq_getElem?_getD, List.getElem?_append_left (by omega), ← List.getD_eq_getElem?_getD, ih m hlt]
      simp only [Bool.false_eq_true, if_false, List.append_nil]
      exact (sumRes_snoc l x _ fun j hj => lots_lt hj).symm
    · obtain ⟨m', rfl⟩ : ∃ m', m = 2 ^ l.length + m' := ⟨m - 2 ^ l.length, by omega⟩
      have hm' : m' < 2 ^ l.length := by rw [Nat.pow_succ] at hm; omega
      rw [Nat.testBit_two_pow_add_eq, Nat.testBit_lt_two_pow hm']
      have e : lots l.length (2 ^ l.length + m') = lots l.length m' := lots_congr fun j hj => Nat.testBit_two_pow_add_gt hj m'
      rw [e, sumRes_append, sumRes_snoc l x _ fun j hj => lots_lt hj, ← ih m' hm']
      rw [List.getD_eq_getElem?_getD, List.getElem?_append_right (by omega), hlen, Nat.add_sub_cancel_left, List.getElem?_map]
      have hi : m' < (unsold l).length := by omega
      rw [List.getD_eq_getElem?_getD, List.getElem?_eq_getElem hi]
      simp only [Option.map_some, Option.getD_some, Bool.not_false, if_true]
      unfold sumRes
      simp
      omega
/-! ### choices -/
def choices (row : List Int) (m : Nat) (later : List Int) : List (Int × Int) :=
  (lots row.length m).map (fun j => (row.getD j 0 + later.getD (m - 2 ^ j) 0, (j : Int))) ++ [(later.getD m 0, -1)]
def pick {β : Type} (b : Option (Int × β)) (c : Int × β) : Option (Int × β) := match b with
  | none => some c
  | some y => if y.1 < c.1 then some c else some y
def firstMax {β : Type} (l : List (Int × β)) : Option (Int × β) := l.foldl pick none
def bestChoice (row : List Int) (m : Nat) (later : List Int) : Int × Int := (firstMax (choices row m later)).getD (0, -1)
def tables (r : List Int) : List (List Int) → List (List Int)
  | [] => [unsold r]
  | row :: rest => ((List.range (2 ^ r.length)).map fun m => (bestChoice row m ((tables r rest).headD [])).1) :: tables r rest
def allocFrom (r : List Int) : List (List Int) → Nat → List Int
  | [], _ => []
  | row :: rest, m => (bestChoice row m ((tables r rest).headD [])).2 :: allocFrom r rest (if (bestChoice row m ((tables r rest).headD [])).2 = -1 then m else m - 2 ^ (bestChoice row m ((tables r rest).headD [])).2.toNat)
def maxValue (r : List Int) (b : List (List Int)) : Int := ((tables r b).headD []).getD (2 ^ r.length - 1) 0
def alloc (r : List Int) (b : List (List Int)) : List Int := allocFrom r b (2 ^ r.length - 1)
theorem firstMax_map {β γ : Type} (c : Int) (g : β → γ) : ∀ (l : List (Int × β)) (acc : Option (Int × β)),
    (l.map fun x => (c + x.1, g x.2)).foldl pick (acc.map fun x => (c + x.1, g x.2)) = (l.foldl pick acc).map fun x => (c + x.1, g x.2)
  | [], _ => rfl
  | x :: l, acc => by
    rw [List.map_cons, List.foldl_cons, List.foldl_cons, ← firstMax_map c g l]
    congr 1
    cases acc with
    | none => rfl
    | some y =>
      show (if c + y.1 < c + x.1 then _ else _) = Option.map _ (if y.1 < x.1 then some x else some y)
      by_cases h : y.1 < x.1
      · rw [if_pos h, if_pos (by omega)]; rfl
      · rw [if_neg h, if_neg (by omega)]; rfl
theorem firstMax_mem {β : Type} : ∀ (l : List (Int × β)) (acc : Option (Int × β)) (e : Int × β), l.foldl pick acc = some e → e ∈ l ∨ acc = some e
  | [], _, _, h => .inr h
  | x :: l, acc, e, h => by
    rw [List.foldl_cons] at h
    rcases firstMax_mem l _ e h with h1 | h1
    · exact .inl (List.mem_cons_of_mem _ h1)
    · cases acc with
      | none => cases h1; exact .inl (List.mem_cons_self ..)
      | some y =>
        have h2 : (if y.1 < x.1 then some x else some y) = some e := h1
        split at h2
        · cases h2; exact .inl (List.mem_cons_self ..)
        · exact .inr h2
theorem firstMax_some {β : Type} : ∀ (l : List (Int × β)) (acc : Option (Int × β)), (l ≠ [] ∨ acc.isSome = true) → (l.foldl pick acc).isSome = true
  | [], acc, h => by rcases h with h | h; exact absurd rfl h; exact h
  | x :: l, acc, _ => by
    rw [List.foldl_cons]
    refine firstMax_some l _ (.inr ?_)
    cases acc with
    | none => rfl
    | some y =>
      show (if y.1 < x.1 then some x else some y).isSome = true
      split <;> rfl
/-! ### the specification's recursion -/
def specChoices (r : List Nat) (b : Bids) (f i : Nat) (left : List Nat) : List (Int × Allocation) :=
  (left.map fun j => (surplus r b i j + (bestAllocationFrom r b f (i + 1) (left.filter fun k => k != j)).1, some j :: (bestAllocationFrom r b f (i + 1) (left.filter fun k => k != j)).2)) ++ [((bestAllocationFrom r b f (i + 1) left).1, none :: (bestAllocationFrom r b f (i + 1) left).2)]
theorem best_step (r : List Nat) (b : Bids) (f i : Nat) (left : List Nat) : bestAllocationFrom r b (f + 1) i left = (firstMax (specChoices r b f i left)).getD (0, []) := by
  rw [bestAllocationFrom]
  unfold firstMax specChoices
  have hp : ∀ (l : List (Int × Allocation)) (g : Option (Int × Allocation) → Int × Allocation → Option (Int × Allocation)), (∀ m x, g m x = pick m x) → l.foldl g none = l.foldl pick none := fun l g h => by
    have : g = pick := by funext m x; exact h m x
    rw [this]
  exact congrArg (fun o => Option.getD o (0, [])) (hp _ _ fun m x => by cases m <;> rfl)
theorem lots_clear : ∀ n, n < 6 → ∀ m, m < 32 → ∀ j, j < 5 → m.testBit j = true → lots n (m - 2 ^ j) = (lots n m).filter (fun k => k != j) := by decide +kernel
theorem lots_full : ∀ n, n < 6 → lots n (2 ^ n - 1) = List.range n := by decide +kernel
theorem sumRes_clear (r : List Int) : ∀ (L : List Nat) (j : Nat), L.Nodup → j ∈ L → sumRes r L = r.getD j 0 + sumRes r (L.filter fun k => k != j)
  | [], _, _, h => by cases h
  | a :: L, j, hd, h => by
    have hd' := List.nodup_cons.mp hd
    by_cases e : a = j
    · subst e
      have : (a :: L).filter (fun k => k != a) = L := by
        rw [List.filter_cons]
        simp only [bne_self_eq_false, Bool.false_eq_true, if_false]
        refine List.filter_eq_self.mpr fun k hk => ?_
        have : k ≠ a := fun z => hd'.1 (z ▸ hk)
        simpa using this
      rw [this]
      unfold sumRes
      rw [List.map_cons, List.sum_cons]
    · have h' : j ∈ L := by
        rcases List.mem_cons.mp h with h | h
        · exact absurd h.symm e
        · exact h
      have ih := sumRes_clear r L j hd'.2 h'
      have : (a :: L).filter (fun k => k != j) = a :: L.filter (fun k => k != j) := by
        rw [List.filter_cons]
        simp [e]
      rw [this]
      unfold sumRes at ih ⊢
      rw [List.map_cons, List.sum_cons, List.map_cons, List.sum_cons, ih]
      omega
theorem lots_nodup (n m : Nat) : (lots n m).Nodup := (List.Sublist.nodup List.filter_sublist List.nodup_range)
theorem lot_ne (j : Nat) : ((j : Nat) : Int) ≠ -1 := by omega
theorem bidOf_row {b : Bids} {i : Nat} {row : List Int} (h : b[i]? = some row) {j : Nat} (hj : j < row.length) : bidOf b i j = row.getD j 0 := by
  unfold bidOf
  have e : b.getD i [] = row := by rw [List.getD_eq_getElem?_getD, h]; rfl
  rw [e, List.getD_eq_getElem?_getD, List.getD_eq_getElem?_getD, List.getElem?_eq_getElem hj]
  rfl
theorem dp (r : List Nat) (b : Bids) (hn : r.length < 6) (hb : ∀ row ∈ b, row.length = r.length) : ∀ (f i : Nat), i + f = b.length → ∀ m, m < 2 ^ r.length →
    ((tables (toI r) (b.drop i)).headD []).getD m 0 = sumRes (toI r) (lots r.length m) + (bestAllocationFrom r b f i (lots r.length m)).1 ∧
    allocFrom (toI r) (b.drop i) m = (bestAllocationFrom r b f i (lots r.length m)).2.map lotNumber := by
  intro f
  induction f with
  | zero =>
    intro i hi m hm
    have e : b.drop i = [] := List.drop_eq_nil_of_le (by omega)
    rw [e]
    refine ⟨?_, rfl⟩
    show (unsold (toI r)).getD m 0 = _ + 0
    have := unsold_get (toI r) m (by rw [toI_len]; exact hm)
    rw [this, toI_len]
    omega
  | succ f ih =>
    intro i hi m hm
    have hib : i < b.length := by omega
    have hg : b[i]? = some b[i] := List.getElem?_eq_getElem hib
    have hrow : b[i].length = r.length := hb _ (List.getElem_mem hib)
    have e : b.drop i = b[i] :: b.drop (i + 1) := List.drop_eq_getElem_cons hib
    have IH := ih (i + 1) (by omega)
    have h32 : m < 32 := Nat.lt_of_lt_of_le hm (Nat.pow_le_pow_right (by decide) (by omega : r.length ≤ 5))
    -- the program's choices are the specification's, shifted by the reserves
    have hch : choices b[i] m ((tables (toI r) (b.drop (i + 1))).headD []) = (specChoices r b f i (lots r.length m)).map fun x => (sumRes (toI r) (lots r.length m) + x.1, lotNumber (x.2.headD none)) := by
      unfold choices specChoices
      rw [hrow, List.map_append, List.map_map]
      congr 1
      · refine List.map_congr_left fun j hj => ?_
        have hjn := lots_lt hj
        have hjb := lots_bit hj
        have hc := lots_clear r.length hn m h32 j (by omega) hjb
        have h1 := (IH (m - 2 ^ j) (Nat.lt_of_le_of_lt (Nat.sub_le _ _) hm)).1
        have h2 := sumRes_clear (toI r) (lots r.length m) j (lots_nodup _ _) hj
        rw [h1, hc]
        show (_, _) = (_, _)
        congr 1
        · show _ = sumRes (toI r) (lots r.length m) + (surplus r b i j + _)
          unfold surplus
          rw [bidOf_row hg (by omega), h2, toI_get]
          omega
      · have h1 := (IH m hm).1
        rw [h1]
        rfl
    have hfm : firstMax (choices b[i] m ((tables (toI r) (b.drop (i + 1))).headD [])) = (firstMax (specChoices r b f i (lots r.length m))).map fun x => (sumRes (toI r) (lots r.length m) + x.1, lotNumber (x.2.headD none)) := by
      rw [hch]
      exact firstMax_map (sumRes (toI r) (lots r.length m)) (fun a : Allocation => lotNumber (a.headD none)) _ none
    have hs := firstMax_some (specChoices r b f i (lots r.length m)) none (.inl (by unfold specChoices; simp))
    obtain ⟨y, hy⟩ := Option.isSome_iff_exists.mp hs
    have hy' : firstMax (specChoices r b f i (lots r.length m)) = some y := hy
    have hbc : bestChoice b[i] m ((tables (toI r) (b.drop (i + 1))).headD []) = (sumRes (toI r) (lots r.length m) + y.1, lotNumber (y.2.headD none)) := by
      unfold bestChoice
      rw [hfm, hy']
      rfl
    rw [best_step, hy', e]
    refine ⟨?_, ?_⟩
    · show ((List.range (2 ^ (toI r).length)).map fun m => (bestChoice b[i] m ((tables (toI r) (b.drop (i + 1))).headD [])).1).getD m 0 = _
      rw [List.getD_eq_getElem?_getD, List.getElem?_map, List.getElem?_range (by rw [toI_len]; exact hm)]
      show (bestChoice b[i] m ((tables (toI r) (b.drop (i + 1))).headD [])).1 = _
      rw [hbc]
      rfl
    · rw [allocFrom, hbc]
      rcases firstMax_mem _ none y hy with hm1 | hm1
      · unfold specChoices at hm1
        rcases List.mem_append.mp hm1 with h1 | h1
        · obtain ⟨j, hj, rfl⟩ := List.mem_map.mp h1
          have hjn := lots_lt hj
          have hjb := lots_bit hj
          have hc := lots_clear r.length hn m h32 j (by omega) hjb
          have h2 := (IH (m - 2 ^ j) (Nat.lt_of_le_of_lt (Nat.sub_le _ _) hm)).2
          rw [hc] at h2
          show (j : Int) :: allocFrom (toI r) (b.drop (i + 1)) (if (j : Int) = -1 then m else m - 2 ^ (j : Int).toNat) = _
          rw [if_neg (lot_ne j), Int.toNat_natCast, h2]
          rfl
        · rw [List.mem_singleton] at h1
          subst h1
          show (-1 : Int) :: allocFrom (toI r) (b.drop (i + 1)) (if (-1 : Int) = -1 then m else m - 2 ^ (-1 : Int).toNat) = _
          rw [if_pos rfl, (IH m hm).2]
          rfl
      · cases hm1
theorem foldl_add (l : List Int) : ∀ a : Int, l.foldl (fun a b => a + b) a = a + l.sum := by
  induction l with
  | nil => intro a; simp
  | cons x l ih => intro a; rw [List.foldl_cons, ih, List.sum_cons]; omega
theorem range_map_getD {α : Type} (l : List α) (d : α) : (List.range l.length).map (fun j => l.getD j d) = l := by
  apply List.ext_getElem?
  intro j
  rw [List.getElem?_map]
  by_cases h : j < l.length
  · rw [List.getElem?_range h, List.getElem?_eq_getElem h]
    simp [List.getD_eq_getElem?_getD, List.getElem?_eq_getElem h]
  · rw [List.getElem?_eq_none (by simpa using h), List.getElem?_eq_none (by omega)]
    rfl
theorem sumRes_all (r : List Nat) : sumRes (toI r) (List.range r.length) = sumList (r.map fun (n : Nat) => (n : Int)) := by
  unfold sumList
  rw [foldl_add, Int.zero_add]
  unfold sumRes
  have h := range_map_getD (toI r) 0
  rw [toI_len] at h
  rw [h]
  rfl
theorem maxValue_is (r : List Nat) (b : Bids) (hn : r.length < 6) (hb : ∀ row ∈ b, row.length = r.length) : maxValue (toI r) b = totalValue r b := by
  have hp : 0 < 2 ^ r.length := Nat.two_pow_pos _
  have h := (dp r b hn hb b.length 0 (by omega) (2 ^ r.length - 1) (by omega)).1
  rw [List.drop_zero] at h
  unfold maxValue totalValue bestAllocation lotNumbers
  rw [toI_len, h, lots_full _ hn, sumRes_all]
theorem alloc_is (r : List Nat) (b : Bids) (hn : r.length < 6) (hb : ∀ row ∈ b, row.length = r.length) : alloc (toI r) b = (bestAllocation r b).2.map lotNumber := by
  have hp : 0 < 2 ^ r.length := Nat.two_pow_pos _
  have h := (dp r b hn hb b.length 0 (by omega) (2 ^ r.length - 1) (by omega)).2
  rw [List.drop_zero] at h
  unfold alloc bestAllocation lotNumbers
  rw [toI_len, h, lots_full _ hn]
theorem tables_ne (r : List Int) (b : List (List Int)) : tables r b ≠ [] := by cases b <;> simp [tables]
theorem tables_head_len (r : List Int) (b : List (List Int)) : ((tables r b).headD []).length = 2 ^ r.length := by
  cases b with
  | nil => exact unsold_len r
  | cons row rest => simp [tables]
theorem tables_len (r : List Int) (b : List (List Int)) : (tables r b).length = b.length + 1 := by
  induction b with
  | nil => rfl
  | cons row rest ih => simp [tables, ih]
theorem tables_drop (r : List Int) : ∀ (b : List (List Int)) (i : Nat), i ≤ b.length → (tables r b).drop i = tables r (b.drop i)
  | _, 0, _ => rfl
  | [], i + 1, h => by simp at h
  | row :: rest, i + 1, h => by
    show (tables r rest).drop i = tables r (rest.drop i)
    exact tables_drop r rest i (by simpa using h)
theorem tables_all_len (r : List Int) : ∀ (b : List (List Int)) (t : List Int), t ∈ tables r b → t.length = 2 ^ r.length
  | [], t, h => by
    rw [tables, List.mem_singleton] at h
    subst h
    exact unsold_len r
  | row :: rest, t, h => by
    rw [tables] at h
    rcases List.mem_cons.mp h with h | h
    · subst h; simp
    · exact tables_all_len r rest t h
end Mir
namespace Mir
open Vbndax
/-! Prices, demand sets, sets of lots, the clock. Plain Lean. -/
def minPs (r : List Int) (b : List (List Int)) : List Int := (List.range r.length).map fun j => maxValue (r ++ [r.getD j 0]) (b.map fun row => row ++ [row.getD j 0]) - maxValue r b
def maxPs (r : List Int) (b : List (List Int)) : List Int := (List.range r.length).map fun j => maxValue r b - maxValue (r.eraseIdx j) (b.map fun row => row.eraseIdx j)
theorem toI_append (r s : List Nat) : toI (r ++ s) = toI r ++ toI s := List.map_append ..
theorem toI_erase (r : List Nat) (j : Nat) : toI (r.eraseIdx j) = (toI r).eraseIdx j := by
  unfold toI
  rw [List.eraseIdx_eq_take_drop_succ, List.eraseIdx_eq_take_drop_succ, List.map_append, List.map_take, List.map_drop]
theorem minPs_is (r : List Nat) (b : Bids) (hn : r.length < 5) (hb : ∀ row ∈ b, row.length = r.length) : minPs (toI r) b = minimumPrices r b := by
  unfold minPs minimumPrices lotNumbers minimumPrice
  rw [toI_len]
  refine List.map_congr_left fun j hj => ?_
  have hj' := List.mem_range.mp hj
  have e1 : toI r ++ [(toI r).getD j 0] = toI (r ++ [r.getD j 0]) := by rw [toI_append, toI_get]; rfl
  have e2 : (b.map fun row => row ++ [row.getD j 0]) = b.map fun l => l ++ [l.getD j (-1)] := List.map_congr_left fun row h => by
    have := hb row h
    rw [List.getD_eq_getElem?_getD, List.getD_eq_getElem?_getD, List.getElem?_eq_getElem (by omega)]
    rfl
  rw [e1, e2, maxValue_is r b (by omega) hb, maxValue_is _ _ (by rw [List.length_append, List.length_singleton]; omega)]
  intro row h
  obtain ⟨l, hl, rfl⟩ := List.mem_map.mp h
  rw [List.length_append, List.length_append, hb l hl]
  rfl
theorem maxPs_is (r : List Nat) (b : Bids) (hn : r.length < 6) (hb : ∀ row ∈ b, row.length = r.length) : maxPs (toI r) b = maximumPrices r b := by
  unfold maxPs maximumPrices lotNumbers maximumPrice totalWithout
  rw [toI_len]
  refine List.map_congr_left fun j hj => ?_
  have hj' := List.mem_range.mp hj
  rw [← toI_erase, maxValue_is r b hn hb, maxValue_is _ _ (by rw [List.length_eraseIdx_of_lt hj']; omega)]
  intro row h
  obtain ⟨l, hl, rfl⟩ := List.mem_map.mp h
  have := hb l hl
  rw [List.length_eraseIdx_of_lt hj', List.length_eraseIdx_of_lt (by omega)]
  omega
theorem minPs_len (r : List Int) (b : List (List Int)) : (minPs r b).length = r.length := by simp [minPs]
theorem maxPs_len (r : List Int) (b : List (List Int)) : (maxPs r b).length = r.length := by simp [maxPs]
/-! ### demand sets -/
def demL (row p : List Int) : List Int := (demandSet [row] p row.length 0).map lotNumber
theorem util_row {b : Bids} {i : Nat} {row : List Int} (h : b[i]? = some row) (p : List Int) : utility b p i = utility [row] p 0 := by
  funext j
  unfold utility bidOf
  have e : b.getD i [] = row := by rw [List.getD_eq_getElem?_getD, h]; rfl
  rw [e]
  rfl
theorem demandSet_row {b : Bids} {i : Nat} {row : List Int} (h : b[i]? = some row) (p : List Int) (n : Nat) : demandSet b p n i = demandSet [row] p n 0 := by
  unfold demandSet maxUtility
  rw [util_row h]
theorem fold_ge {u : Nat → Int} : ∀ (l : List Nat) (a : Int), a ≤ l.foldl (fun m j => max m (u j)) a ∧ ∀ j ∈ l, u j ≤ l.foldl (fun m j => max m (u j)) a
  | [], a => ⟨Int.le_refl _, fun j h => by cases h⟩
  | x :: l, a => by
    have ih := fold_ge (u := u) l (max a (u x))
    rw [List.foldl_cons]
    refine ⟨by omega, fun j h => ?_⟩
    rcases List.mem_cons.mp h with rfl | h
    · omega
    · exact ih.2 j h
theorem fold_mem {u : Nat → Int} : ∀ (l : List Nat) (a : Int), l.foldl (fun m j => max m (u j)) a = a ∨ ∃ j ∈ l, l.foldl (fun m j => max m (u j)) a = u j
  | [], a => .inl rfl
  | x :: l, a => by
    rw [List.foldl_cons]
    rcases fold_mem (u := u) l (max a (u x)) with h | ⟨j, hj, h⟩
    · by_cases hx : a < u x
      · exact .inr ⟨x, List.mem_cons_self .., by rw [h]; omega⟩
      · exact .inl (by rw [h]; omega)
    · exact .inr ⟨j, List.mem_cons_of_mem _ hj, h⟩
theorem util_get {row p : List Int} {j : Nat} (hj : j < row.length) : utility [row] p 0 j = row.getD j 0 - p.getD j 0 := by
  unfold utility
  rw [bidOf_row (row := row) rfl hj]
theorem demL_eq (row p : List Int) (m : Int) (h1 : ∃ j, j < row.length ∧ m = row.getD j 0 - p.getD j 0) (h2 : ∀ j, j < row.length → row.getD j 0 - p.getD j 0 ≤ m) :
    demL row p = if m < 0 then [-1] else (if m = 0 then [-1] else []) ++ ((List.range row.length).filter fun j => decide (row.getD j 0 - p.getD j 0 = m)).map fun (j : Nat) => (j : Int) := by
  have g := fold_ge (u := utility [row] p 0) (List.range row.length) 0
  have f := fold_mem (u := utility [row] p 0) (List.range row.length) 0
  have hmu : maxUtility [row] p row.length 0 = max 0 m := by
    show (List.range row.length).foldl (fun m j => max m (utility [row] p 0 j)) 0 = max 0 m
    obtain ⟨j0, hj0, e0⟩ := h1
    have g0 := g.2 j0 (List.mem_range.mpr hj0)
    rw [util_get hj0] at g0
    rcases f with f | ⟨j, hj, f⟩
    · rw [f] at g0 ⊢; omega
    · have hj' := List.mem_range.mp hj
      have := h2 j hj'
      rw [util_get hj'] at f
      have g1 := g.1
      rw [f] at g0 g1 ⊢; omega
  unfold demL demandSet
  rw [hmu]
  have hfil : ∀ c : Int, ((List.range row.length).filter fun j => utility [row] p 0 j == c) = (List.range row.length).filter fun j => decide (row.getD j 0 - p.getD j 0 = c) := fun c => List.filter_congr fun j hj => by
    rw [util_get (List.mem_range.mp hj)]
    rfl
  rw [hfil]
  by_cases hneg : m < 0
  · rw [if_pos hneg, show max 0 m = 0 by omega, if_pos rfl]
    have : (List.range row.length).filter (fun j => decide (row.getD j 0 - p.getD j 0 = 0)) = [] := List.filter_eq_nil_iff.mpr fun j hj => by
      have := h2 j (List.mem_range.mp hj)
      simp only [decide_eq_true_eq]
      omega
    rw [this]
    rfl
  · rw [if_neg hneg, show max 0 m = m by omega, List.map_append, List.map_map]
    by_cases hz : m = 0
    · rw [if_pos hz, if_pos hz]; rfl
    · rw [if_neg hz, if_neg hz]; rfl
theorem demandSet_ne (row p : List Int) (n : Nat) : demandSet [row] p n 0 ≠ [] := by
  unfold demandSet
  by_cases h : maxUtility [row] p n 0 = 0
  · rw [if_pos h]; simp
  · rw [if_neg h, List.nil_append]
    rcases fold_mem (u := utility [row] p 0) (List.range n) 0 with f | ⟨j, hj, f⟩
    · exact absurd f h
    · intro e
      have h1 := List.map_eq_nil_iff.mp e
      have h2 : j ∈ (List.range n).filter (fun j => utility [row] p 0 j == maxUtility [row] p n 0) := List.mem_filter.mpr ⟨hj, by
        have : maxUtility [row] p n 0 = utility [row] p 0 j := f
        rw [this]; simp⟩
      rw [h1] at h2
      cases h2
theorem demL_len (row p : List Int) : (demL row p).length ≤ row.length + 1 := by
  unfold demL demandSet
  rw [List.length_map, List.length_append, List.length_map]
  have h := List.length_filter_le (fun j => utility [row] p 0 j == maxUtility [row] p row.length 0) (List.range row.length)
  rw [List.length_range] at h
  have h2 : (if maxUtility [row] p row.length 0 = 0 then [none] else [] : List (Option Nat)).length ≤ 1 := by split <;> simp
  omega
/-! ### checking prices -/
def firstWrong (r al p : List Int) : Option Nat := (List.range r.length).find? fun j => decide (p.getD j 0 < r.getD j 0) || (!decide (p.getD j 0 = r.getD j 0) && !al.contains (j : Int))
def firstDisc (b : List (List Int)) (al p : List Int) : Option Nat := (List.range b.length).find? fun i => !(demL (b.getD i []) p).contains (al.getD i 0)
theorem find_congr {α : Type} {f g : α → Bool} : ∀ {l : List α}, (∀ x ∈ l, f x = g x) → l.find? f = l.find? g
  | [], _ => rfl
  | x :: l, h => by
    rw [List.find?_cons, List.find?_cons, h x (List.mem_cons_self ..), find_congr fun y hy => h y (List.mem_cons_of_mem _ hy)]
theorem lotNumber_inj {x y : Option Nat} (h : lotNumber x = lotNumber y) : x = y := by
  cases x with
  | none => cases y with
    | none => rfl
    | some k => exact absurd h (by show ¬ (-1 : Int) = (k : Int); omega)
  | some j => cases y with
    | none => exact absurd h (by show ¬ (j : Int) = -1; omega)
    | some k => exact congrArg some (by have : (j : Int) = (k : Int) := h; omega)
theorem contains_lot (u : List (Option Nat)) (x : Option Nat) : (u.map lotNumber).contains (lotNumber x) = u.contains x := by
  rw [Bool.eq_iff_iff, List.contains_iff_mem, List.contains_iff_mem]
  constructor
  · intro h
    obtain ⟨y, hy, e⟩ := List.mem_map.mp h
    exact lotNumber_inj e ▸ hy
  · intro h
    exact List.mem_map.mpr ⟨x, h, rfl⟩
theorem bestAlloc_len (r : List Nat) (b : Bids) : ∀ (f i : Nat) (left : List Nat), (bestAllocationFrom r b f i left).2.length = f
  | 0, _, _ => rfl
  | f + 1, i, left => by
    rw [best_step]
    have hs := firstMax_some (specChoices r b f i left) none (.inl (by unfold specChoices; simp))
    obtain ⟨y, hy⟩ := Option.isSome_iff_exists.mp hs
    have hy' : firstMax (specChoices r b f i left) = some y := hy
    rw [hy']
    show y.2.length = f + 1
    rcases firstMax_mem _ none y hy with h | h
    · unfold specChoices at h
      rcases List.mem_append.mp h with h | h
      · obtain ⟨j, _, rfl⟩ := List.mem_map.mp h
        show (bestAllocationFrom r b f (i + 1) _).2.length + 1 = f + 1
        rw [bestAlloc_len]
      · rw [List.mem_singleton] at h
        subst h
        show (bestAllocationFrom r b f (i + 1) _).2.length + 1 = f + 1
        rw [bestAlloc_len]
    · cases h
theorem best_len (r : List Nat) (b : Bids) : (bestAllocation r b).2.length = b.length := bestAlloc_len ..
theorem winner_none (u : Allocation) (j : Nat) : (winnerOf u j).isNone = !u.contains (some j) := by
  unfold winnerOf
  rw [Bool.eq_iff_iff, Option.isNone_iff_eq_none, List.findIdx?_eq_none_iff, Bool.not_eq_true', ← Bool.not_eq_true, List.contains_iff_mem]
  constructor
  · intro h hm
    have := h _ hm
    simp at this
  · intro h x hx
    have : x ≠ some j := fun e => h (e ▸ hx)
    simpa using this
theorem violation_is (r : List Nat) (b : Bids) (p : List Int) (hb : ∀ row ∈ b, row.length = r.length) : priceViolation r b (bestAllocation r b).2 p =
    match firstWrong (toI r) ((bestAllocation r b).2.map lotNumber) p with
    | some j => some (1, j)
    | none => match firstDisc b ((bestAllocation r b).2.map lotNumber) p with
      | some i => some (2, i)
      | none => none := by
  unfold priceViolation firstWrong firstDisc lotNumbers
  rw [toI_len]
  have e1 : (List.range r.length).find? (fun j => decide (p.getD j 0 < (r.getD j 0 : Int)) || ((winnerOf (bestAllocation r b).2 j).isNone && p.getD j 0 != (r.getD j 0 : Int))) =
      (List.range r.length).find? fun j => decide (p.getD j 0 < (toI r).getD j 0) || (!decide (p.getD j 0 = (toI r).getD j 0) && !((bestAllocation r b).2.map lotNumber).contains (j : Int)) := find_congr fun j _ => by
    rw [toI_get, winner_none, show ((j : Nat) : Int) = lotNumber (some j) from rfl, contains_lot, Bool.and_comm]
    rfl
  have e2 : (List.range b.length).find? (fun i => !(demandSet b p r.length i).contains (lotOfBidder (bestAllocation r b).2 i)) =
      (List.range b.length).find? fun i => !(demL (b.getD i []) p).contains (((bestAllocation r b).2.map lotNumber).getD i 0) := find_congr fun i hi => by
    have hi' := List.mem_range.mp hi
    have hg : b[i]? = some b[i] := List.getElem?_eq_getElem hi'
    have hr := hb _ (List.getElem_mem hi')
    have e3 : b.getD i [] = b[i] := by rw [List.getD_eq_getElem?_getD, hg]; rfl
    have hl : i < (bestAllocation r b).2.length := by rw [best_len]; exact hi'
    have e4 : ((bestAllocation r b).2.map lotNumber).getD i 0 = lotNumber (lotOfBidder (bestAllocation r b).2 i) := by
      unfold lotOfBidder
      rw [List.getD_eq_getElem?_getD, List.getElem?_map, List.getD_eq_getElem?_getD, List.getElem?_eq_getElem hl]
      rfl
    rw [demandSet_row hg, e3, e4]
    unfold demL
    rw [contains_lot, hr]
  rw [e1, e2]
  generalize (List.range r.length).find? _ = a
  generalize (List.range b.length).find? _ = c
  cases a <;> cases c <;> rfl
theorem flatMap_congr' {α β : Type} {f g : α → List β} : ∀ {l : List α}, (∀ x ∈ l, f x = g x) → l.flatMap f = l.flatMap g
  | [], _ => rfl
  | x :: l, h => by
    rw [List.flatMap_cons, List.flatMap_cons, h x (List.mem_cons_self ..), flatMap_congr' fun y hy => h y (List.mem_cons_of_mem _ hy)]
/-! ### sets of lots -/
def pc : Nat → Nat → Nat
  | 0, _ => 0
  | f + 1, m => m % 2 + pc f (m / 2)
def setsOrd (n : Nat) : List Nat := (setsBySize n).tail
theorem setsBySize_cons : ∀ n, n < 5 → setsBySize n = 0 :: setsOrd n := by decide +kernel
theorem setsOrd_pos : ∀ n, n < 5 → ∀ s ∈ setsOrd n, 0 < s ∧ s < 2 ^ n := by decide +kernel
theorem lotCount_pc : ∀ n, n < 5 → ∀ s, s < 2 ^ n → lotCount n s = pc 4 s := by decide +kernel
theorem setsOrd_sorted : ∀ n, n < 5 → setsOrd n = (List.range 6).flatMap fun k => (List.range' 1 (2 ^ n - 1)).filter fun s => pc 4 s == k := by decide +kernel
/-- a list in order by a key is the rows of its keys one behind another -/
theorem rows_of {α : Type} (g : α → Nat) : ∀ (l : List α), l.Pairwise (fun x y => g x ≤ g y) → ∀ (K : Nat) (c : Nat), (∀ x ∈ l, c ≤ g x ∧ g x < c + K) → l = (List.range' c K).flatMap fun k => l.filter fun x => g x == k := by
  intro l hs K
  induction K generalizing l with
  | zero =>
    intro c h
    cases l with
    | nil => rfl
    | cons x l => have := h x (List.mem_cons_self ..); omega
  | succ K ih =>
    intro c h
    rw [List.range'_succ, List.flatMap_cons]
    -- split into those with key c and the rest
    have split : ∀ (l : List α), l.Pairwise (fun x y => g x ≤ g y) → (∀ x ∈ l, c ≤ g x) → l = (l.filter fun x => g x == c) ++ (l.filter fun x => decide (c + 1 ≤ g x)) := by
      intro l
      induction l with
      | nil => intros; rfl
      | cons x l ihl =>
        intro hp hge
        have hp' := List.pairwise_cons.mp hp
        by_cases e : g x = c
        · rw [List.filter_cons, List.filter_cons, if_pos (by simpa using e), if_neg (by simp; omega), List.cons_append]
          exact congrArg _ (ihl hp'.2 fun y hy => hge y (List.mem_cons_of_mem _ hy))
        · have hx := hge x (List.mem_cons_self ..)
          have h0 : l.filter (fun x => g x == c) = [] := List.filter_eq_nil_iff.mpr fun y hy => by
            have := hp'.1 y hy
            simp; omega
          have h1 : l.filter (fun x => decide (c + 1 ≤ g x)) = l := List.filter_eq_self.mpr fun y hy => by
            have := hp'.1 y hy
            simp; omega
          rw [List.filter_cons, List.filter_cons, if_neg (by simpa using e), if_pos (by simp; omega), h0, h1]
          rfl
    have hsp := split l hs fun x hx => (h x hx).1
    have h2 := ih (l.filter fun x => decide (c + 1 ≤ g x)) (List.Pairwise.sublist List.filter_sublist hs) (c + 1) (fun x hx => by
      have hx' := List.mem_filter.mp hx
      have := h x hx'.1
      have := of_decide_eq_true hx'.2
      omega)
    have h3 : ((List.range' (c + 1) K).flatMap fun k => (l.filter fun x => decide (c + 1 ≤ g x)).filter fun x => g x == k) = (List.range' (c + 1) K).flatMap fun k => l.filter fun x => g x == k := by
      refine flatMap_congr' fun k hk => ?_
      have hk' := (List.mem_range'_1.mp hk).1
      rw [List.filter_filter]
      refine List.filter_congr fun x _ => ?_
      by_cases e : g x = k
      · simp [e]; omega
      · simp [e]
    rw [h3] at h2
    rw [← h2]
    exact hsp
/-! ### wanted sets -/
def mask (D : List Int) : Nat := (D.map fun j => 2 ^ j.toNat).sum
def wantedOf (D : List Int) : Option Nat := if D.contains (-1) then none else some (mask D)
def wanted (b : List (List Int)) (p : List Int) : List Nat := (b.map fun row => demL row p).filterMap wantedOf
def odTest (w : List Nat) (s : Nat) : Bool := decide (pc 4 s < (w.filter fun d => d ||| s == s).length)
theorem filter_lots : ∀ (n : Nat) (f : Nat → Bool), ∃ d, d < 2 ^ n ∧ (List.range n).filter f = lots n d
  | 0, f => ⟨0, by decide, rfl⟩
  | n + 1, f => by
    obtain ⟨d, hd, e⟩ := filter_lots n f
    by_cases h : f n = true
    · refine ⟨2 ^ n + d, by rw [Nat.pow_succ]; omega, ?_⟩
      rw [lots_succ, List.range_succ, List.filter_append, e, Nat.testBit_two_pow_add_eq, Nat.testBit_lt_two_pow hd]
      have e2 : lots n (2 ^ n + d) = lots n d := lots_congr fun j hj => Nat.testBit_two_pow_add_gt hj d
      rw [e2]
      simp [h]
    · refine ⟨d, by rw [Nat.pow_succ]; omega, ?_⟩
      rw [lots_succ, List.range_succ, List.filter_append, e, Nat.testBit_lt_two_pow hd]
      simp [h]
theorem mask_lots : ∀ n, n < 5 → ∀ d, d < 2 ^ n → mask ((lots n d).map fun (j : Nat) => (j : Int)) = d := by decide +kernel
theorem within_lots : ∀ n, n < 5 → ∀ d, d < 2 ^ n → ∀ s, s < 2 ^ n → (d ||| s == s) = (lots n d).all fun j => containsLot s j := by decide +kernel
def inSet (s : Nat) (x : Option Nat) : Bool := match x with
  | none => false
  | some j => containsLot s j
theorem row_wanted (row p : List Int) (n s : Nat) (hn : n < 5) (hr : row.length = n) (hs : s < 2 ^ n) : (demandSet [row] p n 0).all (inSet s) = match wantedOf (demL row p) with
    | none => false
    | some d => d ||| s == s := by
  unfold demL
  rw [hr]
  unfold demandSet
  by_cases h : maxUtility [row] p n 0 = 0
  · rw [if_pos h]
    rfl
  · rw [if_neg h, List.nil_append, List.map_map]
    obtain ⟨d, hd, e⟩ := filter_lots n fun j => utility [row] p 0 j == maxUtility [row] p n 0
    rw [e]
    have hc : ((lots n d).map (lotNumber ∘ some)).contains (-1) = false := by
      rw [← Bool.not_eq_true, List.contains_iff_mem]
      intro hm
      obtain ⟨j, _, hj⟩ := List.mem_map.mp hm
      exact lot_ne j hj
    unfold wantedOf
    rw [hc]
    show ((lots n d).map some).all (inSet s) = (mask ((lots n d).map fun (j : Nat) => (j : Int)) ||| s == s)
    rw [mask_lots n hn d hd, within_lots n hn d hd s hs, List.all_map]
    rfl
theorem wanted_count {α β : Type} (f : α → Option β) (q : α → Bool) (h : β → Bool) : ∀ (l : List α), (∀ x ∈ l, q x = match f x with
    | none => false
    | some d => h d) → ((l.filterMap f).filter h).length = (l.filter q).length
  | [], _ => rfl
  | x :: l, hq => by
    have ih := wanted_count f q h l fun y hy => hq y (List.mem_cons_of_mem _ hy)
    have hx := hq x (List.mem_cons_self ..)
    rw [List.filterMap_cons, List.filter_cons, hx]
    cases f x with
    | none => simpa using ih
    | some d =>
      show ((d :: l.filterMap f).filter h).length = (if h d = true then x :: l.filter q else l.filter q).length
      rw [List.filter_cons]
      by_cases hd : h d = true
      · rw [if_pos hd, if_pos hd, List.length_cons, List.length_cons, ih]
      · rw [if_neg hd, if_neg hd, ih]
theorem range_count {α : Type} (l : List α) (d : α) (q : α → Bool) : ((List.range l.length).filter fun i => q (l.getD i d)).length = (l.filter q).length := by
  have h := range_map_getD l d
  have e : l.filter q = ((List.range l.length).filter fun i => q (l.getD i d)).map fun i => l.getD i d := by
    have h2 := List.filter_map (f := fun i => l.getD i d) (p := q) (l := List.range l.length)
    rw [h] at h2
    exact h2
  rw [e, List.length_map]
theorem constrained_is (b : Bids) (p : List Int) (n s : Nat) (hn : n < 5) (hb : ∀ row ∈ b, row.length = n) (hs : s < 2 ^ n) : ((wanted b p).filter fun d => d ||| s == s).length = constrainedBidders b p n s := by
  have e : constrainedBidders b p n s = (b.filter fun row => (demandSet [row] p n 0).all (inSet s)).length := by
    rw [← range_count b [] fun row => (demandSet [row] p n 0).all (inSet s)]
    unfold constrainedBidders
    congr 1
  rw [e]
  unfold wanted
  rw [List.filterMap_map]
  exact wanted_count (wantedOf ∘ fun row => demL row p) _ _ b fun row hrow => by
    rw [row_wanted row p n s hn (hb row hrow) hs]
    have e9 : (wantedOf ∘ fun row => demL row p) row = wantedOf (demL row p) := rfl
    rw [e9]
    cases wantedOf (demL row p) <;> rfl
theorem odTest_is (b : Bids) (p : List Int) (n s : Nat) (hn : n < 5) (hb : ∀ row ∈ b, row.length = n) (hs : s < 2 ^ n) : odTest (wanted b p) s = isOverdemanded b p n s := by
  unfold odTest isOverdemanded
  rw [constrained_is b p n s hn hb hs, lotCount_pc n hn s hs]
theorem od_some {b : Bids} {p : List Int} {n s : Nat} (hb : ∀ row ∈ b, row.length = n) (h : isOverdemanded b p n s = true) : ∃ row ∈ b, ∃ j, j < n ∧ containsLot s j = true ∧ p.getD j 0 < row.getD j 0 := by
  have h1 := of_decide_eq_true h
  have h2 : 0 < constrainedBidders b p n s := by omega
  unfold constrainedBidders at h2
  obtain ⟨i, hi⟩ := List.exists_mem_of_length_pos h2
  have hi1 := List.mem_filter.mp hi
  have hi' := List.mem_range.mp hi1.1
  have hg : b[i]? = some b[i] := List.getElem?_eq_getElem hi'
  have hr := hb _ (List.getElem_mem hi')
  have hall := List.all_eq_true.mp hi1.2
  rw [demandSet_row hg] at hall
  refine ⟨b[i], List.getElem_mem hi', ?_⟩
  have hmu : maxUtility [b[i]] p n 0 ≠ 0 := fun e => by
    have := hall none (by unfold demandSet; rw [if_pos e]; exact List.mem_append_left _ (List.mem_singleton.mpr rfl))
    cases this
  have hge := (fold_ge (u := utility [b[i]] p 0) (List.range n) 0).1
  rcases fold_mem (u := utility [b[i]] p 0) (List.range n) 0 with f | ⟨j, hj, f⟩
  · exact absurd f hmu
  · have hj' := List.mem_range.mp hj
    have hmj : maxUtility [b[i]] p n 0 = utility [b[i]] p 0 j := f
    have hin : some j ∈ demandSet [b[i]] p n 0 := by
      unfold demandSet
      refine List.mem_append_right _ (List.mem_map.mpr ⟨j, List.mem_filter.mpr ⟨hj, ?_⟩, rfl⟩)
      rw [hmj]; simp
    refine ⟨j, hj', hall _ hin, ?_⟩
    rw [util_get (by omega)] at f
    have hpos : (0 : Int) ≤ maxUtility [b[i]] p n 0 := hge
    have hne := hmu
    have : maxUtility [b[i]] p n 0 = b[i].getD j 0 - p.getD j 0 := f
    omega
theorem firstOd_is (b : Bids) (p : List Int) (n : Nat) (hn : n < 5) (hb : ∀ row ∈ b, row.length = n) : firstOverdemanded b p n = (setsOrd n).find? (odTest (wanted b p)) := by
  unfold firstOverdemanded
  rw [setsBySize_cons n hn, List.find?_cons]
  have h0 : isOverdemanded b p n 0 = false := by
    rw [← Bool.not_eq_true]
    intro h
    obtain ⟨row, _, j, _, hc, _⟩ := od_some hb h
    have : containsLot 0 j = false := by unfold containsLot; simp
    rw [this] at hc
    cases hc
  rw [h0]
  show (setsOrd n).find? _ = _
  exact find_congr fun s hs => (odTest_is b p n s hn hb (setsOrd_pos n hn s hs).2).symm
theorem firstOd_pos {b : Bids} {p : List Int} {n s : Nat} (hn : n < 5) (hb : ∀ row ∈ b, row.length = n) (h : firstOverdemanded b p n = some s) : 0 < s ∧ s < 2 ^ n ∧ isOverdemanded b p n s = true := by
  have h' := h
  rw [firstOd_is b p n hn hb] at h'
  have hm := List.mem_of_find?_eq_some h'
  refine ⟨(setsOrd_pos n hn s hm).1, (setsOrd_pos n hn s hm).2, ?_⟩
  unfold firstOverdemanded at h
  exact List.find?_some h
/-! ### the clock -/
theorem raise_len (p : List Int) (s : Nat) : (raisePrices p s).length = p.length := by simp [raisePrices]
theorem raise_get (p : List Int) (s j : Nat) (hj : j < p.length) : (raisePrices p s).getD j 0 = p.getD j 0 + (if containsLot s j = true then 1 else 0) := by
  unfold raisePrices
  rw [List.getD_eq_getElem?_getD, List.getElem?_map, List.getElem?_zipIdx, List.getElem?_eq_getElem hj, List.getD_eq_getElem?_getD, List.getElem?_eq_getElem hj]
  show (if containsLot s (0 + j) = true then p[j] + 1 else p[j]) = p[j] + _
  rw [Nat.zero_add]
  split <;> omega
theorem raise_is (p : List Int) (s : Nat) : raisePrices p s = (List.range p.length).map fun j => p.getD j 0 + (if containsLot s j = true then 1 else 0) := by
  apply List.ext_getElem?
  intro j
  by_cases hj : j < p.length
  · have h1 := raise_get p s j hj
    rw [List.getD_eq_getElem?_getD, List.getElem?_eq_getElem (by rw [raise_len]; exact hj)] at h1
    rw [List.getElem?_map, List.getElem?_range hj, List.getElem?_eq_getElem (by rw [raise_len]; exact hj)]
    exact congrArg some h1
  · rw [List.getElem?_eq_none (by rw [raise_len]; omega), List.getElem?_eq_none (by simp; omega)]
def meas (n : Nat) (p : List Int) : Nat := ((List.range n).map fun j => (60 - p.getD j 0).toNat).sum
theorem sum_le {f g : Nat → Nat} : ∀ (l : List Nat), (∀ j ∈ l, f j ≤ g j) → (l.map f).sum ≤ (l.map g).sum
  | [], _ => Nat.le_refl _
  | x :: l, h => by
    rw [List.map_cons, List.sum_cons, List.map_cons, List.sum_cons]
    have := h x (List.mem_cons_self ..)
    have := sum_le l fun j hj => h j (List.mem_cons_of_mem _ hj)
    omega
theorem sum_lt {f g : Nat → Nat} : ∀ (l : List Nat), (∀ j ∈ l, f j ≤ g j) → (∃ j ∈ l, f j < g j) → (l.map f).sum < (l.map g).sum
  | [], _, ⟨_, h, _⟩ => by cases h
  | x :: l, h, ⟨j, hj, e⟩ => by
    rw [List.map_cons, List.sum_cons, List.map_cons, List.sum_cons]
    have h1 := h x (List.mem_cons_self ..)
    rcases List.mem_cons.mp hj with rfl | hj
    · have := sum_le l fun j hj => h j (List.mem_cons_of_mem _ hj)
      omega
    · have := sum_lt l (fun j hj => h j (List.mem_cons_of_mem _ hj)) ⟨j, hj, e⟩
      omega
theorem meas_lt {b : Bids} {p : List Int} {n s : Nat} (hn : n < 5) (hb : ∀ row ∈ b, row.length = n) (h60 : ∀ row ∈ b, ∀ x ∈ row, x ≤ 60) (hp : p.length = n) (h : firstOverdemanded b p n = some s) : meas n (raisePrices p s) < meas n p := by
  obtain ⟨_, _, ho⟩ := firstOd_pos hn hb h
  obtain ⟨row, hrow, j, hj, hc, hlt⟩ := od_some hb ho
  unfold meas
  refine sum_lt _ (fun k hk => ?_) ⟨j, List.mem_range.mpr hj, ?_⟩
  · rw [raise_get p s k (by rw [hp]; exact List.mem_range.mp hk)]
    split <;> omega
  · rw [raise_get p s j (by omega), if_pos hc]
    have hjr : j < row.length := by rw [hb row hrow]; exact hj
    have : row.getD j 0 ≤ 60 := by
      rw [List.getD_eq_getElem?_getD, List.getElem?_eq_getElem hjr]
      exact h60 row hrow _ (List.getElem_mem hjr)
    omega
theorem meas_start (r : List Nat) : meas r.length (toI r) ≤ r.length * 60 := by
  unfold meas
  have : ∀ l : List Nat, (l.map fun j => (60 - (toI r).getD j 0).toNat).sum ≤ l.length * 60 := by
    intro l
    induction l with
    | nil => exact Nat.le_refl _
    | cons x l ih =>
      rw [List.map_cons, List.sum_cons, List.length_cons, toI_get]
      omega
  have h := this (List.range r.length)
  rwa [List.length_range] at h
theorem run_none {b : Bids} {n f : Nat} {p : List Int} (h : firstOverdemanded b p n = none) : runClockFrom b n (f + 1) p = ([], p) := by
  rw [runClockFrom, h]
theorem run_some {b : Bids} {n f s : Nat} {p : List Int} (h : firstOverdemanded b p n = some s) : runClockFrom b n (f + 1) p = (s :: (runClockFrom b n f (raisePrices p s)).1, (runClockFrom b n f (raisePrices p s)).2) := by
  rw [runClockFrom, h]
theorem run_len (b : Bids) (n : Nat) : ∀ (f : Nat) (p : List Int), (runClockFrom b n f p).1.length ≤ f ∧ (runClockFrom b n f p).2.length = p.length
  | 0, p => ⟨Nat.le_refl _, rfl⟩
  | f + 1, p => by
    cases h : firstOverdemanded b p n with
    | none => rw [run_none h]; exact ⟨Nat.zero_le _, rfl⟩
    | some s =>
      rw [run_some h]
      have ih := run_len b n f (raisePrices p s)
      rw [raise_len] at ih
      exact ⟨by rw [List.length_cons]; omega, ih.2⟩
end Mir
namespace Mir
open Vbndax
/-! Calls as records, refusals, the machine. Plain Lean. -/
abbrev Rec := Int × Option Int × Option (List Int)
def unRec (c : Rec) : List (List Int) := (c.1 :: c.2.1.toList) :: c.2.2.toList
def WB : List Int := [1, 8, 11, 12, 13, 14]
def WR : List Int := [0, 1, 7, 8, 9, 11, 12, 13]
def After : List Int := [3, 4, 5, 6, 7, 8, 9, 10, 11, 12, 13, 14, 16]
def Before : List Int := [1, 2]
def Step (p : Int) (r : List Int) (i : Option Int) (row : Option (List Int)) (t : List Int) : Prop :=
  ∃ r1, ((WB.contains p = true ∧ ∃ x, r = x :: r1 ∧ i = some x) ∨ (WB.contains p = false ∧ r1 = r ∧ i = none)) ∧
    ((WR.contains p = true ∧ ∃ (m : Nat) (r2 : List Int), r1 = (m : Int) :: r2 ∧ m ≤ r2.length ∧ row = some (r2.take m) ∧ t = r2.drop m) ∨ (WR.contains p = false ∧ t = r1 ∧ row = none))
theorem shape_is {p : Int} {n k : Nat} (h : PyVbndax.shape p = some (n, k)) : (WB.contains p = true ∧ n = 1 ∨ WB.contains p = false ∧ n = 0) ∧ (WR.contains p = true ∧ k = 1 ∨ WR.contains p = false ∧ k = 0) := by
  unfold PyVbndax.shape at h
  by_cases h0 : p = 0
  · rw [if_pos h0] at h; cases h; subst h0; decide
  rw [if_neg h0] at h
  by_cases h1 : p = 1
  · rw [if_pos h1] at h; cases h; subst h1; decide
  rw [if_neg h1] at h
  by_cases h2 : p = 2
  · rw [if_pos h2] at h; cases h; subst h2; decide
  rw [if_neg h2] at h
  by_cases h3 : p = 3
  · rw [if_pos h3] at h; cases h; subst h3; decide
  rw [if_neg h3] at h
  by_cases h4 : p = 4
  · rw [if_pos h4] at h; cases h; subst h4; decide
  rw [if_neg h4] at h
  by_cases h5 : p = 5
  · rw [if_pos h5] at h; cases h; subst h5; decide
  rw [if_neg h5] at h
  by_cases h6 : p = 6
  · rw [if_pos h6] at h; cases h; subst h6; decide
  rw [if_neg h6] at h
  by_cases h7 : p = 7
  · rw [if_pos h7] at h; cases h; subst h7; decide
  rw [if_neg h7] at h
  by_cases h8 : p = 8
  · rw [if_pos h8] at h; cases h; subst h8; decide
  rw [if_neg h8] at h
  by_cases h9 : p = 9
  · rw [if_pos h9] at h; cases h; subst h9; decide
  rw [if_neg h9] at h
  by_cases h10 : p = 10
  · rw [if_pos h10] at h; cases h; subst h10; decide
  rw [if_neg h10] at h
  by_cases h11 : p = 11
  · rw [if_pos h11] at h; cases h; subst h11; decide
  rw [if_neg h11] at h
  by_cases h12 : p = 12
  · rw [if_pos h12] at h; cases h; subst h12; decide
  rw [if_neg h12] at h
  by_cases h13 : p = 13
  · rw [if_pos h13] at h; cases h; subst h13; decide
  rw [if_neg h13] at h
  by_cases h14 : p = 14
  · rw [if_pos h14] at h; cases h; subst h14; decide
  rw [if_neg h14] at h
  by_cases h15 : p = 15
  · rw [if_pos h15] at h; cases h; subst h15; decide
  rw [if_neg h15] at h
  by_cases h16 : p = 16
  · rw [if_pos h16] at h; cases h; subst h16; decide
  rw [if_neg h16] at h
  by_cases h17 : p = 17
  · rw [if_pos h17] at h; cases h; subst h17; decide
  rw [if_neg h17] at h
  cases h
theorem shape_lt {p : Int} {n k : Nat} (h : PyVbndax.shape p = some (n, k)) : 0 ≤ p ∧ p < 18 := by
  unfold PyVbndax.shape at h
  by_cases h0 : p = 0
  · subst h0; decide
  rw [if_neg h0] at h
  by_cases h1 : p = 1
  · subst h1; decide
  rw [if_neg h1] at h
  by_cases h2 : p = 2
  · subst h2; decide
  rw [if_neg h2] at h
  by_cases h3 : p = 3
  · subst h3; decide
  rw [if_neg h3] at h
  by_cases h4 : p = 4
  · subst h4; decide
  rw [if_neg h4] at h
  by_cases h5 : p = 5
  · subst h5; decide
  rw [if_neg h5] at h
  by_cases h6 : p = 6
  · subst h6; decide
  rw [if_neg h6] at h
  by_cases h7 : p = 7
  · subst h7; decide
  rw [if_neg h7] at h
  by_cases h8 : p = 8
  · subst h8; decide
  rw [if_neg h8] at h
  by_cases h9 : p = 9
  · subst h9; decide
  rw [if_neg h9] at h
  by_cases h10 : p = 10
  · subst h10; decide
  rw [if_neg h10] at h
  by_cases h11 : p = 11
  · subst h11; decide
  rw [if_neg h11] at h
  by_cases h12 : p = 12
  · subst h12; decide
  rw [if_neg h12] at h
  by_cases h13 : p = 13
  · subst h13; decide
  rw [if_neg h13] at h
  by_cases h14 : p = 14
  · subst h14; decide
  rw [if_neg h14] at h
  by_cases h15 : p = 15
  · subst h15; decide
  rw [if_neg h15] at h
  by_cases h16 : p = 16
  · subst h16; decide
  rw [if_neg h16] at h
  by_cases h17 : p = 17
  · subst h17; decide
  rw [if_neg h17] at h
  cases h
/-- a record as a call has it -/
def Form (c : Rec) : Prop := (0 ≤ c.1 ∧ c.1 < 18) ∧ c.2.1.isSome = WB.contains c.1 ∧ c.2.2.isSome = WR.contains c.1
theorem row_is {l x t : List Int} (h : PyFlat.row l = some (x, t)) : ∃ (m : Nat) (r2 : List Int), l = (m : Int) :: r2 ∧ m ≤ r2.length ∧ x = r2.take m ∧ t = r2.drop m := by
  cases l with
  | nil => cases h
  | cons n r =>
    have h' : (if 0 ≤ n ∧ n.toNat ≤ r.length then some (r.take n.toNat, r.drop n.toNat) else none) = some (x, t) := h
    by_cases c : 0 ≤ n ∧ n.toNat ≤ r.length
    · rw [if_pos c] at h'
      obtain ⟨e1, e2⟩ := Prod.mk.inj (Option.some.inj h')
      exact ⟨n.toNat, r, by rw [Int.toNat_of_nonneg c.1], c.2, e1.symm, e2.symm⟩
    · rw [if_neg c] at h'
      cases h'
theorem calls_step {f : Nat} {p : Int} {r : List Int} {cs : List (List (List Int))} (h : PyFlat.calls PyVbndax.shape f (p :: r) = some cs) :
    ∃ (g : Nat) (cs1 : List (List (List Int))) (i : Option Int) (row : Option (List Int)) (t : List Int), cs = unRec (p, i, row) :: cs1 ∧ PyFlat.calls PyVbndax.shape g t = some cs1 ∧ Step p r i row t ∧ Form (p, i, row) := by
  cases f with
  | zero => cases h
  | succ f =>
    unfold PyFlat.calls at h
    cases hc : PyFlat.call PyVbndax.shape (p :: r) with
    | none => rw [hc] at h; cases h
    | some ct =>
      obtain ⟨c, t⟩ := ct
      rw [hc] at h
      dsimp only at h
      cases hr : PyFlat.calls PyVbndax.shape f t with
      | none => rw [hr] at h; cases h
      | some cs1 =>
        rw [hr] at h
        cases h
        unfold PyFlat.call at hc
        dsimp only at hc
        cases hs : PyVbndax.shape p with
        | none => rw [hs] at hc; cases hc
        | some nk =>
          obtain ⟨n, k⟩ := nk
          rw [hs] at hc
          dsimp only at hc
          split at hc
          · cases hc
          rename_i hlen
          obtain ⟨h1, h2⟩ := shape_is hs
          have h3 := shape_lt hs
          cases hw : PyFlat.rows k (r.drop n) with
          | none => rw [hw] at hc; cases hc
          | some xt =>
            obtain ⟨xs, t1⟩ := xt
            rw [hw] at hc
            cases hc
            have key : ∃ (i : Option Int) (r1 : List Int), r.take n = i.toList ∧ r.drop n = r1 ∧ ((WB.contains p = true ∧ ∃ x, r = x :: r1 ∧ i = some x) ∨ (WB.contains p = false ∧ r1 = r ∧ i = none)) := by
              rcases h1 with ⟨hb, rfl⟩ | ⟨hb, rfl⟩
              · cases r with
                | nil => exact absurd (Nat.zero_lt_one) hlen
                | cons x r => exact ⟨some x, r, rfl, rfl, .inl ⟨hb, x, rfl, rfl⟩⟩
              · exact ⟨none, r, rfl, rfl, .inr ⟨hb, rfl, rfl⟩⟩
            obtain ⟨i, r1, e1, e2, e3⟩ := key
            have e4 : i.isSome = WB.contains p := by rcases e3 with ⟨hb, x, _, rfl⟩ | ⟨hb, _, rfl⟩ <;> exact hb.symm
            rw [e2] at hw
            rcases h2 with ⟨hb, rfl⟩ | ⟨hb, rfl⟩
            · unfold PyFlat.rows at hw
              cases hq : PyFlat.row r1 with
              | none => rw [hq] at hw; cases hw
              | some xs2 =>
                obtain ⟨x, s⟩ := xs2
                rw [hq] at hw
                cases hw
                obtain ⟨m, r2, a1, a2, a3, a4⟩ := row_is hq
                subst a3 a4
                exact ⟨f, cs1, i, some (r2.take m), _, by rw [e1]; rfl, hr, ⟨r1, e3, .inl ⟨hb, m, r2, a1, a2, rfl, rfl⟩⟩, h3, e4, hb.symm⟩
            · cases hw
              exact ⟨f, cs1, i, none, _, by rw [e1]; rfl, hr, ⟨_, e3, .inr ⟨hb, rfl, rfl⟩⟩, h3, e4, hb.symm⟩
theorem calls_nil {f : Nat} {cs : List (List (List Int))} (h : PyFlat.calls PyVbndax.shape f [] = some cs) : cs = [] := by
  cases f <;> (cases h; rfl)
/-! ### refusals -/
def StOk : Option Vbndax.Auction → Prop
  | none => True
  | some x => 0 < x.reserves.length ∧ x.reserves.length ≤ 4 ∧ (∀ n ∈ x.reserves, n ≤ 60) ∧ x.sealedBids.length = 5 ∧ ∀ l, some l ∈ x.sealedBids → l.length = x.reserves.length ∧ ∀ n ∈ l, n ≤ 60
def rowMax (n : Int) : Int := if n = 7 ∨ n = 8 ∨ n = 9 then 1000 else 60
def bidOk (i : Option Int) : Bool := match i with
  | none => true
  | some i => decide (0 ≤ i) && decide (i < 5)
def rowOk (n : Int) (r : Option (List Int)) : Bool := match r with
  | none => true
  | some l => !(decide (n = 0) && decide (l.length = 0)) && (decide (l.length ≤ 4) && l.all fun x => decide (0 ≤ x) && decide (x ≤ rowMax n))
def lenCode (r : Option (List Int)) (n : Nat) : Int := match r with
  | none => 0
  | some l => if l.length = n then 0 else -7
def codeOpened (st : State) (r : Option (List Int)) : Int := match st with
  | none => -2
  | some x => if x.isClosed = false then -5 else lenCode r x.reserves.length
def codeBefore (st : State) (r : Option (List Int)) : Int := match st with
  | none => -2
  | some x => if x.isClosed = true then -6 else lenCode r x.reserves.length
def codeAny (st : State) : Int := match st with
  | none => -2
  | some _ => 0
def codeR (st : State) (c : Rec) : Int := if (bidOk c.2.1 && rowOk c.1 c.2.2) = false then -1 else if c.1 = 0 then 0 else match st with
  | none => -2
  | some x => if (After.contains c.1 && !x.isClosed) = true then -5 else if (Before.contains c.1 && x.isClosed) = true then -6 else lenCode c.2.2 x.reserves.length
inductive Calls : Rec → Vbndax.Call → Prop
  | c0 (v : List Int) : Calls (0, none, some v) (.newAuction v)
  | c1 (b : Int) (v : List Int) : Calls (1, some b, some v) (.submitBid b v)
  | c2 : Calls (2, none, none) (.closeAuction)
  | c3 : Calls (3, none, none) (.getResult)
  | c4 : Calls (4, none, none) (.minimumPrices)
  | c5 : Calls (5, none, none) (.maximumPrices)
  | c6 : Calls (6, none, none) (.totalValue)
  | c7 (v : List Int) : Calls (7, none, some v) (.checkPrices v)
  | c8 (b : Int) (v : List Int) : Calls (8, some b, some v) (.demandSet b v)
  | c9 (v : List Int) : Calls (9, none, some v) (.overdemandedSet v)
  | c10 : Calls (10, none, none) (.runClock)
  | c11 (b : Int) (v : List Int) : Calls (11, some b, some v) (.hypotheticalResult b v)
  | c12 (b : Int) (v : List Int) : Calls (12, some b, some v) (.utility b v)
  | c13 (b : Int) (v : List Int) : Calls (13, some b, some v) (.truthfulUtility b v)
  | c14 (b : Int) : Calls (14, some b, none) (.totalWithout b)
  | c15 : Calls (15, none, none) (.listSubmitted)
  | c16 : Calls (16, none, none) (.listBids)
  | c17 : Calls (17, none, none) (.summary)
theorem Calls.decode {c : Rec} {cl : Vbndax.Call} (h : Calls c cl) : decodeCall (unRec c) = some cl := by
  cases h <;> rfl
theorem Form.calls {c : Rec} (h : Form c) : ∃ cl, Calls c cl := by
  obtain ⟨n, i, r⟩ := c
  obtain ⟨⟨h1, h2⟩, h3, h4⟩ := h
  dsimp only at h1 h2 h3 h4
  rcases (by omega : n = 0 ∨ n = 1 ∨ n = 2 ∨ n = 3 ∨ n = 4 ∨ n = 5 ∨ n = 6 ∨ n = 7 ∨ n = 8 ∨ n = 9 ∨ n = 10 ∨ n = 11 ∨ n = 12 ∨ n = 13 ∨ n = 14 ∨ n = 15 ∨ n = 16 ∨ n = 17) with rfl | rfl | rfl | rfl | rfl | rfl | rfl | rfl | rfl | rfl | rfl | rfl | rfl | rfl | rfl | rfl | rfl | rfl <;> cases i <;> cases r <;> first
    | exact ⟨_, by constructor⟩
    | exact absurd (show true = WB.contains _ from h3) (by decide)
    | exact absurd (show false = WB.contains _ from h3) (by decide)
    | exact absurd (show true = WR.contains _ from h4) (by decide)
    | exact absurd (show false = WR.contains _ from h4) (by decide)
/-! ### what a call does, by its record -/
theorem ge_of {i : Int} (h : (decide (0 ≤ i) && decide (i < 5)) = true) : inRange i 0 4 = true := by
  unfold inRange
  rw [Bool.and_eq_true, decide_eq_true_eq, decide_eq_true_eq] at h ⊢
  omega
theorem bid_is (i : Int) : isBidder i = bidOk (some i) := by
  unfold isBidder inRange bidOk
  rw [Bool.eq_iff_iff]
  simp
  omega
theorem bids_is (v : List Int) : areBids v = (decide (v.length ≤ 4) && v.all fun x => decide (0 ≤ x) && decide (x ≤ 60)) := by
  unfold areBids inRange maxBid
  rfl
theorem prices_is (v : List Int) : arePrices v = (decide (v.length ≤ 4) && v.all fun x => decide (0 ≤ x) && decide (x ≤ 1000)) := by
  unfold arePrices inRange
  rfl
theorem valid_is {c : Rec} {cl : Vbndax.Call} (h : Calls c cl) : hasValidArguments cl = (bidOk c.2.1 && rowOk c.1 c.2.2) := by
  cases h with
  | c0 v =>
    show (decide (1 ≤ v.length) && areBids v) = (true && (!(decide ((0 : Int) = 0) && decide (v.length = 0)) && (decide (v.length ≤ 4) && v.all fun x => decide (0 ≤ x) && decide (x ≤ 60))))
    rw [bids_is, Bool.true_and]
    congr 1
    cases v <;> simp
  | c1 b v => show (isBidder b && areBids v) = _; rw [bid_is, bids_is]; rfl
  | c7 v => show arePrices v = _; rw [prices_is]; rfl
  | c8 b v => show (isBidder b && arePrices v) = _; rw [bid_is, prices_is]; rfl
  | c9 v => show arePrices v = _; rw [prices_is]; rfl
  | c11 b v => show (isBidder b && areBids v) = _; rw [bid_is, bids_is]; rfl
  | c12 b v => show (isBidder b && areBids v) = _; rw [bid_is, bids_is]; rfl
  | c13 b v => show (isBidder b && areBids v) = _; rw [bid_is, bids_is]; rfl
  | c14 b => show isBidder b = _; rw [bid_is, Bool.and_comm]; rfl
  | _ => rfl
/-- what a call answers that is not refused: the state behind it, the fields -/
def Does (st : State) (cl : Vbndax.Call) (st1 : State) (fs : List Int) : Prop := execute st cl = (st1, 0 :: fs)
def fResult (x : Vbndax.Auction) (b : Bids) : List Int := (List.range bidderCount).flatMap fun i => [lotNumber (lotOfBidder (bestAllocation x.reserves b).2 i), payment x b i]
theorem opened_code {st : State} {n : Int} {i : Option Int} {r : Option (List Int)} (hv : (bidOk i && rowOk n r) = true) (h0 : n ≠ 0) (ha : After.contains n = true) (hb : Before.contains n = false) :
    codeR st (n, i, r) = codeOpened st r := by
  unfold codeR
  dsimp only
  rw [hv, ha, hb, if_neg Bool.true_eq_false.mp, if_neg h0]
  cases st with
  | none => rfl
  | some x =>
    unfold codeOpened
    dsimp only
    cases x.isClosed <;> rfl
theorem any_code {st : State} {n : Int} {i : Option Int} (hv : (bidOk i && rowOk n none) = true) (h0 : n ≠ 0) (ha : After.contains n = false) (hb : Before.contains n = false) :
    codeR st (n, i, none) = codeAny st := by
  unfold codeR
  dsimp only
  rw [hv, ha, hb, if_neg Bool.true_eq_false.mp, if_neg h0]
  cases st <;> rfl
theorem before_code {st : State} {n : Int} {i : Option Int} {r : Option (List Int)} (hv : (bidOk i && rowOk n r) = true) (h0 : n ≠ 0) (ha : After.contains n = false) (hb : Before.contains n = true) :
    codeR st (n, i, r) = codeBefore st r := by
  unfold codeR
  dsimp only
  rw [hv, ha, hb, if_neg Bool.true_eq_false.mp, if_neg h0]
  cases st with
  | none => rfl
  | some x =>
    unfold codeBefore
    dsimp only
    cases x.isClosed <;> rfl
/-- both sides of a refusal -/
def Both (st : State) (c : Rec) (cl : Vbndax.Call) : Prop := (codeR st c ≠ 0 → execute st cl = (st, [codeR st c])) ∧ (codeR st c = 0 → StOk st → ∃ st1 fs, execute st cl = (st1, 0 :: fs) ∧ StOk st1)
theorem both_opened {st : State} {n : Int} {i : Option Int} {cl : Vbndax.Call} (hv : (bidOk i && rowOk n none) = true) (h0 : n ≠ 0) (ha : After.contains n = true) (hb : Before.contains n = false) (f : Vbndax.Auction → Bids → List Int)
    (he : ∀ s, execute s cl = withOpenedBids s fun x b => (s, 0 :: f x b)) : Both st (n, i, none) cl := by
  unfold Both
  rw [opened_code hv h0 ha hb, he]
  cases st with
  | none => exact ⟨fun _ => rfl, fun h => absurd (show (-2 : Int) = 0 from h) (by decide)⟩
  | some x =>
    unfold codeOpened withOpenedBids withAuction
    dsimp only
    cases hc : x.isClosed with
    | false => exact ⟨fun _ => rfl, fun h => absurd (show (-5 : Int) = 0 from h) (by decide)⟩
    | true => exact ⟨fun h => absurd rfl h, fun _ hO => ⟨_, _, rfl, hO⟩⟩
theorem both_openedR {st : State} {n : Int} {i : Option Int} {v : List Int} {cl : Vbndax.Call} (hv : (bidOk i && rowOk n (some v)) = true) (h0 : n ≠ 0) (ha : After.contains n = true) (hb : Before.contains n = false) (f : Vbndax.Auction → Bids → List Int)
    (he : ∀ s, execute s cl = withOpenedBids s fun x b => withRowLength s x v fun _ => (s, 0 :: f x b)) : Both st (n, i, some v) cl := by
  unfold Both
  rw [opened_code hv h0 ha hb, he]
  cases st with
  | none => exact ⟨fun _ => rfl, fun h => absurd (show (-2 : Int) = 0 from h) (by decide)⟩
  | some x =>
    unfold codeOpened withOpenedBids withAuction withRowLength lenCode
    dsimp only
    cases hc : x.isClosed with
    | false => exact ⟨fun _ => rfl, fun h => absurd (show (-5 : Int) = 0 from h) (by decide)⟩
    | true =>
      rw [if_neg Bool.true_eq_false.mp, if_neg Bool.true_eq_false.mp]
      by_cases hl : v.length = x.reserves.length
      · rw [if_pos hl, if_neg (fun h => h hl)]
        exact ⟨fun h => absurd rfl h, fun _ hO => ⟨_, _, rfl, hO⟩⟩
      · rw [if_neg hl, if_pos hl]
        exact ⟨fun _ => rfl, fun h => absurd h (by decide)⟩
theorem vec_nat {v : List Int} {m : Int} (h : (v.all fun x => decide (0 ≤ x) && decide (x ≤ m)) = true) : toI (v.map Int.toNat) = v ∧ ∀ n ∈ v.map Int.toNat, (n : Int) ≤ m := by
  rw [List.all_eq_true] at h
  have h' : ∀ x ∈ v, 0 ≤ x ∧ x ≤ m := fun x hx => by
    have := h x hx
    rw [Bool.and_eq_true, decide_eq_true_eq, decide_eq_true_eq] at this
    exact this
  constructor
  · unfold toI
    rw [List.map_map]
    conv => rhs; rw [← List.map_id v]
    exact List.map_congr_left fun x hx => Int.toNat_of_nonneg (h' x hx).1
  · intro n hn
    obtain ⟨x, hx, rfl⟩ := List.mem_map.mp hn
    have := h' x hx
    omega
theorem row_facts {n : Int} {v : List Int} (h : rowOk n (some v) = true) : v.length ≤ 4 ∧ (v.all fun x => decide (0 ≤ x) && decide (x ≤ rowMax n)) = true ∧ (n = 0 → 0 < v.length) := by
  have h' : (!(decide (n = 0) && decide (v.length = 0)) && (decide (v.length ≤ 4) && v.all fun x => decide (0 ≤ x) && decide (x ≤ rowMax n))) = true := h
  rw [Bool.and_eq_true, Bool.and_eq_true, decide_eq_true_eq] at h'
  refine ⟨h'.2.1, h'.2.2, fun h0 => ?_⟩
  have h1 := h'.1
  subst h0
  cases v with
  | nil => cases h1
  | cons a l => exact Nat.succ_pos _
theorem both_of {st : State} {c : Rec} {cl : Vbndax.Call} (h : Calls c cl) (hv : (bidOk c.2.1 && rowOk c.1 c.2.2) = true) : Both st c cl := by
  cases h with
  | c3 => exact both_opened hv (by decide) (by decide) (by decide) (fResult) fun s => rfl
  | c4 => exact both_opened hv (by decide) (by decide) (by decide) (fun x b => withLength (minimumPrices x.reserves b)) fun s => rfl
  | c5 => exact both_opened hv (by decide) (by decide) (by decide) (fun x b => withLength (maximumPrices x.reserves b)) fun s => rfl
  | c6 => exact both_opened hv (by decide) (by decide) (by decide) (fun x b => [Vbndax.totalValue x.reserves b]) fun s => rfl
  | c10 => exact both_opened hv (by decide) (by decide) (by decide) (fun x b => withLength (toInts (Vbndax.runClock x.reserves b).1) ++ withLength (Vbndax.runClock x.reserves b).2) fun s => rfl
  | c14 b => exact both_opened hv (by decide) (by decide) (by decide) (fun x c => [Vbndax.totalValue x.reserves (c.eraseIdx b.toNat)]) fun s => rfl
  | c16 => exact both_opened hv (by decide) (by decide) (by decide) (fun x b => b.flatMap fun l => l.take x.reserves.length) fun s => rfl
  | c8 b v => exact both_openedR hv (by decide) (by decide) (by decide) (fun x c => withLength ((Vbndax.demandSet c v x.reserves.length b.toNat).map lotNumber)) fun s => rfl
  | c11 b v => exact both_openedR hv (by decide) (by decide) (by decide) (fun x c => [lotNumber (lotOfBidder (bestAllocation x.reserves (replaceBid c b.toNat v)).2 b.toNat), payment x (replaceBid c b.toNat v) b.toNat]) fun s => rfl
  | c12 b v => exact both_openedR hv (by decide) (by decide) (by decide) (fun x c => [utilityOfResult x c b.toNat (v.map Int.toNat)]) fun s => rfl
  | c13 b v => exact both_openedR hv (by decide) (by decide) (by decide) (fun x c => [utilityOfResult x (replaceBid c b.toNat v) b.toNat (v.map Int.toNat)]) fun s => rfl
  | c7 v =>
    refine both_openedR hv (by decide) (by decide) (by decide) (fun x b => match priceViolation x.reserves b (bestAllocation x.reserves b).2 v with
      | none => [1]
      | some w => toInts [0, w.1, w.2]) fun s => ?_
    have e : (fun (x : Vbndax.Auction) (b : Bids) => withRowLength s x v fun _ => (s, match priceViolation x.reserves b (bestAllocation x.reserves b).2 v with
      | none => [0, 1]
      | some w => toInts [0, 0, w.1, w.2])) = fun (x : Vbndax.Auction) (b : Bids) => withRowLength s x v fun _ => (s, 0 :: match priceViolation x.reserves b (bestAllocation x.reserves b).2 v with
      | none => [1]
      | some w => toInts [0, w.1, w.2]) := by
      funext x b
      cases priceViolation x.reserves b (bestAllocation x.reserves b).2 v <;> rfl
    exact congrArg (withOpenedBids s) e
  | c9 v =>
    refine both_openedR hv (by decide) (by decide) (by decide) (fun x b => match firstOverdemanded b v x.reserves.length with
      | none => [0]
      | some k => toInts [1, k]) fun s => ?_
    have e : (fun (x : Vbndax.Auction) (b : Bids) => withRowLength s x v fun _ => (s, match firstOverdemanded b v x.reserves.length with
      | none => [0, 0]
      | some k => toInts [0, 1, k])) = fun (x : Vbndax.Auction) (b : Bids) => withRowLength s x v fun _ => (s, 0 :: match firstOverdemanded b v x.reserves.length with
      | none => [0]
      | some k => toInts [1, k]) := by
      funext x b
      cases firstOverdemanded b v x.reserves.length <;> rfl
    exact congrArg (withOpenedBids s) e
  | c15 =>
    unfold Both
    rw [any_code hv (by decide) (by decide) (by decide)]
    cases st with
    | none => exact ⟨fun _ => rfl, fun h => absurd (show (-2 : Int) = 0 from h) (by decide)⟩
    | some x => exact ⟨fun h => absurd rfl h, fun _ hO => ⟨_, _, rfl, hO⟩⟩
  | c17 =>
    unfold Both
    rw [any_code hv (by decide) (by decide) (by decide)]
    cases st with
    | none => exact ⟨fun _ => rfl, fun h => absurd (show (-2 : Int) = 0 from h) (by decide)⟩
    | some x => exact ⟨fun h => absurd rfl h, fun _ hO => ⟨_, _, rfl, hO⟩⟩
  | c2 =>
    unfold Both
    rw [before_code hv (by decide) (by decide) (by decide)]
    cases st with
    | none => exact ⟨fun _ => rfl, fun h => absurd (show (-2 : Int) = 0 from h) (by decide)⟩
    | some x =>
      unfold codeBefore execute withAuction lenCode
      dsimp only
      cases hc : x.isClosed with
      | true => exact ⟨fun _ => rfl, fun h => absurd (show (-6 : Int) = 0 from h) (by decide)⟩
      | false => exact ⟨fun h => absurd rfl h, fun _ hO => ⟨_, _, rfl, hO⟩⟩
  | c1 b v =>
    unfold Both
    rw [before_code hv (show (1 : Int) ≠ 0 by decide) (show After.contains 1 = false by decide) (show Before.contains 1 = true by decide)]
    cases st with
    | none => exact ⟨fun _ => rfl, fun h => absurd (show (-2 : Int) = 0 from h) (by decide)⟩
    | some x =>
      rw [Bool.and_eq_true] at hv
      obtain ⟨h1, h2, _⟩ := row_facts hv.2
      obtain ⟨_, h3⟩ := vec_nat h2
      unfold codeBefore execute withAuction withRowLength lenCode
      dsimp only
      cases hc : x.isClosed with
      | true => exact ⟨fun _ => rfl, fun h => absurd (show (-6 : Int) = 0 from h) (by decide)⟩
      | false =>
        rw [if_neg Bool.false_ne_true, if_neg Bool.false_ne_true]
        by_cases hl : v.length = x.reserves.length
        · rw [if_pos hl, if_neg (fun h => h hl)]
          refine ⟨fun h => absurd rfl h, fun _ hO => ⟨_, _, rfl, hO.1, hO.2.1, hO.2.2.1, by rw [List.length_set]; exact hO.2.2.2.1, fun l hl2 => ?_⟩⟩
          rcases List.mem_or_eq_of_mem_set hl2 with h | h
          · exact hO.2.2.2.2 l h
          · cases h
            refine ⟨by rw [List.length_map]; exact hl, fun n hn => ?_⟩
            have h5 : (n : Int) ≤ 60 := h3 n hn
            omega
        · rw [if_neg hl, if_pos hl]
          exact ⟨fun _ => rfl, fun h => absurd h (by decide)⟩
  | c0 v =>
    unfold Both codeR
    rw [hv, if_neg Bool.true_eq_false.mp, if_pos rfl]
    rw [Bool.and_eq_true] at hv
    obtain ⟨h1, h2, h3⟩ := row_facts hv.2
    obtain ⟨_, h4⟩ := vec_nat h2
    refine ⟨fun h => absurd rfl h, fun _ hO => ⟨_, [], rfl, by show 0 < (v.map Int.toNat).length; rw [List.length_map]; exact h3 rfl, by show (v.map Int.toNat).length ≤ 4; rw [List.length_map]; exact h1, fun n hn => ?_, rfl, fun l hl => ?_⟩⟩
    · have h5 : (n : Int) ≤ 60 := h4 n hn
      omega
    · have := List.eq_of_mem_replicate hl
      cases this
theorem code_no {st : State} {c : Rec} {cl : Vbndax.Call} (h : Calls c cl) (hc : codeR st c ≠ 0) : step st cl = (st, [codeR st c]) := by
  unfold step
  rw [valid_is h]
  cases hv : (bidOk c.2.1 && rowOk c.1 c.2.2) with
  | false =>
    have : codeR st c = -1 := by unfold codeR; rw [hv]; rfl
    rw [this]
    rfl
  | true => exact (both_of h hv).1 hc
theorem code_yes {st : State} {c : Rec} {cl : Vbndax.Call} (h : Calls c cl) (hO : StOk st) (hc : codeR st c = 0) : step st cl = execute st cl ∧ ∃ st1 fs, execute st cl = (st1, 0 :: fs) ∧ StOk st1 := by
  unfold step
  rw [valid_is h]
  cases hv : (bidOk c.2.1 && rowOk c.1 c.2.2) with
  | false =>
    have : codeR st c = -1 := by unfold codeR; rw [hv]; rfl
    rw [this] at hc
    cases hc
  | true => exact ⟨rfl, (both_of h hv).2 hc hO⟩
end Mir
namespace Mir
open Vbndax
/-! What each call does, by its number. Plain Lean. -/
theorem Calls.at0 {r : Rec} {cl : Vbndax.Call} (h : Calls r cl) (e : r.1 = 0) : ∃ v, r = (0, none, some v) ∧ cl = .newAuction v := by
  cases h <;> first
    | exact ⟨_, rfl, rfl⟩
    | (simp at e; done)
theorem Calls.at1 {r : Rec} {cl : Vbndax.Call} (h : Calls r cl) (e : r.1 = 1) : ∃ b v, r = (1, some b, some v) ∧ cl = .submitBid b v := by
  cases h <;> first
    | exact ⟨_, _, rfl, rfl⟩
    | (simp at e; done)
theorem Calls.at2 {r : Rec} {cl : Vbndax.Call} (h : Calls r cl) (e : r.1 = 2) : r = (2, none, none) ∧ cl = .closeAuction := by
  cases h <;> first
    | exact ⟨rfl, rfl⟩
    | (simp at e; done)
theorem Calls.at3 {r : Rec} {cl : Vbndax.Call} (h : Calls r cl) (e : r.1 = 3) : r = (3, none, none) ∧ cl = .getResult := by
  cases h <;> first
    | exact ⟨rfl, rfl⟩
    | (simp at e; done)
theorem Calls.at4 {r : Rec} {cl : Vbndax.Call} (h : Calls r cl) (e : r.1 = 4) : r = (4, none, none) ∧ cl = .minimumPrices := by
  cases h <;> first
    | exact ⟨rfl, rfl⟩
    | (simp at e; done)
theorem Calls.at5 {r : Rec} {cl : Vbndax.Call} (h : Calls r cl) (e : r.1 = 5) : r = (5, none, none) ∧ cl = .maximumPrices := by
  cases h <;> first
    | exact ⟨rfl, rfl⟩
    | (simp at e; done)
theorem Calls.at6 {r : Rec} {cl : Vbndax.Call} (h : Calls r cl) (e : r.1 = 6) : r = (6, none, none) ∧ cl = .totalValue := by
  cases h <;> first
    | exact ⟨rfl, rfl⟩
    | (simp at e; done)
theorem Calls.at7 {r : Rec} {cl : Vbndax.Call} (h : Calls r cl) (e : r.1 = 7) : ∃ v, r = (7, none, some v) ∧ cl = .checkPrices v := by
  cases h <;> first
    | exact ⟨_, rfl, rfl⟩
    | (simp at e; done)
theorem Calls.at8 {r : Rec} {cl : Vbndax.Call} (h : Calls r cl) (e : r.1 = 8) : ∃ b v, r = (8, some b, some v) ∧ cl = .demandSet b v := by
  cases h <;> first
    | exact ⟨_, _, rfl, rfl⟩
    | (simp at e; done)
theorem Calls.at9 {r : Rec} {cl : Vbndax.Call} (h : Calls r cl) (e : r.1 = 9) : ∃ v, r = (9, none, some v) ∧ cl = .overdemandedSet v := by
  cases h <;> first
    | exact ⟨_, rfl, rfl⟩
    | (simp at e; done)
theorem Calls.at10 {r : Rec} {cl : Vbndax.Call} (h : Calls r cl) (e : r.1 = 10) : r = (10, none, none) ∧ cl = .runClock := by
  cases h <;> first
    | exact ⟨rfl, rfl⟩
    | (simp at e; done)
theorem Calls.at11 {r : Rec} {cl : Vbndax.Call} (h : Calls r cl) (e : r.1 = 11) : ∃ b v, r = (11, some b, some v) ∧ cl = .hypotheticalResult b v := by
  cases h <;> first
    | exact ⟨_, _, rfl, rfl⟩
    | (simp at e; done)
theorem Calls.at12 {r : Rec} {cl : Vbndax.Call} (h : Calls r cl) (e : r.1 = 12) : ∃ b v, r = (12, some b, some v) ∧ cl = .utility b v := by
  cases h <;> first
    | exact ⟨_, _, rfl, rfl⟩
    | (simp at e; done)
theorem Calls.at13 {r : Rec} {cl : Vbndax.Call} (h : Calls r cl) (e : r.1 = 13) : ∃ b v, r = (13, some b, some v) ∧ cl = .truthfulUtility b v := by
  cases h <;> first
    | exact ⟨_, _, rfl, rfl⟩
    | (simp at e; done)
theorem Calls.at14 {r : Rec} {cl : Vbndax.Call} (h : Calls r cl) (e : r.1 = 14) : ∃ b, r = (14, some b, none) ∧ cl = .totalWithout b := by
  cases h <;> first
    | exact ⟨_, rfl, rfl⟩
    | (simp at e; done)
theorem Calls.at15 {r : Rec} {cl : Vbndax.Call} (h : Calls r cl) (e : r.1 = 15) : r = (15, none, none) ∧ cl = .listSubmitted := by
  cases h <;> first
    | exact ⟨rfl, rfl⟩
    | (simp at e; done)
theorem Calls.at16 {r : Rec} {cl : Vbndax.Call} (h : Calls r cl) (e : r.1 = 16) : r = (16, none, none) ∧ cl = .listBids := by
  cases h <;> first
    | exact ⟨rfl, rfl⟩
    | (simp at e; done)
theorem Calls.at17 {r : Rec} {cl : Vbndax.Call} (h : Calls r cl) (e : r.1 = 17) : r = (17, none, none) ∧ cl = .summary := by
  cases h <;> first
    | exact ⟨rfl, rfl⟩
    | (simp at e; done)
theorem valid_of {st : State} {c : Rec} (h : codeR st c = 0) : bidOk c.2.1 = true ∧ rowOk c.1 c.2.2 = true := by
  cases hv : (bidOk c.2.1 && rowOk c.1 c.2.2) with
  | false =>
    have : codeR st c = -1 := by unfold codeR; rw [hv]; rfl
    rw [this] at h
    cases h
  | true => rwa [Bool.and_eq_true] at hv
theorem opened_yes {st : State} {n : Int} {i : Option Int} {r : Option (List Int)} (h : codeR st (n, i, r) = 0) (h0 : n ≠ 0) (ha : After.contains n = true) (hb : Before.contains n = false) :
    ∃ x, st = some x ∧ x.isClosed = true ∧ (∀ l, r = some l → l.length = x.reserves.length) ∧ bidOk i = true ∧ rowOk n r = true := by
  obtain ⟨h1, h2⟩ := valid_of h
  have h1 : bidOk i = true := h1
  have h2 : rowOk n r = true := h2
  rw [opened_code (by rw [h1, h2]; rfl) h0 ha hb] at h
  cases st with
  | none => exact absurd (show (-2 : Int) = 0 from h) (by decide)
  | some x =>
    refine ⟨x, rfl, ?_⟩
    unfold codeOpened at h
    dsimp only at h
    cases hc : x.isClosed with
    | false => rw [hc] at h; exact absurd (show (-5 : Int) = 0 from h) (by decide)
    | true =>
      rw [hc, if_neg Bool.true_eq_false.mp] at h
      refine ⟨rfl, fun l hl => ?_, h1, h2⟩
      subst hl
      unfold lenCode at h
      dsimp only at h
      by_cases hll : l.length = x.reserves.length
      · exact hll
      · rw [if_neg hll] at h
        cases h
theorem any_yes {st : State} {n : Int} {i : Option Int} (h : codeR st (n, i, none) = 0) (h0 : n ≠ 0) (ha : After.contains n = false) (hb : Before.contains n = false) : ∃ x, st = some x := by
  obtain ⟨h1, h2⟩ := valid_of h
  have h1 : bidOk i = true := h1
  have h2 : rowOk n none = true := h2
  rw [any_code (by rw [h1, h2]; rfl) h0 ha hb] at h
  cases st with
  | none => exact absurd (show (-2 : Int) = 0 from h) (by decide)
  | some x => exact ⟨x, rfl⟩
theorem before_yes {st : State} {n : Int} {i : Option Int} {r : Option (List Int)} (h : codeR st (n, i, r) = 0) (h0 : n ≠ 0) (ha : After.contains n = false) (hb : Before.contains n = true) :
    ∃ x, st = some x ∧ x.isClosed = false ∧ (∀ l, r = some l → l.length = x.reserves.length) ∧ bidOk i = true ∧ rowOk n r = true := by
  obtain ⟨h1, h2⟩ := valid_of h
  have h1 : bidOk i = true := h1
  have h2 : rowOk n r = true := h2
  rw [before_code (by rw [h1, h2]; rfl) h0 ha hb] at h
  cases st with
  | none => exact absurd (show (-2 : Int) = 0 from h) (by decide)
  | some x =>
    refine ⟨x, rfl, ?_⟩
    unfold codeBefore at h
    dsimp only at h
    cases hc : x.isClosed with
    | true => rw [hc] at h; exact absurd (show (-6 : Int) = 0 from h) (by decide)
    | false =>
      rw [hc, if_neg Bool.false_ne_true] at h
      refine ⟨rfl, fun l hl => ?_, h1, h2⟩
      subst hl
      unfold lenCode at h
      dsimp only at h
      by_cases hll : l.length = x.reserves.length
      · exact hll
      · rw [if_neg hll] at h
        cases h
theorem opened_eq {x : Vbndax.Auction} (h : x.isClosed = true) (f : Vbndax.Auction → Bids → State × Result) : withOpenedBids (some x) f = f x (bidsOf x) := by
  unfold withOpenedBids withAuction
  dsimp only
  rw [h, if_neg Bool.true_eq_false.mp]
theorem row_eq {s : State} {x : Vbndax.Auction} {l : List Int} (h : l.length = x.reserves.length) (f : Unit → State × Result) : withRowLength s x l f = f () := by
  unfold withRowLength
  rw [if_neg (fun z => z h)]
theorem bid_nat {i : Int} (h : bidOk (some i) = true) : ∃ k : Nat, i = (k : Int) ∧ k < 5 := by
  have h' : (decide (0 ≤ i) && decide (i < 5)) = true := h
  rw [Bool.and_eq_true, decide_eq_true_eq, decide_eq_true_eq] at h'
  exact ⟨i.toNat, by omega, by omega⟩
/-! ### the bids of a state -/
theorem bids_len {x : Vbndax.Auction} (h : StOk (some x)) : (bidsOf x).length = 5 := by
  unfold bidsOf
  rw [List.length_map]
  exact h.2.2.2.1
theorem bids_row {x : Vbndax.Auction} (h : StOk (some x)) : ∀ row ∈ bidsOf x, row.length = x.reserves.length ∧ ∀ e ∈ row, e ≤ 60 := by
  intro row hr
  unfold bidsOf at hr
  obtain ⟨y, hy, rfl⟩ := List.mem_map.mp hr
  cases y with
  | none =>
    refine ⟨List.length_map .., fun e he => ?_⟩
    obtain ⟨_, _, rfl⟩ := List.mem_map.mp he
    decide
  | some l =>
    obtain ⟨h1, h2⟩ := h.2.2.2.2 l hy
    refine ⟨(List.length_map ..).trans h1, fun e he => ?_⟩
    obtain ⟨n, hn, rfl⟩ := List.mem_map.mp he
    have := h2 n hn
    omega
def fd3 (x : Vbndax.Auction) (b : Bids) : List Int := fResult x b
theorem ex3 {x : Vbndax.Auction} (h : x.isClosed = true) : execute (some x) (.getResult) = (some x, 0 :: fd3 x (bidsOf x)) :=
  opened_eq h fun x1 b => (some x, 0 :: fd3 x1 b)
def fd4 (x : Vbndax.Auction) (b : Bids) : List Int := withLength (minimumPrices x.reserves b)
theorem ex4 {x : Vbndax.Auction} (h : x.isClosed = true) : execute (some x) (.minimumPrices) = (some x, 0 :: fd4 x (bidsOf x)) :=
  opened_eq h fun x1 b => (some x, 0 :: fd4 x1 b)
def fd5 (x : Vbndax.Auction) (b : Bids) : List Int := withLength (maximumPrices x.reserves b)
theorem ex5 {x : Vbndax.Auction} (h : x.isClosed = true) : execute (some x) (.maximumPrices) = (some x, 0 :: fd5 x (bidsOf x)) :=
  opened_eq h fun x1 b => (some x, 0 :: fd5 x1 b)
def fd6 (x : Vbndax.Auction) (b : Bids) : List Int := [Vbndax.totalValue x.reserves b]
theorem ex6 {x : Vbndax.Auction} (h : x.isClosed = true) : execute (some x) (.totalValue) = (some x, 0 :: fd6 x (bidsOf x)) :=
  opened_eq h fun x1 b => (some x, 0 :: fd6 x1 b)
def fd7 (v : List Int) (x : Vbndax.Auction) (b : Bids) : List Int := match priceViolation x.reserves b (bestAllocation x.reserves b).2 v with
  | none => [1]
  | some w => toInts [0, w.1, w.2]
theorem ex7 (v : List Int) {x : Vbndax.Auction} (h : x.isClosed = true) (hl : v.length = x.reserves.length) : execute (some x) (.checkPrices v) = (some x, 0 :: fd7 v x (bidsOf x)) := by
  refine (opened_eq h fun x1 b => withRowLength (some x) x1 v fun _ => (some x, match priceViolation x1.reserves b (bestAllocation x1.reserves b).2 v with
      | none => [0, 1]
      | some w => toInts [0, 0, w.1, w.2])).trans ((row_eq hl _).trans ?_)
  unfold fd7
  generalize priceViolation x.reserves (bidsOf x) (bestAllocation x.reserves (bidsOf x)).2 v = z
  cases z <;> rfl
def fd8 (i : Int) (v : List Int) (x : Vbndax.Auction) (b : Bids) : List Int := withLength ((Vbndax.demandSet b v x.reserves.length i.toNat).map lotNumber)
theorem ex8 (i : Int) (v : List Int) {x : Vbndax.Auction} (h : x.isClosed = true) (hl : v.length = x.reserves.length) : execute (some x) (.demandSet i v) = (some x, 0 :: fd8 i v x (bidsOf x)) :=
  (opened_eq h fun x1 b => withRowLength (some x) x1 v fun _ => (some x, 0 :: fd8 i v x1 b)).trans (row_eq hl _)
def fd9 (v : List Int) (x : Vbndax.Auction) (b : Bids) : List Int := match firstOverdemanded b v x.reserves.length with
  | none => [0]
  | some k => toInts [1, k]
theorem ex9 (v : List Int) {x : Vbndax.Auction} (h : x.isClosed = true) (hl : v.length = x.reserves.length) : execute (some x) (.overdemandedSet v) = (some x, 0 :: fd9 v x (bidsOf x)) := by
  refine (opened_eq h fun x1 b => withRowLength (some x) x1 v fun _ => (some x, match firstOverdemanded b v x1.reserves.length with
      | none => [0, 0]
      | some k => toInts [0, 1, k])).trans ((row_eq hl _).trans ?_)
  unfold fd9
  generalize firstOverdemanded (bidsOf x) v x.reserves.length = z
  cases z <;> rfl
def fd10 (x : Vbndax.Auction) (b : Bids) : List Int := withLength (toInts (Vbndax.runClock x.reserves b).1) ++ withLength (Vbndax.runClock x.reserves b).2
theorem ex10 {x : Vbndax.Auction} (h : x.isClosed = true) : execute (some x) (.runClock) = (some x, 0 :: fd10 x (bidsOf x)) :=
  opened_eq h fun x1 b => (some x, 0 :: fd10 x1 b)
def fd11 (i : Int) (v : List Int) (x : Vbndax.Auction) (b : Bids) : List Int := [lotNumber (lotOfBidder (bestAllocation x.reserves (b.set i.toNat v)).2 i.toNat), payment x (b.set i.toNat v) i.toNat]
theorem ex11 (i : Int) (v : List Int) {x : Vbndax.Auction} (h : x.isClosed = true) (hl : v.length = x.reserves.length) : execute (some x) (.hypotheticalResult i v) = (some x, 0 :: fd11 i v x (bidsOf x)) :=
  (opened_eq h fun x1 b => withRowLength (some x) x1 v fun _ => (some x, 0 :: fd11 i v x1 b)).trans (row_eq hl _)
def fd12 (i : Int) (v : List Int) (x : Vbndax.Auction) (b : Bids) : List Int := [utilityOfResult x b i.toNat (v.map Int.toNat)]
theorem ex12 (i : Int) (v : List Int) {x : Vbndax.Auction} (h : x.isClosed = true) (hl : v.length = x.reserves.length) : execute (some x) (.utility i v) = (some x, 0 :: fd12 i v x (bidsOf x)) :=
  (opened_eq h fun x1 b => withRowLength (some x) x1 v fun _ => (some x, 0 :: fd12 i v x1 b)).trans (row_eq hl _)
def fd13 (i : Int) (v : List Int) (x : Vbndax.Auction) (b : Bids) : List Int := [utilityOfResult x (b.set i.toNat v) i.toNat (v.map Int.toNat)]
theorem ex13 (i : Int) (v : List Int) {x : Vbndax.Auction} (h : x.isClosed = true) (hl : v.length = x.reserves.length) : execute (some x) (.truthfulUtility i v) = (some x, 0 :: fd13 i v x (bidsOf x)) :=
  (opened_eq h fun x1 b => withRowLength (some x) x1 v fun _ => (some x, 0 :: fd13 i v x1 b)).trans (row_eq hl _)
def fd14 (i : Int) (x : Vbndax.Auction) (b : Bids) : List Int := [Vbndax.totalValue x.reserves (b.eraseIdx i.toNat)]
theorem ex14 (i : Int) {x : Vbndax.Auction} (h : x.isClosed = true) : execute (some x) (.totalWithout i) = (some x, 0 :: fd14 i x (bidsOf x)) :=
  opened_eq h fun x1 b => (some x, 0 :: fd14 i x1 b)
def fd16 (x : Vbndax.Auction) (b : Bids) : List Int := b.flatMap fun l => l.take x.reserves.length
theorem ex16 {x : Vbndax.Auction} (h : x.isClosed = true) : execute (some x) (.listBids) = (some x, 0 :: fd16 x (bidsOf x)) :=
  opened_eq h fun x1 b => (some x, 0 :: fd16 x1 b)
end Mir
/-! # Rules that the layer lacks -/
namespace Sl
open PySem PySem.Spec PyProof.Rows L2
section
variable {X : Cx}
/-- name >>= e -/
theorem ip_shr : PIp X .RShift (fun x y H Q => ∃ i j, x = .int i ∧ y = .int j ∧ 0 ≤ j ∧ Q (.int (i / 2 ^ j.toNat)) H) := by
  intro pins s σ H x y v u Q I r1 r2 h
  obtain ⟨i, j, e1, e2, hj, q⟩ := h
  exact iop_shr pins s σ H x y v u Q I r1 r2 ⟨i, j, e1, e2, hj, q⟩
/-! ### the call of what an expression gives -/
def tCallE (OK : Addr → Sp → Prop) (te : TE) (t : TA) : TE := fun σ H Q => te σ H fun x H1 => ∃ f sp, x = .ref f ∧ OK f sp ∧ t σ H1 fun vs H2 => sp vs H2 Q E0
theorem pe_callE {k : Nat} {OK : Addr → Sp → Prop} {fn e : Expr} {es : List Expr} {pos : Pos} {te : TE} {t : TA} (hf : PE X fn te) (ha : PA X (e :: es) t) (hr : Room k X.A)
    (hok : ∀ f sp, OK f sp → ∃ (fd : FuncData) (ps : List Str), FnOk X.prog X.w X.K X.mg X.base CX0 k f fd ps sp ∧ PySem.W.keepIn X.K (.ref f) = true ∧ Binds X.K fd ps [])
    (he : eval (.Call fn (e :: es) [] pos) X.env = (do callWith pos (← eval fn X.env) [] (backTo pos (starEach (e :: es) X.env)) (backToKw pos (keywordEach [] X.env))) := by rfl)
    (hst : starEach (e :: es) X.env = (false, eval e X.env) :: starEach es X.env := by rfl) (hpl : (backTo pos (starEach es X.env)).any (·.1) = false := by rfl) :
    PE X (.Call fn (e :: es) [] pos) (tCallE OK te t) := by
  refine ⟨fun pins s σ H Q I h => ?_⟩
  refine Call_ (thn (hf.run pins s σ H _ I h) fun u s1 ⟨x, H1, I1, rx, f, sp, ex, hO, q⟩ => ?_) he
  subst ex
  obtain rfl : u = Value.ref f := rx
  obtain ⟨fd, ps, F, hk, hb⟩ := hok f sp hO
  refine PySem.W.callWith_K (h₀ := X.base) I1.ok.mod.kin hk (thn (ha.run pos pins s1 σ H1 _ I1 q) fun us s2 ⟨vs, H2, I2, r, q2⟩ => ⟨I2.kIn, ?_⟩) hst hpl
  exact run_fn (dvs := []) (E := E0) F hr hb .nil pass0 I2 r (by rw [List.append_nil]; exact q2)
/-! ### d[k], d a dict of the written part, its keys ints -/
def intKeyed (es : Array DictEntry) : Bool := es.all fun e => match e.key with
  | .int k _ => e.hash == hashInt k
  | _ => false
structure KInt (K : PySem.W.Frag) (d : Addr) (es : Array DictEntry) (n : Nat) : Prop where
  at_ : K.lookup d = some ⟨.type "dict", none, .dict es n, #[]⟩
  keys : intKeyed es = true
theorem KInt.map {P : Program} {w : World} {K : PySem.W.Frag} {h : Heap} {d : Addr} {es : Array DictEntry} {n : Nat} (D : KInt K d es n) (Y : K.In h) : h.MapOf (PySem.intKind P w) d (fun k => findBy Value.isInt es k) := by
  refine ⟨_, es, n, Y _ _ D.at_, ⟨rfl, rfl, rfl⟩, rfl, fun e he => ?_, fun _ => rfl⟩
  have h1 := Array.all_eq_true_iff_forall_mem.mp D.keys e he
  cases hk : e.key with
  | int k t =>
    rw [hk] at h1
    have h2 : (e.hash == hashInt k) = true := h1
    exact ⟨k, PySem.intKind_is _ _ k t, eq_of_beq h2⟩
  | _ => rw [hk] at h1; cases h1
/-- d[k]: an int | another thing of the written part -/
def rIxI (K : PySem.W.Frag) : R2 := fun x y H Q => ∃ (d : Addr) (es : Array DictEntry) (n : Nat) (k : Int) (u : Value) (z : V), x = .ref d ∧ y = .int k ∧ KInt K d es n ∧ findBy Value.isInt es k = some u ∧ RelV z u ∧ Q z H
theorem ix_kint : IxR X (rIxI X.K) := by
  intro value slice pins s σ H x y v u Q I rx ry h hs
  obtain ⟨d, es, n, k, z, zv, rfl, rfl, D, hf, rz, q⟩ := h
  cases rx
  obtain ⟨t, rfl⟩ := ry
  have hm : s.heap.MapOf (PySem.intKind X.prog X.w) d (fun k => findBy Value.isInt es k) := D.map I.kIn
  exact tail_any hm.typeIs slot_dict_getitem.lookup (wpAny_getItem_of (PySem.intKind_is _ _ k t) hm hf ⟨zv, H, I.tok _, rz, q⟩) hs
/-! ### xs.extend(t), t a tuple -/
def rExtT (K : PySem.W.Frag) : V → List V → Hp → VK → Prop := fun x vs H Q => ∃ l b xs zs, x = .ref l ∧ vs = [.ref b] ∧ H l = some (.lst xs) ∧ SqT K H b zs ∧ xs.length + zs.length ≤ sizeLine ∧ Q .non (upd H l (.lst (xs ++ zs)))
theorem mt_extendT : MtM X "list.extend" (rExtT X.K) := by
  intro pins s σ H x vs v us Q I rx rv h
  obtain ⟨l, b, xs, zs, rfl, rfl, hH, hB, hz, q⟩ := h
  cases rx
  obtain ⟨u, rfl, ru⟩ := rv.one
  cases ru
  obtain ⟨z, its, n, r, hl, e⟩ := I.lstM hH
  obtain ⟨its2, r2, ht2, hz2⟩ := I.tuple hB
  have hl2 := r2.length
  obtain ⟨o2, ho2, hc2, n2, hd2⟩ := id ht2
  have hsz : its.toArray.size + its2.toArray.size ≤ sizeLine := by rw [List.size_toArray, List.size_toArray]; omega
  have hlong : ¬ (!its.toArray.isEmpty && Builtin.List.listTooLong (its.toArray.size + its2.toArray.size)) = true := by
    rw [notLongL hsz, Bool.and_false]
    exact Bool.false_ne_true
  refine wpAny_call_entry F.slot_list_extend ⟨_, e, rfl⟩ F.entry_list_extend ?_ (F.args_list_extend_2 _ _)
  show wpAny _ _ (Builtin.List.listExtendWith (.ref l) (.ref b) .none) _ _ s
  unfold Builtin.List.listExtendWith
  refine wpAny_bind (wpAny_typeOf ht2.typeIs ?_)
  rw [if_pos (by simp)]
  refine wpAny_bind (listItems_at ho2 hd2 ?_)
  refine wpAny_bind (listItems_at e rfl ?_)
  rw [if_neg hlong]
  refine wpAny_bind (listUpdate_at e rfl ?_ (by rw [List.size_toArray]; omega) (by rw [Array.size_append]; omega))
  refine wpAny_bind (wpAny_pure (wpAny_pure ⟨_, rfl, ?_⟩))
  refine ⟨.non, _, I.lset (its' := its ++ its2) hH e (by simp) (r.append r2) ?_, rfl, q⟩
  rw [List.length_append]
  omega
end
/-! ### list(reversed(xs)) -/
section
variable {prog : Program} {w : World} {A : Around} {E : Value → Shared → Prop} {s : Shared}
theorem extend_rev {R : Result → Shared → Prop} {it l S : Addr} {items : Array Value} {c0 : Nat} (hh : A.handled = none) (hit : s.heap.IsRevIter it l ((items.size : Int) - 1)) (hl : s.heap.IsList l items) (hne : l ≠ it) (hSi : S ≠ it) (hSl : S ≠ l) (hn : items.size ≤ sizeLine)
    (hS : s.heap.get? S = some { cls := .type "list", data := .seq #[] c0 })
    (hR : ∀ h' tk acc' c', (∀ b o, b ≠ S → b ≠ it → s.heap.get? b = some o → h'.get? b = some o) → h'.get? S = some { cls := .type "list", dict := none, data := .seq acc' c', slots := #[] } → ItemsOf (fun i v => items[items.size - 1 - i]? = some v) acc' items.size → R (.ok (.ret .none)) { s with heap := h', toks := tk }) :
    wpAny (model prog w) A.in1 (Builtin.List.listExtendWith (.ref S) (.ref it) .none) (fun fin s' => match fin with | .done f => R (.ok f) s' | .again c' => c'.quiet = true ∧ codeAny (model prog w) A c' R s') (fun e s' => R (.error e) s') s := by
  have W := (Walks.listRev (prog := prog) (w := w) (A := A.in1) hh it l hne items).toS
  have hSf : S ∉ [it, l] := by simp only [List.mem_cons, List.not_mem_nil, or_false, not_or]; exact ⟨hSi, hSl⟩
  have hT : s.TypeIs (.ref it) "list_reverseiterator" := Heap.IsRevIter.typeIs hit
  have h1 : Builtin.List.listSameRef (.ref S) (.ref it) = false := by simp [Builtin.List.listSameRef, hSi]
  unfold Builtin.List.listExtendWith
  refine wpAny_bind (wpAny_typeOf hT ?_)
  rw [if_neg (by rw [h1]; decide)]
  refine wpAny_bind (wpAny_pyIter_revIter hit ?_)
  refine wpAny_bind (wpAny_holding ?_)
  unfold Builtin.List.listLengthHint
  refine wpAny_bind (wpAny_specialOf hT RT.nolen_lri ?_)
  show wpAny _ A.in1 (specialOf (Value.ref it) (Str.ofString "__length_hint__") >>= _) _ _ _
  refine wpAny_bind (wpAny_specialOf hT RT.hint_lri ?_)
  generalize hid : ("list_reverseiterator.__length_hint__" : String) = id0
  wp_delta
  rw [show splitId id0 = some ("list_reverseiterator", "__length_hint__") from by subst hid; decide +kernel]
  subst hid
  refine wpAny_bind (wpAny_isInstance (b := true) hT (by rw [isSubtype_type]; kernel_rfl) ?_)
  refine wpAny_pure ?_
  rw [if_neg (by decide)]
  have e0 : ((items.size : Nat) : Int) - 1 - ((0 : Nat) : Int) = (items.size : Int) - 1 := by omega
  refine wpAny_pure ⟨plainId_quiet F.plain_extend_loop _, codeAny_extend_loopS W hn S hSf .none items.size 0 _ _ _ rfl (Nat.zero_le _) ⟨Nat.zero_le _, by rw [e0]; exact hit, hl⟩ hS (ItemsOf.nil _) fun s' acc' c' hm hS' hacc => ?_⟩
  rw [Moved.eq_with hm]
  refine hR s'.heap s'.toks acc' c' (fun b o hb hb2 e => hm.heap b o (fun hmem => ?_) e) hS' hacc
  rcases List.mem_cons.mp hmem with e' | hmem
  · exact hb e'
  · exact hb2 (List.mem_singleton.mp hmem)
theorem init_rev {R : Result → Shared → Prop} {it l S : Addr} {items : Array Value} (hh : A.handled = none) (hit : s.heap.IsRevIter it l ((items.size : Int) - 1)) (hl : s.heap.IsList l items) (hne : l ≠ it) (hSi : S ≠ it) (hSl : S ≠ l) (hn : items.size ≤ sizeLine)
    (hS : s.heap.get? S = some { cls := .type "list", data := .seq #[] })
    (hR : ∀ h' tk acc' c', (∀ b o, b ≠ S → b ≠ it → s.heap.get? b = some o → h'.get? b = some o) → h'.get? S = some { cls := .type "list", dict := none, data := .seq acc' c', slots := #[] } → ItemsOf (fun i v => items[items.size - 1 - i]? = some v) acc' items.size → R (.ok (.ret .none)) { s with heap := h', toks := tk }) :
    wpAny (model prog w) A.in1 (Builtin.«list.__init__» ⟨[.ref S, .ref it], []⟩) (fun fin s' => match fin with | .done f => R (.ok f) s' | .again c' => c'.quiet = true ∧ codeAny (model prog w) A c' R s') (fun e s' => R (.error e) s') s := by
  show wpAny _ _ (do let old ← Builtin.List.listItems (.ref S); Builtin.List.listUpdate (.ref S) (fun _ => #[]); letGo old.toList.reverse; Builtin.List.listExtendWith (.ref S) (.ref it) .none) _ _ s
  refine wpAny_bind (listItems_at hS rfl ?_)
  show wpAny _ _ (updateSeq S (fun _ => #[]) >>= fun _ => letGo (#[] : Array Value).toList.reverse >>= fun _ => Builtin.List.listExtendWith (.ref S) (.ref it) .none) _ _ s
  refine wpAny_bind (wpAny_updateSeq hS rfl ?_)
  have hS2 := Heap.get?_update_self (Obj.mapSeq (fun _ => (#[] : Array Value))) hS rfl
  have oth : ∀ b o, b ≠ S → s.heap.get? b = some o → (s.heap.update S (Obj.mapSeq (fun _ => (#[] : Array Value)))).get? b = some o :=
    fun b o hb e => (Heap.get?_update_other _ _ (Ne.symm hb)).trans e
  refine wpAny_bind (wpAny_letGo ?_)
  refine extend_rev hh (hit.at fun o e => oth it o hSi.symm e) (hl.at fun o e => oth l o hSl.symm e) hne hSi hSl hn hS2 fun h' tk acc' c' hk hS' hacc => ?_
  exact hR h' tk acc' c' (fun b o hb hb2 e => hk b o hb hb2 (oth b o hb e)) hS' hacc
theorem call_list_rev {it l : Addr} {items : Array Value} {Q : Value → Shared → Prop} (hh : A.handled = none) (hit : s.heap.IsRevIter it l ((items.size : Int) - 1)) (hl : s.heap.IsList l items) (hne : l ≠ it) (hn : items.size ≤ sizeLine)
    (hQ : ∀ h' tk acc' c', (∀ b o, b ≠ it → s.heap.get? b = some o → h'.get? b = some o) → h'.get? s.heap.objs.size = some { cls := .type "list", dict := none, data := .seq acc' c', slots := #[] } → ItemsOf (fun i v => items[items.size - 1 - i]? = some v) acc' items.size → Q (.ref s.heap.objs.size) { s with heap := h', toks := tk }) :
    wpAny (model prog w) A (call (.type "list") [.ref it]) Q E s := by
  refine callType_codes (Q₁ := fun obj s₁ => obj = .ref s.heap.objs.size ∧ s₁ = { s with heap := s.heap.push { cls := .type "list", data := .seq #[] } }) PySem.F.called_list (PySem.F.typeCall_list_1 _) PySem.F.entry_list_init
    (code_list_new _ ⟨rfl, rfl⟩) fun obj s₁ h₁ => ?_
  obtain ⟨rfl, rfl⟩ := h₁
  obtain ⟨oi, hoi, _⟩ := id hit
  obtain ⟨ol, hol, _⟩ := id hl
  have hS : (s.heap.push { cls := .type "list", data := .seq #[] }).get? s.heap.objs.size = some { cls := .type "list", data := .seq #[] } := Heap.get?_push_size _ rfl
  refine ⟨⟨_, hS, rfl⟩, PySem.F.args_list_init_2 _ _, init_rev (A := A.in1) hh (hit.at fun o e => Heap.get?_push_of_some _ e) (hl.push _) hne (Nat.ne_of_gt (Heap.lt_size hoi)) (Nat.ne_of_gt (Heap.lt_size hol)) hn hS (fun h' tk acc' c' hk hS' hacc => ?_)⟩
  exact ⟨rfl, hQ h' tk acc' c' (fun b o hb e => hk b o (Nat.ne_of_lt (Heap.lt_size e)) hb (Heap.get?_push_of_some _ e)) hS' hacc⟩
end
def tLstRev (K : PySem.W.Frag) (te : TE) : TE := fun σ H Q => te σ H fun v H1 => ∃ (a : Addr) (xs : List V), v = .ref a ∧ SqL K H1 a xs ∧ ∀ q, H1 q = none → Q (.ref q) (upd H1 q (.lst xs.reverse))
section
variable {X : Cx}
theorem pe_listRev {e : Expr} {te : TE} {p p2 pos pos2 : Pos} (hc : X.calm = true) (hg : Gl X "list") (hm : X.mg "list" = none) (hg2 : Gl X "reversed") (hm2 : X.mg "reversed" = none) (he : PE X e te)
    (hs : starEach [e] X.env = (false, eval e X.env) :: starEach [] X.env := by rfl)
    (hs2 : starEach [.Call (.Name "reversed" p2) [e] [] pos2] X.env = (false, eval (.Call (.Name "reversed" p2) [e] [] pos2) X.env) :: starEach [] X.env := by rfl) :
    PE X (.Call (.Name "list" p) [.Call (.Name "reversed" p2) [e] [] pos2] [] pos) (tLstRev X.K te) := by
  refine ⟨fun pins s σ H Q I h => ?_⟩
  refine Call_ (ld_blt I hg hm boot_list (PyProof.Rows.callWith_type1 (args_cons (Call_ (ld_blt I hg2 hm2 PyProof.Rows.boot_reversed (PyProof.Rows.callWith_type1 (args_cons (thn (he.run pins s σ H _ I h) fun u s1 ⟨v, H1, I1, r1, q1⟩ => args_nil ?_) hs) hs rfl))) hs2) hs2 rfl))
  obtain ⟨a, xs, ev, hq, q⟩ := q1
  subst ev
  obtain rfl : u = Value.ref a := r1
  obtain ⟨its, rv, p', hz⟩ := I1.list hq
  refine call_reversed_list p'.isList (args_nil ?_)
  have k0 : ∀ b o, s1.heap.get? b = some o → (s1.heap.push (revObj a ((its.toArray.size : Int) - 1))).get? b = some o := fun b o e => Heap.get?_push_of_some _ e
  have I2 : Inv X pins σ H1 { s1 with heap := s1.heap.push (revObj a ((its.toArray.size : Int) - 1)) } := I1.kept (t' := s1.toks) k0
  obtain ⟨f0, f1, f2, f3, f4, f5⟩ := I1.fpOk (H' := H1) (b := s1.heap.objs.size) (Nat.le_refl _) (I1.hok.fresh (Nat.le_refl _))
  have hl := p'.isList
  obtain ⟨ol, hol, _⟩ := id hl
  have hne : a ≠ s1.heap.objs.size := Nat.ne_of_lt (Heap.lt_size hol)
  have hn : its.toArray.size ≤ sizeLine := by rw [List.size_toArray, ← rv.length]; exact hz
  refine call_list_rev (s := { s1 with heap := s1.heap.push (revObj a ((its.toArray.size : Int) - 1)) }) (I1.ok.hd hc) ⟨_, Heap.get?_push_size _ rfl, rfl, rfl⟩ (hl.push _) hne hn fun h' tk acc c hk hS hi => ?_
  have k1 : ∀ b o, s1.heap.get? b = some o → h'.get? b = some o := fun b o e => hk b o (Nat.ne_of_lt (Heap.lt_size e)) (k0 b o e)
  have hsz : s1.heap.objs.size ≤ (s1.heap.push (revObj a ((its.toArray.size : Int) - 1))).objs.size := by rw [size_push']; omega
  refine ⟨.ref _, upd H1 _ (.lst xs.reverse), I1.laid (t' := tk) k1 hsz (show ObjOk X.prog X.w _ _ _ (.lst xs.reverse) from ⟨by rw [List.length_reverse]; exact hz, acc.toList, c, RT.vals_rev rv hi, ?_⟩), rfl, q _ (I1.hok.fresh hsz)⟩
  rw [Array.toArray_toList]
  exact hS
end
end Sl
/-! # Comprehensions and loops, told once -/
namespace Sl
open PySem PySem.Spec PyProof.Rows L2
open Evl (Ex Ex.refl Ex.trans Ex.new Ex.mut fresh_back sz_of sz_lt ex_l sq_of RetL given given_yes given_no given_len)
section
variable {J : It} {n : Nat} {G : Hp → Prop} {Y : Nat → Hp → V → Hp → Prop}
/-- [e for x in .. if t], e and t values -/
theorem lc_fil (w : Walk J n G Y) {g : TG} {tt : TT} {te : TE} {vs : List Nat} {σ : L2.St} {H1 : Hp} {D : Addr} {Qd : Hp → Prop} (f : Nat → Bool) (v : Nat → V) (hD : H1 D = none) (hn : n ≤ 50000) (hG : ∀ H, Ex H1 H → G H)
    (hs : ∀ i x H H', i < n → Ex H1 H → Y i H x H' → ∀ (N : Hp → Prop) (M : V → Hp → Prop), (f i = false → ∀ H3, Ex H H3 → N H3) → (f i = true → ∀ H4, Ex H H4 → M (v i) H4) →
      g x (wipe σ vs) H' fun σ2 H2 => wipe σ2 vs = wipe σ vs ∧ tt σ2 H2 fun b H3 => if b = true then te σ2 H3 M else N H3)
    (hd : ∀ H, Ex H1 H → H D = some (.lst (given n f v)) → Qd H) :
    ∃ W : Nat → Nat → Hp → Prop, (∃ m, W 0 m (upd H1 D (.lst []))) ∧ ∀ i m H, W i m H →
      (J.stop i H ∧ Qd H) ∨ (J.go i H ∧ ∃ Nx : Hp → Prop, (∀ H', Nx H' → ∃ m', m' < m ∧ W (i + 1) m' H') ∧ ∀ x H', J.yld i H x H' → g x (wipe σ vs) H' fun σ2 H2 => wipe σ2 vs = wipe σ vs ∧ tt σ2 H2 fun b H3 =>
        if b = true then te σ2 H3 fun y H4 => ∃ acc, H4 D = some (.lst acc) ∧ acc.length < sizeLine ∧ Nx (upd H4 D (.lst (acc ++ [y]))) else Nx H3) := by
  refine lc_it w (fun i H => Ex H1 H ∧ H D = some (.lst (given i f v))) ⟨Ex.new hD, upd_same⟩ (fun i H _ p => hG H p.1) (fun i x H H' hi p y => ?_) (fun H p => hd H p.1 p.2)
  refine hs i x H H' hi p.1 y _ _ (fun hf H3 e3 => ⟨p.1.trans e3, ?_⟩) (fun hf H4 e4 => ⟨given i f v, e4 D _ p.2, sz_lt (by have := given_len i f v; omega), Ex.mut (p.1.trans e4) hD, ?_⟩)
  · rw [given_no hf]
    exact e3 D _ p.2
  · rw [given_yes hf]
    exact upd_same
/-- [e for x in ..], e a value -/
theorem lc_map (w : Walk J n G Y) {g : TG} {te : TE} {vs : List Nat} {σ : L2.St} {H1 : Hp} {D : Addr} {Qd : Hp → Prop} (ys : List V) (hl : ys.length = n) (hD : H1 D = none) (hn : n ≤ 50000) (hG : ∀ H, Ex H1 H → G H)
    (hs : ∀ i x H H' z, i < n → ys[i]? = some z → Ex H1 H → Y i H x H' → ∀ (M : V → Hp → Prop), (∀ H4, Ex H H4 → M z H4) → g x (wipe σ vs) H' fun σ2 H2 => wipe σ2 vs = wipe σ vs ∧ te σ2 H2 M)
    (hd : ∀ H, Ex H1 H → H D = some (.lst ys) → Qd H) :
    ∃ W : Nat → Nat → Hp → Prop, (∃ m, W 0 m (upd H1 D (.lst []))) ∧ ∀ i m H, W i m H →
      (J.stop i H ∧ Qd H) ∨ (J.go i H ∧ ∃ Nx : Hp → Prop, (∀ H', Nx H' → ∃ m', m' < m ∧ W (i + 1) m' H') ∧ ∀ x H', J.yld i H x H' → g x (wipe σ vs) H' fun σ2 H2 => wipe σ2 vs = wipe σ vs ∧ tYes σ2 H2 fun b H3 =>
        if b = true then te σ2 H3 fun y H4 => ∃ acc, H4 D = some (.lst acc) ∧ acc.length < sizeLine ∧ Nx (upd H4 D (.lst (acc ++ [y]))) else Nx H3) := by
  refine lc_it w (fun i H => Ex H1 H ∧ H D = some (.lst (ys.take i))) ⟨Ex.new hD, upd_same⟩ (fun i H _ p => hG H p.1) (fun i x H H' hi p y => ?_) (fun H p => hd H p.1 (by rw [p.2, ← hl, List.take_length]))
  have hz : ys[i]? = some ys[i] := List.getElem?_eq_getElem (by omega)
  refine hs i x H H' ys[i] hi hz p.1 y _ (fun H4 e4 => ⟨ys.take i, e4 D _ p.2, sz_lt (by rw [List.length_take]; omega), Ex.mut (p.1.trans e4) hD, ?_⟩)
  rw [List.take_add_one, hz]
  exact upd_same
/-- [e for x in ..], e a new object -/
theorem lc_new (w : Walk J n G Y) {g : TG} {te : TE} {vs : List Nat} {σ : L2.St} {H1 : Hp} {D : Addr} {Qd : Hp → Prop} (o : Nat → HO) (hD : H1 D = none) (hn : n ≤ 50000) (hG : ∀ H, Ex H1 H → G H)
    (hs : ∀ i x H H', i < n → Ex H1 H → Y i H x H' → ∀ (M : V → Hp → Prop), (∀ p H4, H p = none → Ex H H4 → H4 p = some (o i) → M (.ref p) H4) → g x (wipe σ vs) H' fun σ2 H2 => wipe σ2 vs = wipe σ vs ∧ te σ2 H2 M)
    (hd : ∀ H (as : List Addr), Ex H1 H → H D = some (.lst (as.map V.ref)) → as.length = n → (∀ i a, as[i]? = some a → H1 a = none ∧ H a = some (o i)) → Qd H) :
    ∃ W : Nat → Nat → Hp → Prop, (∃ m, W 0 m (upd H1 D (.lst []))) ∧ ∀ i m H, W i m H →
      (J.stop i H ∧ Qd H) ∨ (J.go i H ∧ ∃ Nx : Hp → Prop, (∀ H', Nx H' → ∃ m', m' < m ∧ W (i + 1) m' H') ∧ ∀ x H', J.yld i H x H' → g x (wipe σ vs) H' fun σ2 H2 => wipe σ2 vs = wipe σ vs ∧ tYes σ2 H2 fun b H3 =>
        if b = true then te σ2 H3 fun y H4 => ∃ acc, H4 D = some (.lst acc) ∧ acc.length < sizeLine ∧ Nx (upd H4 D (.lst (acc ++ [y]))) else Nx H3) := by
  refine lc_it w (fun i H => Ex H1 H ∧ ∃ as : List Addr, H D = some (.lst (as.map V.ref)) ∧ as.length = i ∧ ∀ j a, as[j]? = some a → a ≠ D ∧ H1 a = none ∧ H a = some (o j)) ⟨Ex.new hD, [], upd_same, rfl, fun j a h => by simp at h⟩ (fun i H _ p => hG H p.1) (fun i x H H' hi p y => ?_)
    (fun H ⟨p, as, h1, h2, h3⟩ => hd H as p h1 h2 fun i a h => (h3 i a h).2)
  obtain ⟨e1, as, h1, h2, h3⟩ := p
  refine hs i x H H' hi e1 y _ (fun p H4 hp e4 ho => ?_)
  have hpD : p ≠ D := fun z => by rw [z, h1] at hp; cases hp
  refine ⟨as.map V.ref, e4 D _ h1, sz_lt (by rw [List.length_map]; omega), Ex.mut (e1.trans e4) hD, as ++ [p], ?_, by rw [List.length_append, h2]; rfl, fun j a h => ?_⟩
  · rw [List.map_append]
    exact upd_same
  · rw [List.getElem?_append] at h
    by_cases hj : j < as.length
    · rw [if_pos hj] at h
      obtain ⟨q1, q2, q3⟩ := h3 j a h
      exact ⟨q1, q2, by rw [upd_ne q1]; exact e4 a _ q3⟩
    · rw [if_neg hj] at h
      have e0 : j = i := by
        have := (List.getElem?_eq_some_iff.mp h).1
        simp at this
        omega
      subst e0
      rw [h2, Nat.sub_self] at h
      have : p = a := by simpa using h
      subst this
      exact ⟨hpD, fresh_back e1 hp, by rw [upd_ne hpD]; exact ho⟩
end
/-! ### what lies where -/
abbrev LI (H : Hp) (p : Addr) (ns : List Int) : Prop := H p = some (.lst (ns.map V.int))
def RowsAt (H : Hp) (as : List Addr) (B : List (List Int)) : Prop := as.length = B.length ∧ ∀ (i : Nat) (a : Addr), as[i]? = some a → ∃ row : List Int, B[(i : Nat)]? = some row ∧ LI H a row
def Rws (H : Hp) (b : Addr) (B : List (List Int)) : Prop := ∃ as : List Addr, H b = some (.lst (as.map V.ref)) ∧ RowsAt H as B
theorem RowsAt.mono {H H' : Hp} {as : List Addr} {B : List (List Int)} (e : Ex H H') (h : RowsAt H as B) : RowsAt H' as B := ⟨h.1, fun i a z => let ⟨row, h1, h2⟩ := h.2 i a z; ⟨row, h1, e _ _ h2⟩⟩
theorem Rws.mono {H H' : Hp} {b : Addr} {B : List (List Int)} (e : Ex H H') (h : Rws H b B) : Rws H' b B := let ⟨as, h1, h2⟩ := h; ⟨as, e _ _ h1, h2.mono e⟩
theorem at_int {ns : List Int} {i : Nat} {x : V} (h : (ns.map V.int)[i]? = some x) : ∃ z, ns[i]? = some z ∧ x = .int z := by
  rw [List.getElem?_map] at h
  cases e : ns[i]? with
  | none => rw [e] at h; cases h
  | some z => rw [e] at h; exact ⟨z, rfl, (Option.some.inj h).symm⟩
theorem at_ref {as : List Addr} {i : Nat} {x : V} (h : (as.map V.ref)[i]? = some x) : ∃ a, as[i]? = some a ∧ x = .ref a := by
  rw [List.getElem?_map] at h
  cases e : as[i]? with
  | none => rw [e] at h; cases h
  | some z => rw [e] at h; exact ⟨z, rfl, (Option.some.inj h).symm⟩
theorem take_more {α : Type} {l : List α} {i : Nat} {x : α} (h : l[i]? = some x) : l.take (i + 1) = l.take i ++ [x] := by
  rw [List.take_add_one, h]
  rfl
theorem int_at {ns : List Int} {j : Nat} (h : j < ns.length) : atI (ns.map V.int) (j : Int) = some (.int (ns.getD j 0)) := by
  refine atI_nat ?_
  rw [List.getElem?_map, List.getElem?_eq_getElem h, List.getD_eq_getElem?_getD, List.getElem?_eq_getElem h]
  rfl
theorem if_true_of {c : Bool} {A B : Prop} (hc : c = true) (h : A) : if c = true then A else B := by
  rw [if_pos hc]
  exact h
theorem if_false_of {c : Bool} {A B : Prop} (hc : c = false) (h : B) : if c = true then A else B := by
  rw [hc, if_neg Bool.false_ne_true]
  exact h
/-! ### bits -/
theorem bit_val (m j : Nat) : Builtin.bitAnd ((m:Int) / 2 ^ ((j:Int)).toNat) 1 = ((m / 2 ^ j % 2 : Nat) : Int) := by
  have h : ((m:Int) / 2 ^ ((j:Int)).toNat) = ((m / 2 ^ j : Nat) : Int) := by
    rw [Int.toNat_natCast, Int.natCast_ediv, Int.natCast_pow]; rfl
  rw [h, bitAnd_pp (Int.natCast_nonneg _) (by omega), Int.toNat_natCast]
  show ((m / 2 ^ j &&& 1 : Nat) : Int) = _
  rw [Nat.and_one_is_mod]
theorem bit_test (m j : Nat) : (Builtin.bitAnd ((m:Int) / 2 ^ ((j:Int)).toNat) 1 != 0) = m.testBit j := by
  rw [bit_val, Nat.testBit_eq_decide_div_mod_eq]
  have : m / 2 ^ j % 2 = 0 ∨ m / 2 ^ j % 2 = 1 := by omega
  rcases this with h | h <;> simp [h]
theorem shl_nat (j : Nat) : (1 : Int) * 2 ^ ((j : Int)).toNat = ((2 ^ j : Nat) : Int) := by
  rw [Int.toNat_natCast, Int.one_mul, Int.natCast_pow]; rfl
theorem sub_bit {m j : Nat} (h : m.testBit j = true) : (m : Int) - ((2 ^ j : Nat) : Int) = ((m - 2 ^ j : Nat) : Int) := by
  have := Nat.ge_two_pow_of_testBit h
  omega
def PairsAt (H : Hp) (as : List Addr) (cs : List (Int × Int)) : Prop := as.length = cs.length ∧ ∀ (i : Nat) (a : Addr), as[i]? = some a → ∃ c : Int × Int, cs[i]? = some c ∧ H a = some (.tup [.int c.1, .int c.2])
theorem PairsAt.mono {H H' : Hp} {as : List Addr} {cs : List (Int × Int)} (e : Ex H H') (h : PairsAt H as cs) : PairsAt H' as cs := ⟨h.1, fun i a z => let ⟨c, h1, h2⟩ := h.2 i a z; ⟨c, h1, e _ _ h2⟩⟩
theorem PairsAt.snoc {H H' : Hp} {as : List Addr} {cs : List (Int × Int)} {p : Addr} {c : Int × Int} (h : PairsAt H as cs) (k : ∀ a o, H a = some o → (∃ x, o = .tup x) → H' a = some o) (hp : H' p = some (.tup [.int c.1, .int c.2])) : PairsAt H' (as ++ [p]) (cs ++ [c]) := by
  refine ⟨by rw [List.length_append, List.length_append, h.1]; rfl, fun i a z => ?_⟩
  rw [List.getElem?_append] at z
  by_cases hi : i < as.length
  · rw [if_pos hi] at z
    obtain ⟨c', h1, h2⟩ := h.2 i a z
    refine ⟨c', ?_, k _ _ h2 ⟨_, rfl⟩⟩
    rw [List.getElem?_append, if_pos (by rw [← h.1]; exact hi)]
    exact h1
  · rw [if_neg hi] at z
    have hi2 : i - as.length = 0 := by
      have := (List.getElem?_eq_some_iff.mp z).1
      simp at this
      omega
    rw [hi2] at z
    have : p = a := by simpa using z
    subst this
    refine ⟨c, ?_, hp⟩
    rw [List.getElem?_append, if_neg (by rw [← h.1]; exact hi), ← h.1, hi2]
    rfl
theorem RowsAt.upd {H : Hp} {as : List Addr} {B : List (List Int)} {t : Addr} {o : HO} (h : RowsAt H as B) (ht : ∀ (i : Nat) (a : Addr), as[i]? = some a → a ≠ t) : RowsAt (upd H t o) as B :=
  ⟨h.1, fun i a z => let ⟨row, h1, h2⟩ := h.2 i a z; ⟨row, h1, by rw [LI, upd_ne (ht i a z)]; exact h2⟩⟩
theorem at_snoc {α : Type} {l : List α} {x y : α} {i : Nat} (h : (l ++ [x])[i]? = some y) : (l[i]? = some y ∧ i < l.length) ∨ (i = l.length ∧ y = x) := by
  rw [List.getElem?_append] at h
  by_cases hi : i < l.length
  · rw [if_pos hi] at h
    exact .inl ⟨h, hi⟩
  · rw [if_neg hi] at h
    have h2 := (List.getElem?_eq_some_iff.mp h).1
    have h3 : i = l.length := by simp at h2; omega
    subst h3
    rw [Nat.sub_self] at h
    exact .inr ⟨rfl, by simpa using h.symm⟩
theorem RowsAt.snoc {H : Hp} {as : List Addr} {B : List (List Int)} {p : Addr} {row : List Int} (h : RowsAt H as B) (hp : LI H p row) : RowsAt H (as ++ [p]) (B ++ [row]) := by
  refine ⟨by rw [List.length_append, List.length_append, h.1]; rfl, fun i a z => ?_⟩
  rcases at_snoc z with ⟨z, hi⟩ | ⟨rfl, rfl⟩
  · obtain ⟨r, h1, h2⟩ := h.2 i a z
    exact ⟨r, by rw [List.getElem?_append, if_pos (by rw [← h.1]; exact hi)]; exact h1, h2⟩
  · exact ⟨row, by rw [List.getElem?_append, if_neg (by rw [← h.1]; omega), ← h.1, Nat.sub_self]; rfl, hp⟩
theorem RowsAt.rev {H : Hp} {as : List Addr} {B : List (List Int)} (h : RowsAt H as B) : RowsAt H as.reverse B.reverse := by
  refine ⟨by rw [List.length_reverse, List.length_reverse, h.1], fun i a z => ?_⟩
  have hi : i < as.length := by
    have := (List.getElem?_eq_some_iff.mp z).1
    rwa [List.length_reverse] at this
  rw [List.getElem?_reverse hi] at z
  rw [List.getElem?_reverse (by rw [← h.1]; exact hi), ← h.1]
  exact h.2 _ a z
theorem RowsAt.at {H : Hp} {as : List Addr} {B : List (List Int)} (h : RowsAt H as B) {i : Nat} {row : List Int} (hr : B[i]? = some row) : ∃ a, as[i]? = some a ∧ LI H a row := by
  have hi : i < as.length := by rw [h.1]; exact (List.getElem?_eq_some_iff.mp hr).1
  obtain ⟨r, h1, h2⟩ := h.2 i as[i] (List.getElem?_eq_getElem hi)
  rw [hr] at h1
  cases h1
  exact ⟨_, List.getElem?_eq_getElem hi, h2⟩
theorem atI_neg1 {α : Type} {xs : List α} (h : 0 < xs.length) : atI xs (-1) = xs[xs.length - 1]? := by
  unfold atI ixN
  rw [if_neg (by decide), if_pos (by omega)]
  show xs[((-1 : Int) + (xs.length : Int)).toNat]? = _
  congr 1
  omega
theorem sz1 {n : Nat} (h : n ≤ 1000) : n ≤ sizeLine := sz_of (by omega)
theorem szl {n : Nat} (h : n ≤ 1000) : n < sizeLine := sz_lt (by omega)
theorem sz_1 : 1 ≤ sizeLine := by decide
theorem sz_2 : 2 ≤ sizeLine := by decide
theorem rows_new {H : Hp} {as : List Addr} {B : List (List Int)} (hl : as.length = B.length) (h : ∀ (i : Nat) (a : Addr), as[i]? = some a → H a = some (.lst ((B.getD i []).map V.int))) : RowsAt H as B := by
  refine ⟨hl, fun i a z => ?_⟩
  have hi : i < B.length := by rw [← hl]; exact (List.getElem?_eq_some_iff.mp z).1
  refine ⟨B[i], List.getElem?_eq_getElem hi, ?_⟩
  have := h i a z
  rw [List.getD_eq_getElem?_getD, List.getElem?_eq_getElem hi] at this
  exact this
theorem getD_map_row {B : List (List Int)} {f : List Int → List Int} {i : Nat} {row : List Int} (h : B[i]? = some row) : (B.map f).getD i [] = f row := by
  rw [List.getD_eq_getElem?_getD, List.getElem?_map, h]
  rfl
theorem erase_map {α β : Type} (f : α → β) (l : List α) (i : Nat) : (l.map f).eraseIdx i = (l.eraseIdx i).map f := by
  rw [List.eraseIdx_eq_take_drop_succ, List.eraseIdx_eq_take_drop_succ, List.map_append, List.map_take, List.map_drop]
theorem range_take (n i : Nat) (h : i ≤ n) : (List.range n).take i = List.range i := by
  rw [List.take_range, Nat.min_eq_left h]
end Sl
/-! # sorted(range(lo, hi), key=f), f a def of the program -/
namespace Sl
open PySem PySem.Spec PyProof.Rows L2
section
variable {prog : Program} {w : World} {A : Around} {E : Value → Shared → Prop} {s : Shared} {a kS : Addr} {vs : List Value} {kz : List Int} {keys : Array Value} {ek ea : Nat} {Fn : PySem.Fin → Shared → Prop}
/-- what the end of a sort leaves: all but the two objects stands; the list holds the order -/
def SrtEnd (s : Shared) (a kS : Addr) (kz : List Int) (vs : List Value) (Fn : PySem.Fin → Shared → Prop) : Prop :=
  ∀ (h1 : Heap) (tk : Nat) (out : Array Value) (c : Nat), (∀ b o, b ≠ kS → b ≠ a → s.heap.get? b = some o → h1.get? b = some o) → h1.get? a = some (seqObj "list" out c) → KskOutSt false kz vs out.toList → Fn (.done (.ret .none)) { s with heap := h1, toks := tk }
theorem srt_tail {st : SortSt} (hK : s.heap.get? kS = some (seqObj "list" keys ek)) (hA : s.heap.get? a = some (seqObj "list" #[] ea)) (hne : kS ≠ a) (hi : IntsAre keys.toList kz) (hl : kz.length = vs.length) (hz : vs.length ≤ 1000)
    (hp : (arrOf st).Perm (keys.zip vs.toArray)) (hs : SortedTo (arrOf st) (arrOf st).size) (hf : failedOf st = none) (hst : Stable PyProof.Rows.intKind (arrOf st) (keys.zip vs.toArray)) (fin : SrtEnd s a kS kz vs Fn) :
    wpAny (model prog w) A (ksk_tail a false ea (.ref kS) st) Fn E s := by
  have n1 : keys.size = vs.length := by
    have h1 := hi.length
    rw [Array.length_toList] at h1
    omega
  have n2 : (arrOf st).size = vs.length := by rw [hp.size_eq, Array.size_zip, n1, List.size_toArray, Nat.min_self]
  have u1 := Heap.SameBut.update s.heap kS (Obj.mapSeq fun _ => (#[] : Array Value))
  have hA1 := (u1.2 a hne.symm).trans hA
  have u2 := Heap.SameBut.update (s.heap.update kS (Obj.mapSeq fun _ => (#[] : Array Value))) a (Obj.mapSeq fun _ => (arrOf st).map (·.2))
  have hA2 := get?_update_seq hA1 fun _ => (arrOf st).map (·.2)
  unfold ksk_tail
  dsimp only
  refine wpAny_bind (listUpdate_at hK rfl ?_ (by rw [n1, sizeLine_eq]; omega) (Nat.zero_le _))
  refine wpAny_bind (wpAny_letGo ?_)
  refine wpAny_bind (seqEpoch_at hA1 rfl ?_)
  refine wpAny_bind (listUpdate_at hA1 rfl ?_ (Nat.zero_le _) (by show ((arrOf st).map (·.2)).size ≤ _; rw [Array.size_map, n2, sizeLine_eq]; omega))
  rw [hf]
  simp only [bne_self_eq_false, Bool.false_eq_true, if_false]
  refine wpAny_pure (fin _ _ ((arrOf st).map (·.2)) _ (fun b o hb1 hb2 e => (u2.2 b hb2).trans ((u1.2 b hb1).trans e)) hA2 ?_)
  have := ksk_outSt (b := false) hi hp hs (by rw [if_neg Bool.false_ne_true]; exact hst)
  rw [if_neg Bool.false_ne_true] at this
  exact this
theorem srt_end (hK : s.heap.get? kS = some (seqObj "list" keys ek)) (hA : s.heap.get? a = some (seqObj "list" #[] ea)) (hne : kS ≠ a) (hi : IntsAre keys.toList kz) (hl : kz.length = vs.length) (hz : vs.length ≤ 1000) (fin : SrtEnd s a kS kz vs Fn) :
    wpAny (model prog w) A (ksk_end a false vs.toArray ea (.ref kS) keys) Fn E s := by
  have n1 : keys.size = vs.length := by
    have h1 := hi.length
    rw [Array.length_toList] at h1
    omega
  have n2 : (keys.zip vs.toArray).size = vs.length := by rw [Array.size_zip, n1, List.size_toArray, Nat.min_self]
  unfold ksk_end
  dsimp only
  rw [if_neg Bool.false_ne_true, if_neg Bool.false_ne_true]
  by_cases h2 : vs.toArray.size < 2
  · rw [if_pos h2, if_pos h2]
    refine wpAny_bind (wpAny_pure ?_)
    rw [StateT.run_pure]
    refine wpAny_bind (wpAny_pure ?_)
    dsimp only
    refine srt_tail (st := SortSt.mk' general' (keys.zip vs.toArray) #[] 7 none) hK hA hne hi hl hz (Array.Perm.refl _) ?_ rfl (Stable.refl _) fin
    intro i j hij hj
    have hj2 : j < (keys.zip vs.toArray).size := hj
    rw [n2] at hj2
    rw [List.size_toArray] at h2
    have : i = j := by omega
    subst this
    exact Int.le_refl _
  · rw [if_neg h2, if_neg h2]
    rw [List.size_toArray] at h2
    rw [ksk_kind hi (by rw [n1]; omega)]
    refine wpAny_bind (wpAny_pure ?_)
    refine wpAny_bind (wpAny_mono (wpS_sortRunsSt (κ := PyProof.Rows.intKind) (a₀ := keys.zip vs.toArray) (st := SortSt.mk' oneType' (keys.zip vs.toArray) #[] 7 none)
      (Q := fun _ st1 => (arrOf st1).Perm (keys.zip vs.toArray) ∧ failedOf st1 = none ∧ SortedTo (arrOf st1) (arrOf st1).size ∧ Stable PyProof.Rows.intKind (arrOf st1) (keys.zip vs.toArray))
      intKind_oneLt (ksk_keysOfInt (ksk_intKeys hi)) ⟨Array.Perm.refl _, rfl, rfl⟩ rfl (Stable.refl _) (by rw [n2]; omega)
      fun st1 q1 q2 q3 q4 => ⟨q1, q2, by rw [q1.size_eq]; exact sortedTo_of_int q3, q4⟩) ?_ fun _ _ e => e)
    rintro ⟨⟨⟩, st1⟩ s1 ⟨rfl, q1, q2, q3, q4⟩
    dsimp only
    exact srt_tail hK hA hne hi hl hz q1 q3 q2 q4 fin
end
section
variable {X : Cx} {pins : List (Addr × Obj)} {σ : L2.St} {H : Hp} {s : Shared}
/-- the callee runs, at another place of the machine -/
theorem run_fn2 {k : Nat} {f : Addr} {fd : FuncData} {ps : List Str} {sp : Sp} {A2 : Around} {Q : VK} {us : List Value} {vs : List V} (F : FnOk X.prog X.w X.K X.mg X.base CX0 k f fd ps sp) (hr : Room k A2) (hb : Binds X.K fd ps []) (hfr : A2.frames = X.A.frames)
    (I : Inv X pins σ H s) (r : Vals vs us) (h : sp vs H Q E0) : wpAny (model X.prog X.w) A2 (call (.ref f) us) (EP X pins σ Q) (fun _ _ => False) s := by
  have hl : (us ++ []).length = ps.length := by rw [List.append_nil, ← r.length]; exact F.len _ _ _ _ h
  have r2 : Vals vs (us ++ []) := by rw [List.append_nil]; exact r
  have e0 := I.env0
  refine wpAny_call (codeAny_mono (F.run A2 X.stack s H ⟨us, []⟩ (us ++ []) vs Q E0 hr ⟨hfr.trans e0.frames, e0.mod, e0.bs, e0.bsz, e0.funs, e0.frf, e0.hok, e0.bare⟩ (hb s us I.kIn hl) r2 h) fun r s' hq => ?_)
  cases r with
  | error e => exact (show False from hq)
  | ok fl =>
    cases fl with
    | ret u => exact I.after hq
    | next => exact False.elim hq
    | brk => exact False.elim hq
    | cont => exact False.elim hq
/-- the tracked list that a sort leaves -/
theorem srt_rest {A2 : Around} {k : Nat} {f : Addr} {fd : FuncData} {ps : List Str} {sp : Sp} {ns : List Int} {vs : List Value} {a kS : Addr} {ea : Nat} {g : Int → Int} {Fn : PySem.Fin → Shared → Prop} {E : Value → Shared → Prop}
    (F : FnOk X.prog X.w X.K X.mg X.base CX0 k f fd ps sp) (hr : Room k A2) (hb : Binds X.K fd ps []) (hfr : A2.frames = X.A.frames)
    (hsp : ∀ n, n ∈ ns → ∀ Q : VK, Q (.int (g n)) H → sp [.int n] H Q E0) (I : Inv X pins σ H s) (hv : IntsAre vs ns) (hz : vs.length ≤ 1000) (fa : FpOk X pins H a) (fk : FpOk X pins H kS) (hne : kS ≠ a)
    (hK : s.heap.get? kS = some (seqObj "list" #[] 0)) (hA : s.heap.get? a = some (seqObj "list" #[] ea))
    (fin : ∀ (h1 : Heap) (tk : Nat) (s1 : Shared) (out : Array Value) (c : Nat), Inv X pins σ H s1 → (∀ b o, b ≠ kS → b ≠ a → s1.heap.get? b = some o → h1.get? b = some o) → h1.get? a = some (seqObj "list" out c) → KskOutSt false (ns.map g) vs out.toList → (∃ o, s1.heap.get? kS = some o) →
      Fn (.done (.ret .none)) { s1 with heap := h1, toks := tk }) :
    wpAny (model X.prog X.w) A2 (ksk_rest a (.ref f) false vs.toArray ea (.ref kS)) Fn E s := by
  have hlen := hv.length
  unfold ksk_rest
  refine wpAny_bind (wpAny_rule ?_)
  first
    | rw [List.forIn_toArray]
    | (rw [← Array.forIn_toList]; simp only [List.toList_toArray])
    | rw [← Array.forIn_toList]
  refine wpAny_bind (ksk_fold (fun i s1 => ∃ kA e, Inv X pins σ H s1 ∧ s1.heap.get? kS = some (seqObj "list" kA e) ∧ s1.heap.get? a = some (seqObj "list" #[] ea) ∧ IntsAre kA.toList ((ns.map g).take i)) vs 0 s
    ⟨#[], 0, I, hK, hA, by simpa using IntsAre.nil⟩ ?step ?done)
  case step =>
    rintro j x s1 hx ⟨kA, e, I1, hK1, hA1, hk⟩
    simp only [Nat.zero_add] at hk ⊢
    have hj : j < vs.length := (List.getElem?_eq_some_iff.mp hx).1
    obtain ⟨n, hn⟩ : ∃ n, ns[j]? = some n := ⟨_, List.getElem?_eq_getElem (by omega)⟩
    obtain ⟨t, ht⟩ := hv.get j n hn
    rw [hx] at ht
    cases ht
    have hkl : kA.size ≤ vs.length := by
      have h1 := hk.length
      rw [Array.length_toList, List.length_take, List.length_map] at h1
      omega
    have hfp : ∀ b ∈ [kS, a], FpOk X pins H b := fun b hb => by
      rcases List.mem_cons.mp hb with rfl | hb
      · exact fk
      · rw [List.mem_singleton.mp hb]; exact fa
    have hoo : ∀ b ∈ [kS, a], ∃ o, s1.heap.get? b = some o ∧ ∀ v, o.data ≠ .cell v := fun b hb => by
      rcases List.mem_cons.mp hb with rfl | hb
      · exact ⟨_, hK1, fun v z => by cases z⟩
      · rw [List.mem_singleton.mp hb]; exact ⟨_, hA1, fun v z => by cases z⟩
    have I2 := I1.pinned hfp hoo
    refine wpAny_bind (wpAny_attempt (wpAny_mono (run_fn2 (Q := fun z H2 => z = .int (g n) ∧ H2 = H) F hr hb hfr I2 (.cons (show RelV (.int n) (.int n t) from ⟨t, rfl⟩) .nil) (hsp n (List.mem_of_getElem? hn) _ ⟨rfl, rfl⟩)) (fun v s2 he => ?_) fun _ _ hF => hF.elim))
    obtain ⟨z, H2, I3, rz, rfl, rfl⟩ := he
    obtain ⟨t2, rfl⟩ := rz
    have hK2 := (I3.pin _ (List.mem_append_right _ (List.mem_append_right _ (mem_pinsAt (by simp) hK1)))).1
    have hA2 := (I3.pin _ (List.mem_append_right _ (List.mem_append_right _ (mem_pinsAt (by simp) hA1)))).1
    have I4 := I3.unpinned
    dsimp only
    have u1 := Heap.SameBut.update s2.heap kS (Obj.mapSeq (·.push (.int (g n) t2)))
    have hK3 := get?_update_seq hK2 (·.push (Value.int (g n) t2))
    have e1 : (ns.map g).take (j + 1) = (ns.map g).take j ++ [g n] := take_more (by rw [List.getElem?_map, hn]; rfl)
    have e2 : (kA.push (Value.int (g n) t2)).toList = kA.toList ++ [Value.int (g n) t2] := by simp
    refine wpAny_bind (listUpdate_at hK2 rfl ?_ (by rw [sizeLine_eq]; omega) (Nat.le_trans (Nat.le_of_eq (Array.size_push ..)) (by rw [sizeLine_eq]; omega)))
    obtain ⟨f0, f1, f2, f3, f4, f5⟩ := fk
    refine wpAny_pure ⟨rfl, kA.push (.int (g n) t2), _, I4.turned (t' := s2.toks) (fun b o hb e => (u1.2 b hb).trans e) f0 f1 f3 f4 f5, hK3, (u1.2 a hne.symm).trans hA2, by rw [e1, e2]; exact ksk_snoc hk⟩
  case done =>
    rintro s1 ⟨kA, e, I1, hK1, hA1, hk⟩
    have hk2 : IntsAre kA.toList (ns.map g) := by
      have e3 : (ns.map g).take (0 + vs.length) = ns.map g := List.take_of_length_le (by rw [List.length_map]; omega)
      rw [e3] at hk
      exact hk
    refine wpAny_bind (listItems_at hK1 rfl ?_)
    exact srt_end hK1 hA1 hne hk2 (by rw [List.length_map, hlen]) hz fun h1 tk out c q1 q2 q3 => fin h1 tk s1 out c I1 q1 q2 q3 ⟨_, hK1⟩
end
section
variable {prog : Program} {w : World} {A : Around} {E : Value → Shared → Prop} {s : Shared}
/-- the items of a range, taken up; an object was made meanwhile -/
theorem collect_rng {r : Addr} {lo hi c : Int} {t u v : Tok} {n : Nat} {Q : List Value → Shared → Prop} (hh : A.handled = none) (hg : IsRange s.heap r lo hi c t u v) (hsm : Builtin.Range.small lo hi c = true) (hn : Builtin.Range.rangeSize lo hi c = n) (hl : n ≤ 2 ^ 24)
    (hQ : ∀ (h1 : Heap) (tk : Nat) (acc : Array Value), (∀ b o, s.heap.get? b = some o → h1.get? b = some o) → s.heap.objs.size < h1.objs.size → ItemsOf (fun i v => ∃ t, v = .int (lo + i * c) t) acc n → Q acc.toList { s with heap := h1, toks := tk }) :
    wpAny (model prog w) A (collect (.ref r)) Q E s := by
  unfold collect
  refine wpAny_bind (wpAny_runValue (codeAny_builtin F.entry_proto_collect ?_)); rw [Around.under_plainId F.plain_proto_collect _]
  refine (show wpAny _ A.in1 (newList [] >>= fun l1 => again (.builtin "list.__iadd__" ⟨[l1, .ref r], []⟩)) _ _ s from wpAny_bind (wpAny_newObj_type ?_))
  refine wpAny_pure ⟨plainId_quiet F.plain_list_iadd _, codeAny_builtin F.entry_list_iadd ?_⟩; rw [Around.under_plainId F.plain_list_iadd _]
  have hS : (s.heap.push { cls := .type "list", data := .seq ([] : List Value).toArray }).get? s.heap.objs.size = some { cls := .type "list", data := .seq #[] 0 } := Heap.get?_push_size _ rfl
  refine (show wpAny _ A.in1 (Builtin.List.listExtendWith (.ref s.heap.objs.size) (.ref r) (.ref s.heap.objs.size)) _ _ _ from
    wpAny_mono (wpAny_extend_range (A := A) (R := fun rr s1 => rr = .ok (.ret (.ref s.heap.objs.size)) ∧ ∃ (h1 : Heap) (tk : Nat) (acc : Array Value) (c1 : Nat), s1 = { s with heap := h1, toks := tk } ∧
      (∀ b o, s.heap.get? b = some o → h1.get? b = some o) ∧ h1.get? s.heap.objs.size = some { cls := .type "list", dict := none, data := .seq acc c1, slots := #[] } ∧ ItemsOf (fun i v => ∃ t, v = .int (lo + i * c) t) acc n)
    (s := { s with heap := s.heap.push { cls := .type "list", data := .seq ([] : List Value).toArray } }) hh (Heap.get?_push_of_some _ hg) hsm hn hl _ _ 0 hS
    (fun h1 tk acc c1 hk e hi => ⟨rfl, h1, tk, acc, c1, rfl, fun b o q => hk b o (Nat.ne_of_lt (Heap.lt_size q)) (Heap.get?_push_of_some _ q), e, hi⟩)) (fun fin s1 h => ?_) (fun e s1 h => ?_))
  · cases fin with
    | done f =>
      obtain ⟨e, h1, tk, acc, c1, rfl, hk, hS1, hi⟩ := h
      cases e
      refine (show wpAny _ A (load s.heap.objs.size >>= _) _ _ _ from wpAny_bind (wpAny_load hS1 (wpAny_pure (hQ h1 tk acc hk (Heap.lt_size hS1) hi))))
    | again c1 =>
      refine ⟨h.1, codeAny_mono h.2 fun rr s2 hr2 => ?_⟩
      obtain ⟨rfl, h1, tk, acc, c1, rfl, hk, hS1, hi⟩ := hr2
      refine (show wpAny _ A (load s.heap.objs.size >>= _) _ _ _ from wpAny_bind (wpAny_load hS1 (wpAny_pure (hQ h1 tk acc hk (Heap.lt_size hS1) hi))))
  · exact absurd h.1 (by simp)
end
/-- what comes out, as ints -/
theorem out_ints {g : Int → Int} {ns : List Int} {vs out : List Value} (hv : IntsAre vs ns) (h : KskOutSt false (ns.map g) vs out) :
    ∃ ns1 : List Int, IntsAre out ns1 ∧ ns1.Perm ns ∧ ns1.Pairwise (fun x y => g x ≤ g y) ∧ ∀ c, ns1.filter (fun x => g x == c) = ns.filter (fun x => g x == c) := by
  obtain ⟨ps, hp, ho, hs, hst⟩ := h
  have hlen := hv.length
  have rel : ∀ p, p ∈ (ns.map g).zip vs → p.1 = g (numOf p.2) ∧ p.2 ∈ vs := by
    intro p hq
    rw [← hv.nums, List.map_map, List.zip_map_left] at hq
    obtain ⟨⟨u, v⟩, hq3, rfl⟩ := List.mem_map.mp hq
    have h1 := mem_zip_self (p := (u, v)) hq3
    have h2 : u = v := h1.1
    subst h2
    exact ⟨rfl, h1.2⟩
  have rel2 : ∀ p, p ∈ ps → p.1 = g (numOf p.2) ∧ p.2 ∈ vs := fun p hq => rel p (hp.mem_iff.mp hq)
  refine ⟨(ps.map Prod.snd).map numOf, ?_, ?_, ?_, fun c => ?_⟩
  · rw [ho]
    exact intsAre_map _ fun v hq => by
      obtain ⟨p, hp2, rfl⟩ := List.mem_map.mp hq
      exact hv.all _ (rel2 p hp2).2
  · have h1 := (hp.map Prod.snd).map numOf
    rw [List.map_snd_zip (by rw [List.length_map]; omega), hv.nums] at h1
    exact h1
  · rw [List.pairwise_map, List.pairwise_map]
    refine hs.imp_of_mem fun {p q} hp2 hq2 hr => ?_
    have hr2 : p.1 ≤ q.1 := by simpa using hr
    rw [(rel2 p hp2).1, (rel2 q hq2).1] at hr2
    exact hr2
  · have flt : ∀ l : List (Int × Value), (∀ p, p ∈ l → p.1 = g (numOf p.2)) → ((l.map Prod.snd).map numOf).filter (fun x => g x == c) = ((l.filter (fun p => p.1 == c)).map Prod.snd).map numOf := by
      intro l hl
      rw [List.map_map, List.filter_map, List.map_map]
      refine congrArg _ (List.filter_congr fun p hp2 => ?_)
      show (g (numOf p.2) == c) = (p.1 == c)
      rw [hl p hp2]
    rw [flt ps fun p q => (rel2 p q).1, hst c, ← flt ((ns.map g).zip vs) fun p q => (rel p q).1, List.map_snd_zip (by rw [List.length_map]; omega), hv.nums]
theorem vals_ints {us : List Value} {ns : List Int} (h : IntsAre us ns) : Vals (ns.map V.int) us := by
  induction h with
  | nil => exact .nil
  | cons n t _ ih => exact .cons (show RelV (.int n) (.int n t) from ⟨t, rfl⟩) ih
def rngL (lo hi : Int) : List Int := (List.range (hi - lo).toNat).map fun (i : Nat) => lo + (i : Int)
theorem items_ints {lo : Int} {n : Nat} {acc : Array Value} (h : ItemsOf (fun i v => ∃ t, v = .int (lo + i * 1) t) acc n) : IntsAre acc.toList ((List.range n).map fun (i : Nat) => lo + (i : Int)) := by
  have h1 : acc.toList.map numOf = (List.range n).map fun (i : Nat) => lo + (i : Int) := by
    apply List.ext_getElem?
    intro j
    by_cases hj : j < n
    · have hja : j < acc.size := by rw [h.1]; exact hj
      obtain ⟨t, ht⟩ := h.2 j _ (Array.getElem?_eq_getElem hja)
      rw [List.getElem?_map, List.getElem?_map, List.getElem?_range hj, Array.getElem?_toList, Array.getElem?_eq_getElem hja, ht]
      show some (numOf (Value.int (lo + (j : Int) * 1) t)) = some (lo + (j : Int))
      rw [Int.mul_one]
      rfl
    · rw [List.getElem?_eq_none (by rw [List.length_map, Array.length_toList, h.1]; omega), List.getElem?_eq_none (by simp; omega)]
  rw [← h1]
  refine intsAre_map _ fun v hv => ?_
  obtain ⟨j, hj⟩ := List.getElem?_of_mem hv
  rw [Array.getElem?_toList] at hj
  obtain ⟨t, rfl⟩ := h.2 j v hj
  exact ⟨_, t, rfl⟩
section
variable {X : Cx}
def rSortK (g : Int → Int) (sp : Sp) (f : Addr) : List V → List V → Hp → VK → Prop := fun vs zs H Q => ∃ (r : Addr) (lo hi : Int), vs = [.ref r] ∧ zs = [.ref f] ∧ H r = some (.rng lo hi) ∧ 0 ≤ lo ∧ lo ≤ 1000 ∧ hi ≤ 1000 ∧ 0 ≤ hi ∧
  (∀ n, n ∈ rngL lo hi → ∀ Q2 : VK, Q2 (.int (g n)) H → sp [.int n] H Q2 E0) ∧
  ∀ (ns : List Int) (p : Addr), ns.Perm (rngL lo hi) → ns.Pairwise (fun x y => g x ≤ g y) → (∀ c, ns.filter (fun x => g x == c) = (rngL lo hi).filter (fun x => g x == c)) → H p = none → Q (.ref p) (upd H p (.lst (ns.map V.int)))
theorem cr_sortK {k : Nat} {f : Addr} {fd : FuncData} {ps : List Str} {sp : Sp} {g : Int → Int} (F : FnOk X.prog X.w X.K X.mg X.base CX0 k f fd ps sp) (hr : Room (k + 2) X.A) (hb : Binds X.K fd ps []) (hc : X.calm = true := by rfl) :
    CallRK X (.builtin "sorted") [Str.ofString "key"] (rSortK g sp f) := by
  intro pins s σ H xs zs us ws Q I rx rz h
  obtain ⟨r, lo, hi, rfl, rfl, hR, hlo, hlo2, hhi, hhi0, hsp, q⟩ := h
  obtain ⟨u, rfl, ru⟩ := vals1 rx
  cases ru
  obtain ⟨u2, rfl, ru2⟩ := vals1 rz
  cases ru2
  obtain ⟨t, u, v, hrg⟩ := I.hok r _ hR
  have hir : IsRange s.heap r lo hi 1 t u v := hrg
  show wpAny _ X.A (call (.builtin "sorted") [.ref r] [(Str.ofString "key", .ref f)]) _ _ s
  refine call_function_entry_kw kind_sorted plain_sorted entry_sorted (ksk_s1 _ _) ?_
  unfold Builtin.«sorted»
  refine wpAny_bind (m := checkCount "sorted" 1 1 _) (wpAny_pure ?_)
  have hn : Builtin.Range.rangeSize lo hi 1 = (((hi - lo).toNat : Nat) : Int) := by rw [rangeSize_one]; split <;> omega
  refine wpAny_bind (collect_rng (show X.A.in1.handled = none from I.ok.hd hc) hir (small_one (by omega) (by omega) (by omega) (by omega)) hn (by omega) fun h1 tk acc hk1 hlt hacc => ?_)
  have hacc2 := items_ints hacc
  have hsz : acc.toList.length = (hi - lo).toNat := by rw [Array.length_toList, hacc.1]
  have hz : acc.toList.length ≤ 1000 := by omega
  refine wpAny_bind (wpAny_newList ?_ (by rw [hsz, sizeLine_eq]; omega))
  have hoL : (h1.push (seqObj "list" acc.toList.toArray 0)).get? h1.objs.size = some (seqObj "list" acc.toList.toArray 0) := Heap.get?_push_size _ rfl
  show wpAny _ _ _ _ _ { s with heap := h1.push (seqObj "list" acc.toList.toArray 0), toks := tk }
  refine wpAny_bind (wpAny_holding (wpAny_call_entry_kw slot_list_sort ⟨_, hoL, rfl⟩ entry_list_sort ?body (ksk_l1 _ _)))
  case body =>
    show wpAny _ _ (ksk_tree h1.objs.size (.ref f) false) _ _ _
    have hA1 := get?_update_seq hoL fun _ => (#[] : Array Value)
    have u1 := Heap.SameBut.update (h1.push (seqObj "list" acc.toList.toArray 0)) h1.objs.size (Obj.mapSeq fun _ => (#[] : Array Value))
    have hsz1 : ((h1.push (seqObj "list" acc.toList.toArray 0)).update h1.objs.size (Obj.mapSeq fun _ => (#[] : Array Value))).objs.size = h1.objs.size + 1 := by rw [Heap.size_update, size_push']
    unfold ksk_tree
    refine wpAny_bind (listItems_at hoL rfl ?_)
    refine wpAny_bind (listUpdate_at hoL rfl ?_ (by rw [List.size_toArray, sizeLine_eq]; omega) (Nat.zero_le _))
    refine wpAny_bind (seqEpoch_at hA1 rfl ?_)
    refine wpAny_bind (wpAny_newTuple ?_ (by show acc.toList.length ≤ _; rw [sizeLine_eq]; omega))
    refine wpAny_bind (wpAny_newList ?_ (Nat.zero_le _))
    refine wpAny_holding ?_
    have keep : ∀ b o, s.heap.get? b = some o → ((((h1.push (seqObj "list" acc.toList.toArray 0)).update h1.objs.size (Obj.mapSeq fun _ => (#[] : Array Value))).push (seqObj "tuple" acc.toList.toArray 0)).push (seqObj "list" #[] 0)).get? b = some o := fun b o e => by
      have e1 := hk1 b o e
      refine Heap.get?_push_of_some _ (Heap.get?_push_of_some _ ?_)
      exact (u1.2 b (Nat.ne_of_lt (Heap.lt_size e1))).trans (Heap.get?_push_of_some _ e1)
    have hsz2 : (((h1.push (seqObj "list" acc.toList.toArray 0)).update h1.objs.size (Obj.mapSeq fun _ => (#[] : Array Value))).push (seqObj "tuple" acc.toList.toArray 0)).objs.size = h1.objs.size + 2 := by rw [size_push', hsz1]
    have I1 : Inv X pins σ H { s with heap := (((h1.push (seqObj "list" acc.toList.toArray 0)).update h1.objs.size (Obj.mapSeq fun _ => (#[] : Array Value))).push (seqObj "tuple" acc.toList.toArray 0)).push (seqObj "list" #[] 0), toks := tk } := I.kept keep
    have fa : FpOk X pins H h1.objs.size := I.fpOk (by omega) (I.hok.fresh (by omega))
    have hne : (((h1.push (seqObj "list" acc.toList.toArray 0)).update h1.objs.size (Obj.mapSeq fun _ => (#[] : Array Value))).push (seqObj "tuple" acc.toList.toArray 0)).objs.size ≠ h1.objs.size := by rw [hsz2]; omega
    have fk : FpOk X pins H (h1.objs.size + 2) := I.fpOk (by omega) (I.hok.fresh (by omega))
    refine srt_rest (sp := sp) (g := g) (ns := rngL lo hi) (s := { s with heap := (((h1.push (seqObj "list" acc.toList.toArray 0)).update h1.objs.size (Obj.mapSeq fun _ => (#[] : Array Value))).push (seqObj "tuple" acc.toList.toArray 0)).push (seqObj "list" #[] 0), toks := tk }) (kS := (((h1.push (seqObj "list" acc.toList.toArray 0)).update h1.objs.size (Obj.mapSeq fun _ => (#[] : Array Value))).push (seqObj "tuple" acc.toList.toArray 0)).objs.size)
      F (show Room k X.A.in1.in1 from (Room.in1 (Room.in1 hr))) hb rfl hsp I1 hacc2 hz fa (by rw [hsz2]; exact fk) hne (Heap.get?_push_size _ rfl) (Heap.get?_push_of_some _ (Heap.get?_push_of_some _ hA1)) ?_
    intro h2 tk2 s1 out c I2 hk2 hA2 hout _
    rw [hsz2] at hk2
    refine ⟨_, rfl, ?_⟩
    refine wpAny_pure ⟨_, rfl, ?_⟩
    obtain ⟨ns1, q1, q2, q3, q4⟩ := out_ints hacc2 hout
    obtain ⟨G1, g1, g2⟩ := restrict s1.heap fun b => decide (b ≠ h1.objs.size)
    obtain ⟨G2, g3, g4⟩ := restrict h2 fun b => decide (b ≠ h1.objs.size)
    obtain ⟨a0, a1, a2, a3, a4, a5⟩ := fa
    obtain ⟨k0, k1, k2, k3, k4, k5⟩ := fk
    have J1 : Inv X pins σ H { s1 with heap := G1, toks := tk2 } := I2.turned (t' := tk2) (fun b o hb e => (g1 b (decide_eq_true hb)).trans e) a0 a1 a3 a4 a5
    have J2 : Inv X pins σ H { s1 with heap := G2, toks := tk2 } := J1.turned (t' := tk2) (fun b o hb e => by
      by_cases hb2 : b = h1.objs.size
      · rw [hb2, g2 _ (by simp)] at e
        cases e
      · rw [g1 b (decide_eq_true hb2)] at e
        exact (g3 b (decide_eq_true hb2)).trans (hk2 b o hb hb2 e)) k0 k1 k3 k4 k5
    refine ⟨.ref h1.objs.size, upd H h1.objs.size (.lst (ns1.map V.int)), J2.laidN (t' := tk2) (fun b o e => ?_) (g4 _ (by simp)) a0 (show ObjOk X.prog X.w _ h2 _ (.lst (ns1.map V.int)) from ⟨?_, out.toList, c, vals_ints q1, by rw [Array.toArray_toList]; exact hA2⟩), rfl, q ns1 _ q2 q3 q4 a0⟩
    · by_cases hb2 : b = h1.objs.size
      · rw [hb2, g4 _ (by simp)] at e
        cases e
      · rw [g3 b (decide_eq_true hb2)] at e
        exact e
    · rw [List.length_map, q2.length_eq, ← hacc2.length]
      exact sz1 hz
end
end Sl
/-! # The text: its defs, their names, what its top has written -/
namespace Sl
open PySem PySem.Spec PyProof.Rows L2
def top (i : Nat) : Stmt := PySem.Challenge.pw_sealedlots_s01_answers.main.body.getD i (.Pass ⟨0, 0, 0, 0⟩)
abbrev s_unsold_values : Stmt := top 2
abbrev N_unsold_values : List Str := ["reserves", "sums", "reserve", "others"]
theorem sc_unsold_values : FnScope N_unsold_values ["reserves"] (defScope s_unsold_values) := ⟨rfl, rfl, rfl, by decide +kernel, rfl, by decide +kernel, by decide +kernel⟩
abbrev s_choices : Stmt := top 3
abbrev N_choices : List Str := ["row", "left", "later", "found", "lot", "bid"]
theorem sc_choices : FnScope N_choices ["row", "left", "later"] (defScope s_choices) := ⟨rfl, rfl, rfl, by decide +kernel, rfl, by decide +kernel, by decide +kernel⟩
abbrev s_best_choice : Stmt := top 4
abbrev N_best_choice : List Str := ["row", "left", "later", "best", "choice"]
theorem sc_best_choice : FnScope N_best_choice ["row", "left", "later"] (defScope s_best_choice) := ⟨rfl, rfl, rfl, by decide +kernel, rfl, by decide +kernel, by decide +kernel⟩
abbrev s_value_tables : Stmt := top 5
abbrev N_value_tables : List Str := ["reserves", "bids", "later", "tables", "row", "left"]
theorem sc_value_tables : FnScope N_value_tables ["reserves", "bids"] (defScope s_value_tables) := ⟨rfl, rfl, rfl, by decide +kernel, rfl, by decide +kernel, by decide +kernel⟩
abbrev s_maximum_value : Stmt := top 6
abbrev N_maximum_value : List Str := ["reserves", "bids"]
theorem sc_maximum_value : FnScope N_maximum_value ["reserves", "bids"] (defScope s_maximum_value) := ⟨rfl, rfl, rfl, by decide +kernel, rfl, by decide +kernel, by decide +kernel⟩
abbrev s_returned_allocation : Stmt := top 7
abbrev N_returned_allocation : List Str := ["reserves", "bids", "tables", "left", "allocation", "i", "row", "lot"]
theorem sc_returned_allocation : FnScope N_returned_allocation ["reserves", "bids"] (defScope s_returned_allocation) := ⟨rfl, rfl, rfl, by decide +kernel, rfl, by decide +kernel, by decide +kernel⟩
abbrev s_minimum_prices : Stmt := top 9
abbrev N_minimum_prices : List Str := ["reserves", "bids", "total", "prices", "lot", "reserve", "more_bids", "row"]
theorem sc_minimum_prices : FnScope N_minimum_prices ["reserves", "bids"] (defScope s_minimum_prices) := ⟨rfl, rfl, rfl, by decide +kernel, rfl, by decide +kernel, by decide +kernel⟩
abbrev s_maximum_prices : Stmt := top 10
abbrev N_maximum_prices : List Str := ["reserves", "bids", "total", "prices", "lot", "fewer_bids", "row"]
theorem sc_maximum_prices : FnScope N_maximum_prices ["reserves", "bids"] (defScope s_maximum_prices) := ⟨rfl, rfl, rfl, by decide +kernel, rfl, by decide +kernel, by decide +kernel⟩
abbrev s_without : Stmt := top 11
abbrev N_without : List Str := ["row", "at"]
theorem sc_without : FnScope N_without ["row", "at"] (defScope s_without) := ⟨rfl, rfl, rfl, by decide +kernel, rfl, by decide +kernel, by decide +kernel⟩
abbrev s_demand_set : Stmt := top 12
abbrev N_demand_set : List Str := ["row", "prices", "utilities", "most", "lots", "bid", "price", "lot", "utility"]
theorem sc_demand_set : FnScope N_demand_set ["row", "prices"] (defScope s_demand_set) := ⟨rfl, rfl, rfl, by decide +kernel, rfl, by decide +kernel, by decide +kernel⟩
abbrev s_first_wrong_lot : Stmt := top 13
abbrev N_first_wrong_lot : List Str := ["reserves", "allocation", "prices", "lot", "reserve"]
theorem sc_first_wrong_lot : FnScope N_first_wrong_lot ["reserves", "allocation", "prices"] (defScope s_first_wrong_lot) := ⟨rfl, rfl, rfl, by decide +kernel, rfl, by decide +kernel, by decide +kernel⟩
abbrev s_first_discontent_bidder : Stmt := top 14
abbrev N_first_discontent_bidder : List Str := ["bids", "allocation", "prices", "i", "row"]
theorem sc_first_discontent_bidder : FnScope N_first_discontent_bidder ["bids", "allocation", "prices"] (defScope s_first_discontent_bidder) := ⟨rfl, rfl, rfl, by decide +kernel, rfl, by decide +kernel, by decide +kernel⟩
abbrev s_how_many : Stmt := top 17
abbrev N_how_many : List Str := ["members", "found"]
theorem sc_how_many : FnScope N_how_many ["members"] (defScope s_how_many) := ⟨rfl, rfl, rfl, by decide +kernel, rfl, by decide +kernel, by decide +kernel⟩
abbrev s_sets_in_order : Stmt := top 18
abbrev N_sets_in_order : List Str := ["lots"]
theorem sc_sets_in_order : FnScope N_sets_in_order ["lots"] (defScope s_sets_in_order) := ⟨rfl, rfl, rfl, by decide +kernel, rfl, by decide +kernel, by decide +kernel⟩
abbrev s_wanted_sets : Stmt := top 19
abbrev N_wanted_sets : List Str := ["bids", "prices", "found", "row", "demanded", "lot"]
theorem sc_wanted_sets : FnScope N_wanted_sets ["bids", "prices"] (defScope s_wanted_sets) := ⟨rfl, rfl, rfl, by decide +kernel, rfl, by decide +kernel, by decide +kernel⟩
abbrev s_is_overdemanded : Stmt := top 20
abbrev N_is_overdemanded : List Str := ["members", "wanted", "within", "demanded"]
theorem sc_is_overdemanded : FnScope N_is_overdemanded ["members", "wanted"] (defScope s_is_overdemanded) := ⟨rfl, rfl, rfl, by decide +kernel, rfl, by decide +kernel, by decide +kernel⟩
abbrev s_first_overdemanded_set : Stmt := top 21
abbrev N_first_overdemanded_set : List Str := ["bids", "prices", "wanted", "members"]
theorem sc_first_overdemanded_set : FnScope N_first_overdemanded_set ["bids", "prices"] (defScope s_first_overdemanded_set) := ⟨rfl, rfl, rfl, by decide +kernel, rfl, by decide +kernel, by decide +kernel⟩
abbrev s_raised : Stmt := top 22
abbrev N_raised : List Str := ["prices", "members", "lot", "price"]
theorem sc_raised : FnScope N_raised ["prices", "members"] (defScope s_raised) := ⟨rfl, rfl, rfl, by decide +kernel, rfl, by decide +kernel, by decide +kernel⟩
abbrev s_run_clock : Stmt := top 23
abbrev N_run_clock : List Str := ["reserves", "bids", "rounds", "prices", "members"]
theorem sc_run_clock : FnScope N_run_clock ["reserves", "bids"] (defScope s_run_clock) := ⟨rfl, rfl, rfl, by decide +kernel, rfl, by decide +kernel, by decide +kernel⟩
abbrev s_outcomes : Stmt := top 25
abbrev N_outcomes : List Str := ["reserves", "bids", "prices", "lot"]
theorem sc_outcomes : FnScope N_outcomes ["reserves", "bids"] (defScope s_outcomes) := ⟨rfl, rfl, rfl, by decide +kernel, rfl, by decide +kernel, by decide +kernel⟩
abbrev s_payment_for : Stmt := top 26
abbrev N_payment_for : List Str := ["lot", "prices"]
theorem sc_payment_for : FnScope N_payment_for ["lot", "prices"] (defScope s_payment_for) := ⟨rfl, rfl, rfl, by decide +kernel, rfl, by decide +kernel, by decide +kernel⟩
abbrev s_utility_of : Stmt := top 27
abbrev N_utility_of : List Str := ["outcome", "values", "lot"]
theorem sc_utility_of : FnScope N_utility_of ["outcome", "values"] (defScope s_utility_of) := ⟨rfl, rfl, rfl, by decide +kernel, rfl, by decide +kernel, by decide +kernel⟩
abbrev s_Auction_init : Stmt := inClass (top 31) 0
abbrev N_Auction_init : List Str := ["self"]
theorem sc_Auction_init : FnScope N_Auction_init ["self"] (defScope s_Auction_init) := ⟨rfl, rfl, rfl, by decide +kernel, rfl, by decide +kernel, by decide +kernel⟩
abbrev s_Auction_begin : Stmt := inClass (top 31) 1
abbrev N_Auction_begin : List Str := ["self", "reserves"]
theorem sc_Auction_begin : FnScope N_Auction_begin ["self", "reserves"] (defScope s_Auction_begin) := ⟨rfl, rfl, rfl, by decide +kernel, rfl, by decide +kernel, by decide +kernel⟩
abbrev s_Auction_has_submitted : Stmt := inClass (top 31) 2
abbrev N_Auction_has_submitted : List Str := ["self", "i"]
theorem sc_Auction_has_submitted : FnScope N_Auction_has_submitted ["self", "i"] (defScope s_Auction_has_submitted) := ⟨rfl, rfl, rfl, by decide +kernel, rfl, by decide +kernel, by decide +kernel⟩
abbrev s_Auction_how_many_submitted : Stmt := inClass (top 31) 3
abbrev N_Auction_how_many_submitted : List Str := ["self", "row"]
theorem sc_Auction_how_many_submitted : FnScope N_Auction_how_many_submitted ["self"] (defScope s_Auction_how_many_submitted) := ⟨rfl, rfl, rfl, by decide +kernel, rfl, by decide +kernel, by decide +kernel⟩
abbrev s_Auction_submit : Stmt := inClass (top 31) 4
abbrev N_Auction_submit : List Str := ["self", "i", "bids"]
theorem sc_Auction_submit : FnScope N_Auction_submit ["self", "i", "bids"] (defScope s_Auction_submit) := ⟨rfl, rfl, rfl, by decide +kernel, rfl, by decide +kernel, by decide +kernel⟩
abbrev s_Auction_shut : Stmt := inClass (top 31) 5
abbrev N_Auction_shut : List Str := ["self"]
theorem sc_Auction_shut : FnScope N_Auction_shut ["self"] (defScope s_Auction_shut) := ⟨rfl, rfl, rfl, by decide +kernel, rfl, by decide +kernel, by decide +kernel⟩
abbrev s_Auction_counted_bids : Stmt := inClass (top 31) 6
abbrev N_Auction_counted_bids : List Str := ["self", "rows", "row"]
theorem sc_Auction_counted_bids : FnScope N_Auction_counted_bids ["self"] (defScope s_Auction_counted_bids) := ⟨rfl, rfl, rfl, by decide +kernel, rfl, by decide +kernel, by decide +kernel⟩
abbrev s_Auction_counted_bids_with : Stmt := inClass (top 31) 7
abbrev N_Auction_counted_bids_with : List Str := ["self", "i", "row", "rows"]
theorem sc_Auction_counted_bids_with : FnScope N_Auction_counted_bids_with ["self", "i", "row"] (defScope s_Auction_counted_bids_with) := ⟨rfl, rfl, rfl, by decide +kernel, rfl, by decide +kernel, by decide +kernel⟩
abbrev s_new_auction : Stmt := top 33
abbrev N_new_auction : List Str := ["auction", "call"]
theorem sc_new_auction : FnScope N_new_auction ["auction", "call"] (defScope s_new_auction) := ⟨rfl, rfl, rfl, by decide +kernel, rfl, by decide +kernel, by decide +kernel⟩
abbrev s_submit_bid : Stmt := top 34
abbrev N_submit_bid : List Str := ["auction", "call", "replaced"]
theorem sc_submit_bid : FnScope N_submit_bid ["auction", "call"] (defScope s_submit_bid) := ⟨rfl, rfl, rfl, by decide +kernel, rfl, by decide +kernel, by decide +kernel⟩
abbrev s_close_auction : Stmt := top 35
abbrev N_close_auction : List Str := ["auction", "call"]
theorem sc_close_auction : FnScope N_close_auction ["auction", "call"] (defScope s_close_auction) := ⟨rfl, rfl, rfl, by decide +kernel, rfl, by decide +kernel, by decide +kernel⟩
abbrev s_get_result : Stmt := top 36
abbrev N_get_result : List Str := ["auction", "call", "fields", "outcome"]
theorem sc_get_result : FnScope N_get_result ["auction", "call"] (defScope s_get_result) := ⟨rfl, rfl, rfl, by decide +kernel, rfl, by decide +kernel, by decide +kernel⟩
abbrev s_get_minimum_prices : Stmt := top 37
abbrev N_get_minimum_prices : List Str := ["auction", "call"]
theorem sc_get_minimum_prices : FnScope N_get_minimum_prices ["auction", "call"] (defScope s_get_minimum_prices) := ⟨rfl, rfl, rfl, by decide +kernel, rfl, by decide +kernel, by decide +kernel⟩
abbrev s_get_maximum_prices : Stmt := top 38
abbrev N_get_maximum_prices : List Str := ["auction", "call"]
theorem sc_get_maximum_prices : FnScope N_get_maximum_prices ["auction", "call"] (defScope s_get_maximum_prices) := ⟨rfl, rfl, rfl, by decide +kernel, rfl, by decide +kernel, by decide +kernel⟩
abbrev s_get_total_value : Stmt := top 39
abbrev N_get_total_value : List Str := ["auction", "call"]
theorem sc_get_total_value : FnScope N_get_total_value ["auction", "call"] (defScope s_get_total_value) := ⟨rfl, rfl, rfl, by decide +kernel, rfl, by decide +kernel, by decide +kernel⟩
abbrev s_check_prices : Stmt := top 40
abbrev N_check_prices : List Str := ["auction", "call", "bids", "allocation", "lot", "bidder"]
theorem sc_check_prices : FnScope N_check_prices ["auction", "call"] (defScope s_check_prices) := ⟨rfl, rfl, rfl, by decide +kernel, rfl, by decide +kernel, by decide +kernel⟩
abbrev s_get_demand_set : Stmt := top 41
abbrev N_get_demand_set : List Str := ["auction", "call"]
theorem sc_get_demand_set : FnScope N_get_demand_set ["auction", "call"] (defScope s_get_demand_set) := ⟨rfl, rfl, rfl, by decide +kernel, rfl, by decide +kernel, by decide +kernel⟩
abbrev s_get_overdemanded_set : Stmt := top 42
abbrev N_get_overdemanded_set : List Str := ["auction", "call", "members"]
theorem sc_get_overdemanded_set : FnScope N_get_overdemanded_set ["auction", "call"] (defScope s_get_overdemanded_set) := ⟨rfl, rfl, rfl, by decide +kernel, rfl, by decide +kernel, by decide +kernel⟩
abbrev s_get_clock : Stmt := top 43
abbrev N_get_clock : List Str := ["auction", "call", "fields", "row"]
theorem sc_get_clock : FnScope N_get_clock ["auction", "call"] (defScope s_get_clock) := ⟨rfl, rfl, rfl, by decide +kernel, rfl, by decide +kernel, by decide +kernel⟩
abbrev s_get_hypothetical_result : Stmt := top 44
abbrev N_get_hypothetical_result : List Str := ["auction", "call"]
theorem sc_get_hypothetical_result : FnScope N_get_hypothetical_result ["auction", "call"] (defScope s_get_hypothetical_result) := ⟨rfl, rfl, rfl, by decide +kernel, rfl, by decide +kernel, by decide +kernel⟩
abbrev s_get_utility : Stmt := top 45
abbrev N_get_utility : List Str := ["auction", "call", "outcome"]
theorem sc_get_utility : FnScope N_get_utility ["auction", "call"] (defScope s_get_utility) := ⟨rfl, rfl, rfl, by decide +kernel, rfl, by decide +kernel, by decide +kernel⟩
abbrev s_get_truthful_utility : Stmt := top 46
abbrev N_get_truthful_utility : List Str := ["auction", "call"]
theorem sc_get_truthful_utility : FnScope N_get_truthful_utility ["auction", "call"] (defScope s_get_truthful_utility) := ⟨rfl, rfl, rfl, by decide +kernel, rfl, by decide +kernel, by decide +kernel⟩
abbrev s_hypothetical_outcome : Stmt := top 47
abbrev N_hypothetical_outcome : List Str := ["auction", "call"]
theorem sc_hypothetical_outcome : FnScope N_hypothetical_outcome ["auction", "call"] (defScope s_hypothetical_outcome) := ⟨rfl, rfl, rfl, by decide +kernel, rfl, by decide +kernel, by decide +kernel⟩
abbrev s_get_total_without : Stmt := top 48
abbrev N_get_total_without : List Str := ["auction", "call"]
theorem sc_get_total_without : FnScope N_get_total_without ["auction", "call"] (defScope s_get_total_without) := ⟨rfl, rfl, rfl, by decide +kernel, rfl, by decide +kernel, by decide +kernel⟩
abbrev s_list_submitted : Stmt := top 49
abbrev N_list_submitted : List Str := ["auction", "call", "i"]
theorem sc_list_submitted : FnScope N_list_submitted ["auction", "call"] (defScope s_list_submitted) := ⟨rfl, rfl, rfl, by decide +kernel, rfl, by decide +kernel, by decide +kernel⟩
abbrev s_list_bids : Stmt := top 50
abbrev N_list_bids : List Str := ["auction", "call", "fields", "row"]
theorem sc_list_bids : FnScope N_list_bids ["auction", "call"] (defScope s_list_bids) := ⟨rfl, rfl, rfl, by decide +kernel, rfl, by decide +kernel, by decide +kernel⟩
abbrev s_summary : Stmt := top 51
abbrev N_summary : List Str := ["auction", "call"]
theorem sc_summary : FnScope N_summary ["auction", "call"] (defScope s_summary) := ⟨rfl, rfl, rfl, by decide +kernel, rfl, by decide +kernel, by decide +kernel⟩
abbrev s_with_length : Stmt := top 52
abbrev N_with_length : List Str := ["row"]
theorem sc_with_length : FnScope N_with_length ["row"] (defScope s_with_length) := ⟨rfl, rfl, rfl, by decide +kernel, rfl, by decide +kernel, by decide +kernel⟩
abbrev s_perform : Stmt := top 54
abbrev N_perform : List Str := ["auction", "call"]
theorem sc_perform : FnScope N_perform ["auction", "call"] (defScope s_perform) := ⟨rfl, rfl, rfl, by decide +kernel, rfl, by decide +kernel, by decide +kernel⟩
abbrev s_Call_init : Stmt := inClass (top 58) 0
abbrev N_Call_init : List Str := ["self", "number", "bidder", "row"]
theorem sc_Call_init : FnScope N_Call_init ["self", "number", "bidder", "row"] (defScope s_Call_init) := ⟨rfl, rfl, rfl, by decide +kernel, rfl, by decide +kernel, by decide +kernel⟩
abbrev s_split_calls : Stmt := top 59
abbrev N_split_calls : List Str := ["numbers", "found", "at", "number", "bidder", "row", "end"]
theorem sc_split_calls : FnScope N_split_calls ["numbers"] (defScope s_split_calls) := ⟨rfl, rfl, rfl, by decide +kernel, rfl, by decide +kernel, by decide +kernel⟩
abbrev s_first_refusal : Stmt := top 71
abbrev N_first_refusal : List Str := ["auction", "call"]
theorem sc_first_refusal : FnScope N_first_refusal ["auction", "call"] (defScope s_first_refusal) := ⟨rfl, rfl, rfl, by decide +kernel, rfl, by decide +kernel, by decide +kernel⟩
abbrev s_bidder_out_of_range : Stmt := top 72
abbrev N_bidder_out_of_range : List Str := ["call"]
theorem sc_bidder_out_of_range : FnScope N_bidder_out_of_range ["call"] (defScope s_bidder_out_of_range) := ⟨rfl, rfl, rfl, by decide +kernel, rfl, by decide +kernel, by decide +kernel⟩
abbrev s_row_out_of_range : Stmt := top 73
abbrev N_row_out_of_range : List Str := ["call", "largest", "number"]
theorem sc_row_out_of_range : FnScope N_row_out_of_range ["call"] (defScope s_row_out_of_range) := ⟨rfl, rfl, rfl, by decide +kernel, rfl, by decide +kernel, by decide +kernel⟩
abbrev s_answers : Stmt := top 75
abbrev N_answers : List Str := ["calls", "auction", "answered", "call", "answer"]
theorem sc_answers : FnScope N_answers ["calls"] (defScope s_answers) := ⟨rfl, rfl, rfl, by decide +kernel, rfl, by decide +kernel, by decide +kernel⟩
abbrev s_answer_to : Stmt := top 76
abbrev N_answer_to : List Str := ["auction", "call", "code"]
theorem sc_answer_to : FnScope N_answer_to ["auction", "call"] (defScope s_answer_to) := ⟨rfl, rfl, rfl, by decide +kernel, rfl, by decide +kernel, by decide +kernel⟩
structure Df (K : PySem.W.Frag) (mg : Str → Option Value) (x : Str) (st : Stmt) (ps : List Str) where
  f : Addr
  fd : FuncData
  F : Fun K x x st f fd
  g : mg x = some (.ref f)
  kp : PySem.W.keepIn K (.ref f) = true
  b : Binds K fd ps []
  bt : ∀ (s : Shared) (us : List Value), us.length = ps.length → BindsTo s fd ⟨us, []⟩ (ps.zip us)
structure Dm (K : PySem.W.Frag) (C : Addr) (x qual : Str) (st : Stmt) (ps : List Str) where
  f : Addr
  fd : FuncData
  F : Fun K x qual st f fd
  M : Meth K C x f
  b : Binds K fd ps []
structure Tx (K : PySem.W.Frag) (mg : Str → Option Value) where
  av : Addr → Prop
  c_Auction : Addr
  g_Auction : mg "Auction" = some (.ref c_Auction)
  cl_Auction : Cls K c_Auction
  n_Auction_reserves : NoAttr K c_Auction "reserves"
  n_Auction_submitted : NoAttr K c_Auction "submitted"
  n_Auction_closed : NoAttr K c_Auction "closed"
  c_Call : Addr
  g_Call : mg "Call" = some (.ref c_Call)
  cl_Call : Cls K c_Call
  n_Call_number : NoAttr K c_Call "number"
  n_Call_bidder : NoAttr K c_Call "bidder"
  n_Call_row : NoAttr K c_Call "row"
  unsold_values : Df K mg "unsold_values" s_unsold_values ["reserves"]
  choices : Df K mg "choices" s_choices ["row", "left", "later"]
  best_choice : Df K mg "best_choice" s_best_choice ["row", "left", "later"]
  value_tables : Df K mg "value_tables" s_value_tables ["reserves", "bids"]
  maximum_value : Df K mg "maximum_value" s_maximum_value ["reserves", "bids"]
  returned_allocation : Df K mg "returned_allocation" s_returned_allocation ["reserves", "bids"]
  minimum_prices : Df K mg "minimum_prices" s_minimum_prices ["reserves", "bids"]
  maximum_prices : Df K mg "maximum_prices" s_maximum_prices ["reserves", "bids"]
  without : Df K mg "without" s_without ["row", "at"]
  demand_set : Df K mg "demand_set" s_demand_set ["row", "prices"]
  first_wrong_lot : Df K mg "first_wrong_lot" s_first_wrong_lot ["reserves", "allocation", "prices"]
  first_discontent_bidder : Df K mg "first_discontent_bidder" s_first_discontent_bidder ["bids", "allocation", "prices"]
  how_many : Df K mg "how_many" s_how_many ["members"]
  sets_in_order : Df K mg "sets_in_order" s_sets_in_order ["lots"]
  wanted_sets : Df K mg "wanted_sets" s_wanted_sets ["bids", "prices"]
  is_overdemanded : Df K mg "is_overdemanded" s_is_overdemanded ["members", "wanted"]
  first_overdemanded_set : Df K mg "first_overdemanded_set" s_first_overdemanded_set ["bids", "prices"]
  raised : Df K mg "raised" s_raised ["prices", "members"]
  run_clock : Df K mg "run_clock" s_run_clock ["reserves", "bids"]
  outcomes : Df K mg "outcomes" s_outcomes ["reserves", "bids"]
  payment_for : Df K mg "payment_for" s_payment_for ["lot", "prices"]
  utility_of : Df K mg "utility_of" s_utility_of ["outcome", "values"]
  Auction_init : Dm K c_Auction "__init__" "Auction.__init__" s_Auction_init ["self"]
  Auction_begin : Dm K c_Auction "begin" "Auction.begin" s_Auction_begin ["self", "reserves"]
  Auction_has_submitted : Dm K c_Auction "has_submitted" "Auction.has_submitted" s_Auction_has_submitted ["self", "i"]
  Auction_how_many_submitted : Dm K c_Auction "how_many_submitted" "Auction.how_many_submitted" s_Auction_how_many_submitted ["self"]
  Auction_submit : Dm K c_Auction "submit" "Auction.submit" s_Auction_submit ["self", "i", "bids"]
  Auction_shut : Dm K c_Auction "shut" "Auction.shut" s_Auction_shut ["self"]
  Auction_counted_bids : Dm K c_Auction "counted_bids" "Auction.counted_bids" s_Auction_counted_bids ["self"]
  Auction_counted_bids_with : Dm K c_Auction "counted_bids_with" "Auction.counted_bids_with" s_Auction_counted_bids_with ["self", "i", "row"]
  new_auction : Df K mg "new_auction" s_new_auction ["auction", "call"]
  submit_bid : Df K mg "submit_bid" s_submit_bid ["auction", "call"]
  close_auction : Df K mg "close_auction" s_close_auction ["auction", "call"]
  get_result : Df K mg "get_result" s_get_result ["auction", "call"]
  get_minimum_prices : Df K mg "get_minimum_prices" s_get_minimum_prices ["auction", "call"]
  get_maximum_prices : Df K mg "get_maximum_prices" s_get_maximum_prices ["auction", "call"]
  get_total_value : Df K mg "get_total_value" s_get_total_value ["auction", "call"]
  check_prices : Df K mg "check_prices" s_check_prices ["auction", "call"]
  get_demand_set : Df K mg "get_demand_set" s_get_demand_set ["auction", "call"]
  get_overdemanded_set : Df K mg "get_overdemanded_set" s_get_overdemanded_set ["auction", "call"]
  get_clock : Df K mg "get_clock" s_get_clock ["auction", "call"]
  get_hypothetical_result : Df K mg "get_hypothetical_result" s_get_hypothetical_result ["auction", "call"]
  get_utility : Df K mg "get_utility" s_get_utility ["auction", "call"]
  get_truthful_utility : Df K mg "get_truthful_utility" s_get_truthful_utility ["auction", "call"]
  hypothetical_outcome : Df K mg "hypothetical_outcome" s_hypothetical_outcome ["auction", "call"]
  get_total_without : Df K mg "get_total_without" s_get_total_without ["auction", "call"]
  list_submitted : Df K mg "list_submitted" s_list_submitted ["auction", "call"]
  list_bids : Df K mg "list_bids" s_list_bids ["auction", "call"]
  summary : Df K mg "summary" s_summary ["auction", "call"]
  with_length : Df K mg "with_length" s_with_length ["row"]
  perform : Df K mg "perform" s_perform ["auction", "call"]
  Call_init : Dm K c_Call "__init__" "Call.__init__" s_Call_init ["self", "number", "bidder", "row"]
  split_calls : Df K mg "split_calls" s_split_calls ["numbers"]
  first_refusal : Df K mg "first_refusal" s_first_refusal ["auction", "call"]
  bidder_out_of_range : Df K mg "bidder_out_of_range" s_bidder_out_of_range ["call"]
  row_out_of_range : Df K mg "row_out_of_range" s_row_out_of_range ["call"]
  answers : Df K mg "answers" s_answers ["calls"]
  answer_to : Df K mg "answer_to" s_answer_to ["auction", "call"]
  mk_Auction : Mk K c_Auction Auction_init.f
  mk_Call : Mk K c_Call Call_init.f
  t_NONE : Tok
  k_NONE : mg "NONE" = some (.int (-1) t_NONE)
  t_NO_SET : Tok
  k_NO_SET : mg "NO_SET" = some (.int (0) t_NO_SET)
  t_BIDDERS : Tok
  k_BIDDERS : mg "BIDDERS" = some (.int (5) t_BIDDERS)
  t_NO_BID : Tok
  k_NO_BID : mg "NO_BID" = some (.int (-1) t_NO_BID)
  t_OUT_OF_RANGE : Tok
  k_OUT_OF_RANGE : mg "OUT_OF_RANGE" = some (.int (-1) t_OUT_OF_RANGE)
  t_NO_AUCTION : Tok
  k_NO_AUCTION : mg "NO_AUCTION" = some (.int (-2) t_NO_AUCTION)
  t_NOT_CLOSED : Tok
  k_NOT_CLOSED : mg "NOT_CLOSED" = some (.int (-5) t_NOT_CLOSED)
  t_CLOSED : Tok
  k_CLOSED : mg "CLOSED" = some (.int (-6) t_CLOSED)
  t_WRONG_LENGTH : Tok
  k_WRONG_LENGTH : mg "WRONG_LENGTH" = some (.int (-7) t_WRONG_LENGTH)
  t_NEW_AUCTION : Tok
  k_NEW_AUCTION : mg "NEW_AUCTION" = some (.int (0) t_NEW_AUCTION)
  t_MOST_LOTS : Tok
  k_MOST_LOTS : mg "MOST_LOTS" = some (.int (4) t_MOST_LOTS)
  a_WITH_BIDDER : Addr
  k_WITH_BIDDER : mg "WITH_BIDDER" = some (.ref a_WITH_BIDDER)
  v_WITH_BIDDER : ∀ H, SqT K H a_WITH_BIDDER (([1, 8, 11, 12, 13, 14] : List Int).map V.int)
  a_WITH_ROW : Addr
  k_WITH_ROW : mg "WITH_ROW" = some (.ref a_WITH_ROW)
  v_WITH_ROW : ∀ H, SqT K H a_WITH_ROW (([0, 1, 7, 8, 9, 11, 12, 13] : List Int).map V.int)
  a_ONLY_BEFORE_CLOSING : Addr
  k_ONLY_BEFORE_CLOSING : mg "ONLY_BEFORE_CLOSING" = some (.ref a_ONLY_BEFORE_CLOSING)
  v_ONLY_BEFORE_CLOSING : ∀ H, SqT K H a_ONLY_BEFORE_CLOSING (([1, 2] : List Int).map V.int)
  a_ONLY_AFTER_CLOSING : Addr
  k_ONLY_AFTER_CLOSING : mg "ONLY_AFTER_CLOSING" = some (.ref a_ONLY_AFTER_CLOSING)
  v_ONLY_AFTER_CLOSING : ∀ H, SqT K H a_ONLY_AFTER_CLOSING (([3, 4, 5, 6, 7, 8, 9, 10, 11, 12, 13, 14, 16] : List Int).map V.int)
  a_OPERATIONS : Addr
  e_OPERATIONS : Array DictEntry
  m_OPERATIONS : Nat
  k_OPERATIONS : mg "OPERATIONS" = some (.ref a_OPERATIONS)
  d_OPERATIONS : KInt K a_OPERATIONS e_OPERATIONS m_OPERATIONS
  o_OPERATIONS_0 : findBy Value.isInt e_OPERATIONS 0 = some (.ref new_auction.f)
  o_OPERATIONS_1 : findBy Value.isInt e_OPERATIONS 1 = some (.ref submit_bid.f)
  o_OPERATIONS_2 : findBy Value.isInt e_OPERATIONS 2 = some (.ref close_auction.f)
  o_OPERATIONS_3 : findBy Value.isInt e_OPERATIONS 3 = some (.ref get_result.f)
  o_OPERATIONS_4 : findBy Value.isInt e_OPERATIONS 4 = some (.ref get_minimum_prices.f)
  o_OPERATIONS_5 : findBy Value.isInt e_OPERATIONS 5 = some (.ref get_maximum_prices.f)
  o_OPERATIONS_6 : findBy Value.isInt e_OPERATIONS 6 = some (.ref get_total_value.f)
  o_OPERATIONS_7 : findBy Value.isInt e_OPERATIONS 7 = some (.ref check_prices.f)
  o_OPERATIONS_8 : findBy Value.isInt e_OPERATIONS 8 = some (.ref get_demand_set.f)
  o_OPERATIONS_9 : findBy Value.isInt e_OPERATIONS 9 = some (.ref get_overdemanded_set.f)
  o_OPERATIONS_10 : findBy Value.isInt e_OPERATIONS 10 = some (.ref get_clock.f)
  o_OPERATIONS_11 : findBy Value.isInt e_OPERATIONS 11 = some (.ref get_hypothetical_result.f)
  o_OPERATIONS_12 : findBy Value.isInt e_OPERATIONS 12 = some (.ref get_utility.f)
  o_OPERATIONS_13 : findBy Value.isInt e_OPERATIONS 13 = some (.ref get_truthful_utility.f)
  o_OPERATIONS_14 : findBy Value.isInt e_OPERATIONS 14 = some (.ref get_total_without.f)
  o_OPERATIONS_15 : findBy Value.isInt e_OPERATIONS 15 = some (.ref list_submitted.f)
  o_OPERATIONS_16 : findBy Value.isInt e_OPERATIONS 16 = some (.ref list_bids.f)
  o_OPERATIONS_17 : findBy Value.isInt e_OPERATIONS 17 = some (.ref summary.f)
  a_LARGEST_IN_ROW : Addr
  e_LARGEST_IN_ROW : Array DictEntry
  m_LARGEST_IN_ROW : Nat
  k_LARGEST_IN_ROW : mg "LARGEST_IN_ROW" = some (.ref a_LARGEST_IN_ROW)
  d_LARGEST_IN_ROW : KInt K a_LARGEST_IN_ROW e_LARGEST_IN_ROW m_LARGEST_IN_ROW
  o_LARGEST_IN_ROW_0 : ∃ t, findBy Value.isInt e_LARGEST_IN_ROW 0 = some (.int 60 t)
  o_LARGEST_IN_ROW_1 : ∃ t, findBy Value.isInt e_LARGEST_IN_ROW 1 = some (.int 60 t)
  o_LARGEST_IN_ROW_7 : ∃ t, findBy Value.isInt e_LARGEST_IN_ROW 7 = some (.int 1000 t)
  o_LARGEST_IN_ROW_8 : ∃ t, findBy Value.isInt e_LARGEST_IN_ROW 8 = some (.int 1000 t)
  o_LARGEST_IN_ROW_9 : ∃ t, findBy Value.isInt e_LARGEST_IN_ROW 9 = some (.int 1000 t)
  o_LARGEST_IN_ROW_11 : ∃ t, findBy Value.isInt e_LARGEST_IN_ROW 11 = some (.int 60 t)
  o_LARGEST_IN_ROW_12 : ∃ t, findBy Value.isInt e_LARGEST_IN_ROW 12 = some (.int 60 t)
  o_LARGEST_IN_ROW_13 : ∃ t, findBy Value.isInt e_LARGEST_IN_ROW 13 = some (.int 60 t)
  b_len : mg "len" = none
  b_range : mg "range" = none
  b_enumerate : mg "enumerate" = none
  b_zip : mg "zip" = none
  b_reversed : mg "reversed" = none
  b_list : mg "list" = none
  b_sum : mg "sum" = none
  b_max : mg "max" = none
  b_sorted : mg "sorted" = none
  b_any : mg "any" = none
  b_int : mg "int" = none
end Sl
/-! # The matching -/
namespace Sl
open PySem PySem.Spec PyProof.Rows L2 Mir
open Evl (Ex Ex.refl Ex.trans Ex.new Ex.mut fresh_back sz_of sz_lt ex_l sq_of RetL given)
variable {P : Program} {w : World} {K : PySem.W.Frag} {mg : Str → Option Value} {base : Heap}
def sp_unsold_values : Sp := fun vs H Q _ => ∃ (r : Addr) (R : List Int), vs = [.ref r] ∧ LI H r R ∧ R.length ≤ 5 ∧ RetL ((unsold R).map V.int) H Q
theorem unsold_le {R : List Int} (h : R.length ≤ 5) (i : Nat) : (unsold (R.take i)).length ≤ 32 := by
  rw [unsold_len]
  exact Nat.pow_le_pow_right (n := 2) (by decide) (Nat.le_trans (List.length_take_le' _ _) h) 
theorem ok_unsold_values (T : Tx K mg) : FnOk P w K mg base CX0 1 T.unsold_values.f T.unsold_values.fd ["reserves"] sp_unsold_values := by
  refine T.unsold_values.F.ok sc_unsold_values (fun vs H Q E h => by obtain ⟨r, R, rfl, _⟩ := h; rfl) (fun cdv A outer s H vs Q E hr h => ⟨_, (pss_cons (ps_set (i := 1) sc_unsold_values.nd rfl (Or.inl rfl) (pe_lst (pa_cons pe_int pa_nil))) (pss_cons (ps_for PassesOwn.never rfl (pi_list (pv 0)) (pg_name (i := 2) sc_unsold_values.nd rfl (Or.inr rfl)) (pss_one (ps_set (i := 1) sc_unsold_values.nd rfl (Or.inl rfl) (pe_op op_cat (pv 1) (pe_lc (own := [("others", 3)]) rfl sc_unsold_values.nd (pi_list (pv 1)) (blkOk_by (own := [("others", 3)]) (N := N_unsold_values) (sc := defScope s_unsold_values) (by decide +kernel)) (fun _ _ _ _ _ => (pg_name (i := 3) sc_unsold_values.nd rfl (Or.inl rfl) (hf := Or.inr rfl))) (fun _ _ _ _ _ => pts_nil) (fun _ _ _ _ _ => (pe_op op_add (pv 2) (pv 3)))))))) (pss_one (ps_ret (pv 1))))), ?_⟩)
  obtain ⟨r, R, rfl, h1, h5, k⟩ := h
  refine ⟨sz1 (by decide), fun p0 hp0 => ?_⟩
  have e0 : Ex H (upd H p0 (.lst [.int 0])) := Ex.new hp0
  refine ⟨_, rfl, r, rfl, ⟨_, sq_of (e0 r _ h1)⟩, for_list (K := K) (a := r) (xs := R.map V.int) (fun i σ H' => ∃ s v u, σ = [some (.ref r), some (.ref s), v, u] ∧ Ex H H' ∧ H s = none ∧ LI H' s (unsold (R.take i))) ⟨p0, _, _, rfl, e0, hp0, upd_same⟩ (fun i σ H' _ ⟨_, _, _, _, e, _⟩ => sq_of (e r _ h1)) ?_ ?_⟩
  · rintro i x σ H' hi ⟨s, v, u, rfl, e, hs, hl⟩
    obtain ⟨z, hz, rfl⟩ := at_int hi
    have hle := unsold_le h5 i
    have hle2 := unsold_le h5 (i + 1)
    have hsn : unsold (R.take (i + 1)) = unsold (R.take i) ++ (unsold (R.take i)).map fun o => z + o := by rw [take_more hz, unsold_snoc]
    refine ⟨_, rfl, _, rfl, s, rfl, ⟨_, sq_of hl⟩, fun D hD => lc_map (walk_list (xs := (unsold (R.take i)).map V.int)) (((unsold (R.take i)).map fun o => z + o).map V.int) (by simp) hD (by simp; omega) (fun H e => sq_of (e s _ hl)) ?_ ?_⟩
    · intro j x H1 H2 y hj hy e1 ⟨hH, hx⟩ M k2
      subst hH
      obtain ⟨o, ho, rfl⟩ := at_int hx
      obtain ⟨o', ho', rfl⟩ := at_int hy
      rw [List.getElem?_map, ho] at ho'
      cases ho'
      exact ⟨rfl, _, rfl, _, rfl, _, _, rfl, rfl, k2 _ (Ex.refl _)⟩
    · intro H2 e2 h2
      refine ⟨_, _, _, _, rfl, rfl, e2 s _ hl, h2, ?_, fun p hp => ⟨p, some (.int z), u, rfl, (e.trans e2).trans (Ex.new hp), fresh_back (e.trans e2) hp, ?_⟩⟩
      · rw [hsn] at hle2
        exact sz1 (by simp at hle2 ⊢; omega)
      · show (upd H2 p _) p = some (.lst ((unsold (R.take (i + 1))).map V.int))
        rw [hsn, List.map_append]
        exact upd_same
  · rintro σ H' ⟨s, v, u, rfl, e, hs, hl⟩
    refine ⟨_, rfl, k s H' hs e ?_⟩
    have : R.take (R.map V.int).length = R := by rw [List.length_map, List.take_length]
    rw [this] at hl
    exact hl
/-! ### choices -/
def sp_choices : Sp := fun vs H Q _ => ∃ (a b : Addr) (R L : List Int) (m : Nat), vs = [.ref a, .int (m : Int), .ref b] ∧ LI H a R ∧ LI H b L ∧ R.length ≤ 5 ∧ m < L.length ∧ L.length ≤ 32 ∧
  ∀ (p : Addr) (H' : Hp) (as : List Addr), H p = none → Ex H H' → H' p = some (.lst (as.map V.ref)) → PairsAt H' as (choices R m L) → Q (.ref p) H'
def pre (R L : List Int) (m i : Nat) : List (Int × Int) := (lots i m).map fun j => (R.getD j 0 + L.getD (m - 2 ^ j) 0, (j : Int))
theorem pre_succ (R L : List Int) (m i : Nat) : pre R L m (i + 1) = pre R L m i ++ (if m.testBit i then [(R.getD i 0 + L.getD (m - 2 ^ i) 0, (i : Int))] else []) := by
  unfold pre
  rw [lots_succ, List.map_append]
  congr 1
  split <;> rfl
theorem pre_len (R L : List Int) (m i : Nat) : (pre R L m i).length ≤ i := by
  unfold pre lots
  rw [List.length_map]
  exact Nat.le_trans (List.length_filter_le ..) (by rw [List.length_range]; exact Nat.le_refl _)
theorem getD_of {l : List Int} {i : Nat} {z : Int} (h : l[i]? = some z) : l.getD i 0 = z := by
  rw [List.getD_eq_getElem?_getD, h]
  rfl
theorem ok_choices (T : Tx K mg) : FnOk P w K mg base CX0 1 T.choices.f T.choices.fd ["row", "left", "later"] sp_choices := by
  refine T.choices.F.ok sc_choices (fun vs H Q E h => by obtain ⟨a, b, R, L, m, rfl, _⟩ := h; rfl) (fun cdv A outer s H vs Q E hr h => ⟨_, (pss_cons (ps_set (i := 3) sc_choices.nd rfl (Or.inl rfl) (pe_lst pa_nil)) (pss_cons (ps_for PassesOwn.never rfl (pi_enum (by rfl) T.b_enumerate (pa_cons (pv 0) pa_nil)) (pg_tup rfl (pgs_cons (pg_name (i := 4) sc_choices.nd rfl (Or.inl rfl)) (pgs_cons (pg_name (i := 5) sc_choices.nd rfl (Or.inl rfl)) pgs_nil))) (pss_one (ps_if (pt_truth (pe_op op_and (pe_op op_shr (pv 1) (pv 4)) pe_int) (by intro _; rfl)) (pss_one (ps_expr (pe_bm PySem.F.plainAttrs_list PySem.F.slot_list_append PySem.F.type_list_append mt_append (pv 3) (pa_cons (pe_tup (pa_cons (pe_op op_add (pv 5) (pe_ix (r := rIxL K) ix_list (pv 2) (pe_op op_sub (pv 1) (pe_op op_shl pe_int (pv 4))) (fun _ _ => rfl))) (pa_cons (pv 4) pa_nil))) pa_nil)))) pss_nil))) (pss_cons (ps_expr (pe_bm PySem.F.plainAttrs_list PySem.F.slot_list_append PySem.F.type_list_append mt_append (pv 3) (pa_cons (pe_tup (pa_cons (pe_ix (r := rIxL K) ix_list (pv 2) (pv 1) (fun _ _ => rfl)) (pa_cons (pe_glob (v := .int (-1)) rfl T.k_NONE ⟨_, rfl⟩) pa_nil))) pa_nil))) (pss_one (ps_ret (pv 3)))))), ?_⟩)
  obtain ⟨a, b, R, L, m, rfl, ha, hb, h5, hm, h32, k⟩ := h
  refine ⟨sz1 (by decide), fun p0 hp0 => ?_⟩
  have e0 : Ex H (upd H p0 (.lst [])) := Ex.new hp0
  refine ⟨_, rfl, a, _, rfl, sq_of (e0 a _ ha), for_it (walk_enum (K := K) (a := a) (xs := R.map V.int)) (fun i σ H' => ∃ u v as, σ = [some (.ref a), some (.int (m : Int)), some (.ref b), some (.ref p0), u, v] ∧ Ex H H' ∧ H' p0 = some (.lst (as.map V.ref)) ∧ PairsAt H' as (pre R L m i)) ⟨_, _, [], rfl, e0, upd_same, rfl, fun i a z => by simp at z⟩
    (fun i σ H' _ ⟨_, _, _, _, e, _⟩ => sq_of (e a _ ha)) ?_ ?_⟩
  · rintro i x σ H1 H2 hi ⟨u, v, as, rfl, e, hf, hP⟩ ⟨t, x1, y1, rfl, ht, rfl, q1, q2⟩
    have e1 : Ex H1 (upd H1 t (.tup [x1, y1])) := Ex.new ht
    cases q1
    obtain ⟨z, hz, rfl⟩ := at_int q2
    have hiR : i < R.length := (List.getElem?_eq_some_iff.mp hz).1
    refine ⟨t, _, rfl, Evl.st_of upd_same, rfl, _, _, rfl, _, _, rfl, rfl, ?_⟩
    refine ⟨_, rfl, _, rfl, _, _, rfl, rfl, (by omega), _, _, rfl, rfl, _, rfl, ?_⟩
    rw [bit_test]
    by_cases c : m.testBit i = true
    · refine if_true_of c ?_
      have hge := Nat.ge_two_pow_of_testBit c
      refine ⟨_, rfl, Or.inl ⟨rfl, _, sq_of (e1 p0 _ hf)⟩, ?_⟩
      refine ⟨_, rfl, _, rfl, _, rfl, _, rfl, _, _, rfl, rfl, ⟨by omega, by omega, by decide⟩, _, _, rfl, rfl, b, _, _, .int (L.getD (m - 2 ^ i) 0), rfl, rfl, sq_of (e1 b _ (e b _ hb)), ?_, _, _, rfl, rfl, _, rfl, sz_2, fun q hq => ?_⟩
      · rw [shl_nat, sub_bit c]
        exact int_at (Nat.lt_of_le_of_lt (Nat.sub_le _ _) hm)
      · have hpq : p0 ≠ q := fun z => by rw [← z, e1 p0 _ hf] at hq; cases hq
        have e2 : Ex (upd H1 t (.tup [.int (i : Int), .int z])) (upd (upd H1 t (.tup [.int (i : Int), .int z])) q (.tup [.int (z + L.getD (m - 2 ^ i) 0), .int (i : Int)])) := Ex.new hq
        refine ⟨p0, _, _, rfl, rfl, e2 p0 _ (e1 p0 _ hf), ?_, ?_⟩
        · have := pre_len R L m i
          have := hP.1
          rw [List.length_map]
          exact sz_lt (by omega)
        · refine ⟨_, _, as ++ [q], rfl, Ex.mut ((e.trans e1).trans e2) hp0, ?_, ?_⟩
          · rw [List.map_append]
            exact upd_same
          · rw [pre_succ, if_pos c, getD_of hz]
            refine hP.snoc (fun a' o h1 ⟨x, hx⟩ => ?_) ?_
            · have hne : a' ≠ p0 := fun z => by rw [z, hf] at h1; cases h1; cases hx
              rw [upd_ne hne]
              exact e2 _ _ (e1 _ _ h1)
            · rw [upd_ne (Ne.symm hpq)]
              exact upd_same
    · refine if_false_of (Bool.eq_false_iff.mpr c) ?_
      refine ⟨_, _, as, rfl, e.trans e1, e1 p0 _ hf, ?_⟩
      rw [pre_succ, if_neg c, List.append_nil]
      exact hP.mono e1
  · rintro σ H' ⟨u, v, as, rfl, e, hf, hP⟩
    refine ⟨_, rfl, Or.inl ⟨rfl, _, sq_of hf⟩, ?_⟩
    refine ⟨_, rfl, _, rfl, b, _, _, .int (L.getD m 0), rfl, rfl, sq_of (e b _ hb), int_at hm, sz_2, fun q hq => ?_⟩
    have hpq : p0 ≠ q := fun z => by rw [← z, hf] at hq; cases hq
    have e2 : Ex H' (upd H' q (.tup [.int (L.getD m 0), .int (-1)])) := Ex.new hq
    rw [List.length_map] at hP
    refine ⟨p0, _, _, rfl, rfl, e2 p0 _ hf, ?_, ?_⟩
    · have := pre_len R L m R.length
      have := hP.1
      rw [List.length_map]
      exact sz_lt (by omega)
    · refine ⟨_, rfl, k p0 _ (as ++ [q]) hp0 (Ex.mut (e.trans e2) hp0) ?_ ?_⟩
      · rw [List.map_append]
        exact upd_same
      · refine hP.snoc (c := (L.getD m 0, -1)) (fun a' o h1 ⟨x, hx⟩ => ?_) ?_
        · have hne : a' ≠ p0 := fun z => by rw [z, hf] at h1; cases h1; cases hx
          rw [upd_ne hne]
          exact e2 _ _ h1
        · rw [upd_ne (Ne.symm hpq)]
          exact upd_same
/-! ### best_choice -/
def sp_best_choice : Sp := fun vs H Q _ => ∃ (a b : Addr) (R L : List Int) (m : Nat), vs = [.ref a, .int (m : Int), .ref b] ∧ LI H a R ∧ LI H b L ∧ R.length ≤ 5 ∧ m < L.length ∧ L.length ≤ 32 ∧
  ∀ (p : Addr) (H' : Hp), Ex H H' → H' p = some (.tup [.int (bestChoice R m L).1, .int (bestChoice R m L).2]) → Q (.ref p) H'
def BestIs (H : Hp) (v : V) : Option (Int × Int) → Prop
  | none => v = .non
  | some c => ∃ a, v = .ref a ∧ H a = some (.tup [.int c.1, .int c.2])
theorem BestIs.mono {H H' : Hp} {v : V} {o : Option (Int × Int)} (e : Ex H H') (h : BestIs H v o) : BestIs H' v o := by
  cases o with
  | none => exact h
  | some c => obtain ⟨a, h1, h2⟩ := h; exact ⟨a, h1, e _ _ h2⟩
theorem ok_best_choice (T : Tx K mg) : FnOk P w K mg base CX0 2 T.best_choice.f T.best_choice.fd ["row", "left", "later"] sp_best_choice := by
  have ok_choices := ok_choices (P := P) (w := w) (base := base) T
  refine T.best_choice.F.ok sc_best_choice (fun vs H Q E h => by obtain ⟨a, b, R, L, m, rfl, _⟩ := h; rfl) (fun cdv A outer s H vs Q E hr h => ⟨_, (pss_cons (ps_set (i := 3) sc_best_choice.nd rfl (Or.inl rfl) pe_non) (pss_cons (ps_for PassesOwn.never rfl (pi_list (pe_call ok_choices hr rfl T.choices.g T.choices.kp T.choices.b .nil pass0 (pa_cons (pv 0) (pa_cons (pv 1) (pa_cons (pv 2) pa_nil))))) (pg_name (i := 4) sc_best_choice.nd rfl (Or.inl rfl)) (pss_one (ps_if (PW.pt (pw_or (pt_cmpR op_isN (pv 3) pe_non (nomark _)) (pw_or1 (pt_cmpR op_gt (pe_ix (r := rIxT K) ix_tup (pv 4) pe_int (fun _ _ => rfl)) (pe_ix (r := rIxT K) ix_tup (pv 3) pe_int (fun _ _ => rfl)) (nomark _))))) (pss_one (ps_set (i := 3) sc_best_choice.nd rfl (Or.inl rfl) (pv 4))) pss_nil))) (pss_one (ps_ret (pv 3))))), ?_⟩)
  obtain ⟨a, b, R, L, m, rfl, ha, hb, h5, hm, h32, k⟩ := h
  refine ⟨_, rfl, _, rfl, _, rfl, a, b, R, L, m, rfl, ha, hb, h5, hm, h32, fun p H1 as hp e1 hl hP => ⟨p, rfl, ⟨_, sq_of hl⟩, ?_⟩⟩
  refine for_list (K := K) (a := p) (xs := as.map V.ref) (fun i σ H' => ∃ v u, σ = [some (.ref a), some (.int (m : Int)), some (.ref b), some v, u] ∧ Ex H1 H' ∧ BestIs H' v (((choices R m L).take i).foldl pick none)) ⟨.non, _, rfl, Ex.refl _, rfl⟩ (fun i σ H' _ ⟨_, _, _, e, _⟩ => sq_of (e p _ hl)) ?_ ?_
  · rintro i x σ H' hi ⟨v, u, rfl, e, hB⟩
    obtain ⟨t, ht, rfl⟩ := at_ref hi
    obtain ⟨c, hc, htc⟩ := hP.2 i t ht
    have htc' := e _ _ htc
    have hstep : ((choices R m L).take (i + 1)).foldl pick none = pick (((choices R m L).take i).foldl pick none) c := by
      rw [take_more hc, List.foldl_append]
      rfl
    refine ⟨_, rfl, rfl, _, rfl, ?_⟩
    cases hO : ((choices R m L).take i).foldl pick none with
    | none =>
      rw [hO] at hB hstep
      have hv : v = .non := hB
      subst hv
      refine if_true_of rfl ⟨_, rfl, _, _, rfl, e, ?_⟩
      rw [hstep]
      exact ⟨t, rfl, htc'⟩
    | some y =>
      rw [hO] at hB hstep
      obtain ⟨ay, rfl, hy⟩ := hB
      refine if_false_of rfl ?_
      refine ⟨_, rfl, t, _, _, .int c.1, rfl, rfl, Evl.st_of htc', rfl, _, rfl, ay, _, _, .int y.1, rfl, rfl, Evl.st_of hy, rfl, _, _, rfl, rfl, _, rfl, ?_⟩
      by_cases hlt : y.1 < c.1
      · refine if_true_of (decide_eq_true hlt) ⟨_, rfl, _, _, rfl, e, ?_⟩
        rw [hstep]
        show BestIs H' _ (if y.1 < c.1 then some c else some y)
        rw [if_pos hlt]
        exact ⟨t, rfl, htc'⟩
      · refine if_false_of (decide_eq_false hlt) ⟨_, _, rfl, e, ?_⟩
        rw [hstep]
        show BestIs H' _ (if y.1 < c.1 then some c else some y)
        rw [if_neg hlt]
        exact ⟨ay, rfl, hy⟩
  · rintro σ H' ⟨v, u, rfl, e, hB⟩
    rw [List.length_map, hP.1, List.take_length] at hB
    have hs := firstMax_some (choices R m L) none (.inl (by unfold choices; simp))
    obtain ⟨y, hy⟩ := Option.isSome_iff_exists.mp hs
    rw [hy] at hB
    obtain ⟨ay, rfl, h2⟩ := hB
    refine ⟨_, rfl, k ay H' (e1.trans e) ?_⟩
    have : bestChoice R m L = y := by
      unfold bestChoice firstMax
      rw [hy]
      rfl
    rw [this]
    exact h2
end Sl
/-! # The tables of values, the allocation -/
namespace Sl
open PySem PySem.Spec PyProof.Rows L2 Mir
open Evl (Ex Ex.refl Ex.trans Ex.new Ex.mut fresh_back sz_of sz_lt ex_l sq_of RetL given)
variable {P : Program} {w : World} {K : PySem.W.Frag} {mg : Str → Option Value} {base : Heap}
/-- a list of rows, each as long as the reserves -/
def Fit (R : List Int) (B : List (List Int)) : Prop := R.length ≤ 5 ∧ B.length ≤ 5 ∧ ∀ row ∈ B, row.length ≤ 5
def sp_value_tables : Sp := fun vs H Q _ => ∃ (a b : Addr) (R : List Int) (B : List (List Int)), vs = [.ref a, .ref b] ∧ LI H a R ∧ Rws H b B ∧ Fit R B ∧
  ∀ (p : Addr) (H' : Hp), H p = none → Ex H H' → Rws H' p (tables R B) → Q (.ref p) H'
theorem tables_cons (R : List Int) (B : List (List Int)) {j : Nat} {row : List Int} (h : B[j]? = some row) :
    tables R (B.drop j) = ((List.range (2 ^ R.length)).map fun m => (bestChoice row m ((tables R (B.drop (j + 1))).headD [])).1) :: tables R (B.drop (j + 1)) := by
  rw [List.drop_eq_getElem_cons (List.getElem?_eq_some_iff.mp h).1, (List.getElem?_eq_some_iff.mp h).2]
  rfl
theorem pow_le32 {n : Nat} (h : n ≤ 5) : 2 ^ n ≤ 32 := Nat.pow_le_pow_right (n := 2) (by decide) h
theorem ok_value_tables (T : Tx K mg) : FnOk P w K mg base CX0 3 T.value_tables.f T.value_tables.fd ["reserves", "bids"] sp_value_tables := by
  have ok_unsold_values := ok_unsold_values (P := P) (w := w) (base := base) T
  have ok_best_choice := ok_best_choice (P := P) (w := w) (base := base) T
  refine T.value_tables.F.ok sc_value_tables (fun vs H Q E h => by obtain ⟨a, b, R, L, rfl, _⟩ := h; rfl) (fun cdv A outer s H vs Q E hr h => ⟨_, (pss_cons (ps_set (i := 2) sc_value_tables.nd rfl (Or.inr rfl) (pe_call ok_unsold_values (hr.mono (by decide)) rfl T.unsold_values.g T.unsold_values.kp T.unsold_values.b .nil pass0 (pa_cons (pv 0) pa_nil))) (pss_cons (ps_set (i := 3) sc_value_tables.nd rfl (Or.inl rfl) (pe_lst (pa_cons (pv 2) pa_nil))) (pss_cons (ps_for PassesOwn.never rfl (RT.pi_revA (by rfl) T.b_reversed (pv 1)) (pg_name (i := 4) sc_value_tables.nd rfl (Or.inr rfl)) (pss_cons (ps_set (i := 2) sc_value_tables.nd rfl (Or.inr rfl) (pe_lc (own := [("left", 5)]) rfl sc_value_tables.nd (pi_range1 (by rfl) T.b_range (pa_cons (pe_callB call_len_seq (by rfl) T.b_len PySem.boot_len (pa_cons (pv 2) pa_nil)) pa_nil)) (blkOk_by (own := [("left", 5)]) (N := N_value_tables) (sc := defScope s_value_tables) (by decide +kernel)) (fun _ _ _ _ _ => (pg_name (i := 5) sc_value_tables.nd rfl (Or.inl rfl) (hf := Or.inr rfl))) (fun _ _ _ _ _ => pts_nil) (fun _ _ _ _ _ => (pe_ix (r := rIxT K) ix_tup (pe_call ok_best_choice hr rfl T.best_choice.g T.best_choice.kp T.best_choice.b .nil pass0 (pa_cons (pv 4) (pa_cons (pv 5) (pa_cons (pv 2) pa_nil)))) pe_int (fun _ _ => rfl))))) (pss_one (ps_expr (pe_bm PySem.F.plainAttrs_list PySem.F.slot_list_append PySem.F.type_list_append mt_append (pv 3) (pa_cons (pv 2) pa_nil)))))) (pss_one (ps_ret (pe_listRev rfl (by rfl) T.b_list (by rfl) T.b_reversed (pv 3))))))), ?_⟩)
  obtain ⟨a, b, R, B, rfl, ha, ⟨bs, hb, hB⟩, ⟨h5, hB5, hrow⟩, k⟩ := h
  -- later = unsold_values(reserves)
  refine ⟨_, rfl, a, R, rfl, ha, h5, fun p0 H0 hp0 e0 hl0 => ?_⟩
  -- tables = [later]
  refine ⟨_, rfl, sz_1, fun t ht => ?_⟩
  have e1 : Ex H (upd H0 t (.lst [.ref p0])) := e0.trans (Ex.new ht)
  have htH : H t = none := fresh_back e0 ht
  have hne0 : p0 ≠ t := fun z => by rw [z, ht] at hl0; cases hl0
  refine ⟨_, rfl, b, bs.map V.ref, rfl, .inl ⟨sq_of (e1 b _ hb), ?_⟩⟩
  have hlen : (bs.map V.ref).length = B.length := by rw [List.length_map, hB.1]
  refine for_it (walk_rev (K := K) (a := b) (xs := bs.map V.ref)) (fun i σ H' => ∃ l as u v, σ = [some (.ref a), some (.ref b), some (.ref l), some (.ref t), u, v] ∧ Ex H H' ∧ H' t = some (.lst (as.map V.ref)) ∧
      RowsAt H' as (tables R (B.drop (B.length - i))).reverse ∧ (∀ (j : Nat) (x : Addr), as[j]? = some x → x ≠ t) ∧ LI H' l ((tables R (B.drop (B.length - i))).headD [])) ?_
    (fun i σ H' _ ⟨_, _, _, _, _, e, _⟩ => sq_of (e b _ hb)) ?_ ?_
  · refine ⟨p0, [p0], _, _, rfl, e1, upd_same, ?_, fun j x hx => ?_, ?_⟩
    · have : B.drop (B.length - 0) = [] := List.drop_eq_nil_of_le (by omega)
      rw [this]
      refine RowsAt.upd (t := t) ⟨rfl, fun i x hx => ?_⟩ fun i x hx => ?_
      · have : i = 0 := by have := (List.getElem?_eq_some_iff.mp hx).1; simpa using this
        subst this
        have : p0 = x := by simpa using hx
        subst this
        exact ⟨_, rfl, hl0⟩
      · have : i = 0 := by have := (List.getElem?_eq_some_iff.mp hx).1; simpa using this
        subst this
        have : p0 = x := by simpa using hx
        subst this
        exact hne0
    · have : j = 0 := by have := (List.getElem?_eq_some_iff.mp hx).1; simpa using this
      subst this
      have : p0 = x := by simpa using hx
      subst this
      exact hne0
    · have : B.drop (B.length - 0) = [] := List.drop_eq_nil_of_le (by omega)
      rw [this, LI, upd_ne hne0]
      exact hl0
  · rintro i x σ H1 H2 hi ⟨l, as, u, v, rfl, e, hT, hA, hat, hl⟩ ⟨rfl, hx⟩
    obtain ⟨rw, hrw, rfl⟩ := at_ref hx
    obtain ⟨row, hrow', hrl⟩ := hB.2 _ _ hrw
    have hrl1 := e _ _ hrl
    rw [hlen] at hi hrow'
    have hr5 := hrow row (List.mem_of_getElem? hrow')
    have htc := tables_cons R B hrow'
    have hj : B.length - 1 - i + 1 = B.length - i := by omega
    have hj2 : B.length - 1 - i = B.length - (i + 1) := by omega
    rw [hj] at htc
    have hhl : ((tables R (B.drop (B.length - i))).headD []).length = 2 ^ R.length := tables_head_len R _
    have h32 := pow_le32 h5
    generalize (tables R (B.drop (B.length - i))).headD [] = L at htc hhl hl
    -- later = [best_choice(row, left, later)[0] for left in range(len(later))]
    refine ⟨_, rfl, l, _, rfl, .inl (sq_of hl), _, rfl, by simp, by simp; omega, fun D hD => ?_⟩
    refine lc_map (walk_range (lo := 0)) (((List.range (2 ^ R.length)).map fun m => (bestChoice row m L).1).map V.int) (by simp; omega) hD (by simp; omega) (fun H e => trivial) ?_ ?_
    · intro j x H3 H4 y hj4 hy e3 ⟨hH, hx⟩ M k2
      subst hH hx
      obtain ⟨z, hz, rfl⟩ := at_int hy
      have hjn : j < 2 ^ R.length := by simp at hj4; omega
      rw [List.getElem?_map, List.getElem?_range hjn] at hz
      cases hz
      show gName 5 (V.int (0 + (j : Int))) _ _ _
      rw [Int.zero_add]
      refine ⟨rfl, _, rfl, _, rfl, _, rfl, rw, l, row, _, j, rfl, e3 _ _ hrl1, e3 _ _ hl, hr5, by omega, by omega, fun q H5 e5 hq => ?_⟩
      exact ⟨q, _, _, .int _, rfl, rfl, Evl.st_of hq, rfl, k2 _ e5⟩
    · intro H3 e3 h3
      have hDt : D ≠ t := fun z => by rw [z, hT] at hD; cases hD
      refine ⟨_, rfl, Or.inl ⟨rfl, _, sq_of (e3 _ _ hT)⟩, _, rfl, t, _, _, rfl, rfl, e3 _ _ hT, ?_, ?_⟩
      · rw [List.length_map, hA.1, List.length_reverse, tables_len]
        exact szl (by rw [List.length_drop]; omega)
      · refine ⟨D, as ++ [D], _, _, rfl, Ex.mut (e.trans e3) htH, ?_, ?_, ?_, ?_⟩
        · rw [List.map_append]
          exact upd_same
        · rw [← hj2, htc, List.reverse_cons]
          refine (RowsAt.upd (hA.mono e3) hat).snoc ?_
          rw [LI, upd_ne hDt]
          exact h3
        · intro j x hx
          rcases at_snoc hx with ⟨hx, _⟩ | ⟨_, rfl⟩
          · exact hat j x hx
          · exact hDt
        · rw [← hj2, htc, LI, upd_ne hDt]
          exact h3
  · rintro σ H' ⟨l, as, u, v, rfl, e, hT, hA, hat, hl⟩
    rw [hlen, Nat.sub_self, List.drop_zero] at hA
    refine ⟨_, rfl, t, _, rfl, sq_of hT, fun q hq => k q _ (fresh_back e hq) (e.trans (Ex.new hq)) ⟨as.reverse, ?_, ?_⟩⟩
    · rw [List.map_reverse]
      exact upd_same
    · have := hA.rev
      rw [List.reverse_reverse] at this
      exact this.mono (Ex.new hq)
end Sl
namespace Sl
open PySem PySem.Spec PyProof.Rows L2 Mir
open Evl (Ex Ex.refl Ex.trans Ex.new Ex.mut fresh_back sz_of sz_lt ex_l sq_of RetL RetV given)
variable {P : Program} {w : World} {K : PySem.W.Frag} {mg : Str → Option Value} {base : Heap}
theorem tables_at (R : List Int) (B : List (List Int)) {i : Nat} (h : i ≤ B.length) : (tables R B)[i]? = some ((tables R (B.drop i)).headD []) := by
  have h1 := tables_drop R B i h
  have h2 : (tables R B)[i]? = ((tables R B).drop i)[0]? := by rw [List.getElem?_drop]; rfl
  rw [h2, h1]
  have := tables_ne R (B.drop i)
  cases hT : tables R (B.drop i) with
  | nil => exact absurd hT this
  | cons x l => rfl
def sp_maximum_value : Sp := fun vs H Q _ => ∃ (a b : Addr) (R : List Int) (B : List (List Int)), vs = [.ref a, .ref b] ∧ LI H a R ∧ Rws H b B ∧ Fit R B ∧ ∀ H' : Hp, Ex H H' → Q (.int (maxValue R B)) H'
theorem ok_maximum_value (T : Tx K mg) : FnOk P w K mg base CX0 4 T.maximum_value.f T.maximum_value.fd ["reserves", "bids"] sp_maximum_value := by
  have ok_value_tables := ok_value_tables (P := P) (w := w) (base := base) T
  refine T.maximum_value.F.ok sc_maximum_value (fun vs H Q E h => by obtain ⟨a, b, R, L, rfl, _⟩ := h; rfl) (fun cdv A outer s H vs Q E hr h => ⟨_, (pss_one (ps_ret (pe_ix (r := rIxL K) ix_list (pe_ix (r := rIxL K) ix_list (pe_call ok_value_tables hr rfl T.value_tables.g T.value_tables.kp T.value_tables.b .nil pass0 (pa_cons (pv 0) (pa_cons (pv 1) pa_nil))) pe_int (fun _ _ => rfl)) (pe_un un_neg pe_int) (fun _ _ => rfl)))), ?_⟩)
  obtain ⟨a, b, R, B, rfl, ha, hb, hF, k⟩ := h
  refine ⟨_, rfl, _, rfl, a, b, R, B, rfl, ha, hb, hF, fun p H1 hp e1 ⟨as, hl, hA⟩ => ?_⟩
  obtain ⟨q, hq, hql⟩ := hA.at (tables_at R B (Nat.zero_le _))
  rw [List.drop_zero] at hql
  have hlen := tables_head_len R B
  have hp2 : 0 < 2 ^ R.length := Nat.two_pow_pos _
  refine ⟨p, _, _, .ref q, rfl, rfl, sq_of hl, atI_nat (j := 0) (by rw [List.getElem?_map, hq]; rfl), 1, rfl, q, _, _, .int (maxValue R B), rfl, rfl, sq_of hql, ?_, k _ e1⟩
  rw [atI_neg1 (by rw [List.length_map]; omega), List.getElem?_map, List.length_map, hlen]
  unfold maxValue
  rw [List.getD_eq_getElem?_getD, List.getElem?_eq_getElem (by omega)]
  rfl
theorem best_lot (row : List Int) (m : Nat) (L : List Int) : (bestChoice row m L).2 = -1 ∨ ∃ j : Nat, j < row.length ∧ m.testBit j = true ∧ (bestChoice row m L).2 = (j : Int) := by
  have hs := firstMax_some (choices row m L) none (.inl (by unfold choices; simp))
  obtain ⟨y, hy⟩ := Option.isSome_iff_exists.mp hs
  have hb : bestChoice row m L = y := by
    unfold bestChoice firstMax
    rw [hy]
    rfl
  rw [hb]
  rcases firstMax_mem _ none y hy with h | h
  · unfold choices at h
    rcases List.mem_append.mp h with h | h
    · obtain ⟨j, hj, rfl⟩ := List.mem_map.mp h
      exact .inr ⟨j, lots_lt hj, lots_bit hj, rfl⟩
    · rw [List.mem_singleton] at h
      subst h
      exact .inl rfl
  · cases h
def sp_returned_allocation : Sp := fun vs H Q _ => ∃ (a b : Addr) (R : List Int) (B : List (List Int)), vs = [.ref a, .ref b] ∧ LI H a R ∧ Rws H b B ∧ Fit R B ∧ RetL ((alloc R B).map V.int) H Q
theorem alloc_len (R : List Int) (B : List (List Int)) : ∀ m, (allocFrom R B m).length = B.length := by
  induction B with
  | nil => intro m; rfl
  | cons row rest ih => intro m; rw [allocFrom, List.length_cons, List.length_cons, ih]
theorem ok_returned_allocation (T : Tx K mg) : FnOk P w K mg base CX0 4 T.returned_allocation.f T.returned_allocation.fd ["reserves", "bids"] sp_returned_allocation := by
  have ok_value_tables := ok_value_tables (P := P) (w := w) (base := base) T
  have ok_best_choice := ok_best_choice (P := P) (w := w) (base := base) T
  refine T.returned_allocation.F.ok sc_returned_allocation (fun vs H Q E h => by obtain ⟨a, b, R, L, rfl, _⟩ := h; rfl) (fun cdv A outer s H vs Q E hr h => ⟨_, (pss_cons (ps_set (i := 2) sc_returned_allocation.nd rfl (Or.inl rfl) (pe_call ok_value_tables hr rfl T.value_tables.g T.value_tables.kp T.value_tables.b .nil pass0 (pa_cons (pv 0) (pa_cons (pv 1) pa_nil)))) (pss_cons (ps_set (i := 3) sc_returned_allocation.nd rfl (Or.inl rfl) (pe_op op_sub (pe_callB call_len_seq (by rfl) T.b_len PySem.boot_len (pa_cons (pe_ix (r := rIxL K) ix_list (pv 2) pe_int (fun _ _ => rfl)) pa_nil)) pe_int)) (pss_cons (ps_set (i := 4) sc_returned_allocation.nd rfl (Or.inl rfl) (pe_lst pa_nil)) (pss_cons (ps_for PassesOwn.never rfl (pi_enum (by rfl) T.b_enumerate (pa_cons (pv 1) pa_nil)) (pg_tup rfl (pgs_cons (pg_name (i := 5) sc_returned_allocation.nd rfl (Or.inl rfl)) (pgs_cons (pg_name (i := 6) sc_returned_allocation.nd rfl (Or.inl rfl)) pgs_nil))) (pss_cons (ps_set (i := 7) sc_returned_allocation.nd rfl (Or.inl rfl) (pe_ix (r := rIxT K) ix_tup (pe_call ok_best_choice (hr.mono (by decide)) rfl T.best_choice.g T.best_choice.kp T.best_choice.b .nil pass0 (pa_cons (pv 6) (pa_cons (pv 3) (pa_cons (pe_ix (r := rIxL K) ix_list (pv 2) (pe_op op_add (pv 5) pe_int) (fun _ _ => rfl)) pa_nil)))) pe_int (fun _ _ => rfl))) (pss_cons (ps_expr (pe_bm PySem.F.plainAttrs_list PySem.F.slot_list_append PySem.F.type_list_append mt_append (pv 4) (pa_cons (pv 7) pa_nil))) (pss_one (ps_if (pt_cmpR op_ne (pv 7) (pe_glob (v := .int (-1)) rfl T.k_NONE ⟨_, rfl⟩) (nomark _)) (pss_one (ps_aug (i := 3) sc_returned_allocation.nd rfl (Or.inl rfl) (pe_op op_shl pe_int (pv 7)) ip_sub)) pss_nil))))) (pss_one (ps_ret (pv 4))))))), ?_⟩)
  obtain ⟨a, b, R, B, rfl, ha, hb, hF, k⟩ := h
  have hp2 : 0 < 2 ^ R.length := Nat.two_pow_pos _
  have h32 := pow_le32 hF.1
  -- tables = value_tables(reserves, bids)
  refine ⟨_, rfl, _, rfl, a, b, R, B, rfl, ha, hb, hF, fun t H1 ht e1 ⟨as, hl, hA⟩ => ?_⟩
  obtain ⟨q, hq, hql⟩ := hA.at (tables_at R B (Nat.zero_le _))
  have hlen := tables_head_len R (B.drop 0)
  -- left = len(tables[0]) - 1
  refine ⟨_, rfl, t, _, _, .ref q, rfl, rfl, sq_of hl, atI_nat (j := 0) (by rw [List.getElem?_map, hq]; rfl), q, _, rfl, .inl (sq_of hql), _, _, rfl, rfl, ?_⟩
  rw [List.length_map, hlen]
  have hleft : ((2 ^ R.length : Nat) : Int) - 1 = ((2 ^ R.length - 1 : Nat) : Int) := by omega
  dsimp only
  rw [hleft]
  -- allocation = []
  refine ⟨Nat.zero_le _, fun l hl0 => ?_⟩
  have e2 : Ex H1 (upd H1 l (.lst [])) := Ex.new hl0
  have hlH := fresh_back e1 hl0
  obtain ⟨bs, hbl, hB⟩ := hb
  have hlenB : (bs.map V.ref).length = B.length := by rw [List.length_map, hB.1]
  have hBl := hF.2.1
  refine ⟨_, rfl, b, _, rfl, sq_of (e2 _ _ (e1 _ _ hbl)), for_it (walk_enum (K := K) (a := b) (xs := bs.map V.ref)) (fun i σ H' => ∃ (m : Nat) (pr : List Int) (u v z : Option V), σ = [some (.ref a), some (.ref b), some (.ref t), some (.int (m : Int)), some (.ref l), u, v, z] ∧ Ex H1 H' ∧ LI H' l pr ∧
    pr ++ allocFrom R (B.drop i) m = alloc R B ∧ pr.length = i ∧ m < 2 ^ R.length) ⟨_, [], _, _, _, rfl, e2, upd_same, by rw [Mir.alloc, List.drop_zero]; rfl, rfl, by omega⟩ (fun i σ H' _ ⟨_, _, _, _, _, _, e, _⟩ => sq_of (e _ _ (e1 _ _ hbl))) ?_ ?_⟩
  · rintro i x σ H3 H4 hi ⟨m, pr, u, v, z, rfl, e, hpr, heq, hpl, hm⟩ ⟨tp, x1, y1, rfl, htp, rfl, q1, q2⟩
    have e3 : Ex H3 (upd H3 tp (.tup [x1, y1])) := Ex.new htp
    cases q1
    obtain ⟨rw, hrw, rfl⟩ := at_ref q2
    obtain ⟨row, hrow', hrl⟩ := hB.2 _ _ hrw
    rw [hlenB] at hi
    have e13 := e.trans e3
    have hr5 := hF.2.2 row (List.mem_of_getElem? hrow')
    have hrl3 := e13 _ _ (e1 _ _ hrl)
    obtain ⟨q5, hq5, hql5⟩ := hA.at (tables_at R B (i := i + 1) (by omega))
    have hlen5 := tables_head_len R (B.drop (i + 1))
    have hdrop : B.drop i = row :: B.drop (i + 1) := by
      rw [List.drop_eq_getElem_cons hi, (List.getElem?_eq_some_iff.mp hrow').2]
    rw [hdrop, allocFrom] at heq
    generalize (tables R (B.drop (i + 1))).headD [] = L at hql5 hlen5 heq
    refine ⟨tp, _, rfl, Evl.st_of upd_same, rfl, _, _, rfl, _, _, rfl, rfl, ?_⟩
    -- lot = best_choice(row, left, tables[i + 1])[1]
    refine ⟨_, rfl, _, rfl, _, rfl, _, rfl, _, _, rfl, rfl, t, _, _, .ref q5, rfl, rfl, sq_of (e13 _ _ hl), ?_, ?_⟩
    · have e0 : ((i : Nat) : Int) + 1 = ((i + 1 : Nat) : Int) := by omega
      rw [e0]
      exact atI_nat (by rw [List.getElem?_map, hq5]; rfl)
    refine ⟨rw, q5, row, L, m, rfl, hrl3, e13 _ _ hql5, hr5, by omega, by omega, fun c H5 e5 hc => ?_⟩
    refine ⟨c, _, _, .int (bestChoice row m L).2, rfl, rfl, Evl.st_of hc, rfl, ?_⟩
    -- allocation.append(lot)
    refine ⟨_, rfl, Or.inl ⟨rfl, _, sq_of (e5 _ _ (e3 _ _ hpr))⟩, _, rfl, l, _, _, rfl, rfl, e5 _ _ (e3 _ _ hpr), by rw [List.length_map]; exact szl (by omega), ?_⟩
    have e6 : Ex H1 (upd H5 l (.lst (pr.map V.int ++ [.int (bestChoice row m L).2]))) := Ex.mut (e13.trans e5) hl0
    have hpr' : LI (upd H5 l (.lst (pr.map V.int ++ [.int (bestChoice row m L).2]))) l (pr ++ [(bestChoice row m L).2]) := by
      rw [LI, List.map_append]
      exact upd_same
    -- if lot != NONE: left -= 1 << lot
    refine ⟨_, rfl, rfl, _, rfl, ?_⟩
    rcases best_lot row m L with c | ⟨j, hj, hbit, c⟩
    · rw [c] at heq e6 hpr' ⊢
      refine if_false_of rfl ⟨m, pr ++ [-1], _, _, _, rfl, e6, hpr', ?_, by rw [List.length_append, hpl]; rfl, hm⟩
      rw [if_pos rfl] at heq
      rw [List.append_assoc]
      exact heq
    · rw [c] at heq e6 hpr' ⊢
      have hne : (j : Int) ≠ -1 := lot_ne j
      refine if_true_of (by simp [hne]) ?_
      have hge := Nat.ge_two_pow_of_testBit hbit
      refine ⟨_, rfl, _, rfl, _, _, rfl, rfl, ⟨by omega, by omega, by decide⟩, _, _, rfl, rfl, ?_⟩
      dsimp only
      rw [shl_nat, sub_bit hbit]
      refine ⟨m - 2 ^ j, pr ++ [(j : Int)], _, _, _, rfl, e6, hpr', ?_, by rw [List.length_append, hpl]; rfl, Nat.lt_of_le_of_lt (Nat.sub_le _ _) hm⟩
      rw [if_neg hne, Int.toNat_natCast] at heq
      rw [List.append_assoc]
      exact heq
  · rintro σ H' ⟨m, pr, u, v, z, rfl, e, hpr, heq, hpl, hm⟩
    rw [hlenB, List.drop_length, allocFrom, List.append_nil] at heq
    subst heq
    exact ⟨_, rfl, k l _ hlH (e1.trans e) hpr⟩
/-! ### without -/
theorem cut_to (xs : List V) (i : Nat) (h : i ≤ xs.length) : cutV xs none (some (i : Int)) = xs.take i := by
  unfold cutV
  rw [HT.sIx_none, HT.sIx_nat, Nat.min_eq_left h]
  rfl
theorem cut_from (xs : List V) (i : Nat) (h : i ≤ xs.length) : cutV xs (some (i : Int)) none = xs.drop i := by
  unfold cutV
  rw [HT.sIx_none, HT.sIx_nat, Nat.min_eq_left h]
  exact List.take_of_length_le (by rw [List.length_drop]; exact Nat.le_refl _)
def sp_without : Sp := fun vs H Q _ => ∃ (a : Addr) (xs : List V) (i : Nat), vs = [.ref a, .int (i : Int)] ∧ H a = some (.lst xs) ∧ i < xs.length ∧ xs.length ≤ 100 ∧ RetL (xs.eraseIdx i) H Q
theorem ok_without (T : Tx K mg) : FnOk P w K mg base CX0 1 T.without.f T.without.fd ["row", "at"] sp_without := by
  refine T.without.F.ok sc_without (fun vs H Q E h => by obtain ⟨a, xs, i, rfl, _⟩ := h; rfl) (fun cdv A outer s H vs Q E hr h => ⟨_, (pss_one (ps_ret (pe_op op_cat (pe_slice (r := rSlL K) sl_list (pv 0) po_none (po_some (pv 1))) (pe_slice (r := rSlL K) sl_list (pv 0) (po_some (pe_op op_add (pv 1) pe_int)) po_none)))), ?_⟩)
  obtain ⟨a, xs, i, rfl, ha, hi, h100, k⟩ := h
  refine ⟨_, rfl, _, rfl, _, rfl, a, xs, rfl, sq_of ha, fun p hp => ?_⟩
  have e1 : Ex H (upd H p (.lst (cutV xs none (some (i : Int))))) := Ex.new hp
  refine ⟨_, rfl, _, rfl, _, _, rfl, rfl, _, rfl, a, xs, rfl, sq_of (e1 _ _ ha), fun q hq => ?_⟩
  have e2 := Ex.new (o := .lst (cutV xs (some ((i : Int) + 1)) none)) hq
  have e0 : (i : Int) + 1 = ((i + 1 : Nat) : Int) := by omega
  refine ⟨p, q, _, _, rfl, rfl, e2 _ _ upd_same, upd_same, ?_, fun z hz => k z _ (fresh_back (e1.trans e2) hz) ((e1.trans e2).trans (Ex.new hz)) ?_⟩
  · have := cutV_length xs none (some (i : Int))
    have := cutV_length xs (some ((i : Int) + 1)) none
    exact sz1 (by omega)
  · rw [cut_to xs i (by omega), e0, cut_from xs (i + 1) (by omega)]
    have : xs.eraseIdx i = xs.take i ++ xs.drop (i + 1) := List.eraseIdx_eq_take_drop_succ xs i
    rw [this]
    exact upd_same
end Sl
/-! # Prices -/
namespace Sl
open PySem PySem.Spec PyProof.Rows L2 Mir
open Evl (Ex Ex.refl Ex.trans Ex.new Ex.mut fresh_back sz_of sz_lt ex_l sq_of RetL RetV given)
variable {P : Program} {w : World} {K : PySem.W.Frag} {mg : Str → Option Value} {base : Heap}
/-- a list of rows, each as long as the reserves -/
def Fit4 (R : List Int) (B : List (List Int)) : Prop := R.length ≤ 4 ∧ B.length ≤ 5 ∧ ∀ row ∈ B, row.length = R.length
theorem Fit4.fit {R : List Int} {B : List (List Int)} (h : Fit4 R B) : Fit R B := ⟨by have := h.1; omega, h.2.1, fun row hr => by have := h.2.2 row hr; have := h.1; omega⟩
theorem set_map_range {n i : Nat} {f : Nat → Int} (h : i < n) : ((List.range n).map f).take (i + 1) = ((List.range n).map f).take i ++ [f i] := by
  refine take_more ?_
  rw [List.getElem?_map, List.getElem?_range h]
  rfl
def sp_minimum_prices : Sp := fun vs H Q _ => ∃ (a b : Addr) (R : List Int) (B : List (List Int)), vs = [.ref a, .ref b] ∧ LI H a R ∧ Rws H b B ∧ Fit4 R B ∧ RetL ((minPs R B).map V.int) H Q
theorem ok_minimum_prices (T : Tx K mg) : FnOk P w K mg base CX0 5 T.minimum_prices.f T.minimum_prices.fd ["reserves", "bids"] sp_minimum_prices := by
  have ok_maximum_value := ok_maximum_value (P := P) (w := w) (base := base) T
  refine T.minimum_prices.F.ok sc_minimum_prices (fun vs H Q E h => by obtain ⟨a, b, R, L, rfl, _⟩ := h; rfl) (fun cdv A outer s H vs Q E hr h => ⟨_, (pss_cons (ps_set (i := 2) sc_minimum_prices.nd rfl (Or.inl rfl) (pe_call ok_maximum_value hr rfl T.maximum_value.g T.maximum_value.kp T.maximum_value.b .nil pass0 (pa_cons (pv 0) (pa_cons (pv 1) pa_nil)))) (pss_cons (ps_set (i := 3) sc_minimum_prices.nd rfl (Or.inl rfl) (pe_lst pa_nil)) (pss_cons (ps_for PassesOwn.never rfl (pi_enum (by rfl) T.b_enumerate (pa_cons (pv 0) pa_nil)) (pg_tup rfl (pgs_cons (pg_name (i := 4) sc_minimum_prices.nd rfl (Or.inr rfl)) (pgs_cons (pg_name (i := 5) sc_minimum_prices.nd rfl (Or.inl rfl)) pgs_nil))) (pss_cons (ps_setLc (i := 6) (own := [("row", 7)]) rfl sc_minimum_prices.nd rfl rfl (sw_true rfl rfl rfl (by decide +kernel)) (pi_list (pv 1)) (blkOk_by (own := [("row", 7)]) (N := N_minimum_prices) (sc := defScope s_minimum_prices) (by decide +kernel)) (fun _ _ _ _ _ => (pg_name (i := 7) sc_minimum_prices.nd rfl (Or.inl rfl) (hf := Or.inr rfl))) (fun _ _ _ _ _ => pts_nil) (fun _ _ _ _ _ => (pe_op op_cat (pv 7) (pe_lst (pa_cons (pe_ix (r := rIxL K) ix_list (pv 7) (pv 4) (fun _ _ => rfl)) pa_nil))))) (pss_one (ps_expr (pe_bm PySem.F.plainAttrs_list PySem.F.slot_list_append PySem.F.type_list_append mt_append (pv 3) (pa_cons (pe_op op_sub (pe_call ok_maximum_value hr rfl T.maximum_value.g T.maximum_value.kp T.maximum_value.b .nil pass0 (pa_cons (pe_op op_cat (pv 0) (pe_lst (pa_cons (pv 5) pa_nil))) (pa_cons (pv 6) pa_nil))) (pv 2)) pa_nil)))))) (pss_one (ps_ret (pv 3)))))), ?_⟩)
  obtain ⟨a, b, R, B, rfl, ha, hb, hF, k⟩ := h
  refine ⟨_, rfl, _, rfl, a, b, R, B, rfl, ha, hb, hF.fit, fun H1 e1 => ?_⟩
  refine ⟨Nat.zero_le _, fun l hl0 => ?_⟩
  have hlH := fresh_back e1 hl0
  have e2 : Ex H (upd H1 l (.lst [])) := e1.trans (Ex.new hl0)
  obtain ⟨bs, hbl, hB⟩ := hb
  refine ⟨_, rfl, a, _, rfl, sq_of (e2 _ _ ha), for_it (walk_enum (K := K) (a := a) (xs := R.map V.int)) (fun i σ H' => ∃ (u v z y : Option V), σ = [some (.ref a), some (.ref b), some (.int (maxValue R B)), some (.ref l), u, v, z, y] ∧ Ex H H' ∧ LI H' l ((minPs R B).take i)) ⟨_, _, _, _, rfl, e2, upd_same⟩
    (fun i σ H' _ ⟨_, _, _, _, _, e, _⟩ => sq_of (e _ _ ha)) ?_ ?_⟩
  · rintro i x σ H3 H4 hi ⟨u, v, z, y, rfl, e, hpr⟩ ⟨tp, x1, y1, rfl, htp, rfl, q1, q2⟩
    have e3 : Ex H3 (upd H3 tp (.tup [x1, y1])) := Ex.new htp
    cases q1
    obtain ⟨res, hres, rfl⟩ := at_int q2
    rw [List.length_map] at hi
    refine ⟨tp, _, rfl, Evl.st_of upd_same, rfl, _, _, rfl, _, _, rfl, rfl, ?_⟩
    -- more_bids = [row + [row[lot]] for row in bids]
    have hb4 := (e.trans e3) _ _ hbl
    have hB4 := hB.mono (e.trans e3)
    have hBl : (B.map fun row => row ++ [row.getD i 0]).length = B.length := by simp
    refine ⟨_, rfl, b, rfl, ⟨_, sq_of hb4⟩, fun D hD => lc_new (walk_list (xs := bs.map V.ref)) (fun j => .lst ((((B.map fun row => row ++ [row.getD i 0]).getD j [])).map V.int)) hD (by rw [List.length_map, hB.1]; have := hF.2.1; omega) (fun H e => sq_of (e _ _ hb4)) ?_ ?_⟩
    · rintro j x H5 H6 hj e5 ⟨rfl, hx⟩ M k2
      obtain ⟨ra, hra, rfl⟩ := at_ref hx
      obtain ⟨row, hrow, hrl⟩ := hB4.2 _ _ hra
      have hrl5 := e5 _ _ hrl
      have hlen := hF.2.2 row (List.mem_of_getElem? hrow)
      have h4 := hF.1
      refine ⟨rfl, _, rfl, _, rfl, _, rfl, ra, _, _, .int (row.getD i 0), rfl, rfl, sq_of hrl5, int_at (by omega), sz_1, fun p hp => ?_⟩
      have e6 : Ex H6 (upd H6 p (.lst [.int (row.getD i 0)])) := Ex.new hp
      refine ⟨_, _, _, _, rfl, rfl, e6 _ _ hrl5, upd_same, by rw [List.length_map]; exact sz1 (by simp; omega), fun q hq => k2 q _ (fresh_back e6 hq) (e6.trans (Ex.new hq)) ?_⟩
      rw [getD_map_row hrow, List.map_append]
      exact upd_same
    · intro H5 as e5 hD5 has hnew
      have e05 := (e.trans e3).trans e5
      -- prices.append(maximum_value(reserves + [reserve], more_bids) - total)
      refine ⟨_, rfl, Or.inl ⟨rfl, _, sq_of (e5 _ _ (e3 _ _ hpr))⟩, ?_⟩
      refine ⟨_, rfl, _, rfl, sz_1, fun p hp => ?_⟩
      have e6 : Ex H5 (upd H5 p (.lst [.int res])) := Ex.new hp
      refine ⟨a, p, _, _, rfl, rfl, e6 _ _ (e05 _ _ ha), upd_same, by rw [List.length_map]; have := hF.1; exact sz1 (by simp; omega), fun q hq => ?_⟩
      have e7 := e6.trans (Ex.new (o := .lst (R.map V.int ++ [.int res])) hq)
      refine ⟨_, rfl, q, D, R ++ [res], B.map fun row => row ++ [row.getD i 0], rfl, ?_, ⟨as, e7 _ _ hD5, (rows_new (by rw [has, List.length_map, hB.1, hBl]) fun j a h => (hnew j a h).2).mono e7⟩, ?_, fun H8 e8 => ?_⟩
      · rw [LI, List.map_append]
        exact upd_same
      · refine ⟨by simp; have := hF.1; omega, by rw [hBl]; exact hF.2.1, fun row hr => ?_⟩
        obtain ⟨r0, hr0, rfl⟩ := List.mem_map.mp hr
        have h9 := hF.2.2 r0 hr0
        have h4 := hF.1
        rw [List.length_append, h9]
        simp
        omega
      · refine ⟨_, rfl, _, _, rfl, rfl, l, _, _, rfl, rfl, e8 _ _ (e7 _ _ (e5 _ _ (e3 _ _ hpr))), ?_, ?_⟩
        · rw [List.length_map, List.length_take, minPs_len]
          have := hF.1
          exact szl (by omega)
        · refine ⟨_, _, _, _, rfl, Ex.mut ((e05.trans e7).trans e8) hlH, ?_⟩
          have hs : (minPs R B).take (i + 1) = (minPs R B).take i ++ [maxValue (R ++ [R.getD i 0]) (B.map fun row => row ++ [row.getD i 0]) - maxValue R B] := set_map_range hi
          rw [LI, hs, List.map_append, getD_of hres]
          exact upd_same
  · rintro σ H' ⟨u, v, z, y, rfl, e, hpr⟩
    rw [List.length_map, ← minPs_len R B, List.take_length] at hpr
    exact ⟨_, rfl, k l _ hlH e hpr⟩
def sp_maximum_prices : Sp := fun vs H Q _ => ∃ (a b : Addr) (R : List Int) (B : List (List Int)), vs = [.ref a, .ref b] ∧ LI H a R ∧ Rws H b B ∧ Fit4 R B ∧ RetL ((maxPs R B).map V.int) H Q
theorem ok_maximum_prices (T : Tx K mg) : FnOk P w K mg base CX0 5 T.maximum_prices.f T.maximum_prices.fd ["reserves", "bids"] sp_maximum_prices := by
  have ok_maximum_value := ok_maximum_value (P := P) (w := w) (base := base) T
  have ok_without := ok_without (P := P) (w := w) (base := base) T
  refine T.maximum_prices.F.ok sc_maximum_prices (fun vs H Q E h => by obtain ⟨a, b, R, L, rfl, _⟩ := h; rfl) (fun cdv A outer s H vs Q E hr h => ⟨_, (pss_cons (ps_set (i := 2) sc_maximum_prices.nd rfl (Or.inl rfl) (pe_call ok_maximum_value hr rfl T.maximum_value.g T.maximum_value.kp T.maximum_value.b .nil pass0 (pa_cons (pv 0) (pa_cons (pv 1) pa_nil)))) (pss_cons (ps_set (i := 3) sc_maximum_prices.nd rfl (Or.inl rfl) (pe_lst pa_nil)) (pss_cons (ps_for PassesOwn.never rfl (pi_range1 (by rfl) T.b_range (pa_cons (pe_callB call_len_seq (by rfl) T.b_len PySem.boot_len (pa_cons (pv 0) pa_nil)) pa_nil)) (pg_name (i := 4) sc_maximum_prices.nd rfl (Or.inr rfl)) (pss_cons (ps_setLc (i := 5) (own := [("row", 6)]) rfl sc_maximum_prices.nd rfl rfl (sw_true rfl rfl rfl (by decide +kernel)) (pi_list (pv 1)) (blkOk_by (own := [("row", 6)]) (N := N_maximum_prices) (sc := defScope s_maximum_prices) (by decide +kernel)) (fun _ _ _ _ _ => (pg_name (i := 6) sc_maximum_prices.nd rfl (Or.inl rfl) (hf := Or.inr rfl))) (fun _ _ _ _ _ => pts_nil) (fun _ _ _ _ _ => (pe_call ok_without (hr.mono (by decide)) rfl T.without.g T.without.kp T.without.b .nil pass0 (pa_cons (pv 6) (pa_cons (pv 4) pa_nil))))) (pss_one (ps_expr (pe_bm PySem.F.plainAttrs_list PySem.F.slot_list_append PySem.F.type_list_append mt_append (pv 3) (pa_cons (pe_op op_sub (pv 2) (pe_call ok_maximum_value hr rfl T.maximum_value.g T.maximum_value.kp T.maximum_value.b .nil pass0 (pa_cons (pe_call ok_without (hr.mono (by decide)) rfl T.without.g T.without.kp T.without.b .nil pass0 (pa_cons (pv 0) (pa_cons (pv 4) pa_nil))) (pa_cons (pv 5) pa_nil)))) pa_nil)))))) (pss_one (ps_ret (pv 3)))))), ?_⟩)
  obtain ⟨a, b, R, B, rfl, ha, hb, hF, k⟩ := h
  refine ⟨_, rfl, _, rfl, a, b, R, B, rfl, ha, hb, hF.fit, fun H1 e1 => ?_⟩
  refine ⟨Nat.zero_le _, fun l hl0 => ?_⟩
  have hlH := fresh_back e1 hl0
  have e2 : Ex H (upd H1 l (.lst [])) := e1.trans (Ex.new hl0)
  obtain ⟨bs, hbl, hB⟩ := hb
  have h4 := hF.1
  refine ⟨_, rfl, a, _, rfl, .inl (sq_of (e2 _ _ ha)), _, rfl, by rw [List.length_map]; omega, by rw [List.length_map]; omega, ?_⟩
  rw [List.length_map, Int.toNat_natCast]
  refine for_it (walk_range (lo := 0)) (fun i σ H' => ∃ (u v z : Option V), σ = [some (.ref a), some (.ref b), some (.int (maxValue R B)), some (.ref l), u, v, z] ∧ Ex H H' ∧ LI H' l ((maxPs R B).take i)) ⟨_, _, _, rfl, e2, upd_same⟩
    (fun i σ H' _ _ => trivial) ?_ ?_
  · rintro i x σ H3 H4 hi ⟨u, v, z, rfl, e, hpr⟩ ⟨rfl, rfl⟩
    show gName 4 (V.int (0 + (i : Int))) _ _ _
    rw [Int.zero_add]
    -- fewer_bids = [without(row, lot) for row in bids]
    have hb4 := e _ _ hbl
    have hB4 := hB.mono e
    have hBl : (B.map fun row => row.eraseIdx i).length = B.length := by simp
    refine ⟨_, rfl, b, rfl, ⟨_, sq_of hb4⟩, fun D hD => lc_new (walk_list (xs := bs.map V.ref)) (fun j => .lst ((((B.map fun row => row.eraseIdx i).getD j [])).map V.int)) hD (by rw [List.length_map, hB.1]; have := hF.2.1; omega) (fun H e => sq_of (e _ _ hb4)) ?_ ?_⟩
    · rintro j x H5 H6 hj e5 ⟨rfl, hx⟩ M k2
      obtain ⟨ra, hra, rfl⟩ := at_ref hx
      obtain ⟨row, hrow, hrl⟩ := hB4.2 _ _ hra
      have hrl5 := e5 _ _ hrl
      have hlen := hF.2.2 row (List.mem_of_getElem? hrow)
      refine ⟨rfl, _, rfl, _, rfl, ra, _, i, rfl, hrl5, by rw [List.length_map]; omega, by rw [List.length_map]; omega, fun q H7 hq e7 h7 => k2 q _ hq e7 ?_⟩
      rw [getD_map_row hrow, h7, erase_map]
    · intro H5 as e5 hD5 has hnew
      have e05 := e.trans e5
      refine ⟨_, rfl, Or.inl ⟨rfl, _, sq_of (e5 _ _ hpr)⟩, ?_⟩
      refine ⟨_, rfl, _, rfl, _, rfl, a, _, i, rfl, e05 _ _ ha, by rw [List.length_map]; exact hi, by rw [List.length_map]; omega, fun q H7 hq e7 h7 => ?_⟩
      rw [erase_map] at h7
      refine ⟨_, rfl, q, D, R.eraseIdx i, B.map fun row => row.eraseIdx i, rfl, h7, ⟨as, e7 _ _ hD5, (rows_new (by rw [has, List.length_map, hB.1, hBl]) fun j a h => (hnew j a h).2).mono e7⟩, ?_, fun H8 e8 => ?_⟩
      · refine ⟨by rw [List.length_eraseIdx_of_lt hi]; omega, by rw [hBl]; exact hF.2.1, fun row hr => ?_⟩
        obtain ⟨r0, hr0, rfl⟩ := List.mem_map.mp hr
        have h9 := hF.2.2 r0 hr0
        rw [List.length_eraseIdx_of_lt (by omega)]
        omega
      · refine ⟨_, _, rfl, rfl, l, _, _, rfl, rfl, e8 _ _ (e7 _ _ (e5 _ _ hpr)), ?_, ?_⟩
        · rw [List.length_map, List.length_take, maxPs_len]
          exact szl (by omega)
        · refine ⟨_, _, _, rfl, Ex.mut ((e05.trans e7).trans e8) hlH, ?_⟩
          have hs : (maxPs R B).take (i + 1) = (maxPs R B).take i ++ [maxValue R B - maxValue (R.eraseIdx i) (B.map fun row => row.eraseIdx i)] := set_map_range hi
          rw [LI, hs, List.map_append]
          exact upd_same
  · rintro σ H' ⟨u, v, z, rfl, e, hpr⟩
    rw [← maxPs_len R B, List.take_length] at hpr
    exact ⟨_, rfl, k l _ hlH e hpr⟩
/-! ### demand_set -/
def sp_demand_set : Sp := fun vs H Q _ => ∃ (a b : Addr) (row p : List Int), vs = [.ref a, .ref b] ∧ LI H a row ∧ LI H b p ∧ p.length = row.length ∧ 0 < row.length ∧ row.length ≤ 4 ∧ RetL ((demL row p).map V.int) H Q
def utils (row p : List Int) : List Int := (List.range row.length).map fun j => row.getD j 0 - p.getD j 0
theorem utils_len (row p : List Int) : (utils row p).length = row.length := by simp [utils]
theorem utils_at {row p : List Int} {j : Nat} (h : j < row.length) : (utils row p)[j]? = some (row.getD j 0 - p.getD j 0) := by
  unfold utils
  rw [List.getElem?_map, List.getElem?_range h]
  rfl
theorem ok_demand_set (T : Tx K mg) : FnOk P w K mg base CX0 1 T.demand_set.f T.demand_set.fd ["row", "prices"] sp_demand_set := by
  refine T.demand_set.F.ok sc_demand_set (fun vs H Q E h => by obtain ⟨a, b, R, L, rfl, _⟩ := h; rfl) (fun cdv A outer s H vs Q E hr h => ⟨_, (pss_cons (ps_setLc (i := 2) (own := [("bid", 5), ("price", 6)]) (g := gTup K 2 (gCons (gName 5) (gCons (gName 6) gNil))) rfl sc_demand_set.nd rfl rfl (sw_true rfl rfl rfl (by decide +kernel)) (pi_zip (by rfl) T.b_zip (pa_cons (pv 0) (pa_cons (pv 1) pa_nil))) (blkOk_by (own := [("bid", 5), ("price", 6)]) (N := N_demand_set) (sc := defScope s_demand_set) (by decide +kernel)) (fun _ _ _ _ _ => (pg_tup rfl (pgs_cons (pg_name (i := 5) sc_demand_set.nd rfl (Or.inl rfl) (hf := Or.inr rfl)) (pgs_cons (pg_name (i := 6) sc_demand_set.nd rfl (Or.inl rfl) (hf := Or.inr rfl)) pgs_nil)))) (fun _ _ _ _ _ => pts_nil) (fun _ _ _ _ _ => (pe_op op_sub (pv 5) (pv 6)))) (pss_cons (ps_set (i := 3) sc_demand_set.nd rfl (Or.inr rfl) (pe_callB (cr_max rfl) (by rfl) T.b_max (by decide +kernel) (pa_cons (pv 2) pa_nil))) (pss_cons (ps_if (pt_cmpR op_lt (pv 3) pe_int (nomark _)) (pss_one (ps_ret (pe_lst (pa_cons (pe_glob (v := .int (-1)) rfl T.k_NONE ⟨_, rfl⟩) pa_nil)))) pss_nil) (pss_cons (ps_setLc (i := 4) (own := [("lot", 7), ("utility", 8)]) (g := gTup K 2 (gCons (gName 7) (gCons (gName 8) gNil))) rfl sc_demand_set.nd rfl rfl (sw_true rfl rfl rfl (by decide +kernel)) (pi_enum (by rfl) T.b_enumerate (pa_cons (pv 2) pa_nil)) (blkOk_by (own := [("lot", 7), ("utility", 8)]) (N := N_demand_set) (sc := defScope s_demand_set) (by decide +kernel)) (fun _ _ _ _ _ => (pg_tup rfl (pgs_cons (pg_name (i := 7) sc_demand_set.nd rfl (Or.inl rfl) (hf := Or.inr rfl)) (pgs_cons (pg_name (i := 8) sc_demand_set.nd rfl (Or.inl rfl) (hf := Or.inr rfl)) pgs_nil)))) (fun _ _ _ _ _ => (pts_one (pt_cmpR op_eq (pv 8) (pv 3) (nomark _)))) (fun _ _ _ _ _ => (pv 7))) (pss_cons (ps_if (pt_cmpR op_eq (pv 3) pe_int (nomark _)) (pss_one (ps_ret (pe_op op_cat (pe_lst (pa_cons (pe_glob (v := .int (-1)) rfl T.k_NONE ⟨_, rfl⟩) pa_nil)) (pv 4)))) pss_nil) (pss_one (ps_ret (pv 4)))))))), ?_⟩)
  obtain ⟨a, b, row, p, rfl, ha, hb, hpl, h0, h4, k⟩ := h
  have hul := utils_len row p
  -- utilities = [bid - price for bid, price in zip(row, prices)]
  refine ⟨_, rfl, _, rfl, a, b, _, _, rfl, sq_of ha, sq_of hb, fun D hD => lc_map (walk_zip (xs := row.map V.int) (ys := p.map V.int) (n := row.length) (by simp; omega)) ((utils row p).map V.int) (by rw [List.length_map, hul]) hD (by omega) (fun H e => ⟨sq_of (e _ _ ha), sq_of (e _ _ hb)⟩) ?_ ?_⟩
  · rintro i x H1 H2 z hi hz e1 ⟨t, x1, y1, rfl, ht, rfl, q1, q2⟩ M k2
    obtain ⟨x0, hx0, rfl⟩ := at_int q1
    obtain ⟨y0, hy0, rfl⟩ := at_int q2
    obtain ⟨z0, hz0, rfl⟩ := at_int hz
    rw [utils_at hi, getD_of hx0, getD_of hy0] at hz0
    cases hz0
    exact ⟨t, _, rfl, Evl.st_of upd_same, rfl, _, _, rfl, _, _, rfl, rfl, rfl, _, rfl, _, rfl, _, _, rfl, rfl, k2 _ (Ex.new ht)⟩
  · intro H1 e1 hD1
    have hDH : H D = none := hD
    -- most = max(utilities)
    refine ⟨_, rfl, D, utils row p, rfl, sq_of hD1, by omega, fun m hm hle => ?_⟩
    obtain ⟨j0, hj0⟩ := List.getElem?_of_mem hm
    have hj0l : j0 < row.length := by have := (List.getElem?_eq_some_iff.mp hj0).1; omega
    rw [utils_at hj0l] at hj0
    have hdem := demL_eq row p m ⟨j0, hj0l, (Option.some.inj hj0).symm⟩ fun j hj => hle _ (List.mem_of_getElem? (utils_at hj))
    refine ⟨_, rfl, _, _, rfl, rfl, _, rfl, ?_⟩
    by_cases hneg : m < 0
    · refine if_true_of (decide_eq_true hneg) ⟨sz_1, fun q hq => k q _ (fresh_back e1 hq) (e1.trans (Ex.new hq)) ?_⟩
      rw [hdem, if_pos hneg]
      exact upd_same
    · refine if_false_of (decide_eq_false hneg) ?_
      rw [if_neg hneg] at hdem
      -- lots = [..]
      refine ⟨_, rfl, D, _, rfl, sq_of hD1, fun D2 hD2 => lc_fil (walk_enum (K := K) (a := D) (xs := (utils row p).map V.int)) (fun j => decide (row.getD j 0 - p.getD j 0 = m)) (fun j => .int (j : Int)) hD2 (by rw [List.length_map, hul]; omega) (fun H e => sq_of (e _ _ hD1)) ?_ ?_⟩
      · rintro i x H2 H3 hi e2 ⟨t, x1, y1, rfl, ht, rfl, q1, q2⟩ N M kN kM
        cases q1
        obtain ⟨y0, hy0, rfl⟩ := at_int q2
        rw [List.length_map, hul] at hi
        rw [utils_at hi] at hy0
        cases hy0
        refine ⟨t, _, rfl, Evl.st_of upd_same, rfl, _, _, rfl, _, _, rfl, rfl, rfl, _, rfl, _, rfl, rfl, _, rfl, ?_⟩
        by_cases c : row.getD i 0 - p.getD i 0 = m
        · exact if_true_of (by rw [c]; simp) ⟨_, rfl, kM (decide_eq_true c) _ (Ex.new ht)⟩
        · exact if_false_of (decide_eq_false fun z => c (V.int.inj z)) (kN (decide_eq_false c) _ (Ex.new ht))
      · intro H2 e2 hD2'
        have hlots : given ((utils row p).map V.int).length (fun j => decide (row.getD j 0 - p.getD j 0 = m)) (fun j => .int (j : Int)) = (((List.range row.length).filter fun j => decide (row.getD j 0 - p.getD j 0 = m)).map fun (j : Nat) => (j : Int)).map V.int := by
          rw [List.length_map, hul, List.map_map]
          rfl
        rw [hlots] at hD2'
        refine ⟨_, rfl, rfl, _, rfl, ?_⟩
        by_cases hz : m = 0
        · subst hz
          refine if_true_of rfl ⟨sz_1, fun q hq => ?_⟩
          have e3 : Ex H2 (upd H2 q (.lst [.int (-1)])) := Ex.new hq
          refine ⟨_, rfl, q, D2, _, _, rfl, rfl, upd_same, e3 _ _ hD2', ?_, fun q2 hq2 => k q2 _ (fresh_back ((e1.trans e2).trans e3) hq2) (((e1.trans e2).trans e3).trans (Ex.new hq2)) ?_⟩
          · rw [List.length_map, List.length_map]
            have := List.length_filter_le (fun j => decide (row.getD j 0 - p.getD j 0 = 0)) (List.range row.length)
            rw [List.length_range] at this
            exact sz1 (by show 1 + _ ≤ 1000; omega)
          · rw [hdem, if_pos rfl, List.map_append]
            exact upd_same
        · refine if_false_of (by simp [hz]) ⟨_, rfl, k D2 _ (fresh_back e1 hD2) (e1.trans e2) ?_⟩
          rw [hdem, if_neg hz]
          exact hD2'
/-! ### what is wrong with prices -/
theorem inV_int (x : Int) (l : List Int) : inV (.int x) (l.map V.int) = l.contains x := by
  unfold inV
  rw [List.any_map, Bool.eq_iff_iff, List.any_eq_true, List.contains_iff_mem]
  constructor
  · rintro ⟨y, hy, h⟩
    have : (y == x) = true := h
    rw [eq_of_beq this] at hy
    exact hy
  · intro h
    exact ⟨x, h, by show (x == x) = true; simp⟩
theorem flat_ints (l : List Int) : (l.map V.int).all flatV = true := by
  rw [List.all_eq_true]
  intro x hx
  obtain ⟨y, _, rfl⟩ := List.mem_map.mp hx
  rfl
def orNone (o : Option Nat) : Int := match o with
  | some j => (j : Int)
  | none => -1
/-- the first of n that fits: none so far, the i-th decides -/
theorem find_hit {n i : Nat} {f : Nat → Bool} (hi : i < n) (h : ∀ j, j < i → f j = false) (hf : f i = true) : (List.range n).find? f = some i := by
  rw [List.find?_range_eq_some]
  exact ⟨hf, List.mem_range.mpr hi, fun j hj => by rw [h j hj]; rfl⟩
theorem find_miss {n : Nat} {f : Nat → Bool} (h : ∀ j, j < n → f j = false) : (List.range n).find? f = none := by
  rw [List.find?_eq_none]
  intro x hx
  rw [h x (List.mem_range.mp hx)]
  decide
def sp_first_wrong_lot : Sp := fun vs H Q _ => ∃ (a b c : Addr) (R al p : List Int), vs = [.ref a, .ref b, .ref c] ∧ LI H a R ∧ LI H b al ∧ LI H c p ∧ p.length = R.length ∧ ∀ H' : Hp, Ex H H' → Q (.int (orNone (firstWrong R al p))) H'
theorem ok_first_wrong_lot (T : Tx K mg) : FnOk P w K mg base CX0 1 T.first_wrong_lot.f T.first_wrong_lot.fd ["reserves", "allocation", "prices"] sp_first_wrong_lot := by
  refine T.first_wrong_lot.F.ok sc_first_wrong_lot (fun vs H Q E h => by obtain ⟨a, b, c, R, al, p, rfl, _⟩ := h; rfl) (fun cdv A outer s H vs Q E hr h => ⟨_, (pss_cons (ps_for PassesOwn.never rfl (pi_enum (by rfl) T.b_enumerate (pa_cons (pv 0) pa_nil)) (pg_tup rfl (pgs_cons (pg_name (i := 3) sc_first_wrong_lot.nd rfl (Or.inl rfl)) (pgs_cons (pg_name (i := 4) sc_first_wrong_lot.nd rfl (Or.inl rfl)) pgs_nil))) (pss_cons (ps_if (pt_cmpR op_lt (pe_ix (r := rIxL K) ix_list (pv 2) (pv 3) (fun _ _ => rfl)) (pv 4) (nomark _)) (pss_one (ps_ret (pv 3))) pss_nil) (pss_one (ps_if (PW.pt (pw_and (pt_cmpR op_ne (pe_ix (r := rIxL K) ix_list (pv 2) (pv 3) (fun _ _ => rfl)) (pv 4) (nomark _)) (pw_and1 (pt_cmpR op_notIn_seq (pv 3) (pv 1) (by rfl))))) (pss_one (ps_ret (pv 3))) pss_nil)))) (pss_one (ps_ret (pe_glob (v := .int (-1)) rfl T.k_NONE ⟨_, rfl⟩)))), ?_⟩)
  obtain ⟨a, b, c, R, al, p, rfl, ha, hb, hc, hpl, k⟩ := h
  refine ⟨_, rfl, a, _, rfl, sq_of ha, for_it (walk_enum (K := K) (a := a) (xs := R.map V.int)) (fun i σ H' => ∃ (u v : Option V), σ = [some (.ref a), some (.ref b), some (.ref c), u, v] ∧ Ex H H' ∧ ∀ j, j < i → (decide (p.getD j 0 < R.getD j 0) || (!decide (p.getD j 0 = R.getD j 0) && !al.contains (j : Int))) = false) ⟨_, _, rfl, Ex.refl _, fun j hj => absurd hj (Nat.not_lt_zero _)⟩
    (fun i σ H' _ ⟨_, _, _, e, _⟩ => sq_of (e _ _ ha)) ?_ ?_⟩
  · rintro i x σ H1 H2 hi ⟨u, v, rfl, e, hno⟩ ⟨t, x1, y1, rfl, ht, rfl, q1, q2⟩
    have e1 : Ex H1 (upd H1 t (.tup [x1, y1])) := Ex.new ht
    cases q1
    obtain ⟨z, hz, rfl⟩ := at_int q2
    rw [List.length_map] at hi
    have e2 := e.trans e1
    have hz' := getD_of hz
    refine ⟨t, _, rfl, Evl.st_of upd_same, rfl, _, _, rfl, _, _, rfl, rfl, ?_⟩
    refine ⟨_, rfl, _, rfl, c, _, _, .int (p.getD i 0), rfl, rfl, sq_of (e2 _ _ hc), int_at (by omega), _, rfl, _, _, rfl, rfl, _, rfl, ?_⟩
    by_cases h1 : p.getD i 0 < z
    · refine if_true_of (decide_eq_true h1) ⟨_, rfl, ?_⟩
      have hf := find_hit (f := fun j => decide (p.getD j 0 < R.getD j 0) || (!decide (p.getD j 0 = R.getD j 0) && !al.contains (j : Int))) hi hno (by show (decide (p.getD i 0 < R.getD i 0) || _) = true; rw [hz', decide_eq_true h1]; rfl)
      have := k _ e2
      unfold firstWrong at this
      rw [hf] at this
      exact this
    · refine if_false_of (decide_eq_false h1) ?_
      refine ⟨_, rfl, _, rfl, c, _, _, .int (p.getD i 0), rfl, rfl, sq_of (e2 _ _ hc), int_at (by omega), _, rfl, rfl, _, rfl, ?_⟩
      by_cases h2 : p.getD i 0 = z
      · refine if_false_of (by rw [h2]; simp) ?_
        refine if_false_of rfl ⟨_, _, rfl, e2, fun j hj => ?_⟩
        by_cases hji : j < i
        · exact hno j hji
        · have : j = i := by omega
          subst this
          rw [hz', decide_eq_false h1, decide_eq_true h2]
          rfl
      · refine if_true_of (by rw [decide_eq_false fun z => h2 (V.int.inj z)]; rfl) ?_
        refine ⟨_, rfl, _, rfl, b, _, rfl, .inl (sq_of (e2 _ _ hb)), rfl, flat_ints _, _, rfl, ?_⟩
        rw [inV_int]
        by_cases h3 : al.contains (i : Int) = true
        · refine if_false_of (by rw [h3]; rfl) ⟨_, _, rfl, e2, fun j hj => ?_⟩
          by_cases hji : j < i
          · exact hno j hji
          · have : j = i := by omega
            subst this
            rw [hz', decide_eq_false h1, h3]
            simp
        · have h3' := Bool.eq_false_iff.mpr h3
          refine if_true_of (by rw [h3']; rfl) ⟨_, rfl, ?_⟩
          have hf := find_hit (f := fun j => decide (p.getD j 0 < R.getD j 0) || (!decide (p.getD j 0 = R.getD j 0) && !al.contains (j : Int))) hi hno (by show (decide (p.getD i 0 < R.getD i 0) || (!decide (p.getD i 0 = R.getD i 0) && !al.contains (i : Int))) = true; rw [hz', decide_eq_false h2, h3']; simp)
          have := k _ e2
          unfold firstWrong at this
          rw [hf] at this
          exact this
  · rintro σ H' ⟨u, v, rfl, e, hno⟩
    rw [List.length_map] at hno
    have := k _ e
    unfold firstWrong at this
    rw [find_miss hno] at this
    exact this
def sp_first_discontent_bidder : Sp := fun vs H Q _ => ∃ (a b c : Addr) (B : List (List Int)) (al p : List Int), vs = [.ref a, .ref b, .ref c] ∧ Rws H a B ∧ LI H b al ∧ LI H c p ∧ al.length = B.length ∧ (∀ row ∈ B, row.length = p.length) ∧ 0 < p.length ∧ p.length ≤ 4 ∧
  ∀ H' : Hp, Ex H H' → Q (.int (orNone (firstDisc B al p))) H'
theorem ok_first_discontent_bidder (T : Tx K mg) : FnOk P w K mg base CX0 2 T.first_discontent_bidder.f T.first_discontent_bidder.fd ["bids", "allocation", "prices"] sp_first_discontent_bidder := by
  have ok_demand_set := ok_demand_set (P := P) (w := w) (base := base) T
  refine T.first_discontent_bidder.F.ok sc_first_discontent_bidder (fun vs H Q E h => by obtain ⟨a, b, c, R, al, p, rfl, _⟩ := h; rfl) (fun cdv A outer s H vs Q E hr h => ⟨_, (pss_cons (ps_for PassesOwn.never rfl (pi_enum (by rfl) T.b_enumerate (pa_cons (pv 0) pa_nil)) (pg_tup rfl (pgs_cons (pg_name (i := 3) sc_first_discontent_bidder.nd rfl (Or.inl rfl)) (pgs_cons (pg_name (i := 4) sc_first_discontent_bidder.nd rfl (Or.inl rfl)) pgs_nil))) (pss_one (ps_if (pt_cmpR op_notIn_seq (pe_ix (r := rIxL K) ix_list (pv 1) (pv 3) (fun _ _ => rfl)) (pe_call ok_demand_set hr rfl T.demand_set.g T.demand_set.kp T.demand_set.b .nil pass0 (pa_cons (pv 4) (pa_cons (pv 2) pa_nil))) (by rfl)) (pss_one (ps_ret (pv 3))) pss_nil))) (pss_one (ps_ret (pe_glob (v := .int (-1)) rfl T.k_NONE ⟨_, rfl⟩)))), ?_⟩)
  obtain ⟨a, b, c, B, al, p, rfl, ⟨as, ha, hA⟩, hb, hc, hal, hrow, hp0, hp4, k⟩ := h
  have hlen : (as.map V.ref).length = B.length := by rw [List.length_map, hA.1]
  refine ⟨_, rfl, a, _, rfl, sq_of ha, for_it (walk_enum (K := K) (a := a) (xs := as.map V.ref)) (fun i σ H' => ∃ (u v : Option V), σ = [some (.ref a), some (.ref b), some (.ref c), u, v] ∧ Ex H H' ∧ ∀ j, j < i → (!(demL (B.getD j []) p).contains (al.getD j 0)) = false) ⟨_, _, rfl, Ex.refl _, fun j hj => absurd hj (Nat.not_lt_zero _)⟩
    (fun i σ H' _ ⟨_, _, _, e, _⟩ => sq_of (e _ _ ha)) ?_ ?_⟩
  · rintro i x σ H1 H2 hi ⟨u, v, rfl, e, hno⟩ ⟨t, x1, y1, rfl, ht, rfl, q1, q2⟩
    have e1 : Ex H1 (upd H1 t (.tup [x1, y1])) := Ex.new ht
    cases q1
    obtain ⟨ra, hra, rfl⟩ := at_ref q2
    obtain ⟨row, hr1, hrl⟩ := hA.2 _ _ hra
    rw [hlen] at hi
    have e2 := e.trans e1
    have hlr := hrow row (List.mem_of_getElem? hr1)
    have hg : B.getD i [] = row := by rw [List.getD_eq_getElem?_getD, hr1]; rfl
    refine ⟨t, _, rfl, Evl.st_of upd_same, rfl, _, _, rfl, _, _, rfl, rfl, ?_⟩
    refine ⟨_, rfl, _, rfl, b, _, _, .int (al.getD i 0), rfl, rfl, sq_of (e2 _ _ hb), int_at (by omega), ?_⟩
    refine ⟨_, rfl, _, rfl, ra, c, row, p, rfl, e2 _ _ hrl, e2 _ _ hc, hlr.symm, by omega, by omega, fun q H3 hq e3 h3 => ?_⟩
    refine ⟨q, _, rfl, .inl (sq_of h3), rfl, flat_ints _, _, rfl, ?_⟩
    rw [inV_int]
    by_cases h : (demL row p).contains (al.getD i 0) = true
    · refine if_false_of (by rw [h]; rfl) ⟨_, _, rfl, e2.trans e3, fun j hj => ?_⟩
      by_cases hji : j < i
      · exact hno j hji
      · have : j = i := by omega
        subst this
        rw [hg, h]
        rfl
    · have h' := Bool.eq_false_iff.mpr h
      refine if_true_of (by rw [h']; rfl) ⟨_, rfl, ?_⟩
      have hf := find_hit (f := fun j => !(demL (B.getD j []) p).contains (al.getD j 0)) hi hno (by show (!(demL (B.getD i []) p).contains (al.getD i 0)) = true; rw [hg, h']; rfl)
      have := k _ (e2.trans e3)
      unfold firstDisc at this
      rw [hf] at this
      exact this
  · rintro σ H' ⟨u, v, rfl, e, hno⟩
    rw [hlen] at hno
    have := k _ e
    unfold firstDisc at this
    rw [find_miss hno] at this
    exact this
end Sl
/-! # Sets of lots, the clock -/
namespace Sl
open PySem PySem.Spec PyProof.Rows L2 Mir
open Evl (Ex Ex.refl Ex.trans Ex.new Ex.mut fresh_back sz_of sz_lt ex_l sq_of RetL RetV given)
variable {P : Program} {w : World} {K : PySem.W.Frag} {mg : Str → Option Value} {base : Heap}
theorem band1 (x : Nat) : Builtin.bitAnd (x : Int) 1 = ((x % 2 : Nat) : Int) := by
  rw [bitAnd_pp (Int.natCast_nonneg _) (by omega), Int.toNat_natCast]
  show ((x &&& 1 : Nat) : Int) = _
  rw [Nat.and_one_is_mod]
theorem half1 (x : Nat) : (x : Int) / 2 ^ ((1 : Int)).toNat = ((x / 2 : Nat) : Int) := by
  show (x : Int) / 2 ^ 1 = _
  omega
theorem pc_step : ∀ x, x < 16 → pc 4 x = x % 2 + pc 4 (x / 2) := by decide +kernel
theorem pc_zero : pc 4 0 = 0 := rfl
def sp_how_many : Sp := fun vs H Q _ => ∃ m : Nat, vs = [.int (m : Int)] ∧ m < 16 ∧ Q (.int ((pc 4 m : Nat) : Int)) H
theorem ok_how_many (T : Tx K mg) : FnOk P w K mg base CX0 1 T.how_many.f T.how_many.fd ["members"] sp_how_many := by
  refine T.how_many.F.ok sc_how_many (fun vs H Q E h => by obtain ⟨m, rfl, _⟩ := h; rfl) (fun cdv A outer s H vs Q E hr h => ⟨_, (pss_cons (ps_set (i := 1) sc_how_many.nd rfl (Or.inl rfl) pe_int) (pss_cons (ps_while PassesOwn.never (pt_cmpR op_gt (pv 0) pe_int (nomark _)) (pss_cons (ps_aug (i := 1) sc_how_many.nd rfl (Or.inl rfl) (pe_op op_and (pv 0) pe_int) ip_add) (pss_one (ps_aug (i := 0) sc_how_many.nd rfl (Or.inl rfl) pe_int ip_shr)))) (pss_one (ps_ret (pv 1))))), ?_⟩)
  obtain ⟨m, rfl, hm, k⟩ := h
  refine ⟨fun n σ H' => ∃ x f : Nat, n = x ∧ H' = H ∧ σ = [some (.int (x : Int)), some (.int (f : Int))] ∧ f + pc 4 x = pc 4 m ∧ x < 16, ⟨m, m, 0, rfl, rfl, rfl, by omega, hm⟩, ?_⟩
  rintro n σ H' ⟨x, f, rfl, rfl, rfl, hf, hx⟩
  refine ⟨_, rfl, _, _, rfl, rfl, _, rfl, ?_⟩
  by_cases h0 : 0 < n
  · refine if_true_of (decide_eq_true (by omega)) ⟨fun σ' H' => ∃ x' f' : Nat, x' < n ∧ H' = _ ∧ σ' = [some (.int (x' : Int)), some (.int (f' : Int))] ∧ f' + pc 4 x' = pc 4 m ∧ x' < 16, fun σ' H' ⟨x', f', h1, h2, h3, h4, h5⟩ => ⟨x', h1, x', f', rfl, h2, h3, h4, h5⟩, ?_⟩
    refine ⟨_, rfl, _, rfl, _, _, rfl, rfl, _, _, rfl, rfl, _, rfl, _, _, rfl, rfl, by decide, n / 2, f + n % 2, by omega, rfl, ?_, ?_, by omega⟩
    · rw [band1, half1]
      rfl
    · have := pc_step n hx
      omega
  · refine if_false_of (decide_eq_false (by omega)) ⟨_, rfl, ?_⟩
    have : n = 0 := by omega
    subst this
    rw [pc_zero] at hf
    have : f = pc 4 m := by omega
    subst this
    exact k
/-! ### sets in order -/
def sortG (n : Int) : Int := ((pc 4 n.toNat : Nat) : Int)
theorem rng_nat (n : Nat) : rngL 1 ((2 ^ n : Nat) : Int) = toI (List.range' 1 (2 ^ n - 1)) := by
  unfold rngL toI
  have h : (((2 ^ n : Nat) : Int) - 1).toNat = 2 ^ n - 1 := by omega
  rw [h, List.range'_eq_map_range, List.map_map]
  refine List.map_congr_left fun i _ => ?_
  show (1 : Int) + (i : Int) = ((1 + i : Nat) : Int)
  omega
theorem pc_lt : ∀ m, m < 16 → pc 4 m < 6 := by decide +kernel
theorem order_is {n : Nat} (h4 : n < 5) {ns : List Int} (hp : ns.Perm (rngL 1 ((2 ^ n : Nat) : Int))) (hs : ns.Pairwise fun x y => sortG x ≤ sortG y) (hf : ∀ c, ns.filter (fun x => sortG x == c) = (rngL 1 ((2 ^ n : Nat) : Int)).filter (fun x => sortG x == c)) :
    ns = toI (setsOrd n) := by
  have h16 : 2 ^ n ≤ 16 := Nat.pow_le_pow_right (n := 2) (by decide) (by omega : n ≤ 4)
  have hmem : ∀ x ∈ ns, 0 ≤ pc 4 x.toNat ∧ pc 4 x.toNat < 0 + 6 := fun x hx => by
    have h1 := hp.mem_iff.mp hx
    rw [rng_nat] at h1
    obtain ⟨y, hy, rfl⟩ := List.mem_map.mp h1
    have := List.mem_range'_1.mp hy
    have := pc_lt y (by omega)
    rw [Int.toNat_natCast]
    omega
  have hr := rows_of (fun x : Int => pc 4 x.toNat) ns (hs.imp fun {x y} h => by unfold sortG at h; omega) 6 0 hmem
  rw [hr, setsOrd_sorted n h4]
  unfold toI
  rw [List.map_flatMap, ← List.range_eq_range']
  refine flatMap_congr' fun c _ => ?_
  have h1 := hf (c : Int)
  have h2 : ∀ l : List Int, l.filter (fun x => pc 4 x.toNat == c) = l.filter (fun x => sortG x == (c : Int)) := fun l => List.filter_congr fun x _ => by
    unfold sortG
    rw [Bool.eq_iff_iff]
    simp
    omega
  rw [h2, h1, ← h2, rng_nat]
  unfold toI
  rw [List.filter_map]
  rfl
def sp_sets_in_order : Sp := fun vs H Q _ => ∃ n : Nat, vs = [.int (n : Int)] ∧ n < 5 ∧ RetL ((toI (setsOrd n)).map V.int) H Q
theorem ok_sets_in_order (T : Tx K mg) : FnOk P w K mg base CX0 4 T.sets_in_order.f T.sets_in_order.fd ["lots"] sp_sets_in_order := by
  have ok_how_many := ok_how_many (P := P) (w := w) (base := base) T
  refine T.sets_in_order.F.ok sc_sets_in_order (fun vs H Q E h => by obtain ⟨m, rfl, _⟩ := h; rfl) (fun cdv A outer s H vs Q E hr h => ⟨_, (pss_one (ps_ret (pe_callBK (cr_sortK (g := sortG) ok_how_many hr T.how_many.b) (by rfl) T.b_sorted (by decide +kernel) (pa_cons (pe_callTy cr_range2 (by rfl) T.b_range (by decide +kernel) (pa_cons pe_int (pa_cons (pe_op op_shl pe_int (pv 0)) pa_nil))) pa_nil) (pk_cons (pe_glob (v := .ref T.how_many.f) rfl T.how_many.g rfl) pk_nil)))), ?_⟩)
  obtain ⟨n, rfl, h4, k⟩ := h
  have h16 : 2 ^ n ≤ 16 := Nat.pow_le_pow_right (n := 2) (by decide) (by omega : n ≤ 4)
  refine ⟨_, rfl, _, _, rfl, rfl, ⟨by omega, by omega, by decide⟩, _, _, rfl, fun p hp => ?_⟩
  rw [shl_nat]
  refine ⟨p, 1, _, rfl, rfl, upd_same, by decide, by decide, by have h9 : ((2 ^ n : Nat) : Int) ≤ ((1000 : Nat) : Int) := Int.ofNat_le.mpr (by omega); exact h9, Int.natCast_nonneg _, fun z hz Q2 q => ?_, fun ns q hP hS hF hq => ?_⟩
  · rw [rng_nat] at hz
    obtain ⟨y, hy, rfl⟩ := List.mem_map.mp hz
    have := List.mem_range'_1.mp hy
    refine ⟨y, rfl, by omega, ?_⟩
    have e : sortG (y : Int) = ((pc 4 y : Nat) : Int) := by unfold sortG; rw [Int.toNat_natCast]
    rw [e] at q
    exact q
  · have e1 : Ex H (upd H p (.rng 1 ((2 ^ n : Nat) : Int))) := Ex.new hp
    refine k q _ (fresh_back e1 hq) (e1.trans (Ex.new hq)) ?_
    rw [order_is h4 hP hS hF]
    exact upd_same
/-! ### wanted sets -/
theorem demL_mem {row p : List Int} {x : Int} (h : x ∈ demL row p) : x = -1 ∨ ∃ j : Nat, j < row.length ∧ x = (j : Int) := by
  unfold demL Vbndax.demandSet at h
  obtain ⟨o, ho, rfl⟩ := List.mem_map.mp h
  rcases List.mem_append.mp ho with ho | ho
  · split at ho
    · rw [List.mem_singleton] at ho
      subst ho
      exact .inl rfl
    · cases ho
  · obtain ⟨j, hj, rfl⟩ := List.mem_map.mp ho
    exact .inr ⟨j, List.mem_range.mp (List.mem_filter.mp hj).1, rfl⟩
theorem mask_sum (D : List Int) : (D.map fun x => (1 : Int) * 2 ^ x.toNat).sum = ((mask D : Nat) : Int) := by
  unfold mask
  induction D with
  | nil => rfl
  | cons x D ih =>
    rw [List.map_cons, List.sum_cons, List.map_cons, List.sum_cons, ih, Int.natCast_add, Int.one_mul, Int.natCast_pow]
    rfl
/-- what a demand set's bidders want alone -/
def FitP (p : List Int) (B : List (List Int)) : Prop := 0 < p.length ∧ p.length ≤ 4 ∧ B.length ≤ 5 ∧ ∀ row ∈ B, row.length = p.length
theorem wanted_take {B : List (List Int)} {p : List Int} {i : Nat} {row : List Int} (h : B[i]? = some row) : wanted (B.take (i + 1)) p = wanted (B.take i) p ++ (wantedOf (demL row p)).toList := by
  unfold wanted
  rw [take_more h, List.map_append, List.filterMap_append]
  refine congrArg _ ?_
  rw [List.map_cons, List.map_nil, List.filterMap_cons]
  cases wantedOf (demL row p) <;> rfl
theorem wanted_le (B : List (List Int)) (p : List Int) : (wanted B p).length ≤ B.length := by
  unfold wanted
  exact Nat.le_trans (List.length_filterMap_le ..) (by rw [List.length_map]; exact Nat.le_refl _)
theorem toI_snoc (l : List Nat) (x : Nat) : toI (l ++ [x]) = toI l ++ [(x : Int)] := toI_append l [x]
def sp_wanted_sets : Sp := fun vs H Q _ => ∃ (b a : Addr) (B : List (List Int)) (p : List Int), vs = [.ref b, .ref a] ∧ Rws H b B ∧ LI H a p ∧ FitP p B ∧ RetL ((toI (wanted B p)).map V.int) H Q
theorem ok_wanted_sets (T : Tx K mg) : FnOk P w K mg base CX0 2 T.wanted_sets.f T.wanted_sets.fd ["bids", "prices"] sp_wanted_sets := by
  have ok_demand_set := ok_demand_set (P := P) (w := w) (base := base) T
  refine T.wanted_sets.F.ok sc_wanted_sets (fun vs H Q E h => by obtain ⟨b, a, B, p, rfl, _⟩ := h; rfl) (fun cdv A outer s H vs Q E hr h => ⟨_, (pss_cons (ps_set (i := 2) sc_wanted_sets.nd rfl (Or.inl rfl) (pe_lst pa_nil)) (pss_cons (ps_for PassesOwn.never rfl (pi_list (pv 0)) (pg_name (i := 3) sc_wanted_sets.nd rfl (Or.inl rfl)) (pss_cons (ps_set (i := 4) sc_wanted_sets.nd rfl (Or.inl rfl) (pe_call ok_demand_set hr rfl T.demand_set.g T.demand_set.kp T.demand_set.b .nil pass0 (pa_cons (pv 3) (pa_cons (pv 1) pa_nil)))) (pss_one (ps_if (pt_cmpR op_notIn_seq (pe_glob (v := .int (-1)) rfl T.k_NONE ⟨_, rfl⟩) (pv 4) (by rfl)) (pss_one (ps_expr (pe_bm PySem.F.plainAttrs_list PySem.F.slot_list_append PySem.F.type_list_append mt_append (pv 2) (pa_cons (pe_callB (cr_sum rfl) (by rfl) T.b_sum (by decide +kernel) (pa_cons (pe_lc (own := [("lot", 5)]) rfl sc_wanted_sets.nd (pi_list (pv 4)) (blkOk_by (own := [("lot", 5)]) (N := N_wanted_sets) (sc := defScope s_wanted_sets) (by decide +kernel)) (fun _ _ _ _ _ => (pg_name (i := 5) sc_wanted_sets.nd rfl (Or.inl rfl) (hf := Or.inr rfl))) (fun _ _ _ _ _ => pts_nil) (fun _ _ _ _ _ => (pe_op op_shl pe_int (pv 5)))) pa_nil)) pa_nil)))) pss_nil)))) (pss_one (ps_ret (pv 2))))), ?_⟩)
  obtain ⟨b, a, B, p, rfl, ⟨as, hb, hA⟩, ha, ⟨hp0, hp4, hB5, hrow⟩, k⟩ := h
  refine ⟨Nat.zero_le _, fun l hl => ?_⟩
  have e0 : Ex H (upd H l (.lst [])) := Ex.new hl
  have hlen : (as.map V.ref).length = B.length := by rw [List.length_map, hA.1]
  refine ⟨_, rfl, b, rfl, ⟨_, sq_of (e0 _ _ hb)⟩, for_list (K := K) (a := b) (xs := as.map V.ref) (fun i σ H' => ∃ u v z, σ = [some (.ref b), some (.ref a), some (.ref l), u, v, z] ∧ Ex H H' ∧ LI H' l (toI (wanted (B.take i) p))) ⟨_, _, _, rfl, e0, upd_same⟩ (fun i σ H' _ ⟨_, _, _, _, e, _⟩ => sq_of (e _ _ hb)) ?_ ?_⟩
  · rintro i x σ H1 hi ⟨u, v, z, rfl, e, hw⟩
    obtain ⟨ra, hra, rfl⟩ := at_ref hi
    obtain ⟨row, hr1, hrl⟩ := hA.2 _ _ hra
    have hlr := hrow row (List.mem_of_getElem? hr1)
    have hiB : i < B.length := (List.getElem?_eq_some_iff.mp hr1).1
    refine ⟨_, rfl, _, rfl, ra, a, row, p, rfl, e _ _ hrl, e _ _ ha, hlr.symm, by omega, by omega, fun q H2 hq e2 h2 => ?_⟩
    refine ⟨_, rfl, q, _, rfl, .inl (sq_of h2), rfl, flat_ints _, _, rfl, ?_⟩
    rw [inV_int]
    by_cases h : (demL row p).contains (-1) = true
    · refine if_false_of (by rw [h]; rfl) ⟨_, _, _, rfl, e.trans e2, ?_⟩
      rw [wanted_take hr1]
      have : wantedOf (demL row p) = none := if_pos h
      rw [this]
      show LI H2 l (toI (wanted (B.take i) p ++ []))
      rw [List.append_nil]
      exact e2 _ _ hw
    · have h' := Bool.eq_false_iff.mpr h
      refine if_true_of (by rw [h']; rfl) ?_
      have hlq : l ≠ q := fun z => by rw [← z, hw] at hq; cases hq
      have hdl := demL_len row p
      refine ⟨_, rfl, Or.inl ⟨rfl, _, sq_of (e2 _ _ hw)⟩, ?_⟩
      refine ⟨_, rfl, q, rfl, ⟨_, sq_of h2⟩, fun D hD => lc_map (walk_list (xs := (demL row p).map V.int)) (((demL row p).map fun x => (1 : Int) * 2 ^ x.toNat).map V.int) (by simp) hD (by rw [List.length_map]; omega) (fun H e => sq_of (e _ _ h2)) ?_ ?_⟩
      · rintro j x H3 H4 y hj hy e3 ⟨rfl, hx⟩ M k2
        obtain ⟨x0, hx0, rfl⟩ := at_int hx
        obtain ⟨y0, hy0, rfl⟩ := at_int hy
        rw [List.getElem?_map, hx0] at hy0
        cases hy0
        have hx9 : 0 ≤ x0 ∧ x0 ≤ 4 := by
          rcases demL_mem (List.mem_of_getElem? hx0) with c | ⟨j0, hj0, c⟩
          · rw [← Bool.not_eq_true, List.contains_iff_mem] at h'
            exact absurd (c ▸ List.mem_of_getElem? hx0) h'
          · omega
        exact ⟨rfl, _, rfl, _, _, rfl, rfl, ⟨by omega, by omega, by decide⟩, k2 _ (Ex.refl _)⟩
      · intro H3 e3 hD3
        refine ⟨D, (demL row p).map fun x => (1 : Int) * 2 ^ x.toNat, rfl, sq_of hD3, ?_⟩
        rw [mask_sum]
        have hwl := wanted_le (B.take i) p
        rw [List.length_take] at hwl
        refine ⟨l, _, _, rfl, rfl, e3 _ _ (e2 _ _ hw), ?_, _, _, _, rfl, Ex.mut ((e.trans e2).trans e3) hl, ?_⟩
        · rw [List.length_map, toI_len]
          exact szl (by omega)
        · rw [wanted_take hr1]
          have : wantedOf (demL row p) = some (mask (demL row p)) := if_neg h
          rw [this]
          show (upd H3 l _) l = some (.lst ((toI (wanted (B.take i) p ++ [mask (demL row p)])).map V.int))
          rw [toI_snoc, List.map_append]
          exact upd_same
  · rintro σ H' ⟨u, v, z, rfl, e, hw⟩
    rw [hlen, List.take_length] at hw
    exact ⟨_, rfl, k l _ hl e hw⟩
theorem bor_nat (x y : Nat) : Builtin.bitOr (x : Int) (y : Int) = ((x ||| y : Nat) : Int) := by
  unfold Builtin.bitOr
  rw [bitAnd_nn (by unfold Builtin.bitNot; omega) (by unfold Builtin.bitNot; omega)]
  have h : ∀ z : Int, Builtin.bitNot (Builtin.bitNot z) = z := fun z => by unfold Builtin.bitNot; omega
  rw [h, h, h, Int.toNat_natCast, Int.toNat_natCast]
def sp_is_overdemanded : Sp := fun vs H Q _ => ∃ (m : Nat) (a : Addr) (W : List Nat), vs = [.int (m : Int), .ref a] ∧ LI H a (toI W) ∧ W.length ≤ 5 ∧ m < 16 ∧ ∀ H' : Hp, Ex H H' → Q (.bl (odTest W m)) H'
theorem toI_at {W : List Nat} {i : Nat} {x : Int} (h : (toI W)[i]? = some x) : ∃ n : Nat, W[i]? = some n ∧ x = (n : Int) := by
  unfold toI at h
  rw [List.getElem?_map] at h
  cases e : W[i]? with
  | none => rw [e] at h; cases h
  | some z => rw [e] at h; exact ⟨z, rfl, (Option.some.inj h).symm⟩
theorem ok_is_overdemanded (T : Tx K mg) : FnOk P w K mg base CX0 2 T.is_overdemanded.f T.is_overdemanded.fd ["members", "wanted"] sp_is_overdemanded := by
  have ok_how_many := ok_how_many (P := P) (w := w) (base := base) T
  refine T.is_overdemanded.F.ok sc_is_overdemanded (fun vs H Q E h => by obtain ⟨m, a, W, rfl, _⟩ := h; rfl) (fun cdv A outer s H vs Q E hr h => ⟨_, (pss_cons (ps_setLc (i := 2) (own := [("demanded", 3)]) rfl sc_is_overdemanded.nd rfl rfl (sw_true rfl rfl rfl (by decide +kernel)) (pi_list (pv 1)) (blkOk_by (own := [("demanded", 3)]) (N := N_is_overdemanded) (sc := defScope s_is_overdemanded) (by decide +kernel)) (fun _ _ _ _ _ => (pg_name (i := 3) sc_is_overdemanded.nd rfl (Or.inl rfl) (hf := Or.inr rfl))) (fun _ _ _ _ _ => (pts_one (pt_cmpR op_eq (pe_op op_or (pv 3) (pv 0)) (pv 0) (nomark _)))) (fun _ _ _ _ _ => (pv 3))) (pss_one (ps_ret (pe_cmpR op_gt (pe_callB call_len_seq (by rfl) T.b_len PySem.boot_len (pa_cons (pv 2) pa_nil)) (pe_call ok_how_many hr rfl T.how_many.g T.how_many.kp T.how_many.b .nil pass0 (pa_cons (pv 0) pa_nil)) (nomark _))))), ?_⟩)
  obtain ⟨m, a, W, rfl, ha, h5, hm, k⟩ := h
  refine ⟨_, rfl, a, rfl, ⟨_, sq_of ha⟩, fun D hD => lc_fil (walk_list (xs := (toI W).map V.int)) (fun i => W.getD i 0 ||| m == m) (fun i => .int ((W.getD i 0 : Nat) : Int)) hD (by rw [List.length_map, toI_len]; omega) (fun H e => sq_of (e _ _ ha)) ?_ ?_⟩
  · rintro i x H1 H2 hi e1 ⟨rfl, hx⟩ N M kN kM
    obtain ⟨x0, hx0, rfl⟩ := at_int hx
    obtain ⟨n, hn, rfl⟩ := toI_at hx0
    have hg : W.getD i 0 = n := by rw [List.getD_eq_getElem?_getD, hn]; rfl
    refine ⟨rfl, _, rfl, _, rfl, _, _, rfl, rfl, _, rfl, rfl, _, rfl, ?_⟩
    rw [hg] at kN kM
    have hor : Builtin.bitOr (n : Int) (m : Int) = ((n ||| m : Nat) : Int) := bor_nat n m
    by_cases c : n ||| m = m
    · exact if_true_of (decide_eq_true (congrArg V.int (hor.trans (by rw [c])))) ⟨_, rfl, kM (by rw [c]; simp) _ (Ex.refl _)⟩
    · exact if_false_of (decide_eq_false fun z => c (by have := hor.symm.trans (V.int.inj z); omega)) (kN (by simpa using c) _ (Ex.refl _))
  · intro H1 e1 hD1
    refine ⟨_, rfl, D, _, rfl, .inl (sq_of hD1), _, rfl, m, rfl, hm, _, _, rfl, rfl, ?_⟩
    have hc : (given ((toI W).map V.int).length (fun i => W.getD i 0 ||| m == m) (fun i => V.int ((W.getD i 0 : Nat) : Int))).length = (W.filter fun d => d ||| m == m).length := by
      unfold given
      rw [List.length_map, List.length_map, toI_len]
      exact range_count W 0 fun d => d ||| m == m
    rw [hc]
    have := k _ e1
    unfold odTest at this
    have e : decide (((pc 4 m : Nat) : Int) < (((W.filter fun d => d ||| m == m).length : Nat) : Int)) = decide (pc 4 m < (W.filter fun d => d ||| m == m).length) := by
      rw [decide_eq_decide]; omega
    dsimp only
    rw [e]
    exact this
end Sl
/-! # The clock -/
namespace Sl
open PySem PySem.Spec PyProof.Rows L2 Mir
open Evl (Ex Ex.refl Ex.trans Ex.new Ex.mut fresh_back sz_of sz_lt ex_l sq_of RetL RetV given)
variable {P : Program} {w : World} {K : PySem.W.Frag} {mg : Str → Option Value} {base : Heap}
def firstSet (B : List (List Int)) (p : List Int) : Nat := ((setsOrd p.length).find? (odTest (wanted B p))).getD 0
def sp_first_overdemanded_set : Sp := fun vs H Q _ => ∃ (b a : Addr) (B : List (List Int)) (p : List Int), vs = [.ref b, .ref a] ∧ Rws H b B ∧ LI H a p ∧ FitP p B ∧ ∀ H' : Hp, Ex H H' → Q (.int ((firstSet B p : Nat) : Int)) H'
theorem find_at {α : Type} {f : α → Bool} : ∀ {l : List α} {i : Nat} {x : α}, l[i]? = some x → (∀ j y, j < i → l[j]? = some y → f y = false) → f x = true → l.find? f = some x
  | [], i, x, h, _, _ => by simp at h
  | y :: l, 0, x, h, _, hf => by
    have e : y = x := by simpa using h
    subst e
    rw [List.find?_cons, hf]
  | y :: l, i + 1, x, h, hn, hf => by
    have h0 := hn 0 y (by omega) rfl
    rw [List.find?_cons, h0]
    exact find_at (l := l) (i := i) (by simpa using h) (fun j z hj hz => hn (j + 1) z (by omega) (by simpa using hz)) hf
theorem ok_first_overdemanded_set (T : Tx K mg) : FnOk P w K mg base CX0 5 T.first_overdemanded_set.f T.first_overdemanded_set.fd ["bids", "prices"] sp_first_overdemanded_set := by
  have ok_wanted_sets := ok_wanted_sets (P := P) (w := w) (base := base) T
  have ok_sets_in_order := ok_sets_in_order (P := P) (w := w) (base := base) T
  have ok_is_overdemanded := ok_is_overdemanded (P := P) (w := w) (base := base) T
  refine T.first_overdemanded_set.F.ok sc_first_overdemanded_set (fun vs H Q E h => by obtain ⟨b, a, B, p, rfl, _⟩ := h; rfl) (fun cdv A outer s H vs Q E hr h => ⟨_, (pss_cons (ps_set (i := 2) sc_first_overdemanded_set.nd rfl (Or.inl rfl) (pe_call ok_wanted_sets (hr.mono (by decide)) rfl T.wanted_sets.g T.wanted_sets.kp T.wanted_sets.b .nil pass0 (pa_cons (pv 0) (pa_cons (pv 1) pa_nil)))) (pss_cons (ps_for PassesOwn.never rfl (pi_list (pe_call ok_sets_in_order hr rfl T.sets_in_order.g T.sets_in_order.kp T.sets_in_order.b .nil pass0 (pa_cons (pe_callB call_len_seq (by rfl) T.b_len PySem.boot_len (pa_cons (pv 1) pa_nil)) pa_nil))) (pg_name (i := 3) sc_first_overdemanded_set.nd rfl (Or.inl rfl)) (pss_one (ps_if (pt_val (pe_call ok_is_overdemanded (hr.mono (by decide)) rfl T.is_overdemanded.g T.is_overdemanded.kp T.is_overdemanded.b .nil pass0 (pa_cons (pv 3) (pa_cons (pv 2) pa_nil)))) (pss_one (ps_ret (pv 3))) pss_nil))) (pss_one (ps_ret (pe_glob (v := .int (0)) rfl T.k_NO_SET ⟨_, rfl⟩))))), ?_⟩)
  obtain ⟨b, a, B, p, rfl, hb, ha, hF, k⟩ := h
  refine ⟨_, rfl, _, rfl, b, a, B, p, rfl, hb, ha, hF, fun wd H1 hwd e1 hw => ?_⟩
  obtain ⟨hp0, hp4, hB5, hrow⟩ := id hF
  refine ⟨_, rfl, a, _, rfl, .inl (sq_of (e1 _ _ ha)), p.length, by rw [List.length_map]; rfl, by omega, fun so H2 hso e2 hs => ?_⟩
  have hwl := wanted_le B p
  refine ⟨so, rfl, ⟨_, sq_of hs⟩, for_list (K := K) (a := so) (xs := (toI (setsOrd p.length)).map V.int) (fun i σ H' => ∃ v, σ = [some (.ref b), some (.ref a), some (.ref wd), v] ∧ Ex H2 H' ∧ ∀ j y, j < i → (setsOrd p.length)[j]? = some y → odTest (wanted B p) y = false) ⟨_, rfl, Ex.refl _, fun j y hj => absurd hj (Nat.not_lt_zero _)⟩ (fun i σ H' _ ⟨_, _, e, _⟩ => sq_of (e _ _ hs)) ?_ ?_⟩
  · rintro i x σ H3 hi ⟨v, rfl, e, hno⟩
    obtain ⟨x0, hx0, rfl⟩ := at_int hi
    obtain ⟨n, hn, rfl⟩ := toI_at hx0
    have hlt := (setsOrd_pos p.length (by omega) n (List.mem_of_getElem? hn)).2
    have h16 : 2 ^ p.length ≤ 16 := Nat.pow_le_pow_right (n := 2) (by decide) hp4
    refine ⟨_, rfl, _, rfl, n, wd, wanted B p, rfl, e _ _ (e2 _ _ hw), by omega, by omega, fun H4 e4 => ⟨_, rfl, ?_⟩⟩
    by_cases c : odTest (wanted B p) n = true
    · refine if_true_of c ⟨_, rfl, ?_⟩
      have := k _ (((e1.trans e2).trans e).trans e4)
      unfold firstSet at this
      rw [find_at hn hno c] at this
      exact this
    · refine if_false_of (Bool.eq_false_iff.mpr c) ⟨_, rfl, e.trans e4, fun j y hj hy => ?_⟩
      by_cases hji : j < i
      · exact hno j y hji hy
      · have : j = i := by omega
        subst this
        rw [hn] at hy
        cases hy
        exact Bool.eq_false_iff.mpr c
  · rintro σ H' ⟨v, rfl, e, hno⟩
    have hnone : (setsOrd p.length).find? (odTest (wanted B p)) = none := by
      rw [List.find?_eq_none]
      intro x hx
      obtain ⟨j, hj⟩ := List.getElem?_of_mem hx
      have hjl : j < ((toI (setsOrd p.length)).map V.int).length := by
        rw [List.length_map, toI_len]
        exact (List.getElem?_eq_some_iff.mp hj).1
      rw [hno j x hjl hj]
      decide
    have := k _ ((e1.trans e2).trans e)
    unfold firstSet at this
    rw [hnone] at this
    exact this
def sp_raised : Sp := fun vs H Q _ => ∃ (a : Addr) (p : List Int) (m : Nat), vs = [.ref a, .int (m : Int)] ∧ LI H a p ∧ p.length ≤ 4 ∧ RetL ((Vbndax.raisePrices p m).map V.int) H Q
theorem ok_raised (T : Tx K mg) : FnOk P w K mg base CX0 1 T.raised.f T.raised.fd ["prices", "members"] sp_raised := by
  refine T.raised.F.ok sc_raised (fun vs H Q E h => by obtain ⟨a, p, m, rfl, _⟩ := h; rfl) (fun cdv A outer s H vs Q E hr h => ⟨_, (pss_one (ps_ret (pe_lc (own := [("lot", 2), ("price", 3)]) (g := gTup K 2 (gCons (gName 2) (gCons (gName 3) gNil))) rfl sc_raised.nd (pi_enum (by rfl) T.b_enumerate (pa_cons (pv 0) pa_nil)) (blkOk_by (own := [("lot", 2), ("price", 3)]) (N := N_raised) (sc := defScope s_raised) (by decide +kernel)) (fun _ _ _ _ _ => (pg_tup rfl (pgs_cons (pg_name (i := 2) sc_raised.nd rfl (Or.inl rfl) (hf := Or.inr rfl)) (pgs_cons (pg_name (i := 3) sc_raised.nd rfl (Or.inl rfl) (hf := Or.inr rfl)) pgs_nil)))) (fun _ _ _ _ _ => pts_nil) (fun _ _ _ _ _ => (pe_op op_add (pv 3) (pe_op op_and (pe_op op_shr (pv 1) (pv 2)) pe_int)))))), ?_⟩)
  obtain ⟨a, p, m, rfl, ha, h4, k⟩ := h
  refine ⟨_, rfl, a, _, rfl, sq_of ha, fun D hD => lc_map (walk_enum (K := K) (a := a) (xs := p.map V.int)) ((Vbndax.raisePrices p m).map V.int) (by rw [List.length_map, List.length_map, raise_len]) hD (by rw [List.length_map]; omega) (fun H e => sq_of (e _ _ ha)) ?_ ?_⟩
  · rintro i x H1 H2 z hi hz e1 ⟨t, x1, y1, rfl, ht, rfl, q1, q2⟩ M k2
    cases q1
    obtain ⟨y0, hy0, rfl⟩ := at_int q2
    obtain ⟨z0, hz0, rfl⟩ := at_int hz
    rw [List.length_map] at hi
    rw [raise_is, List.getElem?_map, List.getElem?_range hi, Option.map_some, getD_of hy0] at hz0
    have hb := bit_val m i
    have hc : ((m / 2 ^ i % 2 : Nat) : Int) = if Vbndax.containsLot m i = true then 1 else 0 := by
      unfold Vbndax.containsLot
      have : m / 2 ^ i % 2 = 0 ∨ m / 2 ^ i % 2 = 1 := by omega
      rcases this with h | h <;> rw [h] <;> rfl
    rw [hc] at hb
    refine ⟨t, _, rfl, Evl.st_of upd_same, rfl, _, _, rfl, _, _, rfl, rfl, rfl, _, rfl, _, rfl, _, rfl, _, _, rfl, rfl, by omega, _, _, rfl, rfl, _, _, rfl, rfl, ?_⟩
    dsimp only
    rw [hb]
    have hz1 : y0 + (if Vbndax.containsLot m i = true then 1 else 0) = z0 := Option.some.inj hz0
    rw [hz1]
    exact k2 _ (Ex.new ht)
  · intro H1 e1 h1
    exact k D _ hD e1 h1
/-! ### run_clock -/
def fuel (n : Nat) : Nat := n * (Vbndax.maxBid + 1) + 1
def sp_run_clock : Sp := fun vs H Q _ => ∃ (a b : Addr) (R : List Int) (B : List (List Int)), vs = [.ref a, .ref b] ∧ LI H a R ∧ Rws H b B ∧ FitP R B ∧ (∀ row ∈ B, ∀ x ∈ row, x ≤ 60) ∧ meas R.length R < fuel R.length ∧
  ∀ (t l1 l2 : Addr) (H' : Hp), H t = none → H l1 = none → H l2 = none → Ex H H' → H' t = some (.tup [.ref l1, .ref l2]) → LI H' l1 (toI (Vbndax.runClockFrom B R.length (fuel R.length) R).1) → LI H' l2 (Vbndax.runClockFrom B R.length (fuel R.length) R).2 → Q (.ref t) H'
theorem firstSet_is {B : List (List Int)} {p : List Int} (hF : FitP p B) : (Vbndax.firstOverdemanded B p p.length).getD 0 = firstSet B p := by
  unfold firstSet
  rw [firstOd_is B p p.length (by have := hF.2.1; omega) hF.2.2.2]
theorem ok_run_clock (T : Tx K mg) : FnOk P w K mg base CX0 6 T.run_clock.f T.run_clock.fd ["reserves", "bids"] sp_run_clock := by
  have ok_first_overdemanded_set := ok_first_overdemanded_set (P := P) (w := w) (base := base) T
  have ok_raised := ok_raised (P := P) (w := w) (base := base) T
  refine T.run_clock.F.ok sc_run_clock (fun vs H Q E h => by obtain ⟨a, b, R, B, rfl, _⟩ := h; rfl) (fun cdv A outer s H vs Q E hr h => ⟨_, (pss_cons (ps_set (i := 2) sc_run_clock.nd rfl (Or.inl rfl) (pe_lst pa_nil)) (pss_cons (ps_set (i := 3) sc_run_clock.nd rfl (Or.inl rfl) (pe_callTy call_list_of (by rfl) T.b_list (by decide +kernel) (pa_cons (pv 0) pa_nil))) (pss_cons (ps_set (i := 4) sc_run_clock.nd rfl (Or.inl rfl) (pe_call ok_first_overdemanded_set hr rfl T.first_overdemanded_set.g T.first_overdemanded_set.kp T.first_overdemanded_set.b .nil pass0 (pa_cons (pv 1) (pa_cons (pv 3) pa_nil)))) (pss_cons (ps_while PassesOwn.never (pt_cmpR op_ne (pv 4) (pe_glob (v := .int (0)) rfl T.k_NO_SET ⟨_, rfl⟩) (nomark _)) (pss_cons (ps_expr (pe_bm PySem.F.plainAttrs_list PySem.F.slot_list_append PySem.F.type_list_append mt_append (pv 2) (pa_cons (pv 4) pa_nil))) (pss_cons (ps_set (i := 3) sc_run_clock.nd rfl (Or.inl rfl) (pe_call ok_raised (hr.mono (by decide)) rfl T.raised.g T.raised.kp T.raised.b .nil pass0 (pa_cons (pv 3) (pa_cons (pv 4) pa_nil)))) (pss_one (ps_set (i := 4) sc_run_clock.nd rfl (Or.inl rfl) (pe_call ok_first_overdemanded_set hr rfl T.first_overdemanded_set.g T.first_overdemanded_set.kp T.first_overdemanded_set.b .nil pass0 (pa_cons (pv 1) (pa_cons (pv 3) pa_nil)))))))) (pss_one (ps_ret (pe_tup (pa_cons (pv 2) (pa_cons (pv 3) pa_nil))))))))), ?_⟩)
  obtain ⟨a, b, R, B, rfl, ha, hb, hF, h60, hfu, k⟩ := h
  have h4 := hF.2.1
  refine ⟨Nat.zero_le _, fun l hl => ?_⟩
  have e0 : Ex H (upd H l (.lst [])) := Ex.new hl
  refine ⟨_, rfl, a, _, rfl, .inl (sq_of (e0 _ _ ha)), fun q hq => ?_⟩
  have e1 := e0.trans (Ex.new (o := .lst (R.map V.int)) hq)
  have hlq : l ≠ q := fun z => by rw [← z, upd_same] at hq; cases hq
  refine ⟨_, rfl, _, rfl, b, q, B, R, rfl, hb.mono e1, upd_same, hF, fun H2 e2 => ?_⟩
  have htot := run_len B R.length (fuel R.length) R
  have hfl : fuel R.length ≤ 245 := by unfold fuel Vbndax.maxBid; omega
  refine ⟨fun n σ H' => ∃ (q : Addr) (p : List Int) (done : List Nat) (f : Nat), n = meas R.length p ∧ σ = [some (.ref a), some (.ref b), some (.ref l), some (.ref q), some (.int ((firstSet B p : Nat) : Int))] ∧ Ex H H' ∧ LI H' l (toI done) ∧ LI H' q p ∧ q ≠ l ∧ H q = none ∧ p.length = R.length ∧ meas R.length p < f ∧
    done ++ (Vbndax.runClockFrom B R.length f p).1 = (Vbndax.runClockFrom B R.length (fuel R.length) R).1 ∧ (Vbndax.runClockFrom B R.length f p).2 = (Vbndax.runClockFrom B R.length (fuel R.length) R).2,
    ⟨_, q, R, [], _, rfl, rfl, e1.trans e2, ?_, e2 _ _ upd_same, Ne.symm hlq, fresh_back e0 hq, rfl, hfu, rfl, rfl⟩, ?_⟩
  · exact e2 _ _ (by rw [upd_ne hlq]; exact upd_same)
  rintro n σ H' ⟨q, p, done, f, rfl, rfl, e, hd, hp, hql, hqH, hpl, hm, ht1, ht2⟩
  have hFp : FitP p B := ⟨by rw [hpl]; exact hF.1, by rw [hpl]; exact hF.2.1, hF.2.2.1, fun row hr => by rw [hpl]; exact hF.2.2.2 row hr⟩
  have hfs := firstSet_is hFp
  rw [hpl] at hfs
  obtain ⟨f, rfl⟩ : ∃ g, f = g + 1 := ⟨f - 1, by omega⟩
  refine ⟨_, rfl, rfl, _, rfl, ?_⟩
  cases hO : Vbndax.firstOverdemanded B p R.length with
  | none =>
    rw [hO] at hfs
    rw [← hfs]
    rw [run_none hO] at ht1 ht2
    refine if_false_of rfl ⟨_, rfl, _, rfl, sz_2, fun t ht => k t l q _ (fresh_back e ht) hl hqH (e.trans (Ex.new ht)) upd_same ?_ ?_⟩
    · rw [← ht1, List.append_nil]
      exact Ex.new ht _ _ hd
    · rw [← ht2]
      exact Ex.new ht _ _ hp
  | some z =>
    rw [hO] at hfs
    obtain ⟨hz0, hzl, _⟩ := firstOd_pos (by omega) hF.2.2.2 hO
    have hml := meas_lt (by omega) hF.2.2.2 h60 hpl hO
    have hfs2 : firstSet B p = z := hfs.symm
    rw [hfs2]
    rw [run_some hO] at ht1 ht2
    have hne : ((z : Nat) : Int) ≠ 0 := by omega
    refine if_true_of (by rw [decide_eq_false fun h => hne (V.int.inj h)]; rfl) ⟨fun σ' H'' => ∃ m', m' < meas R.length p ∧ ∃ (q : Addr) (p : List Int) (done : List Nat) (f : Nat), m' = meas R.length p ∧ σ' = [some (.ref a), some (.ref b), some (.ref l), some (.ref q), some (.int ((firstSet B p : Nat) : Int))] ∧ Ex H H'' ∧ LI H'' l (toI done) ∧ LI H'' q p ∧ q ≠ l ∧ H q = none ∧ p.length = R.length ∧ meas R.length p < f ∧
      done ++ (Vbndax.runClockFrom B R.length f p).1 = (Vbndax.runClockFrom B R.length (fuel R.length) R).1 ∧ (Vbndax.runClockFrom B R.length f p).2 = (Vbndax.runClockFrom B R.length (fuel R.length) R).2, fun σ' H'' h => h, ?_⟩
    have hdl : done.length ≤ 245 := by
      have h9 := congrArg List.length ht1
      rw [List.length_append] at h9
      omega
    -- rounds.append(members)
    refine ⟨_, rfl, Or.inl ⟨rfl, _, sq_of hd⟩, _, rfl, l, _, _, rfl, rfl, hd, by rw [List.length_map, toI_len]; exact szl (by omega), ?_⟩
    have e3 : Ex H (upd H' l (.lst ((toI done).map V.int ++ [.int (z : Int)]))) := Ex.mut e hl
    have hd3 : LI (upd H' l (.lst ((toI done).map V.int ++ [.int (z : Int)]))) l (toI (done ++ [z])) := by
      rw [LI, toI_snoc, List.map_append]
      exact upd_same
    have hp3 : LI (upd H' l (.lst ((toI done).map V.int ++ [.int (z : Int)]))) q p := by
      rw [LI, upd_ne hql]
      exact hp
    -- prices = raised(prices, members)
    refine ⟨_, rfl, _, rfl, q, p, z, rfl, hp3, by omega, fun q2 H4 hq2 e4 hq4 => ?_⟩
    have hl2 : q2 ≠ l := fun h => by rw [h, hd3] at hq2; cases hq2
    have hrl := raise_len p z
    have hFp2 : FitP (Vbndax.raisePrices p z) B := ⟨by rw [hrl]; exact hFp.1, by rw [hrl]; exact hFp.2.1, hFp.2.2.1, fun row hr => by rw [hrl]; exact hFp.2.2.2 row hr⟩
    refine ⟨_, rfl, _, rfl, b, q2, B, _, rfl, hb.mono (e3.trans e4), hq4, hFp2, fun H5 e5 => ?_⟩
    refine ⟨_, hml, q2, Vbndax.raisePrices p z, done ++ [z], f, rfl, rfl, (e3.trans e4).trans e5, e5 _ _ (e4 _ _ hd3), e5 _ _ hq4, hl2, fresh_back e3 hq2, by omega, by omega, ?_, ht2⟩
    rw [List.append_assoc]
    exact ht1
end Sl
/-! # Outcomes -/
namespace Sl
open PySem PySem.Spec PyProof.Rows L2 Mir
open Evl (Ex Ex.refl Ex.trans Ex.new Ex.mut fresh_back sz_of sz_lt ex_l sq_of RetL RetV given)
variable {P : Program} {w : World} {K : PySem.W.Frag} {mg : Str → Option Value} {base : Heap}
def LotOk (n : Nat) (x : Int) : Prop := x = -1 ∨ ∃ j : Nat, j < n ∧ x = (j : Int)
def payOf (p : List Int) (x : Int) : Int := if x = -1 then 0 else p.getD x.toNat 0
def sp_payment_for : Sp := fun vs H Q _ => ∃ (a : Addr) (x : Int) (p : List Int), vs = [.int x, .ref a] ∧ LI H a p ∧ LotOk p.length x ∧ ∀ H' : Hp, Ex H H' → Q (.int (payOf p x)) H'
theorem ok_payment_for (T : Tx K mg) : FnOk P w K mg base CX0 1 T.payment_for.f T.payment_for.fd ["lot", "prices"] sp_payment_for := by
  refine T.payment_for.F.ok sc_payment_for (fun vs H Q E h => by obtain ⟨a, x, p, rfl, _⟩ := h; rfl) (fun cdv A outer s H vs Q E hr h => ⟨_, (pss_cons (ps_if (pt_cmpR op_eq (pv 0) (pe_glob (v := .int (-1)) rfl T.k_NONE ⟨_, rfl⟩) (nomark _)) (pss_one (ps_ret pe_int)) pss_nil) (pss_one (ps_ret (pe_ix (r := rIxL K) ix_list (pv 1) (pv 0) (fun _ _ => rfl))))), ?_⟩)
  obtain ⟨a, x, p, rfl, ha, hx, k⟩ := h
  have := k H (Ex.refl _)
  refine ⟨_, rfl, rfl, _, rfl, ?_⟩
  rcases hx with rfl | ⟨j, hj, rfl⟩
  · exact if_true_of rfl this
  · have hne := lot_ne j
    refine if_false_of (decide_eq_false fun z => hne (V.int.inj z)) ⟨_, rfl, _, rfl, a, _, _, .int (p.getD j 0), rfl, rfl, sq_of ha, int_at hj, ?_⟩
    unfold payOf at this
    rw [if_neg hne, Int.toNat_natCast] at this
    exact this
def utilOf (v : List Int) (c : Int × Int) : Int := if c.1 = -1 then 0 else v.getD c.1.toNat 0 - c.2
def sp_utility_of : Sp := fun vs H Q _ => ∃ (t a : Addr) (c : Int × Int) (v : List Int), vs = [.ref t, .ref a] ∧ H t = some (.tup [.int c.1, .int c.2]) ∧ LI H a v ∧ LotOk v.length c.1 ∧ ∀ H' : Hp, Ex H H' → Q (.int (utilOf v c)) H'
theorem ok_utility_of (T : Tx K mg) : FnOk P w K mg base CX0 1 T.utility_of.f T.utility_of.fd ["outcome", "values"] sp_utility_of := by
  refine T.utility_of.F.ok sc_utility_of (fun vs H Q E h => by obtain ⟨t, a, c, v, rfl, _⟩ := h; rfl) (fun cdv A outer s H vs Q E hr h => ⟨_, (pss_cons (ps_set (i := 2) sc_utility_of.nd rfl (Or.inl rfl) (pe_ix (r := rIxT K) ix_tup (pv 0) pe_int (fun _ _ => rfl))) (pss_cons (ps_if (pt_cmpR op_eq (pv 2) (pe_glob (v := .int (-1)) rfl T.k_NONE ⟨_, rfl⟩) (nomark _)) (pss_one (ps_ret pe_int)) pss_nil) (pss_one (ps_ret (pe_op op_sub (pe_ix (r := rIxL K) ix_list (pv 1) (pv 2) (fun _ _ => rfl)) (pe_ix (r := rIxT K) ix_tup (pv 0) pe_int (fun _ _ => rfl))))))), ?_⟩)
  obtain ⟨t, a, ⟨x, y⟩, v, rfl, ht, ha, hx, k⟩ := h
  have := k H (Ex.refl _)
  refine ⟨_, rfl, t, _, _, .int x, rfl, rfl, Evl.st_of ht, rfl, ?_⟩
  refine ⟨_, rfl, rfl, _, rfl, ?_⟩
  rcases hx with hx | ⟨j, hj, hx⟩
  · have hx' : x = -1 := hx
    subst hx'
    exact if_true_of rfl this
  · have hx' : x = (j : Int) := hx
    subst hx'
    have hne := lot_ne j
    refine if_false_of (decide_eq_false fun z => hne (V.int.inj z)) ⟨_, rfl, _, rfl, a, _, _, .int (v.getD j 0), rfl, rfl, sq_of ha, int_at hj, _, rfl, t, _, _, .int y, rfl, rfl, Evl.st_of ht, rfl, _, _, rfl, rfl, ?_⟩
    unfold utilOf at this
    rw [if_neg hne, Int.toNat_natCast] at this
    exact this
theorem alloc_mem {R : List Int} {n : Nat} : ∀ {B : List (List Int)} {m : Nat}, (∀ row ∈ B, row.length = n) → ∀ x ∈ allocFrom R B m, LotOk n x
  | [], m, _, x, h => by rw [allocFrom] at h; cases h
  | row :: rest, m, hB, x, h => by
    rw [allocFrom] at h
    rcases List.mem_cons.mp h with h | h
    · subst h
      rcases best_lot row m ((tables R rest).headD []) with c | ⟨j, hj, _, c⟩
      · exact .inl c
      · exact .inr ⟨j, by rw [← hB row (List.mem_cons_self ..)]; exact hj, c⟩
    · exact alloc_mem (fun r hr => hB r (List.mem_cons_of_mem _ hr)) x h
def outs (R : List Int) (B : List (List Int)) : List (Int × Int) := (Mir.alloc R B).map fun x => (x, payOf (minPs R B) x)
theorem outs_len (R : List Int) (B : List (List Int)) : (outs R B).length = B.length := by
  unfold outs Mir.alloc
  rw [List.length_map, alloc_len]
theorem outs_lot {R : List Int} {B : List (List Int)} (h : Fit4 R B) {i : Nat} {c : Int × Int} (hc : (outs R B)[i]? = some c) : LotOk R.length c.1 := by
  unfold outs at hc
  rw [List.getElem?_map] at hc
  cases e : (Mir.alloc R B)[i]? with
  | none => rw [e] at hc; cases hc
  | some x =>
    rw [e] at hc
    cases hc
    exact alloc_mem h.2.2 x (List.mem_of_getElem? e)
def sp_outcomes : Sp := fun vs H Q _ => ∃ (a b : Addr) (R : List Int) (B : List (List Int)), vs = [.ref a, .ref b] ∧ LI H a R ∧ Rws H b B ∧ Fit4 R B ∧
  ∀ (p : Addr) (H' : Hp) (as : List Addr), H p = none → Ex H H' → H' p = some (.lst (as.map V.ref)) → PairsAt H' as (outs R B) → Q (.ref p) H'
theorem ok_outcomes (T : Tx K mg) : FnOk P w K mg base CX0 6 T.outcomes.f T.outcomes.fd ["reserves", "bids"] sp_outcomes := by
  have ok_minimum_prices := ok_minimum_prices (P := P) (w := w) (base := base) T
  have ok_returned_allocation := ok_returned_allocation (P := P) (w := w) (base := base) T
  have ok_payment_for := ok_payment_for (P := P) (w := w) (base := base) T
  refine T.outcomes.F.ok sc_outcomes (fun vs H Q E h => by obtain ⟨a, b, R, B, rfl, _⟩ := h; rfl) (fun cdv A outer s H vs Q E hr h => ⟨_, (pss_cons (ps_set (i := 2) sc_outcomes.nd rfl (Or.inr rfl) (pe_call ok_minimum_prices hr rfl T.minimum_prices.g T.minimum_prices.kp T.minimum_prices.b .nil pass0 (pa_cons (pv 0) (pa_cons (pv 1) pa_nil)))) (pss_one (ps_ret (pe_lc (own := [("lot", 3)]) rfl sc_outcomes.nd (pi_list (pe_call ok_returned_allocation (hr.mono (by decide)) rfl T.returned_allocation.g T.returned_allocation.kp T.returned_allocation.b .nil pass0 (pa_cons (pv 0) (pa_cons (pv 1) pa_nil)))) (blkOk_by (own := [("lot", 3)]) (N := N_outcomes) (sc := defScope s_outcomes) (by decide +kernel)) (fun _ _ _ _ _ => (pg_name (i := 3) sc_outcomes.nd rfl (Or.inl rfl) (hf := Or.inr rfl))) (fun _ _ _ _ _ => pts_nil) (fun _ _ _ _ _ => (pe_tup (pa_cons (pv 3) (pa_cons (pe_call ok_payment_for (hr.mono (by decide)) rfl T.payment_for.g T.payment_for.kp T.payment_for.b .nil pass0 (pa_cons (pv 3) (pa_cons (pv 2) pa_nil))) pa_nil)))))))), ?_⟩)
  obtain ⟨a, b, R, B, rfl, ha, hb, hF, k⟩ := h
  refine ⟨_, rfl, _, rfl, a, b, R, B, rfl, ha, hb, hF, fun pr H1 hpr e1 hp1 => ?_⟩
  refine ⟨_, rfl, _, rfl, a, b, R, B, rfl, e1 _ _ ha, hb.mono e1, hF.fit, fun al H2 hal e2 hl2 => ?_⟩
  have hall : (Mir.alloc R B).length = B.length := by unfold Mir.alloc; rw [alloc_len]
  have hB5 := hF.2.1
  refine ⟨al, rfl, ⟨_, sq_of hl2⟩, fun D hD => lc_new (walk_list (xs := (Mir.alloc R B).map V.int)) (fun i => .tup [.int ((outs R B).getD i (0, 0)).1, .int ((outs R B).getD i (0, 0)).2]) hD (by rw [List.length_map]; omega) (fun H e => sq_of (e _ _ hl2)) ?_ ?_⟩
  · rintro i x H3 H4 hi e3 ⟨rfl, hx⟩ M k2
    obtain ⟨x0, hx0, rfl⟩ := at_int hx
    have hlot := alloc_mem hF.2.2 x0 (List.mem_of_getElem? hx0)
    have ho : (outs R B).getD i (0, 0) = (x0, payOf (minPs R B) x0) := by
      unfold outs
      rw [List.getD_eq_getElem?_getD, List.getElem?_map, hx0]
      rfl
    rw [ho] at k2
    refine ⟨rfl, _, rfl, _, rfl, _, rfl, pr, x0, minPs R B, rfl, e3 _ _ (e2 _ _ hp1), by rw [minPs_len]; exact hlot, fun H5 e5 => ⟨sz_2, fun q hq => k2 q _ (fresh_back e5 hq) (e5.trans (Ex.new hq)) upd_same⟩⟩
  · intro H3 as e3 h3 hlen hnew
    refine k D _ as (fresh_back (e1.trans e2) hD) ((e1.trans e2).trans e3) h3 ⟨by rw [hlen, List.length_map, hall, outs_len], fun i q hq => ?_⟩
    have hi : i < (outs R B).length := by
      have := (List.getElem?_eq_some_iff.mp hq).1
      rw [hlen, List.length_map, hall] at this
      rw [outs_len]
      exact this
    have := (hnew i q hq).2
    refine ⟨(outs R B)[i], List.getElem?_eq_getElem hi, ?_⟩
    rw [List.getD_eq_getElem?_getD, List.getElem?_eq_getElem hi] at this
    exact this
end Sl
/-! # The state -/
namespace Sl
open PySem PySem.Spec PyProof.Rows L2 Mir
open Evl (Ex Ex.refl Ex.trans Ex.new Ex.mut fresh_back sz_of sz_lt ex_l sq_of RetL RetV given)
variable {P : Program} {w : World} {K : PySem.W.Frag} {mg : Str → Option Value} {base : Heap}
theorem lk_here {k : Str} {v : V} {r : List (Str × V)} : List.lookup k ((k, v) :: r) = some v := by
  have e : (k == k) = true := beq_self_eq_true k
  simp only [List.lookup, e]
theorem lk_past {k g : Str} {v : V} {r : List (Str × V)} (h : (k == g) = false) : List.lookup k ((g, v) :: r) = List.lookup k r := by
  simp only [List.lookup, h]
theorem put_here {f : Str} {v x : V} {r : List (Str × V)} : putF f v ((f, x) :: r) = (f, v) :: r := if_pos rfl
theorem put_past {f g : Str} {v x : V} {r : List (Str × V)} (h : ¬ g = f) : putF f v ((g, x) :: r) = (g, x) :: putF f v r := if_neg h
def aF (r s c : V) : List (Str × V) := [("reserves", r), ("submitted", s), ("closed", c)]
section
variable (r s c v : V)
theorem aF_r : (aF r s c).lookup ("reserves" : Str) = some r := lk_here
theorem aF_s : (aF r s c).lookup ("submitted" : Str) = some s := (lk_past (by decide +kernel)).trans lk_here
theorem aF_c : (aF r s c).lookup ("closed" : Str) = some c := (lk_past (by decide +kernel)).trans ((lk_past (by decide +kernel)).trans lk_here)
theorem aF_no {m : Str} (h : ((m == ("reserves" : Str)) || (m == ("submitted" : Str)) || (m == ("closed" : Str))) = false) : (aF r s c).lookup m = none := by
  rw [Bool.or_eq_false_iff, Bool.or_eq_false_iff] at h
  exact (lk_past h.1.1).trans ((lk_past h.1.2).trans ((lk_past h.2).trans rfl))
theorem pF_r : putF "reserves" v (aF r s c) = aF v s c := put_here
theorem pF_s : putF "submitted" v (aF r s c) = aF r v c := (put_past (by decide +kernel)).trans (congrArg _ put_here)
theorem pF_c : putF "closed" v (aF r s c) = aF r s v := (put_past (by decide +kernel)).trans (congrArg _ ((put_past (by decide +kernel)).trans (congrArg _ put_here)))
theorem pF_new : putF "closed" c (putF "submitted" s (putF "reserves" r [])) = aF r s c := by
  have h1 : putF "reserves" r [] = [(("reserves" : Str), r)] := rfl
  have h2 : putF "submitted" s [(("reserves" : Str), r)] = [(("reserves" : Str), r), (("submitted" : Str), s)] := (put_past (by decide +kernel)).trans rfl
  rw [h1, h2]
  exact (put_past (by decide +kernel)).trans (congrArg _ ((put_past (by decide +kernel)).trans rfl))
end
/-- all but the auction and its list of bids stands -/
def Fr2 (H : Hp) (A s : Addr) (H' : Hp) : Prop := ∀ b o, H b = some o → b ≠ A → b ≠ s → H' b = some o
theorem Fr2.of_ex {H H' : Hp} {A s : Addr} (e : Ex H H') : Fr2 H A s H' := fun b o h _ _ => e b o h
theorem Fr2.ex {H H1 H2 : Hp} {A s : Addr} (f : Fr2 H A s H1) (e : Ex H1 H2) : Fr2 H A s H2 := fun b o h h1 h2 => e b o (f b o h h1 h2)
def SubAt (N0 : Addr → Prop) (H : Hp) (s : Addr) (bs : List (Option (List Nat))) : Prop := ∃ vs : List V, H s = some (.lst vs) ∧ vs.length = bs.length ∧
  ∀ (i : Nat) (v : V), vs[i]? = some v → (bs[i]? = some none ∧ v = .non) ∨ ∃ l q, bs[i]? = some (some l) ∧ v = .ref q ∧ LI H q (toI l) ∧ q ≠ s ∧ N0 q
theorem SubAt.mono {N0 : Addr → Prop} {H H' : Hp} {s : Addr} {bs : List (Option (List Nat))} (e : Ex H H') (h : SubAt N0 H s bs) : SubAt N0 H' s bs :=
  let ⟨vs, h1, h2, h3⟩ := h; ⟨vs, e _ _ h1, h2, fun i v z => (h3 i v z).imp id fun ⟨l, q, a, b, c, d⟩ => ⟨l, q, a, b, e _ _ c, d⟩⟩
theorem SubAt.ne {N0 : Addr → Prop} {H : Hp} {s q : Addr} {bs : List (Option (List Nat))} {ns : List Int} (h : SubAt N0 H s bs) (h0 : 0 < bs.length) (hq : LI H q ns) : q ≠ s := by
  rintro rfl
  obtain ⟨vs, h1, h2, h3⟩ := h
  rw [LI, h1] at hq
  have hv : vs = ns.map V.int := by injection hq with hq; injection hq
  subst hv
  obtain ⟨v, hv0⟩ : ∃ v, (ns.map V.int)[0]? = some v := ⟨_, List.getElem?_eq_getElem (by omega)⟩
  obtain ⟨z, _, hz⟩ := at_int hv0
  subst hz
  rcases h3 0 _ hv0 with ⟨_, h⟩ | ⟨l, q2, _, h, _⟩ <;> cases h
def AuctAt (T : Tx K mg) (H : Hp) (A s : Addr) : Option Vbndax.Auction → Prop
  | none => ∃ dx, H A = some (.ins T.c_Auction dx (aF .non (.ref s) (.bl false))) ∧ H s = some (.lst [])
  | some x => ∃ dx r, H A = some (.ins T.c_Auction dx (aF (.ref r) (.ref s) (.bl x.isClosed))) ∧ LI H r (toI x.reserves) ∧ (r ≠ s ∧ T.av r) ∧ SubAt T.av H s x.sealedBids
theorem AuctAt.mono {T : Tx K mg} {H H' : Hp} {A s : Addr} {st : Option Vbndax.Auction} (e : Ex H H') (h : AuctAt T H A s st) : AuctAt T H' A s st := by
  cases st with
  | none => obtain ⟨dx, h1, h2⟩ := h; exact ⟨dx, e _ _ h1, e _ _ h2⟩
  | some x => obtain ⟨dx, r, h1, h2, h3, h4⟩ := h; exact ⟨dx, r, e _ _ h1, e _ _ h2, h3, h4.mono e⟩
def sp_Auction_init (T : Tx K mg) : Sp := fun vs H Q _ => ∃ (p dx : Addr), vs = [.ref p] ∧ H p = some (.ins T.c_Auction dx []) ∧
  ∀ (H' : Hp) (s : Addr), (∀ b o, H b = some o → b ≠ p → H' b = some o) → H s = none → AuctAt T H' p s none → Q .non H'
theorem ok_Auction_init (T : Tx K mg) : FnOk P w K mg base CX0 1 T.Auction_init.f T.Auction_init.fd ["self"] (sp_Auction_init T) := by
  refine T.Auction_init.F.ok sc_Auction_init (fun vs H Q E h => by obtain ⟨p, dx, rfl, _⟩ := h; rfl) (fun cdv A outer s H vs Q E hr h => ⟨_, (pss_cons (ps_fld (pv 0) pe_non rfl) (pss_cons (ps_fld (pv 0) (pe_lst pa_nil) rfl) (pss_one (ps_fld (pv 0) pe_bl rfl)))), ?_⟩)
  obtain ⟨p, dx, rfl, hp, k⟩ := h
  refine ⟨_, rfl, p, _, dx, _, rfl, hp, T.cl_Auction, T.n_Auction_reserves, (by show 0 < 1000; decide), ?_⟩
  refine ⟨Nat.zero_le _, fun q hq => ?_⟩
  have hqp : p ≠ q := fun z => by rw [← z, upd_same] at hq; cases hq
  refine ⟨_, rfl, p, _, dx, _, rfl, (by rw [upd_ne hqp]; exact upd_same), T.cl_Auction, T.n_Auction_submitted, (by show 1 < 1000; decide), ?_⟩
  refine ⟨_, rfl, p, _, dx, _, rfl, upd_same, T.cl_Auction, T.n_Auction_closed, (by show 2 < 1000; decide), ?_⟩
  refine k _ q (fun b o e hb => ?_) ?_ ⟨dx, ?_, ?_⟩
  · rw [upd_ne hb, upd_ne hb]
    have h1 : (upd H p (.ins T.c_Auction dx (putF "reserves" .non []))) b = some o := by rw [upd_ne hb]; exact e
    rw [upd_ne (ne_of_none h1 hq)]
    exact h1
  · rw [upd_ne (Ne.symm hqp)] at hq
    exact hq
  · rw [upd_same]
    exact congrArg (fun z => some (HO.ins T.c_Auction dx z)) (pF_new _ _ _)
  · rw [upd_ne (Ne.symm hqp), upd_ne (Ne.symm hqp)]
    exact upd_same
def begun (R : List Nat) : Vbndax.Auction := ⟨R, List.replicate 5 none, false⟩
/-- the fields, of either state -/
theorem AuctAt.fields {T : Tx K mg} {H : Hp} {A s : Addr} {st : Option Vbndax.Auction} (h : AuctAt T H A s st) : ∃ dx r c, H A = some (.ins T.c_Auction dx (aF r (.ref s) c)) ∧ ∃ o, H s = some (.lst o) := by
  cases st with
  | none => obtain ⟨dx, h1, h2⟩ := h; exact ⟨dx, _, _, h1, _, h2⟩
  | some x => obtain ⟨dx, r, h1, h2, h3, vs, h4, _⟩ := h; exact ⟨dx, _, _, h1, _, h4⟩
def sp_Auction_begin (T : Tx K mg) : Sp := fun vs H Q _ => ∃ (A s r : Addr) (st : Option Vbndax.Auction) (R : List Nat), vs = [.ref A, .ref r] ∧ AuctAt T H A s st ∧ LI H r (toI R) ∧ T.av r ∧
  ∀ (H' : Hp) (s' : Addr), (∀ b o, H b = some o → b ≠ A → H' b = some o) → H s' = none → AuctAt T H' A s' (some (begun R)) → Q .non H'
theorem ok_Auction_begin (T : Tx K mg) : FnOk P w K mg base CX0 1 T.Auction_begin.f T.Auction_begin.fd ["self", "reserves"] (sp_Auction_begin T) := by
  refine T.Auction_begin.F.ok sc_Auction_begin (fun vs H Q E h => by obtain ⟨p, s, r, st, R, rfl, _⟩ := h; rfl) (fun cdv A outer s H vs Q E hr h => ⟨_, (pss_cons (ps_fld (pv 0) (pv 1) rfl) (pss_cons (ps_fld (pv 0) (pe_op op_rep (pe_lst (pa_cons pe_non pa_nil)) (pe_glob (v := .int (5)) rfl T.k_BIDDERS ⟨_, rfl⟩)) rfl) (pss_one (ps_fld (pv 0) pe_bl rfl)))), ?_⟩)
  obtain ⟨p, s0, r, st, R, rfl, hA, hR, hav, k⟩ := h
  obtain ⟨dx, r0, c0, hp, o, hs0⟩ := hA.fields
  have hrp : r ≠ p := fun z => by rw [z, LI, hp] at hR; cases hR
  refine ⟨_, rfl, _, rfl, p, _, dx, _, rfl, hp, T.cl_Auction, T.n_Auction_reserves, (by rw [aF]; show 3 < 1000; decide), ?_⟩
  rw [pF_r]
  refine ⟨sz_1, fun q hq => ⟨_, _, _, rfl, rfl, upd_same, by decide, by decide, sz1 (by decide), fun q2 hq2 => ?_⟩⟩
  have hqp : p ≠ q := fun z => by rw [← z, upd_same] at hq; cases hq
  have hq2p : p ≠ q2 := fun z => by rw [← z, upd_ne hqp, upd_same] at hq2; cases hq2
  have hqq : q ≠ q2 := fun z => by rw [← z, upd_same] at hq2; cases hq2
  refine ⟨_, rfl, p, _, dx, _, rfl, (by rw [upd_ne hq2p, upd_ne hqp]; exact upd_same), T.cl_Auction, T.n_Auction_submitted, (by rw [aF]; show 3 < 1000; decide), ?_⟩
  rw [pF_s]
  refine ⟨_, rfl, p, _, dx, _, rfl, upd_same, T.cl_Auction, T.n_Auction_closed, (by rw [aF]; show 3 < 1000; decide), ?_⟩
  rw [pF_c]
  have hkeep : ∀ b o, H b = some o → b ≠ p → b ≠ q ∧ b ≠ q2 := fun b o e hb => by
    have h1 : (upd H p (.ins T.c_Auction dx (aF (.ref r) (.ref s0) c0))) b = some o := by rw [upd_ne hb]; exact e
    have h2 := ne_of_none h1 hq
    refine ⟨h2, ne_of_none (o := o) ?_ hq2⟩
    rw [upd_ne h2]
    exact h1
  have hrr := hkeep _ _ hR hrp
  have hq2H : H q2 = none := by
    rw [upd_ne (Ne.symm hqq), upd_ne (Ne.symm hq2p)] at hq2
    exact hq2
  refine k _ q2 (fun b o e hb => ?_) hq2H ⟨dx, r, upd_same, ?_, ⟨hrr.2, hav⟩, (List.replicate (Int.toNat 5) [V.non]).flatten, ?_, rfl, fun i v hv => ?_⟩
  · obtain ⟨h1, h2⟩ := hkeep b o e hb
    rw [upd_ne hb, upd_ne hb, upd_ne h2, upd_ne h1, upd_ne hb]
    exact e
  · rw [LI, upd_ne hrp, upd_ne hrp, upd_ne hrr.2, upd_ne hrr.1, upd_ne hrp]
    exact hR
  · rw [upd_ne (Ne.symm hq2p), upd_ne (Ne.symm hq2p)]
    exact upd_same
  · refine .inl ?_
    have h5 : (List.replicate (Int.toNat 5) [V.non]).flatten = List.replicate 5 V.non := rfl
    rw [h5] at hv
    have hi : i < 5 := by have := (List.getElem?_eq_some_iff.mp hv).1; simpa using this
    rw [List.getElem?_replicate, if_pos hi] at hv
    refine ⟨?_, (Option.some.inj hv).symm⟩
    show (List.replicate 5 none)[i]? = _
    rw [List.getElem?_replicate, if_pos hi]
def sp_Auction_has_submitted (T : Tx K mg) : Sp := fun vs H Q _ => ∃ (A s : Addr) (x : Vbndax.Auction) (i : Nat), vs = [.ref A, .int (i : Int)] ∧ AuctAt T H A s (some x) ∧ i < x.sealedBids.length ∧ ∀ H' : Hp, Ex H H' → Q (.bl (x.sealedBids.getD i none).isSome) H'
theorem SubAt.at {N0 : Addr → Prop} {H : Hp} {s : Addr} {bs : List (Option (List Nat))} {vs : List V} (h1 : ∀ (i : Nat) (v : V), vs[i]? = some v → (bs[i]? = some none ∧ v = .non) ∨ ∃ l q, bs[i]? = some (some l) ∧ v = .ref q ∧ LI H q (toI l) ∧ q ≠ s ∧ N0 q) {i : Nat} {v : V} (h : vs[i]? = some v) :
    (!decide (v = .non)) = (bs.getD i none).isSome := by
  rw [List.getD_eq_getElem?_getD]
  rcases h1 i v h with ⟨e, rfl⟩ | ⟨l, q, e, rfl, _⟩ <;> rw [e] <;> rfl
theorem ok_Auction_has_submitted (T : Tx K mg) : FnOk P w K mg base CX0 1 T.Auction_has_submitted.f T.Auction_has_submitted.fd ["self", "i"] (sp_Auction_has_submitted T) := by
  refine T.Auction_has_submitted.F.ok sc_Auction_has_submitted (fun vs H Q E h => by obtain ⟨A, s, x, i, rfl, _⟩ := h; rfl) (fun cdv A outer s H vs Q E hr h => ⟨_, (pss_one (ps_ret (pe_cmpR op_notN (pe_ix (r := rIxL K) ix_list (pe_fld (pv 0) rfl) (pv 1) (fun _ _ => rfl)) pe_non (nomark _)))), ?_⟩)
  obtain ⟨A, s, x, i, rfl, ⟨dx, r, hA, hR, hrs, ⟨vs, h1, h2, h3⟩⟩, hi, k⟩ := h
  obtain ⟨v, hv⟩ : ∃ v, vs[i]? = some v := ⟨_, List.getElem?_eq_getElem (by omega)⟩
  refine ⟨_, rfl, A, _, dx, _, _, rfl, hA, T.cl_Auction, T.n_Auction_submitted, aF_s _ _ _, _, rfl, s, vs, _, v, rfl, rfl, sq_of h1, atI_nat hv, rfl, ?_⟩
  have := SubAt.at h3 hv
  rw [this]
  exact k H (Ex.refl _)
def sp_Auction_how_many_submitted (T : Tx K mg) : Sp := fun vs H Q _ => ∃ (A s : Addr) (x : Vbndax.Auction), vs = [.ref A] ∧ AuctAt T H A s (some x) ∧ x.sealedBids.length ≤ 5 ∧ ∀ H' : Hp, Ex H H' → Q (.int (((x.sealedBids.filter fun y => y.isSome).length : Nat) : Int)) H'
theorem count_range {α : Type} (l : List α) (d : α) (q : α → Bool) : ((List.range l.length).filter fun i => q (l.getD i d)).length = (l.filter q).length := by
  have h : (List.range l.length).map (fun j => l.getD j d) = l := range_map_getD l d
  have e : l.filter q = ((List.range l.length).filter fun i => q (l.getD i d)).map fun i => l.getD i d := by
    have h2 := List.filter_map (f := fun i => l.getD i d) (p := q) (l := List.range l.length)
    rw [h] at h2
    exact h2
  rw [e, List.length_map]
theorem ok_Auction_how_many_submitted (T : Tx K mg) : FnOk P w K mg base CX0 1 T.Auction_how_many_submitted.f T.Auction_how_many_submitted.fd ["self"] (sp_Auction_how_many_submitted T) := by
  refine T.Auction_how_many_submitted.F.ok sc_Auction_how_many_submitted (fun vs H Q E h => by obtain ⟨A, s, x, rfl, _⟩ := h; rfl) (fun cdv A outer s H vs Q E hr h => ⟨_, (pss_one (ps_ret (pe_callB call_len_seq (by rfl) T.b_len PySem.boot_len (pa_cons (pe_lc (own := [("row", 1)]) rfl sc_Auction_how_many_submitted.nd (pi_list (pe_fld (pv 0) rfl)) (blkOk_by (own := [("row", 1)]) (N := N_Auction_how_many_submitted) (sc := defScope s_Auction_how_many_submitted) (by decide +kernel)) (fun _ _ _ _ _ => (pg_name (i := 1) sc_Auction_how_many_submitted.nd rfl (Or.inl rfl) (hf := Or.inr rfl))) (fun _ _ _ _ _ => (pts_one (pt_cmpR op_notN (pv 1) pe_non (nomark _)))) (fun _ _ _ _ _ => (pv 1))) pa_nil)))), ?_⟩)
  obtain ⟨A, s, x, rfl, ⟨dx, r, hA, hR, hrs, ⟨vs, h1, h2, h3⟩⟩, h5, k⟩ := h
  refine ⟨_, rfl, A, _, dx, _, _, rfl, hA, T.cl_Auction, T.n_Auction_submitted, aF_s _ _ _, s, rfl, ⟨_, sq_of h1⟩, fun D hD => lc_fil (walk_list (xs := vs)) (fun i => (x.sealedBids.getD i none).isSome) (fun i => vs.getD i .non) hD (by omega) (fun H e => sq_of (e _ _ h1)) ?_ ?_⟩
  · rintro i y H1 H2 hi e1 ⟨rfl, hy⟩ N M kN kM
    have ha := SubAt.at h3 hy
    have hg : vs.getD i .non = y := by rw [List.getD_eq_getElem?_getD, hy]; rfl
    refine ⟨rfl, _, rfl, rfl, _, rfl, ?_⟩
    rw [ha]
    cases hb : (x.sealedBids.getD i none).isSome with
    | true =>
      have := kM hb _ (Ex.refl _)
      rw [hg] at this
      exact if_true_of rfl ⟨_, rfl, this⟩
    | false => exact if_false_of rfl (kN hb _ (Ex.refl _))
  · intro H1 e1 hD1
    refine ⟨D, _, rfl, .inl (sq_of hD1), ?_⟩
    have hc : (given vs.length (fun i => (x.sealedBids.getD i none).isSome) (fun i => vs.getD i .non)).length = (x.sealedBids.filter fun y => y.isSome).length := by
      unfold given
      rw [List.length_map, h2]
      exact count_range x.sealedBids none fun y => y.isSome
    rw [hc]
    exact k _ e1
def sp_Auction_submit (T : Tx K mg) : Sp := fun vs H Q _ => ∃ (A s q : Addr) (x : Vbndax.Auction) (i : Nat) (l : List Nat), vs = [.ref A, .int (i : Int), .ref q] ∧ AuctAt T H A s (some x) ∧ i < x.sealedBids.length ∧ LI H q (toI l) ∧ T.av q ∧
  ∀ H' : Hp, (∀ b o, H b = some o → b ≠ s → H' b = some o) → AuctAt T H' A s (some { x with sealedBids := x.sealedBids.set i (some l) }) → Q .non H'
theorem ok_Auction_submit (T : Tx K mg) : FnOk P w K mg base CX0 1 T.Auction_submit.f T.Auction_submit.fd ["self", "i", "bids"] (sp_Auction_submit T) := by
  refine T.Auction_submit.F.ok sc_Auction_submit (fun vs H Q E h => by obtain ⟨A, s, q, x, i, l, rfl, _⟩ := h; rfl) (fun cdv A outer s H vs Q E hr h => ⟨_, (pss_one (ps_asg (pv 2) (pg_sub (pe_fld (pv 0) rfl) (pv 1) set_list))), ?_⟩)
  obtain ⟨A, s, q, x, i, l, rfl, ⟨dx, r, hA, hR, hrs, hS⟩, hi, hq, hav, k⟩ := h
  have hqs := hS.ne (by omega) hq
  obtain ⟨vs, h1, h2, h3⟩ := hS
  have hAs : A ≠ s := fun z => by rw [z, h1] at hA; cases hA
  refine ⟨_, rfl, _, rfl, A, _, dx, _, _, rfl, hA, T.cl_Auction, T.n_Auction_submitted, aF_s _ _ _, _, rfl, s, vs, _, i, rfl, rfl, h1, Evl.ixN_nat (by omega), ?_⟩
  refine k _ (fun b o e hb => by rw [upd_ne hb]; exact e) ⟨dx, r, by rw [upd_ne hAs]; exact hA, by rw [LI, upd_ne hrs.1]; exact hR, hrs, vs.set i (.ref q), upd_same, by rw [List.length_set, List.length_set, h2], fun j v hj => ?_⟩
  rw [List.getElem?_set] at hj
  show ((x.sealedBids.set i (some l))[j]? = _ ∧ _) ∨ ∃ l' q', (x.sealedBids.set i (some l))[j]? = _ ∧ _
  rw [List.getElem?_set]
  by_cases hij : i = j
  · rw [if_pos hij, if_pos (by omega)] at hj
    rw [if_pos hij, if_pos (by omega)]
    exact .inr ⟨l, q, rfl, (Option.some.inj hj).symm, by rw [LI, upd_ne hqs]; exact hq, hqs, hav⟩
  · rw [if_neg hij] at hj
    rw [if_neg hij]
    exact (h3 j v hj).imp id fun ⟨l2, q2, a1, a2, a3, a4⟩ => ⟨l2, q2, a1, a2, by rw [LI, upd_ne a4.1]; exact a3, a4⟩
def sp_Auction_shut (T : Tx K mg) : Sp := fun vs H Q _ => ∃ (A s : Addr) (x : Vbndax.Auction), vs = [.ref A] ∧ AuctAt T H A s (some x) ∧
  ∀ H' : Hp, (∀ b o, H b = some o → b ≠ A → H' b = some o) → AuctAt T H' A s (some { x with isClosed := true }) → Q .non H'
theorem ok_Auction_shut (T : Tx K mg) : FnOk P w K mg base CX0 1 T.Auction_shut.f T.Auction_shut.fd ["self"] (sp_Auction_shut T) := by
  refine T.Auction_shut.F.ok sc_Auction_shut (fun vs H Q E h => by obtain ⟨A, s, x, rfl, _⟩ := h; rfl) (fun cdv A outer s H vs Q E hr h => ⟨_, (pss_one (ps_fld (pv 0) pe_bl rfl)), ?_⟩)
  obtain ⟨A, s, x, rfl, ⟨dx, r, hA, hR, hrs, ⟨vs, h1, h2, h3⟩⟩, k⟩ := h
  have hne : ∀ b xs, H b = some (.lst xs) → b ≠ A := fun b xs e z => by rw [z, hA] at e; cases e
  refine ⟨_, rfl, A, _, dx, _, rfl, hA, T.cl_Auction, T.n_Auction_closed, (by rw [aF]; show 3 < 1000; decide), ?_⟩
  rw [pF_c]
  refine k _ (fun b o e hb => by rw [upd_ne hb]; exact e) ⟨dx, r, upd_same, by rw [LI, upd_ne (hne _ _ hR)]; exact hR, hrs, vs, by rw [upd_ne (hne _ _ h1)]; exact h1, h2, fun j v hj => ?_⟩
  exact (h3 j v hj).imp id fun ⟨l2, q2, a1, a2, a3, a4⟩ => ⟨l2, q2, a1, a2, by rw [LI, upd_ne (hne _ _ a3)]; exact a3, a4⟩
/-! ### all bids -/
theorem bids_at (x : Vbndax.Auction) (i : Nat) : (Vbndax.bidsOf x)[i]? = (x.sealedBids[i]?).map fun y => match y with
    | none => x.reserves.map fun _ => -1
    | some l => l.map fun (n : Nat) => (n : Int) := by
  unfold Vbndax.bidsOf
  rw [List.getElem?_map]
  rfl
theorem rep_minus (n : Nat) : (List.replicate ((n : Int)).toNat [V.int (-1)]).flatten = (List.replicate n (-1 : Int)).map V.int := by
  rw [Int.toNat_natCast, List.map_replicate]
  induction n with
  | zero => rfl
  | succ n ih => rw [List.replicate_succ, List.flatten_cons, ih, List.replicate_succ]; rfl
def sp_Auction_counted_bids (T : Tx K mg) : Sp := fun vs H Q _ => ∃ (A s : Addr) (x : Vbndax.Auction), vs = [.ref A] ∧ AuctAt T H A s (some x) ∧ StOk (some x) ∧ ∀ (p : Addr) (H' : Hp), H p = none → Ex H H' → Rws H' p (Vbndax.bidsOf x) → Q (.ref p) H'
theorem ok_Auction_counted_bids (T : Tx K mg) : FnOk P w K mg base CX0 1 T.Auction_counted_bids.f T.Auction_counted_bids.fd ["self"] (sp_Auction_counted_bids T) := by
  refine T.Auction_counted_bids.F.ok sc_Auction_counted_bids (fun vs H Q E h => by obtain ⟨A, s, x, rfl, _⟩ := h; rfl) (fun cdv A outer s H vs Q E hr h => ⟨_, (pss_cons (ps_set (i := 1) sc_Auction_counted_bids.nd rfl (Or.inl rfl) (pe_lst pa_nil)) (pss_cons (ps_for PassesOwn.never rfl (pi_list (pe_fld (pv 0) rfl)) (pg_name (i := 2) sc_Auction_counted_bids.nd rfl (Or.inl rfl)) (pss_one (ps_if (pt_cmpR op_isN (pv 2) pe_non (nomark _)) (pss_one (ps_expr (pe_bm PySem.F.plainAttrs_list PySem.F.slot_list_append PySem.F.type_list_append mt_append (pv 1) (pa_cons (pe_op op_rep (pe_lst (pa_cons (pe_glob (v := .int (-1)) rfl T.k_NO_BID ⟨_, rfl⟩) pa_nil)) (pe_callB call_len_seq (by rfl) T.b_len PySem.boot_len (pa_cons (pe_fld (pv 0) rfl) pa_nil))) pa_nil)))) (pss_one (ps_expr (pe_bm PySem.F.plainAttrs_list PySem.F.slot_list_append PySem.F.type_list_append mt_append (pv 1) (pa_cons (pv 2) pa_nil))))))) (pss_one (ps_ret (pv 1))))), ?_⟩)
  obtain ⟨A, s, x, rfl, ⟨dx, r, hA, hR, hrs, ⟨vs, h1, h2, h3⟩⟩, ⟨hr0, hr4, hr60, h5, hrow⟩, k⟩ := h
  refine ⟨Nat.zero_le _, fun p hp => ?_⟩
  have e0 : Ex H (upd H p (.lst [])) := Ex.new hp
  have hbl : (Vbndax.bidsOf x).length = vs.length := by unfold Vbndax.bidsOf; rw [List.length_map, h2]
  refine ⟨_, rfl, A, _, dx, _, _, rfl, e0 _ _ hA, T.cl_Auction, T.n_Auction_submitted, aF_s _ _ _, s, rfl, ⟨_, sq_of (e0 _ _ h1)⟩, for_list (K := K) (a := s) (xs := vs) (fun i σ H' => ∃ u as, σ = [some (.ref A), some (.ref p), u] ∧ Ex H H' ∧ H' p = some (.lst (as.map V.ref)) ∧ RowsAt H' as ((Vbndax.bidsOf x).take i) ∧ ∀ (j : Nat) (b : Addr), as[j]? = some b → b ≠ p)
    ⟨_, [], rfl, e0, upd_same, ⟨by simp, fun i a z => by simp at z⟩, fun j b z => by simp at z⟩ (fun i σ H' _ ⟨_, _, _, e, _⟩ => sq_of (e _ _ h1)) ?_ ?_⟩
  · rintro i y σ H1 hi ⟨u, as, rfl, e, hp1, hAs, hne⟩
    have hiv : i < vs.length := (List.getElem?_eq_some_iff.mp hi).1
    have hasl := hAs.1
    rw [List.length_take] at hasl
    have hsnoc : ∀ (H3 : Hp) (q : Addr) (row : List Int), Ex H1 H3 → LI H3 q row → q ≠ p → (Vbndax.bidsOf x)[i]? = some row → H3 p = some (.lst (as.map V.ref)) → ∃ u2 as2, [some (V.ref A), some (V.ref p), some y] = [some (V.ref A), some (V.ref p), u2] ∧ Ex H (upd H3 p (.lst (as.map V.ref ++ [.ref q]))) ∧ (upd H3 p (.lst (as.map V.ref ++ [.ref q]))) p = some (.lst (List.map V.ref as2)) ∧ RowsAt (upd H3 p (.lst (as.map V.ref ++ [.ref q]))) as2 ((Vbndax.bidsOf x).take (i + 1)) ∧ ∀ (j : Nat) (b : Addr), as2[j]? = some b → b ≠ p := by
      intro H3 q row e3 hq hqp hb h3p
      refine ⟨_, as ++ [q], rfl, Ex.mut (e.trans e3) hp, by rw [List.map_append]; exact upd_same, ?_, fun j b hj => ?_⟩
      · rw [take_more hb]
        refine (RowsAt.upd (hAs.mono e3) hne).snoc ?_
        rw [LI, upd_ne hqp]
        exact hq
      · rcases at_snoc hj with ⟨hj, _⟩ | ⟨_, rfl⟩
        · exact hne j b hj
        · exact hqp
    refine ⟨_, rfl, rfl, _, rfl, ?_⟩
    rcases h3 i y hi with ⟨hb, rfl⟩ | ⟨l, q, hb, rfl, hq, hqs⟩
    · refine if_true_of rfl ?_
      refine ⟨_, rfl, Or.inl ⟨rfl, _, sq_of hp1⟩, sz_1, fun q1 hq1 => ?_⟩
      have e1 : Ex H1 (upd H1 q1 (.lst [.int (-1)])) := Ex.new hq1
      refine ⟨_, rfl, A, _, dx, _, _, rfl, e1 _ _ (e _ _ hA), T.cl_Auction, T.n_Auction_reserves, aF_r _ _ _, r, _, rfl, .inl (sq_of (e1 _ _ (e _ _ hR))), ?_⟩
      rw [List.length_map, toI_len]
      refine ⟨q1, _, _, rfl, rfl, upd_same, by omega, by omega, sz1 (by simp; omega), fun q2 hq2 => ?_⟩
      have e2 := e1.trans (Ex.new (o := .lst (List.replicate ((x.reserves.length : Int)).toNat [V.int (-1)]).flatten) hq2)
      have hqp : q2 ≠ p := fun z => by rw [z, e1 _ _ hp1] at hq2; cases hq2
      refine ⟨p, _, _, rfl, rfl, e2 _ _ hp1, by rw [List.length_map]; exact szl (by omega), ?_⟩
      refine hsnoc _ q2 (List.replicate x.reserves.length (-1)) e2 ?_ hqp ?_ (e2 _ _ hp1)
      · show (upd _ q2 _) q2 = _
        rw [upd_same, rep_minus]
      · rw [bids_at, hb]
        show some (x.reserves.map fun _ => (-1 : Int)) = _
        rw [List.map_const']
    · refine if_false_of rfl ?_
      have hqp : q ≠ p := fun z => by rw [z, LI, hp] at hq; cases hq
      refine ⟨_, rfl, Or.inl ⟨rfl, _, sq_of hp1⟩, _, rfl, p, _, _, rfl, rfl, hp1, by rw [List.length_map]; exact szl (by omega), ?_⟩
      exact hsnoc _ q (toI l) (Ex.refl _) (e _ _ hq) hqp (by rw [bids_at, hb]; rfl) hp1
  · rintro σ H' ⟨u, as, rfl, e, hp1, hAs, hne⟩
    rw [← hbl, List.take_length] at hAs
    exact ⟨_, rfl, k p _ hp e ⟨as, hp1, hAs⟩⟩
theorem ref_ne_int {as : List Addr} {ns : List Int} (h : 0 < as.length) : as.map V.ref ≠ ns.map V.int := by
  intro e
  cases as with
  | nil => cases h
  | cons a as =>
    cases ns with
    | nil => cases e
    | cons n ns =>
      rw [List.map_cons, List.map_cons] at e
      injection e with e _
      cases e
theorem rows_ne {H : Hp} {p a : Addr} {as : List Addr} {row : List Int} (h0 : 0 < as.length) (hp : H p = some (.lst (as.map V.ref))) (ha : LI H a row) : a ≠ p := by
  rintro rfl
  rw [LI, hp] at ha
  injection ha with ha
  injection ha with ha
  exact ref_ne_int h0 ha
theorem RowsAt.put {H : Hp} {p q : Addr} {as : List Addr} {B : List (List Int)} {o : HO} {i : Nat} {v : List Int} (h : RowsAt H as B) (hp : H p = some (.lst (as.map V.ref))) (hq : LI H q v) (hqp : q ≠ p) : RowsAt (L2.upd H p o) (as.set i q) (B.set i v) := by
  refine ⟨by rw [List.length_set, List.length_set, h.1], fun j a hj => ?_⟩
  rw [List.getElem?_set] at hj ⊢
  by_cases hij : i = j
  · rw [if_pos hij] at hj ⊢
    by_cases hl : i < as.length
    · rw [if_pos hl] at hj
      rw [if_pos (by rw [← h.1]; exact hl)]
      cases hj
      exact ⟨v, rfl, by rw [LI, upd_ne hqp]; exact hq⟩
    · rw [if_neg hl] at hj
      cases hj
  · rw [if_neg hij] at hj ⊢
    obtain ⟨row, h1, h2⟩ := h.2 j a hj
    exact ⟨row, h1, by rw [LI, upd_ne (rows_ne (by have := (List.getElem?_eq_some_iff.mp hj).1; omega) hp h2)]; exact h2⟩
def sp_Auction_counted_bids_with (T : Tx K mg) : Sp := fun vs H Q _ => ∃ (A s q : Addr) (x : Vbndax.Auction) (i : Nat) (v : List Int), vs = [.ref A, .int (i : Int), .ref q] ∧ AuctAt T H A s (some x) ∧ StOk (some x) ∧ i < 5 ∧ LI H q v ∧ ∀ (p : Addr) (H' : Hp), H p = none → Ex H H' → Rws H' p ((Vbndax.bidsOf x).set i v) → Q (.ref p) H'
theorem ok_Auction_counted_bids_with (T : Tx K mg) : FnOk P w K mg base CX0 2 T.Auction_counted_bids_with.f T.Auction_counted_bids_with.fd ["self", "i", "row"] (sp_Auction_counted_bids_with T) := by
  have ok_Auction_counted_bids := ok_Auction_counted_bids (P := P) (w := w) (base := base) T
  refine T.Auction_counted_bids_with.F.ok sc_Auction_counted_bids_with (fun vs H Q E h => by obtain ⟨A, s, q, x, i, v, rfl, _⟩ := h; rfl) (fun cdv A outer s H vs Q E hr h => ⟨_, (pss_cons (ps_set (i := 3) sc_Auction_counted_bids_with.nd rfl (Or.inl rfl) (pe_meth0 (pv 0) T.cl_Auction T.Auction_counted_bids.M ok_Auction_counted_bids hr T.Auction_counted_bids.b .nil pass0)) (pss_cons (ps_asg (pv 2) (pg_sub (pv 3) (pv 1) set_list)) (pss_one (ps_ret (pv 3))))), ?_⟩)
  obtain ⟨A, s, q, x, i, v, rfl, hA, hO, hi, hq, k⟩ := h
  obtain ⟨dx, r, c, hA1, _⟩ := hA.fields
  refine ⟨_, rfl, A, dx, _, rfl, hA1, aF_no _ _ _ (by decide +kernel), A, s, x, rfl, hA, hO, fun p H1 hp e1 ⟨as, hl, hRw⟩ => ?_⟩
  have h5 : (Vbndax.bidsOf x).length = 5 := by unfold Vbndax.bidsOf; rw [List.length_map]; exact hO.2.2.2.1
  have hqp : q ≠ p := fun z => by rw [z, LI, hp] at hq; cases hq
  refine ⟨_, rfl, _, rfl, _, rfl, p, _, _, i, rfl, rfl, hl, Evl.ixN_nat (by rw [List.length_map, hRw.1]; omega), ?_⟩
  refine ⟨_, rfl, k p _ hp (Ex.mut e1 hp) ⟨as.set i q, ?_, ?_⟩⟩
  · rw [List.map_set]
    exact upd_same
  · exact hRw.put hl (e1 _ _ hq) hqp
end Sl
/-! # Calls -/
namespace Sl
open PySem PySem.Spec PyProof.Rows L2 Mir
open Evl (Ex Ex.refl Ex.trans Ex.new Ex.mut fresh_back sz_of sz_lt ex_l sq_of RetL RetV given)
variable {P : Program} {w : World} {K : PySem.W.Frag} {mg : Str → Option Value} {base : Heap}
def cF (n b r : V) : List (Str × V) := [("number", n), ("bidder", b), ("row", r)]
section
variable (n b r : V)
theorem cF_n : (cF n b r).lookup ("number" : Str) = some n := lk_here
theorem cF_b : (cF n b r).lookup ("bidder" : Str) = some b := (lk_past (by decide +kernel)).trans lk_here
theorem cF_r : (cF n b r).lookup ("row" : Str) = some r := (lk_past (by decide +kernel)).trans ((lk_past (by decide +kernel)).trans lk_here)
theorem cF_new : putF "row" r (putF "bidder" b (putF "number" n [])) = cF n b r := by
  have h1 : putF "number" n [] = [(("number" : Str), n)] := rfl
  have h2 : putF "bidder" b [(("number" : Str), n)] = [(("number" : Str), n), (("bidder" : Str), b)] := (put_past (by decide +kernel)).trans rfl
  rw [h1, h2]
  exact (put_past (by decide +kernel)).trans (congrArg _ ((put_past (by decide +kernel)).trans rfl))
end
def sp_Call_init (T : Tx K mg) : Sp := fun vs H Q _ => ∃ (p dx : Addr) (n b r : V), vs = [.ref p, n, b, r] ∧ H p = some (.ins T.c_Call dx []) ∧
  ∀ H' : Hp, (∀ b o, H b = some o → b ≠ p → H' b = some o) → H' p = some (.ins T.c_Call dx (cF n b r)) → Q .non H'
theorem ok_Call_init (T : Tx K mg) : FnOk P w K mg base CX0 1 T.Call_init.f T.Call_init.fd ["self", "number", "bidder", "row"] (sp_Call_init T) := by
  refine T.Call_init.F.ok sc_Call_init (fun vs H Q E h => by obtain ⟨p, dx, n, b, r, rfl, _⟩ := h; rfl) (fun cdv A outer s H vs Q E hr h => ⟨_, (pss_cons (ps_fld (pv 0) (pv 1) rfl) (pss_cons (ps_fld (pv 0) (pv 2) rfl) (pss_one (ps_fld (pv 0) (pv 3) rfl)))), ?_⟩)
  obtain ⟨p, dx, n, b, r, rfl, hp, k⟩ := h
  refine ⟨_, rfl, _, rfl, p, _, dx, _, rfl, hp, T.cl_Call, T.n_Call_number, (by show 0 < 1000; decide), ?_⟩
  refine ⟨_, rfl, _, rfl, p, _, dx, _, rfl, upd_same, T.cl_Call, T.n_Call_bidder, (by show 1 < 1000; decide), ?_⟩
  refine ⟨_, rfl, _, rfl, p, _, dx, _, rfl, upd_same, T.cl_Call, T.n_Call_row, (by show 2 < 1000; decide), ?_⟩
  refine k _ (fun b o e hb => by rw [upd_ne hb, upd_ne hb, upd_ne hb]; exact e) ?_
  rw [upd_same]
  exact congrArg (fun z => some (HO.ins T.c_Call dx z)) (cF_new _ _ _)
def optV : Option Int → V
  | none => .non
  | some i => .int i
/-- a row, at a place that N tells -/
def RowV (H : Hp) (N : Addr → Prop) (v : V) : Option (List Int) → Prop
  | none => v = .non
  | some l => ∃ q, v = .ref q ∧ LI H q l ∧ N q
def CallX (T : Tx K mg) (H : Hp) (N : Addr → Prop) (c : Addr) (r : Rec) : Prop := ∃ dx v, H c = some (.ins T.c_Call dx (cF (.int r.1) (optV r.2.1) v)) ∧ RowV H N v r.2.2
theorem CallX.keep {T : Tx K mg} {H H' : Hp} {N N' : Addr → Prop} {c : Addr} {r : Rec} (k1 : ∀ c dx n b v, H c = some (.ins T.c_Call dx (cF n b v)) → H' c = some (.ins T.c_Call dx (cF n b v))) (k2 : ∀ q l, N q → LI H q l → LI H' q l ∧ N' q) (h : CallX T H N c r) : CallX T H' N' c r := by
  obtain ⟨dx, v, h1, h2⟩ := h
  refine ⟨dx, v, k1 _ _ _ _ _ h1, ?_⟩
  cases hr : r.2.2 with
  | none => rw [hr] at h2; exact h2
  | some l =>
    rw [hr] at h2
    obtain ⟨q, h3, h4, h5⟩ := h2
    exact ⟨q, h3, k2 q l h5 h4⟩
theorem CallX.mono {T : Tx K mg} {H H' : Hp} {N : Addr → Prop} {c : Addr} {r : Rec} (e : Ex H H') (h : CallX T H N c r) : CallX T H' N c r := h.keep (fun c dx n b v z => e _ _ z) fun q l hN z => ⟨e _ _ z, hN⟩
def CallsX (T : Tx K mg) (H : Hp) (N : Addr → Prop) (as : List Addr) (rs : List Rec) : Prop := as.length = rs.length ∧ ∀ (i : Nat) (c : Addr), as[i]? = some c → ∃ r, rs[i]? = some r ∧ CallX T H N c r
theorem CallsX.snoc {T : Tx K mg} {H : Hp} {N : Addr → Prop} {as : List Addr} {rs : List Rec} {c : Addr} {r : Rec} (h : CallsX T H N as rs) (hc : CallX T H N c r) : CallsX T H N (as ++ [c]) (rs ++ [r]) := by
  refine ⟨by rw [List.length_append, List.length_append, h.1]; rfl, fun i a z => ?_⟩
  rcases at_snoc z with ⟨z, hi⟩ | ⟨rfl, rfl⟩
  · obtain ⟨r1, h1, h2⟩ := h.2 i a z
    exact ⟨r1, by rw [List.getElem?_append, if_pos (by rw [← h.1]; exact hi)]; exact h1, h2⟩
  · exact ⟨r, by rw [List.getElem?_append, if_neg (by rw [← h.1]; omega), ← h.1, Nat.sub_self]; rfl, hc⟩
theorem CallsX.keep {T : Tx K mg} {H H' : Hp} {N N' : Addr → Prop} {as : List Addr} {rs : List Rec} (k1 : ∀ c dx n b v, H c = some (.ins T.c_Call dx (cF n b v)) → H' c = some (.ins T.c_Call dx (cF n b v))) (k2 : ∀ q l, N q → LI H q l → LI H' q l ∧ N' q) (h : CallsX T H N as rs) : CallsX T H' N' as rs :=
  ⟨h.1, fun i c z => let ⟨r, h1, h2⟩ := h.2 i c z; ⟨r, h1, h2.keep k1 k2⟩⟩
theorem unRec_inj {c d : Rec} (h : unRec c = unRec d) : c = d := by
  obtain ⟨n, i, r⟩ := c
  obtain ⟨m, j, s⟩ := d
  unfold unRec at h
  injection h with h1 h2
  injection h1 with h1 h3
  dsimp only at h1 h2 h3
  subst h1
  cases i <;> cases j <;> cases r <;> cases s <;> simp_all [Option.toList]
theorem drop_at {ns : List Int} {k : Nat} {p : Int} {r : List Int} (h : ns.drop k = p :: r) : ns[k]? = some p ∧ ns.drop (k + 1) = r ∧ k < ns.length := by
  have h1 : ns[k]? = (ns.drop k)[0]? := by rw [List.getElem?_drop]; rfl
  refine ⟨by rw [h1, h]; rfl, ?_, ?_⟩
  · have h2 := congrArg List.tail h
    rw [List.tail_drop] at h2
    exact h2
  · have h2 := congrArg List.length h
    rw [List.length_drop, List.length_cons] at h2
    omega
theorem int_at2 {ns : List Int} {k : Nat} {p : Int} (h : ns[k]? = some p) : atI (ns.map V.int) (k : Int) = some (.int p) := atI_nat (by rw [List.getElem?_map, h]; rfl)
theorem cut_mid {ns : List Int} {k m : Nat} {p : Int} {r : List Int} (h : ns.drop k = p :: r) (hm : m ≤ r.length) : cutV (ns.map V.int) (some ((k + 1 : Nat) : Int)) (some ((k + 1 + m : Nat) : Int)) = (r.take m).map V.int := by
  obtain ⟨_, h2, h3⟩ := drop_at h
  have hl := congrArg List.length h2
  rw [List.length_drop] at hl
  unfold cutV
  rw [HT.sIx_nat, HT.sIx_nat, List.length_map, Nat.min_eq_left (by omega), Nat.min_eq_left (by omega), ← List.map_drop, h2, ← List.map_take]
  congr 2
  omega
def sp_split_calls (T : Tx K mg) : Sp := fun vs H Q _ => ∃ (a : Addr) (ns : List Int) (rs : List Rec) (g : Nat), vs = [.ref a] ∧ SqL K H a (ns.map V.int) ∧ PyFlat.calls PyVbndax.shape g ns = some (rs.map unRec) ∧ rs.length ≤ 60 ∧
  ∀ (f : Addr) (H' : Hp) (as : List Addr), H f = none → Ex H H' → H' f = some (.lst (as.map V.ref)) → CallsX T H' (fun q => q ≠ f ∧ H q = none) as rs → Q (.ref f) H'
theorem ok_split_calls (T : Tx K mg) : FnOk P w K mg base CX0 3 T.split_calls.f T.split_calls.fd ["numbers"] (sp_split_calls T) := by
  have ok_Call_init := ok_Call_init (P := P) (w := w) (base := base) T
  refine T.split_calls.F.ok sc_split_calls (fun vs H Q E h => by obtain ⟨a, ns, rs, g, rfl, _⟩ := h; rfl) (fun cdv A outer s H vs Q E hr h => ⟨_, (pss_cons (ps_set (i := 1) sc_split_calls.nd rfl (Or.inl rfl) (pe_lst pa_nil)) (pss_cons (ps_set (i := 2) sc_split_calls.nd rfl (Or.inl rfl) pe_int) (pss_cons (ps_while PassesOwn.never (pt_cmpR op_lt (pv 2) (pe_callB call_len_seq (by rfl) T.b_len PySem.boot_len (pa_cons (pv 0) pa_nil)) (nomark _)) (pss_cons (ps_set (i := 3) sc_split_calls.nd rfl (Or.inl rfl) (pe_ix (r := rIxL K) ix_list (pv 0) (pv 2) (fun _ _ => rfl))) (pss_cons (ps_aug (i := 2) sc_split_calls.nd rfl (Or.inl rfl) pe_int ip_add) (pss_cons (ps_set (i := 4) sc_split_calls.nd rfl (Or.inl rfl) pe_non) (pss_cons (ps_if (pt_cmpR op_in_seq (pv 3) (pe_glob (v := .ref T.a_WITH_BIDDER) rfl T.k_WITH_BIDDER rfl) (by rfl)) (pss_cons (ps_set (i := 4) sc_split_calls.nd rfl (Or.inl rfl) (pe_ix (r := rIxL K) ix_list (pv 0) (pv 2) (fun _ _ => rfl))) (pss_one (ps_aug (i := 2) sc_split_calls.nd rfl (Or.inl rfl) pe_int ip_add))) pss_nil) (pss_cons (ps_set (i := 5) sc_split_calls.nd rfl (Or.inl rfl) pe_non) (pss_cons (ps_if (pt_cmpR op_in_seq (pv 3) (pe_glob (v := .ref T.a_WITH_ROW) rfl T.k_WITH_ROW rfl) (by rfl)) (pss_cons (ps_set (i := 6) sc_split_calls.nd rfl (Or.inl rfl) (pe_op op_add (pe_op op_add (pv 2) pe_int) (pe_ix (r := rIxL K) ix_list (pv 0) (pv 2) (fun _ _ => rfl)))) (pss_cons (ps_set (i := 5) sc_split_calls.nd rfl (Or.inl rfl) (pe_slice (r := rSlL K) sl_list (pv 0) (po_some (pe_op op_add (pv 2) pe_int)) (po_some (pv 6)))) (pss_one (ps_set (i := 2) sc_split_calls.nd rfl (Or.inl rfl) (pv 6))))) pss_nil) (pss_one (ps_expr (pe_bm PySem.F.plainAttrs_list PySem.F.slot_list_append PySem.F.type_list_append mt_append (pv 1) (pa_cons (pe_make T.mk_Call ok_Call_init hr rfl T.g_Call T.Call_init.b .nil pass0 (pa_cons (pv 3) (pa_cons (pv 4) (pa_cons (pv 5) pa_nil)))) pa_nil))))))))))) (pss_one (ps_ret (pv 1)))))), ?_⟩)
  obtain ⟨a, ns, rs, g, rfl, ha, hg, h60, k⟩ := h
  refine ⟨Nat.zero_le _, fun f hf => ?_⟩
  have e0 : Ex H (upd H f (.lst [])) := Ex.new hf
  refine ⟨fun n σ H' => ∃ (at_ : Nat) (as : List Addr) (done rest : List Rec) (g : Nat) (u1 u2 u3 u4 : Option V), n = ns.length - at_ ∧ σ = [some (.ref a), some (.ref f), some (.int (at_ : Int)), u1, u2, u3, u4] ∧ Ex H H' ∧ H' f = some (.lst (as.map V.ref)) ∧ CallsX T H' (fun q => q ≠ f ∧ H q = none) as done ∧ done ++ rest = rs ∧
    PyFlat.calls PyVbndax.shape g (ns.drop at_) = some (rest.map unRec) ∧ at_ ≤ ns.length, ⟨_, 0, [], [], rs, g, _, _, _, _, rfl, rfl, e0, upd_same, ⟨rfl, fun i c z => by simp at z⟩, rfl, by rw [List.drop_zero]; exact hg, Nat.zero_le _⟩, ?_⟩
  rintro n σ H1 ⟨k0, as, done, rest, g, u1, u2, u3, u4, rfl, rfl, e, hfl, hC, hdr, hcs, hk0⟩
  have hnf : ∀ C dx fs, H1 f ≠ some (.ins C dx fs) := fun C dx fs z => by rw [hfl] at z; cases z
  refine ⟨_, rfl, _, rfl, a, _, rfl, .inl (ex_l e ha), _, _, rfl, rfl, _, rfl, ?_⟩
  rw [List.length_map]
  by_cases hlt : k0 < ns.length
  · refine if_true_of (decide_eq_true (by omega)) ⟨fun σ' H' => ∃ n', n' < ns.length - k0 ∧ ∃ (at_ : Nat) (as : List Addr) (done rest : List Rec) (g : Nat) (u1 u2 u3 u4 : Option V), n' = ns.length - at_ ∧ σ' = [some (.ref a), some (.ref f), some (.int (at_ : Int)), u1, u2, u3, u4] ∧ Ex H H' ∧ H' f = some (.lst (as.map V.ref)) ∧ CallsX T H' (fun q => q ≠ f ∧ H q = none) as done ∧ done ++ rest = rs ∧
      PyFlat.calls PyVbndax.shape g (ns.drop at_) = some (rest.map unRec) ∧ at_ ≤ ns.length, fun σ' H' h => h, ?_⟩
    obtain ⟨p, r, hpr⟩ : ∃ p r, ns.drop k0 = p :: r := ⟨_, _, List.drop_eq_getElem_cons hlt⟩
    rw [hpr] at hcs
    obtain ⟨g1, cs1, i, row, t, hcs1, hg1, ⟨r1, hb, hw⟩, _⟩ := calls_step hcs
    obtain ⟨c0, rest1, rfl⟩ : ∃ c0 rest1, rest = c0 :: rest1 := by
      cases rest with
      | nil => cases hcs1
      | cons c0 rest1 => exact ⟨c0, rest1, rfl⟩
    rw [List.map_cons] at hcs1
    injection hcs1 with hc0 hcs2
    have hc0' := unRec_inj hc0
    subst hc0' hcs2
    have hdl : done.length + 1 ≤ 60 := by
      have := congrArg List.length hdr
      rw [List.length_append, List.length_cons] at this
      omega
    obtain ⟨hp, hr1, _⟩ := drop_at hpr
    refine ⟨_, rfl, _, rfl, a, _, _, .int p, rfl, rfl, ex_l e ha, int_at2 hp, ?_⟩
    refine ⟨_, rfl, _, _, rfl, rfl, ?_⟩
    refine ⟨_, rfl, _, _, rfl, .inr (T.v_WITH_BIDDER _), rfl, flat_ints _, _, rfl, ?_⟩
    rw [if_neg Bool.false_ne_true, inV_int]
    have e1 : ((k0 : Nat) : Int) + 1 = ((k0 + 1 : Nat) : Int) := by omega
    dsimp only
    rw [e1]
    have fin : ∀ (k2 : Nat) (as2 : List Addr) (u5 u6 u7 u8 : Option V) (H2 : Hp), k0 < k2 → k2 ≤ ns.length → ns.drop k2 = t → Ex H H2 → H2 f = some (.lst (as2.map V.ref)) → CallsX T H2 (fun q => q ≠ f ∧ H q = none) as2 (done ++ [(p, i, row)]) → ∃ n', n' < ns.length - k0 ∧ ∃ (at_ : Nat) (as : List Addr) (done rest : List Rec) (g : Nat) (v1 v2 v3 v4 : Option V), n' = ns.length - at_ ∧ [some (V.ref a), some (V.ref f), some (V.int (k2 : Int)), u5, u6, u7, u8] = [some (.ref a), some (.ref f), some (.int (at_ : Int)), v1, v2, v3, v4] ∧ Ex H H2 ∧ H2 f = some (.lst (as.map V.ref)) ∧ CallsX T H2 (fun q => q ≠ f ∧ H q = none) as done ∧ done ++ rest = rs ∧
      PyFlat.calls PyVbndax.shape g (ns.drop at_) = some (rest.map unRec) ∧ at_ ≤ ns.length := by
      intro k2 as2 u5 u6 u7 u8 H2 h1 h2 h3 h4 h5 h6
      exact ⟨_, by omega, k2, as2, done ++ [(p, i, row)], rest1, g1, u5, u6, u7, u8, rfl, rfl, h4, h5, h6, by rw [List.append_assoc]; exact hdr, by rw [h3]; exact hg1, h2⟩
    -- the new record
    have made : ∀ (H2 H3 : Hp) (c dx : Addr) (v : V), Ex H1 H2 → H2 c = none → H2 dx = none → (∀ b o, (L2.upd (L2.upd H2 dx (.own c)) c (.ins T.c_Call dx [])) b = some o → b ≠ c → H3 b = some o) → H3 c = some (.ins T.c_Call dx (cF (.int p) (optV i) v)) → RowV H2 (fun q => q ≠ f ∧ H q = none) v row →
        Ex H1 H3 ∧ Ex H (L2.upd H3 f (.lst (as.map V.ref ++ [.ref c]))) ∧ CallsX T (L2.upd H3 f (.lst (as.map V.ref ++ [.ref c]))) (fun q => q ≠ f ∧ H q = none) (as ++ [c]) (done ++ [(p, i, row)]) := by
      intro H2 H3 c dx v e2 hc hdx hk hcc hv
      have e3 : Ex H2 H3 := fun b o h => hk b o (by rw [upd_ne (ne_of_none h hc), upd_ne (ne_of_none h hdx)]; exact h) (ne_of_none h hc)
      refine ⟨e2.trans e3, Ex.mut (e.trans (e2.trans e3)) hf, ?_⟩
      have hcf : c ≠ f := fun z => by rw [z, e2 _ _ hfl] at hc; cases hc
      have e13 := e2.trans e3
      refine (hC.keep (fun b dx n v1 v2 h => ?_) fun q l hN h => ⟨?_, hN⟩).snoc ⟨dx, v, by rw [upd_ne hcf]; exact hcc, ?_⟩
      · rw [upd_ne (fun z => by rw [z, hfl] at h; cases h)]
        exact e13 _ _ h
      · rw [LI, upd_ne hN.1]
        exact e13 _ _ h
      · show RowV _ (fun q => q ≠ f ∧ H q = none) v row
        cases row with
        | none => exact hv
        | some l =>
          obtain ⟨q, h1, h2, h3⟩ := hv
          exact ⟨q, h1, by rw [LI, upd_ne h3.1]; exact e3 _ _ h2, h3⟩
    rcases hb with ⟨hb, x, rfl, rfl⟩ | ⟨hb, rfl, rfl⟩
    have hx9 := drop_at hr1
    refine if_true_of hb ?_
    refine ⟨_, rfl, _, rfl, a, _, _, .int x, rfl, rfl, ex_l e ha, int_at2 hx9.1, ?_⟩
    refine ⟨_, rfl, _, _, rfl, rfl, ?_⟩
    have e2 : ((k0 + 1 : Nat) : Int) + 1 = ((k0 + 2 : Nat) : Int) := by omega
    dsimp only
    rw [e2]
    have hk := hx9.2.1
    have hkl : k0 + 2 ≤ ns.length := hx9.2.2
    have hk0 : k0 < k0 + 2 := by omega
    have hk' : ns.drop (k0 + 2) = r1 := hk
    generalize k0 + 2 = k at hk' hkl hk0 ⊢
    rotate_left
    refine if_false_of hb ?_
    have hkl : k0 + 1 ≤ ns.length := hlt
    have hk0 : k0 < k0 + 1 := by omega
    have hk' := hr1
    generalize k0 + 1 = k at hk' hkl hk0 ⊢
    all_goals
      refine ⟨_, rfl, _, _, rfl, .inr (T.v_WITH_ROW _), rfl, flat_ints _, _, rfl, ?_⟩
      rw [if_neg Bool.false_ne_true, inV_int]
      rcases hw with ⟨hw, m, r2, rfl, hm, rfl, rfl⟩ | ⟨hw, rfl, rfl⟩
      · obtain ⟨hm1, hm2, hm3⟩ := drop_at hk'
        refine if_true_of hw ?_
        refine ⟨_, rfl, _, _, rfl, rfl, _, rfl, _, rfl, a, _, _, .int (m : Int), rfl, rfl, ex_l e ha, int_at2 hm1, _, _, rfl, rfl, ?_⟩
        have e3 : ((k : Nat) : Int) + 1 + (m : Int) = ((k + 1 + m : Nat) : Int) := by omega
        have e4 : ((k : Nat) : Int) + 1 = ((k + 1 : Nat) : Int) := by omega
        dsimp only
        rw [e3]
        have hcut : cutV (ns.map V.int) (some ((k : Int) + 1)) (some ((k + 1 + m : Nat) : Int)) = (r2.take m).map V.int := by rw [e4]; exact cut_mid hk' hm
        refine ⟨_, rfl, _, rfl, _, _, rfl, rfl, _, rfl, _, rfl, _, rfl, a, _, rfl, ex_l e ha, fun q hq => ?_⟩
        refine ⟨_, rfl, ?_⟩
        have eH : Ex H1 (upd H1 q (.lst (cutV (ns.map V.int) (some ((k : Int) + 1)) (some ((k + 1 + m : Nat) : Int))))) := Ex.new hq
        have hqf : q ≠ f := fun z => by rw [z, hfl] at hq; cases hq
        refine ⟨_, rfl, Or.inl ⟨rfl, _, sq_of (eH _ _ hfl)⟩, _, rfl, _, rfl, _, rfl, fun c dx hc hdx hne => ⟨c, dx, _, _, _, rfl, upd_same, fun H3 hk3 hc3 => ⟨rfl, ?_⟩⟩⟩
        obtain ⟨m1, m2, m3⟩ := made _ H3 c dx (.ref q) eH hc hdx hk3 hc3 ⟨q, rfl, by rw [LI, upd_same, hcut], hqf, fresh_back e hq⟩
        have hl2 := congrArg List.length hm2
        rw [List.length_drop] at hl2
        have hasl := hC.1
        refine ⟨f, _, _, rfl, rfl, m1 _ _ hfl, by rw [List.length_map]; exact szl (by omega), ?_⟩
        exact fin (k + 1 + m) (as ++ [c]) _ _ _ _ _ (by omega) (by omega) (by rw [← hm2, List.drop_drop]) m2 (by rw [List.map_append]; exact upd_same) m3
      · refine if_false_of hw ?_
        refine ⟨_, rfl, Or.inl ⟨rfl, _, sq_of hfl⟩, _, rfl, _, rfl, _, rfl, fun c dx hc hdx hne => ⟨c, dx, _, _, _, rfl, upd_same, fun H3 hk3 hc3 => ⟨rfl, ?_⟩⟩⟩
        obtain ⟨m1, m2, m3⟩ := made _ H3 c dx .non (Ex.refl _) hc hdx hk3 hc3 rfl
        have hasl := hC.1
        refine ⟨f, _, _, rfl, rfl, m1 _ _ hfl, by rw [List.length_map]; exact szl (by omega), ?_⟩
        exact fin k (as ++ [c]) _ _ _ _ _ hk0 hkl hk' m2 (by rw [List.map_append]; exact upd_same) m3
  · refine if_false_of (decide_eq_false (by omega)) ⟨_, rfl, k f _ as hf e hfl ?_⟩
    have : k0 = ns.length := by omega
    subst this
    rw [List.drop_length] at hcs
    have := calls_nil hcs
    have hr0 : rest = [] := List.map_eq_nil_iff.mp this
    rw [hr0, List.append_nil] at hdr
    subst hdr
    exact hC
end Sl
/-! # Refusals -/
namespace Sl
open PySem PySem.Spec PyProof.Rows L2 Mir
open Evl (Ex Ex.refl Ex.trans Ex.new Ex.mut fresh_back sz_of sz_lt ex_l sq_of RetL RetV given)
variable {P : Program} {w : World} {K : PySem.W.Frag} {mg : Str → Option Value} {base : Heap}
def sp_bidder_out_of_range (T : Tx K mg) : Sp := fun vs H Q _ => ∃ (c : Addr) (N : Addr → Prop) (r : Rec), vs = [.ref c] ∧ CallX T H N c r ∧ ∀ H' : Hp, Ex H H' → Q (.bl (!bidOk r.2.1)) H'
theorem ok_bidder_out_of_range (T : Tx K mg) : FnOk P w K mg base CX0 1 T.bidder_out_of_range.f T.bidder_out_of_range.fd ["call"] (sp_bidder_out_of_range T) := by
  refine T.bidder_out_of_range.F.ok sc_bidder_out_of_range (fun vs H Q E h => by obtain ⟨c, N, r, rfl, _⟩ := h; rfl) (fun cdv A outer s H vs Q E hr h => ⟨_, (pss_one (ps_ret (pe_and (pe_cmpR op_notN (pe_fld (pv 0) rfl) pe_non (nomark _)) (pe_one (pe_not (pe_chain op_le op_lt pe_int (pe_fld (pv 0) rfl) (pe_glob (v := .int (5)) rfl T.k_BIDDERS ⟨_, rfl⟩))))))), ?_⟩)
  obtain ⟨c, N, ⟨n, i, row⟩, rfl, ⟨dx, v, hc, hv⟩, k⟩ := h
  have k := k H (Ex.refl _)
  refine ⟨_, rfl, c, _, dx, _, _, rfl, hc, T.cl_Call, T.n_Call_bidder, cF_b _ _ _, rfl, _, rfl, ?_⟩
  cases i with
  | none => exact if_false_of rfl k
  | some i =>
    refine if_true_of rfl ?_
    refine ⟨_, rfl, c, _, dx, _, _, rfl, hc, T.cl_Call, T.n_Call_bidder, cF_b _ _ _, _, _, rfl, rfl, _, rfl, ?_⟩
    have k : Q (.bl (!(decide (0 ≤ i) && decide (i < 5)))) H := k
    by_cases h0 : 0 ≤ i
    · rw [decide_eq_true h0] at k ⊢
      exact if_true_of rfl ⟨_, _, rfl, rfl, _, rfl, k⟩
    · rw [decide_eq_false h0] at k ⊢
      exact if_false_of rfl ⟨_, rfl, k⟩
theorem largest (T : Tx K mg) {n : Int} (h : WR.contains n = true) : ∃ t, findBy Value.isInt T.e_LARGEST_IN_ROW n = some (.int (rowMax n) t) := by
  have h' : n = 0 ∨ n = 1 ∨ n = 7 ∨ n = 8 ∨ n = 9 ∨ n = 11 ∨ n = 12 ∨ n = 13 := by
    rw [List.contains_iff_mem] at h
    simpa [WR] using h
  rcases h' with rfl | rfl | rfl | rfl | rfl | rfl | rfl | rfl
  · exact T.o_LARGEST_IN_ROW_0
  · exact T.o_LARGEST_IN_ROW_1
  · exact T.o_LARGEST_IN_ROW_7
  · exact T.o_LARGEST_IN_ROW_8
  · exact T.o_LARGEST_IN_ROW_9
  · exact T.o_LARGEST_IN_ROW_11
  · exact T.o_LARGEST_IN_ROW_12
  · exact T.o_LARGEST_IN_ROW_13
theorem any_not (l : List Int) (p : Int → Bool) : ((l.map fun x => !p x).any id) = !l.all p := by
  induction l with
  | nil => rfl
  | cons x l ih => rw [List.map_cons, List.any_cons, ih, List.all_cons]; cases p x <;> rfl
def sp_row_out_of_range (T : Tx K mg) : Sp := fun vs H Q _ => ∃ (c : Addr) (N : Addr → Prop) (r : Rec), vs = [.ref c] ∧ CallX T H N c r ∧ Form r ∧ ∀ H' : Hp, Ex H H' → Q (.bl (!rowOk r.1 r.2.2)) H'
theorem ok_row_out_of_range (T : Tx K mg) : FnOk P w K mg base CX0 1 T.row_out_of_range.f T.row_out_of_range.fd ["call"] (sp_row_out_of_range T) := by
  refine T.row_out_of_range.F.ok sc_row_out_of_range (fun vs H Q E h => by obtain ⟨c, N, r, rfl, _⟩ := h; rfl) (fun cdv A outer s H vs Q E hr h => ⟨_, (pss_cons (ps_if (pt_cmpR op_isN (pe_fld (pv 0) rfl) pe_non (nomark _)) (pss_one (ps_ret pe_bl)) pss_nil) (pss_cons (ps_if (PW.pt (pw_and (pt_cmpR op_eq (pe_fld (pv 0) rfl) (pe_glob (v := .int (0)) rfl T.k_NEW_AUCTION ⟨_, rfl⟩) (nomark _)) (pw_and1 (pt_cmpR op_eq (pe_callB call_len_seq (by rfl) T.b_len PySem.boot_len (pa_cons (pe_fld (pv 0) rfl) pa_nil)) pe_int (nomark _))))) (pss_one (ps_ret pe_bl)) pss_nil) (pss_cons (ps_if (pt_cmpR op_gt (pe_callB call_len_seq (by rfl) T.b_len PySem.boot_len (pa_cons (pe_fld (pv 0) rfl) pa_nil)) (pe_glob (v := .int (4)) rfl T.k_MOST_LOTS ⟨_, rfl⟩) (nomark _)) (pss_one (ps_ret pe_bl)) pss_nil) (pss_cons (ps_set (i := 1) sc_row_out_of_range.nd rfl (Or.inr rfl) (pe_ix (r := rIxI K) ix_kint (pe_glob (v := .ref T.a_LARGEST_IN_ROW) rfl T.k_LARGEST_IN_ROW rfl) (pe_fld (pv 0) rfl) (fun _ _ => rfl))) (pss_one (ps_ret (pe_callB (cr_any rfl) (by rfl) T.b_any (by decide +kernel) (pa_cons (pe_lc (own := [("number", 2)]) rfl sc_row_out_of_range.nd (pi_list (pe_fld (pv 0) rfl)) (blkOk_by (own := [("number", 2)]) (N := N_row_out_of_range) (sc := defScope s_row_out_of_range) (by decide +kernel)) (fun _ _ _ _ _ => (pg_name (i := 2) sc_row_out_of_range.nd rfl (Or.inl rfl) (hf := Or.inr rfl))) (fun _ _ _ _ _ => pts_nil) (fun _ _ _ _ _ => (pe_not (pe_chain op_le op_le pe_int (pv 2) (pv 1))))) pa_nil)))))))), ?_⟩)
  obtain ⟨c, N, ⟨n, i, row⟩, rfl, ⟨dx, v, hc, hv⟩, ⟨_, _, hf⟩, k0⟩ := h
  have k := k0 H (Ex.refl _)
  refine ⟨_, rfl, c, _, dx, _, _, rfl, hc, T.cl_Call, T.n_Call_row, cF_r _ _ _, rfl, _, rfl, ?_⟩
  cases row with
  | none =>
    have hv : v = .non := hv
    subst hv
    exact if_true_of rfl k
  | some l =>
    obtain ⟨q, rfl, hq, hN⟩ := hv
    refine if_false_of rfl ?_
    have k : Q (.bl (!(!(decide (n = 0) && decide (l.length = 0)) && (decide (l.length ≤ 4) && l.all fun x => decide (0 ≤ x) && decide (x ≤ rowMax n))))) H := k
    obtain ⟨t, ht⟩ := largest T (n := n) hf.symm
    refine ⟨_, rfl, c, _, dx, _, _, rfl, hc, T.cl_Call, T.n_Call_number, cF_n _ _ _, rfl, _, rfl, ?_⟩
    by_cases h0 : n = 0
    refine if_true_of (by rw [h0]; simp) ?_
    refine ⟨_, rfl, c, _, dx, _, _, rfl, hc, T.cl_Call, T.n_Call_row, cF_r _ _ _, q, _, rfl, .inl (sq_of hq), rfl, _, rfl, ?_⟩
    rw [List.length_map]
    by_cases hl0 : l.length = 0
    · refine if_true_of (by rw [hl0]; simp) ?_
      rw [decide_eq_true h0, decide_eq_true hl0] at k
      exact k
    refine if_false_of (decide_eq_false fun z => hl0 (by have := V.int.inj z; omega)) ?_
    rw [decide_eq_false hl0, Bool.and_false] at k
    rotate_left
    refine if_false_of (decide_eq_false fun z => h0 (V.int.inj z)) (if_false_of rfl ?_)
    rw [decide_eq_false h0, Bool.false_and] at k
    all_goals
      rw [Bool.not_false, Bool.true_and] at k
      refine ⟨_, rfl, c, _, dx, _, _, rfl, hc, T.cl_Call, T.n_Call_row, cF_r _ _ _, q, _, rfl, .inl (sq_of hq), _, _, rfl, rfl, _, rfl, ?_⟩
      rw [List.length_map]
      by_cases h4 : l.length ≤ 4
      · refine if_false_of (decide_eq_false (by omega)) ?_
        rw [decide_eq_true h4, Bool.true_and] at k
        refine ⟨_, rfl, c, _, dx, _, _, rfl, hc, T.cl_Call, T.n_Call_number, cF_n _ _ _, _, _, _, _, _, .int (rowMax n), rfl, rfl, T.d_LARGEST_IN_ROW, ht, ⟨t, rfl⟩, ?_⟩
        refine ⟨_, rfl, c, _, dx, _, _, rfl, hc, T.cl_Call, T.n_Call_row, cF_r _ _ _, q, rfl, ⟨_, sq_of hq⟩, fun D hD => lc_map (walk_list (xs := l.map V.int)) ((l.map fun x => !(decide (0 ≤ x) && decide (x ≤ rowMax n))).map V.bl) (by simp) hD (by rw [List.length_map]; omega) (fun H e => sq_of (e _ _ hq)) ?_ ?_⟩
        · rintro j x H1 H2 z hj hz e1 ⟨rfl, hx⟩ M k2
          obtain ⟨x0, hx0, rfl⟩ := at_int hx
          rw [List.getElem?_map, List.getElem?_map, hx0] at hz
          cases hz
          have k2 : M (.bl (!(decide (0 ≤ x0) && decide (x0 ≤ rowMax n)))) H2 := k2 H2 (Ex.refl _)
          refine ⟨rfl, _, rfl, _, _, rfl, rfl, _, rfl, ?_⟩
          by_cases hx1 : 0 ≤ x0
          · rw [decide_eq_true hx1] at k2 ⊢
            exact if_true_of rfl ⟨_, rfl, _, _, rfl, rfl, _, rfl, k2⟩
          · rw [decide_eq_false hx1] at k2 ⊢
            exact if_false_of rfl ⟨_, rfl, k2⟩
        · intro H1 e1 hD1
          refine ⟨D, _, rfl, sq_of hD1, ?_⟩
          rw [any_not]
          have k := k0 H1 e1
          have k : Q (.bl (!(!(decide (n = 0) && decide (l.length = 0)) && (decide (l.length ≤ 4) && l.all fun x => decide (0 ≤ x) && decide (x ≤ rowMax n))))) H1 := k
          rw [decide_eq_true h4, Bool.true_and] at k
          first
            | rw [decide_eq_false hl0, Bool.and_false, Bool.not_false, Bool.true_and] at k
            | rw [decide_eq_false h0, Bool.false_and, Bool.not_false, Bool.true_and] at k
          exact k
      · refine if_true_of (decide_eq_true (by omega)) ?_
        rw [decide_eq_false h4] at k
        exact k
def sp_first_refusal (T : Tx K mg) : Sp := fun vs H Q _ => ∃ (A s c : Addr) (N : Addr → Prop) (st : Option Vbndax.Auction) (r : Rec), vs = [.ref A, .ref c] ∧ AuctAt T H A s st ∧ CallX T H N c r ∧ Form r ∧ ∀ H' : Hp, Ex H H' → Q (.int (codeR st r)) H'
theorem ok_first_refusal (T : Tx K mg) : FnOk P w K mg base CX0 2 T.first_refusal.f T.first_refusal.fd ["auction", "call"] (sp_first_refusal T) := by
  have ok_bidder_out_of_range := ok_bidder_out_of_range (P := P) (w := w) (base := base) T
  have ok_row_out_of_range := ok_row_out_of_range (P := P) (w := w) (base := base) T
  refine T.first_refusal.F.ok sc_first_refusal (fun vs H Q E h => by obtain ⟨A, s, c, N, st, r, rfl, _⟩ := h; rfl) (fun cdv A outer s H vs Q E hr h => ⟨_, (pss_cons (ps_if (PW.pt (pw_or (pt_val (pe_call ok_bidder_out_of_range hr rfl T.bidder_out_of_range.g T.bidder_out_of_range.kp T.bidder_out_of_range.b .nil pass0 (pa_cons (pv 1) pa_nil))) (pw_or1 (pt_val (pe_call ok_row_out_of_range hr rfl T.row_out_of_range.g T.row_out_of_range.kp T.row_out_of_range.b .nil pass0 (pa_cons (pv 1) pa_nil)))))) (pss_one (ps_ret (pe_glob (v := .int (-1)) rfl T.k_OUT_OF_RANGE ⟨_, rfl⟩))) pss_nil) (pss_cons (ps_if (pt_cmpR op_eq (pe_fld (pv 1) rfl) (pe_glob (v := .int (0)) rfl T.k_NEW_AUCTION ⟨_, rfl⟩) (nomark _)) (pss_one (ps_ret pe_int)) pss_nil) (pss_cons (ps_if (pt_cmpR op_isN (pe_fld (pv 0) rfl) pe_non (nomark _)) (pss_one (ps_ret (pe_glob (v := .int (-2)) rfl T.k_NO_AUCTION ⟨_, rfl⟩))) pss_nil) (pss_cons (ps_if (PW.pt (pw_and (pt_cmpR op_in_seq (pe_fld (pv 1) rfl) (pe_glob (v := .ref T.a_ONLY_AFTER_CLOSING) rfl T.k_ONLY_AFTER_CLOSING rfl) (by rfl)) (pw_and1 (pt_not (pt_val (pe_fld (pv 0) rfl)))))) (pss_one (ps_ret (pe_glob (v := .int (-5)) rfl T.k_NOT_CLOSED ⟨_, rfl⟩))) pss_nil) (pss_cons (ps_if (PW.pt (pw_and (pt_cmpR op_in_seq (pe_fld (pv 1) rfl) (pe_glob (v := .ref T.a_ONLY_BEFORE_CLOSING) rfl T.k_ONLY_BEFORE_CLOSING rfl) (by rfl)) (pw_and1 (pt_val (pe_fld (pv 0) rfl))))) (pss_one (ps_ret (pe_glob (v := .int (-6)) rfl T.k_CLOSED ⟨_, rfl⟩))) pss_nil) (pss_cons (ps_if (PW.pt (pw_and (pt_cmpR op_notN (pe_fld (pv 1) rfl) pe_non (nomark _)) (pw_and1 (pt_cmpR op_ne (pe_callB call_len_seq (by rfl) T.b_len PySem.boot_len (pa_cons (pe_fld (pv 1) rfl) pa_nil)) (pe_callB call_len_seq (by rfl) T.b_len PySem.boot_len (pa_cons (pe_fld (pv 0) rfl) pa_nil)) (nomark _))))) (pss_one (ps_ret (pe_glob (v := .int (-7)) rfl T.k_WRONG_LENGTH ⟨_, rfl⟩))) pss_nil) (pss_one (ps_ret pe_int)))))))), ?_⟩)
  obtain ⟨A, s, c, N, st, r, rfl, hA, hC, hF, k⟩ := h
  unfold codeR at k
  refine ⟨_, rfl, c, N, r, rfl, hC, fun H1 e1 => ⟨_, rfl, ?_⟩⟩
  cases hb : bidOk r.2.1 with
  | false =>
    rw [hb] at k
    exact if_true_of rfl (k _ e1)
  | true =>
  rw [hb] at k
  refine if_false_of rfl ?_
  refine ⟨_, rfl, c, N, r, rfl, hC.mono e1, hF, fun H2 e2 => ⟨_, rfl, ?_⟩⟩
  have e12 := e1.trans e2
  cases hw : rowOk r.1 r.2.2 with
  | false =>
    rw [hw] at k
    exact if_true_of rfl (k _ e12)
  | true =>
  rw [hw, if_neg (by decide)] at k
  refine if_false_of rfl ?_
  have k := k _ e12
  obtain ⟨dx, v, hc, hv⟩ := hC.mono e12
  have hA := hA.mono e12
  refine ⟨_, rfl, c, _, dx, _, _, rfl, hc, T.cl_Call, T.n_Call_number, cF_n _ _ _, rfl, _, rfl, ?_⟩
  by_cases h0 : r.1 = 0
  · rw [if_pos h0] at k
    exact if_true_of (by rw [h0]; simp) k
  rw [if_neg h0] at k
  refine if_false_of (decide_eq_false fun z => h0 (V.int.inj z)) ?_
  cases st with
  | none =>
    obtain ⟨da, h1, h2⟩ := hA
    exact ⟨_, rfl, A, _, da, _, _, rfl, h1, T.cl_Auction, T.n_Auction_reserves, aF_r _ _ _, rfl, _, rfl, if_true_of rfl k⟩
  | some x =>
  obtain ⟨da, ra, h1, h2, h3, h4⟩ := hA
  dsimp only at k
  refine ⟨_, rfl, A, _, da, _, _, rfl, h1, T.cl_Auction, T.n_Auction_reserves, aF_r _ _ _, rfl, _, rfl, if_false_of rfl ?_⟩
  -- only after closing
  refine ⟨_, rfl, c, _, dx, _, _, rfl, hc, T.cl_Call, T.n_Call_number, cF_n _ _ _, _, _, rfl, .inr (T.v_ONLY_AFTER_CLOSING _), rfl, flat_ints _, _, rfl, ?_⟩
  rw [if_neg Bool.false_ne_true, inV_int]
  have hAf : ([3, 4, 5, 6, 7, 8, 9, 10, 11, 12, 13, 14, 16] : List Int).contains r.1 = After.contains r.1 := rfl
  have hBf : ([1, 2] : List Int).contains r.1 = Before.contains r.1 := rfl
  rw [hAf]
  cases ha : After.contains r.1
  rotate_left
  refine if_true_of rfl ⟨_, rfl, A, _, da, _, _, rfl, h1, T.cl_Auction, T.n_Auction_closed, aF_c _ _ _, _, rfl, ?_⟩
  cases hcl : x.isClosed
  · rw [if_pos (by rw [ha, hcl]; rfl)] at k
    exact if_true_of rfl k
  rw [if_neg (by rw [ha, hcl]; decide)] at k
  refine if_false_of rfl ?_
  rotate_left
  rw [if_neg (by rw [ha]; simp)] at k
  refine if_false_of rfl (if_false_of rfl ?_)
  all_goals
    refine ⟨_, rfl, c, _, dx, _, _, rfl, hc, T.cl_Call, T.n_Call_number, cF_n _ _ _, _, _, rfl, .inr (T.v_ONLY_BEFORE_CLOSING _), rfl, flat_ints _, _, rfl, ?_⟩
    rw [if_neg Bool.false_ne_true, inV_int, hBf]
    cases hb2 : Before.contains r.1
    rotate_left
    refine if_true_of rfl ⟨_, rfl, A, _, da, _, _, rfl, h1, T.cl_Auction, T.n_Auction_closed, aF_c _ _ _, _, rfl, ?_⟩
    cases hcl2 : x.isClosed
    rw [if_neg (by rw [hb2, hcl2]; decide)] at k
    refine if_false_of rfl ?_
    rotate_left
    · rw [if_pos (by rw [hb2, hcl2]; rfl)] at k
      exact if_true_of rfl k
    rw [if_neg (by rw [hb2]; simp)] at k
    refine if_false_of rfl (if_false_of rfl ?_)
    all_goals
      refine ⟨_, rfl, c, _, dx, _, _, rfl, hc, T.cl_Call, T.n_Call_row, cF_r _ _ _, rfl, _, rfl, ?_⟩
      unfold lenCode at k
      cases hrow : r.2.2 with
      | none =>
        rw [hrow] at k hv
        have hv : v = .non := hv
        subst hv
        exact if_false_of rfl (if_false_of rfl k)
      | some l =>
        rw [hrow] at k hv
        obtain ⟨q, rfl, hq, hN⟩ := hv
        refine if_true_of rfl ?_
        refine ⟨_, rfl, c, _, dx, _, _, rfl, hc, T.cl_Call, T.n_Call_row, cF_r _ _ _, q, _, rfl, .inl (sq_of hq), _, rfl, A, _, da, _, _, rfl, h1, T.cl_Auction, T.n_Auction_reserves, aF_r _ _ _, ra, _, rfl, .inl (sq_of h2), rfl, _, rfl, ?_⟩
        rw [List.length_map, List.length_map, toI_len]
        dsimp only at k
        by_cases hl : l.length = x.reserves.length
        · rw [if_pos hl] at k
          exact if_false_of (by rw [hl]; simp) k
        · rw [if_neg hl] at k
          exact if_true_of (by rw [decide_eq_false fun z => hl (by have := V.int.inj z; omega)]; rfl) k
end Sl
/-! # The operations -/
namespace Sl
open PySem PySem.Spec PyProof.Rows L2 Mir
open Evl (Ex Ex.refl Ex.trans Ex.new Ex.mut fresh_back sz_of sz_lt ex_l sq_of RetL RetV given)
variable {P : Program} {w : World} {K : PySem.W.Frag} {mg : Str → Option Value} {base : Heap}
def sp_with_length : Sp := fun vs H Q _ => ∃ (a : Addr) (l : List Int), vs = [.ref a] ∧ LI H a l ∧ l.length ≤ 500 ∧ RetL ((Vbndax.withLength l).map V.int) H Q
theorem ok_with_length (T : Tx K mg) : FnOk P w K mg base CX0 1 T.with_length.f T.with_length.fd ["row"] sp_with_length := by
  refine T.with_length.F.ok sc_with_length (fun vs H Q E h => by obtain ⟨a, l, rfl, _⟩ := h; rfl) (fun cdv A outer s H vs Q E hr h => ⟨_, (pss_one (ps_ret (pe_op op_cat (pe_lst (pa_cons (pe_callB call_len_seq (by rfl) T.b_len PySem.boot_len (pa_cons (pv 0) pa_nil)) pa_nil)) (pv 0)))), ?_⟩)
  obtain ⟨a, l, rfl, ha, h5, k⟩ := h
  refine ⟨_, rfl, a, _, rfl, .inl (sq_of ha), sz_1, fun p hp => ?_⟩
  have e1 := Ex.new (o := .lst [.int ((l.map V.int).length : Nat)]) hp
  refine ⟨_, rfl, p, a, _, _, rfl, rfl, upd_same, e1 _ _ ha, by rw [List.length_map]; exact sz1 (by show 1 + _ ≤ 1000; omega), fun q hq => k q _ (fresh_back e1 hq) (e1.trans (Ex.new hq)) ?_⟩
  rw [upd_same, List.length_map]
  rfl
/-! ### outcomes, as the specification tells them -/
theorem fit_of {x : Vbndax.Auction} (h : StOk (some x)) : Fit4 (toI x.reserves) (Vbndax.bidsOf x) :=
  ⟨by rw [toI_len]; exact h.2.1, by rw [bids_len h]; decide, fun row hr => by rw [toI_len]; exact (bids_row h row hr).1⟩
theorem fit_rows {r : List Nat} {b : List (List Int)} (h : Fit4 (toI r) b) : ∀ row ∈ b, row.length = r.length := fun row hr => by rw [← toI_len]; exact h.2.2 row hr
theorem outs_range {x : Vbndax.Auction} {b : List (List Int)} (h : Fit4 (toI x.reserves) b) (h5 : b.length = 5) :
    outs (toI x.reserves) b = (List.range 5).map fun i => (Vbndax.lotNumber (Vbndax.lotOfBidder (Vbndax.bestAllocation x.reserves b).2 i), Vbndax.payment x b i) := by
  have h4 : x.reserves.length ≤ 4 := by have := h.1; rwa [toI_len] at this
  have hal := alloc_is x.reserves b (by omega) (fit_rows h)
  have hul := best_len x.reserves b
  apply List.ext_getElem?
  intro i
  by_cases hi : i < 5
  · have hiu : i < (Vbndax.bestAllocation x.reserves b).2.length := by omega
    have hai : (Mir.alloc (toI x.reserves) b)[i]? = some (Vbndax.lotNumber (Vbndax.lotOfBidder (Vbndax.bestAllocation x.reserves b).2 i)) := by
      rw [hal, List.getElem?_map, List.getElem?_eq_getElem hiu]
      unfold Vbndax.lotOfBidder
      rw [List.getD_eq_getElem?_getD, List.getElem?_eq_getElem hiu]
      rfl
    rw [List.getElem?_map, List.getElem?_range hi]
    unfold outs
    rw [List.getElem?_map, hai]
    show some (_, _) = some (_, _)
    congr 2
    unfold Vbndax.payment
    cases hu : Vbndax.lotOfBidder (Vbndax.bestAllocation x.reserves b).2 i with
    | none => rfl
    | some j =>
      rw [hu] at hai
      have hlot : LotOk (toI x.reserves).length (Vbndax.lotNumber (some j)) := alloc_mem h.2.2 _ (List.mem_of_getElem? hai)
      have hj : j < x.reserves.length := by
        rcases hlot with c | ⟨j', hj', c⟩
        · exact absurd c (lot_ne j)
        · have : (j : Int) = (j' : Int) := c
          rw [toI_len] at hj'
          omega
      show payOf (minPs (toI x.reserves) b) (j : Int) = Vbndax.minimumPrice x.reserves b j
      unfold payOf
      rw [if_neg (lot_ne j), Int.toNat_natCast, minPs_is x.reserves b (by omega) (fit_rows h)]
      unfold Vbndax.minimumPrices Vbndax.lotNumbers
      rw [List.getD_eq_getElem?_getD, List.getElem?_map, List.getElem?_range hj]
      rfl
  · rw [List.getElem?_eq_none (by rw [outs_len]; omega), List.getElem?_eq_none (by simp; omega)]
theorem outs_at {x : Vbndax.Auction} {b : List (List Int)} (h : Fit4 (toI x.reserves) b) (h5 : b.length = 5) {i : Nat} (hi : i < 5) :
    (outs (toI x.reserves) b)[i]? = some (Vbndax.lotNumber (Vbndax.lotOfBidder (Vbndax.bestAllocation x.reserves b).2 i), Vbndax.payment x b i) := by
  rw [outs_range h h5, List.getElem?_map, List.getElem?_range hi]
  rfl
theorem util_is {x : Vbndax.Auction} {b : List (List Int)} {i : Nat} {v : List Nat} (hv : v.length = x.reserves.length) :
    utilOf (toI v) (Vbndax.lotNumber (Vbndax.lotOfBidder (Vbndax.bestAllocation x.reserves b).2 i), Vbndax.payment x b i) = Vbndax.utilityOfResult x b i v := by
  unfold utilOf Vbndax.utilityOfResult Vbndax.payment
  cases hu : Vbndax.lotOfBidder (Vbndax.bestAllocation x.reserves b).2 i with
  | none => rfl
  | some j =>
    show (if (j : Int) = -1 then 0 else (toI v).getD ((j : Int)).toNat 0 - Vbndax.minimumPrice x.reserves b j) = _
    rw [if_neg (lot_ne j), Int.toNat_natCast, toI_get]
/-! ### the promise of an operation -/
def OpSp (T : Tx K mg) (num : Int) : Sp := fun vs H Q _ => ∃ (A s c : Addr) (N : Addr → Prop) (st st1 : Option Vbndax.Auction) (r : Rec) (cl : Vbndax.Call) (fs : List Int), vs = [.ref A, .ref c] ∧ AuctAt T H A s st ∧ StOk st ∧ CallX T H (fun q => N q ∧ T.av q) c r ∧ r.1 = num ∧ Calls r cl ∧ codeR st r = 0 ∧ Vbndax.execute st cl = (st1, 0 :: fs) ∧
  ∀ (p s1 : Addr) (H' : Hp), H p = none → Fr2 H A s H' → (s1 = s ∨ H s1 = none) → AuctAt T H' A s1 st1 → LI H' p fs → Q (.ref p) H'
theorem OpSp.len {T : Tx K mg} {num : Int} {vs : List V} {H : Hp} {Q : VK} {E : XK} (h : OpSp T num vs H Q E) : vs.length = 2 := by
  obtain ⟨A, s, c, N, st, st1, r, cl, fs, rfl, _⟩ := h
  rfl
theorem pair_inj {s s1 : Option Vbndax.Auction} {f g : List Int} (h : (s, (0 : Int) :: f) = (s1, (0 : Int) :: g)) : s = s1 ∧ f = g := by
  injection h with h1 h2
  injection h2 with _ h3
  exact ⟨h1, h3⟩
/-- the part of an opened operation that all share: its state, what it answers -/
theorem opened {st st1 : Option Vbndax.Auction} {r : Rec} {cl : Vbndax.Call} {fs : List Int} (num : Int) (f : Vbndax.Auction → List (List Int) → List Int) (hc : codeR st r = 0) (hn : r.1 = num) (h0 : num ≠ 0) (ha : After.contains num = true) (hb : Before.contains num = false)
    (hex : Vbndax.execute st cl = (st1, 0 :: fs)) (he : ∀ x, st = some x → x.isClosed = true → (∀ l, r.2.2 = some l → l.length = x.reserves.length) → Vbndax.execute (some x) cl = (some x, 0 :: f x (Vbndax.bidsOf x))) :
    ∃ x, st = some x ∧ x.isClosed = true ∧ (∀ l, r.2.2 = some l → l.length = x.reserves.length) ∧ bidOk r.2.1 = true ∧ rowOk r.1 r.2.2 = true ∧ st1 = some x ∧ fs = f x (Vbndax.bidsOf x) := by
  subst hn
  obtain ⟨x, rfl, hcl, hl, h1, h2⟩ := opened_yes hc h0 ha hb
  rw [he x rfl hcl hl] at hex
  obtain ⟨e1, e2⟩ := pair_inj hex
  exact ⟨x, rfl, hcl, hl, h1, h2, e1.symm, e2.symm⟩
theorem ok_get_minimum_prices (T : Tx K mg) : FnOk P w K mg base CX0 6 T.get_minimum_prices.f T.get_minimum_prices.fd ["auction", "call"] (OpSp T 4) := by
  have ok_with_length := ok_with_length (P := P) (w := w) (base := base) T
  have ok_minimum_prices := ok_minimum_prices (P := P) (w := w) (base := base) T
  have ok_Auction_counted_bids := ok_Auction_counted_bids (P := P) (w := w) (base := base) T
  refine T.get_minimum_prices.F.ok sc_get_minimum_prices (fun vs H Q E h => OpSp.len h) (fun cdv A outer s H vs Q E hr h => ⟨_, (pss_one (ps_ret (pe_call ok_with_length (hr.mono (by decide)) rfl T.with_length.g T.with_length.kp T.with_length.b .nil pass0 (pa_cons (pe_call ok_minimum_prices hr rfl T.minimum_prices.g T.minimum_prices.kp T.minimum_prices.b .nil pass0 (pa_cons (pe_fld (pv 0) rfl) (pa_cons (pe_meth0 (pv 0) T.cl_Auction T.Auction_counted_bids.M ok_Auction_counted_bids (hr.mono (by decide)) T.Auction_counted_bids.b .nil pass0) pa_nil))) pa_nil)))), ?_⟩)
  obtain ⟨A, s, c, N, st, st1, r, cl, fs, rfl, hA, hO, hC, hnum, hcl, hcode, hex, k⟩ := h
  obtain ⟨rfl, rfl⟩ := hcl.at4 hnum
  obtain ⟨x, rfl, hxc, hl, _, _, rfl, rfl⟩ := opened 4 fd4 hcode rfl (by decide) (by decide) (by decide) hex fun x _ hx _ => ex4 hx
  have hF := fit_of hO
  have hmin := minPs_is x.reserves (Vbndax.bidsOf x) (by have := hO.2.1; omega) (fit_rows hF)
  obtain ⟨dx, ra, h1, h2, h3, h4⟩ := id hA
  refine ⟨_, rfl, A, _, dx, _, _, rfl, h1, T.cl_Auction, T.n_Auction_reserves, aF_r _ _ _, _, rfl, A, dx, _, rfl, h1, aF_no _ _ _ (by decide +kernel), A, s, x, rfl, hA, hO, fun b H1 hb e1 hR => ?_⟩
  refine ⟨ra, b, toI x.reserves, _, rfl, e1 _ _ h2, hR, hF, fun q H2 hq e2 hq2 => ?_⟩
  rw [hmin] at hq2
  have hml : (Vbndax.minimumPrices x.reserves (Vbndax.bidsOf x)).length = x.reserves.length := by rw [← hmin, minPs_len, toI_len]
  refine ⟨q, _, rfl, hq2, by rw [hml]; have := hO.2.1; omega, fun p H3 hp e3 hp3 => ?_⟩
  have e := (e1.trans e2).trans e3
  exact k p s H3 (fresh_back (e1.trans e2) hp) (Fr2.of_ex e) (.inl rfl) (hA.mono e) hp3
theorem ok_get_maximum_prices (T : Tx K mg) : FnOk P w K mg base CX0 6 T.get_maximum_prices.f T.get_maximum_prices.fd ["auction", "call"] (OpSp T 5) := by
  have ok_with_length := ok_with_length (P := P) (w := w) (base := base) T
  have ok_maximum_prices := ok_maximum_prices (P := P) (w := w) (base := base) T
  have ok_Auction_counted_bids := ok_Auction_counted_bids (P := P) (w := w) (base := base) T
  refine T.get_maximum_prices.F.ok sc_get_maximum_prices (fun vs H Q E h => OpSp.len h) (fun cdv A outer s H vs Q E hr h => ⟨_, (pss_one (ps_ret (pe_call ok_with_length (hr.mono (by decide)) rfl T.with_length.g T.with_length.kp T.with_length.b .nil pass0 (pa_cons (pe_call ok_maximum_prices hr rfl T.maximum_prices.g T.maximum_prices.kp T.maximum_prices.b .nil pass0 (pa_cons (pe_fld (pv 0) rfl) (pa_cons (pe_meth0 (pv 0) T.cl_Auction T.Auction_counted_bids.M ok_Auction_counted_bids (hr.mono (by decide)) T.Auction_counted_bids.b .nil pass0) pa_nil))) pa_nil)))), ?_⟩)
  obtain ⟨A, s, c, N, st, st1, r, cl, fs, rfl, hA, hO, hC, hnum, hcl, hcode, hex, k⟩ := h
  obtain ⟨rfl, rfl⟩ := hcl.at5 hnum
  obtain ⟨x, rfl, hxc, hl, _, _, rfl, rfl⟩ := opened 5 fd5 hcode rfl (by decide) (by decide) (by decide) hex fun x _ hx _ => ex5 hx
  have hF := fit_of hO
  have hmax := maxPs_is x.reserves (Vbndax.bidsOf x) (by have := hO.2.1; omega) (fit_rows hF)
  obtain ⟨dx, ra, h1, h2, h3, h4⟩ := id hA
  refine ⟨_, rfl, A, _, dx, _, _, rfl, h1, T.cl_Auction, T.n_Auction_reserves, aF_r _ _ _, _, rfl, A, dx, _, rfl, h1, aF_no _ _ _ (by decide +kernel), A, s, x, rfl, hA, hO, fun b H1 hb e1 hR => ?_⟩
  refine ⟨ra, b, toI x.reserves, _, rfl, e1 _ _ h2, hR, hF, fun q H2 hq e2 hq2 => ?_⟩
  rw [hmax] at hq2
  have hml : (Vbndax.maximumPrices x.reserves (Vbndax.bidsOf x)).length = x.reserves.length := by rw [← hmax, maxPs_len, toI_len]
  refine ⟨q, _, rfl, hq2, by rw [hml]; have := hO.2.1; omega, fun p H3 hp e3 hp3 => ?_⟩
  have e := (e1.trans e2).trans e3
  exact k p s H3 (fresh_back (e1.trans e2) hp) (Fr2.of_ex e) (.inl rfl) (hA.mono e) hp3
theorem ok_get_total_value (T : Tx K mg) : FnOk P w K mg base CX0 5 T.get_total_value.f T.get_total_value.fd ["auction", "call"] (OpSp T 6) := by
  have ok_maximum_value := ok_maximum_value (P := P) (w := w) (base := base) T
  have ok_Auction_counted_bids := ok_Auction_counted_bids (P := P) (w := w) (base := base) T
  refine T.get_total_value.F.ok sc_get_total_value (fun vs H Q E h => OpSp.len h) (fun cdv A outer s H vs Q E hr h => ⟨_, (pss_one (ps_ret (pe_lst (pa_cons (pe_call ok_maximum_value hr rfl T.maximum_value.g T.maximum_value.kp T.maximum_value.b .nil pass0 (pa_cons (pe_fld (pv 0) rfl) (pa_cons (pe_meth0 (pv 0) T.cl_Auction T.Auction_counted_bids.M ok_Auction_counted_bids (hr.mono (by decide)) T.Auction_counted_bids.b .nil pass0) pa_nil))) pa_nil)))), ?_⟩)
  obtain ⟨A, s, c, N, st, st1, r, cl, fs, rfl, hA, hO, hC, hnum, hcl, hcode, hex, k⟩ := h
  obtain ⟨rfl, rfl⟩ := hcl.at6 hnum
  obtain ⟨x, rfl, hxc, hl, _, _, rfl, rfl⟩ := opened 6 fd6 hcode rfl (by decide) (by decide) (by decide) hex fun x _ hx _ => ex6 hx
  have hF := fit_of hO
  have hmv := maxValue_is x.reserves (Vbndax.bidsOf x) (by have := hO.2.1; omega) (fit_rows hF)
  obtain ⟨dx, ra, h1, h2, h3, h4⟩ := id hA
  refine ⟨_, rfl, A, _, dx, _, _, rfl, h1, T.cl_Auction, T.n_Auction_reserves, aF_r _ _ _, _, rfl, A, dx, _, rfl, h1, aF_no _ _ _ (by decide +kernel), A, s, x, rfl, hA, hO, fun b H1 hb e1 hR => ?_⟩
  refine ⟨ra, b, toI x.reserves, _, rfl, e1 _ _ h2, hR, hF.fit, fun H2 e2 => ⟨sz_1, fun p hp => ?_⟩⟩
  have e := e1.trans e2
  have e' := e.trans (Ex.new (o := .lst [.int (maxValue (toI x.reserves) (Vbndax.bidsOf x))]) hp)
  refine k p s _ (fresh_back e hp) (Fr2.of_ex e') (.inl rfl) (hA.mono e') ?_
  rw [LI, upd_same, hmv]
  rfl
theorem ok_get_result (T : Tx K mg) : FnOk P w K mg base CX0 7 T.get_result.f T.get_result.fd ["auction", "call"] (OpSp T 3) := by
  have ok_outcomes := ok_outcomes (P := P) (w := w) (base := base) T
  have ok_Auction_counted_bids := ok_Auction_counted_bids (P := P) (w := w) (base := base) T
  refine T.get_result.F.ok sc_get_result (fun vs H Q E h => OpSp.len h) (fun cdv A outer s H vs Q E hr h => ⟨_, (pss_cons (ps_set (i := 2) sc_get_result.nd rfl (Or.inl rfl) (pe_lst pa_nil)) (pss_cons (ps_for PassesOwn.never rfl (pi_list (pe_call ok_outcomes hr rfl T.outcomes.g T.outcomes.kp T.outcomes.b .nil pass0 (pa_cons (pe_fld (pv 0) rfl) (pa_cons (pe_meth0 (pv 0) T.cl_Auction T.Auction_counted_bids.M ok_Auction_counted_bids (hr.mono (by decide)) T.Auction_counted_bids.b .nil pass0) pa_nil)))) (pg_name (i := 3) sc_get_result.nd rfl (Or.inl rfl)) (pss_one (ps_expr (pe_bm PySem.F.plainAttrs_list PySem.F.slot_list_extend PySem.F.type_list_extend mt_extendT (pv 2) (pa_cons (pv 3) pa_nil))))) (pss_one (ps_ret (pv 2))))), ?_⟩)
  obtain ⟨A, s, c, N, st, st1, r, cl, fs, rfl, hA, hO, hC, hnum, hcl, hcode, hex, k⟩ := h
  obtain ⟨rfl, rfl⟩ := hcl.at3 hnum
  obtain ⟨x, rfl, hxc, hl, _, _, rfl, rfl⟩ := opened 3 fd3 hcode rfl (by decide) (by decide) (by decide) hex fun x _ hx _ => ex3 hx
  have hF := fit_of hO
  have hout := outs_range hF (bids_len hO)
  refine ⟨Nat.zero_le _, fun p hp => ?_⟩
  have e0 : Ex H (upd H p (.lst [])) := Ex.new hp
  obtain ⟨dx, ra, h1, h2, h3, h4⟩ := id (hA.mono e0)
  refine ⟨_, rfl, A, _, dx, _, _, rfl, h1, T.cl_Auction, T.n_Auction_reserves, aF_r _ _ _, _, rfl, A, dx, _, rfl, h1, aF_no _ _ _ (by decide +kernel), A, s, x, rfl, hA.mono e0, hO, fun b H1 hb e1 hR => ?_⟩
  refine ⟨ra, b, toI x.reserves, _, rfl, e1 _ _ h2, hR, hF, fun q H2 as hq e2 hq2 hP => ?_⟩
  have e := (e0.trans e1).trans e2
  have hlen : as.length = 5 := by rw [hP.1, outs_len, bids_len hO]
  have hp2 : LI H2 p [] := e2 _ _ (e1 _ _ upd_same)
  have hqp : q ≠ p := fun z => by rw [z, e1 _ _ upd_same] at hq; cases hq
  refine ⟨q, rfl, ⟨_, sq_of hq2⟩, for_list (K := K) (a := q) (xs := as.map V.ref) (fun i σ H' => ∃ u, σ = [some (.ref A), some (.ref c), some (.ref p), u] ∧ Ex H H' ∧ (∀ b o, b ≠ p → H2 b = some o → H' b = some o) ∧ LI H' p (((outs (toI x.reserves) (Vbndax.bidsOf x)).take i).flatMap fun z => [z.1, z.2])) ⟨_, rfl, e, fun b o _ h => h, hp2⟩ (fun i σ H' _ ⟨_, _, _, k3, _⟩ => sq_of (k3 _ _ hqp hq2)) ?_ ?_⟩
  · rintro i y σ H3 hi ⟨u, rfl, e3, k3, hl3⟩
    obtain ⟨t, ht, rfl⟩ := at_ref hi
    obtain ⟨z, hz, htz⟩ := hP.2 i t ht
    have htp : t ≠ p := fun h => by rw [h, hp2] at htz; cases htz
    have hi5 : i < 5 := by rw [← hlen]; exact (List.getElem?_eq_some_iff.mp ht).1
    have hfl : (((outs (toI x.reserves) (Vbndax.bidsOf x)).take i).flatMap fun z => [z.1, z.2]).length ≤ 2 * i := by
      have h9 : ∀ l : List (Int × Int), (l.flatMap fun z => [z.1, z.2]).length = 2 * l.length := fun l => by
        induction l with
        | nil => rfl
        | cons a l ih => rw [List.flatMap_cons, List.length_append, ih, List.length_cons]; simp; omega
      rw [h9, List.length_take]
      omega
    refine ⟨_, rfl, Or.inl ⟨rfl, _, sq_of hl3⟩, _, rfl, p, t, _, _, rfl, rfl, hl3, Evl.st_of (k3 _ _ htp htz), ?_, _, rfl, Ex.mut e3 hp, fun b o hb h => by rw [upd_ne hb]; exact k3 b o hb h, ?_⟩
    · rw [List.length_map]
      exact sz1 (by show _ + 2 ≤ 1000; omega)
    · rw [LI, take_more hz, List.flatMap_append, List.map_append]
      exact upd_same
  · rintro σ H3 ⟨u, rfl, e3, k3, hl3⟩
    refine ⟨_, rfl, k p s H3 hp (Fr2.of_ex e3) (.inl rfl) (hA.mono e3) ?_⟩
    rw [List.length_map, hlen] at hl3
    have h5 : (outs (toI x.reserves) (Vbndax.bidsOf x)).take 5 = outs (toI x.reserves) (Vbndax.bidsOf x) := List.take_of_length_le (by rw [outs_len, bids_len hO]; decide)
    rw [h5, hout, List.flatMap_map] at hl3
    exact hl3
end Sl
/-! # The operations that take a row -/
namespace Sl
open PySem PySem.Spec PyProof.Rows L2 Mir
open Evl (Ex Ex.refl Ex.trans Ex.new Ex.mut fresh_back sz_of sz_lt ex_l sq_of RetL RetV given)
variable {P : Program} {w : World} {K : PySem.W.Frag} {mg : Str → Option Value} {base : Heap}
theorem sz_3 : 3 ≤ sizeLine := by decide
theorem fitP_of {x : Vbndax.Auction} (h : StOk (some x)) {v : List Int} (hv : v.length = x.reserves.length) : FitP v (Vbndax.bidsOf x) :=
  ⟨by rw [hv]; exact h.1, by rw [hv]; exact h.2.1, by rw [bids_len h]; decide, fun row hr => by rw [hv]; exact (bids_row h row hr).1⟩
theorem ok_check_prices (T : Tx K mg) : FnOk P w K mg base CX0 5 T.check_prices.f T.check_prices.fd ["auction", "call"] (OpSp T 7) := by
  have ok_returned_allocation := ok_returned_allocation (P := P) (w := w) (base := base) T
  have ok_first_wrong_lot := ok_first_wrong_lot (P := P) (w := w) (base := base) T
  have ok_first_discontent_bidder := ok_first_discontent_bidder (P := P) (w := w) (base := base) T
  have ok_Auction_counted_bids := ok_Auction_counted_bids (P := P) (w := w) (base := base) T
  refine T.check_prices.F.ok sc_check_prices (fun vs H Q E h => OpSp.len h) (fun cdv A outer s H vs Q E hr h => ⟨_, (pss_cons (ps_set (i := 2) sc_check_prices.nd rfl (Or.inl rfl) (pe_meth0 (pv 0) T.cl_Auction T.Auction_counted_bids.M ok_Auction_counted_bids (hr.mono (by decide)) T.Auction_counted_bids.b .nil pass0)) (pss_cons (ps_set (i := 3) sc_check_prices.nd rfl (Or.inl rfl) (pe_call ok_returned_allocation hr rfl T.returned_allocation.g T.returned_allocation.kp T.returned_allocation.b .nil pass0 (pa_cons (pe_fld (pv 0) rfl) (pa_cons (pv 2) pa_nil)))) (pss_cons (ps_set (i := 4) sc_check_prices.nd rfl (Or.inl rfl) (pe_call ok_first_wrong_lot (hr.mono (by decide)) rfl T.first_wrong_lot.g T.first_wrong_lot.kp T.first_wrong_lot.b .nil pass0 (pa_cons (pe_fld (pv 0) rfl) (pa_cons (pv 3) (pa_cons (pe_fld (pv 1) rfl) pa_nil))))) (pss_cons (ps_if (pt_cmpR op_ne (pv 4) (pe_glob (v := .int (-1)) rfl T.k_NONE ⟨_, rfl⟩) (nomark _)) (pss_one (ps_ret (pe_lst (pa_cons pe_int (pa_cons pe_int (pa_cons (pv 4) pa_nil)))))) pss_nil) (pss_cons (ps_set (i := 5) sc_check_prices.nd rfl (Or.inl rfl) (pe_call ok_first_discontent_bidder (hr.mono (by decide)) rfl T.first_discontent_bidder.g T.first_discontent_bidder.kp T.first_discontent_bidder.b .nil pass0 (pa_cons (pv 2) (pa_cons (pv 3) (pa_cons (pe_fld (pv 1) rfl) pa_nil))))) (pss_cons (ps_if (pt_cmpR op_ne (pv 5) (pe_glob (v := .int (-1)) rfl T.k_NONE ⟨_, rfl⟩) (nomark _)) (pss_one (ps_ret (pe_lst (pa_cons pe_int (pa_cons pe_int (pa_cons (pv 5) pa_nil)))))) pss_nil) (pss_one (ps_ret (pe_lst (pa_cons pe_int pa_nil)))))))))), ?_⟩)
  obtain ⟨A, s, c, N, st, st1, r, cl, fs, rfl, hA, hO, hC, hnum, hcl, hcode, hex, k⟩ := h
  obtain ⟨v, rfl, rfl⟩ := hcl.at7 hnum
  obtain ⟨x, rfl, hxc, hl, _, _, rfl, rfl⟩ := opened 7 (fd7 v) hcode rfl (by decide) (by decide) (by decide) hex fun x _ hx hl => ex7 v hx (hl v rfl)
  have hlv := hl v rfl
  have hF := fit_of hO
  have hP := fitP_of hO hlv
  have hb5 := bids_len hO
  have hvi := violation_is x.reserves (Vbndax.bidsOf x) v (fit_rows hF)
  have hal := alloc_is x.reserves (Vbndax.bidsOf x) (by have := hO.2.1; omega) (fit_rows hF)
  rw [← hal] at hvi
  obtain ⟨dx, ra, h1, h2, h3, h4⟩ := id hA
  obtain ⟨dc, vq, hc1, q0, rfl, hq0, hN⟩ := hC
  refine ⟨_, rfl, A, dx, _, rfl, h1, aF_no _ _ _ (by decide +kernel), A, s, x, rfl, hA, hO, fun b H1 hb e1 hR => ?_⟩
  refine ⟨_, rfl, A, _, dx, _, _, rfl, e1 _ _ h1, T.cl_Auction, T.n_Auction_reserves, aF_r _ _ _, _, rfl, ra, b, toI x.reserves, _, rfl, e1 _ _ h2, hR, hF.fit, fun al H2 hal2 e2 hl2 => ?_⟩
  have e := e1.trans e2
  refine ⟨_, rfl, A, _, dx, _, _, rfl, e _ _ h1, T.cl_Auction, T.n_Auction_reserves, aF_r _ _ _, _, rfl, _, rfl, c, _, dc, _, _, rfl, e _ _ hc1, T.cl_Call, T.n_Call_row, cF_r _ _ _, ra, al, q0, toI x.reserves, _, v, rfl, e _ _ h2, hl2, e _ _ hq0, by rw [toI_len]; exact hlv, fun H3 e3 => ?_⟩
  have e' := e.trans e3
  refine ⟨_, rfl, rfl, _, rfl, ?_⟩
  have ret : ∀ (H4 : Hp) (l : List Int), Ex H H4 → l = fd7 v x (Vbndax.bidsOf x) → ∀ p, H4 p = none → Q (.ref p) (L2.upd H4 p (.lst (l.map V.int))) := fun H4 l e4 hl4 p hp => by
    have e5 := e4.trans (Ex.new (o := .lst (l.map V.int)) hp)
    exact k p s _ (fresh_back e4 hp) (Fr2.of_ex e5) (.inl rfl) (hA.mono e5) (by rw [LI, upd_same, hl4])
  unfold fd7 at ret
  rw [hvi] at ret
  cases hw : firstWrong (toI x.reserves) (Mir.alloc (toI x.reserves) (Vbndax.bidsOf x)) v with
  | some j =>
    rw [hw] at ret
    have hne : (j : Int) ≠ -1 := lot_ne j
    refine if_true_of (by show (!decide (V.int (j : Int) = V.int (-1))) = true; rw [decide_eq_false fun z => hne (V.int.inj z)]; rfl) ⟨_, rfl, sz_3, ret H3 [0, 1, (j : Int)] e' rfl⟩
  | none =>
    rw [hw] at ret
    refine if_false_of rfl ?_
    refine ⟨_, rfl, _, rfl, _, rfl, c, _, dc, _, _, rfl, e' _ _ hc1, T.cl_Call, T.n_Call_row, cF_r _ _ _, b, al, q0, _, _, v, rfl, hR.mono (e2.trans e3), e3 _ _ hl2, e' _ _ hq0, by unfold Mir.alloc; rw [alloc_len], hP.2.2.2, hP.1, hP.2.1, fun H4 e4 => ?_⟩
    refine ⟨_, rfl, rfl, _, rfl, ?_⟩
    cases hd : firstDisc (Vbndax.bidsOf x) (Mir.alloc (toI x.reserves) (Vbndax.bidsOf x)) v with
    | some j =>
      rw [hd] at ret
      have hne : (j : Int) ≠ -1 := lot_ne j
      refine if_true_of (by show (!decide (V.int (j : Int) = V.int (-1))) = true; rw [decide_eq_false fun z => hne (V.int.inj z)]; rfl) ⟨_, rfl, sz_3, ret H4 [0, 2, (j : Int)] (e'.trans e4) rfl⟩
    | none =>
      rw [hd] at ret
      exact if_false_of rfl ⟨sz_1, ret H4 [1] (e'.trans e4) rfl⟩
theorem ok_get_demand_set (T : Tx K mg) : FnOk P w K mg base CX0 2 T.get_demand_set.f T.get_demand_set.fd ["auction", "call"] (OpSp T 8) := by
  have ok_with_length := ok_with_length (P := P) (w := w) (base := base) T
  have ok_demand_set := ok_demand_set (P := P) (w := w) (base := base) T
  have ok_Auction_counted_bids := ok_Auction_counted_bids (P := P) (w := w) (base := base) T
  refine T.get_demand_set.F.ok sc_get_demand_set (fun vs H Q E h => OpSp.len h) (fun cdv A outer s H vs Q E hr h => ⟨_, (pss_one (ps_ret (pe_call ok_with_length hr rfl T.with_length.g T.with_length.kp T.with_length.b .nil pass0 (pa_cons (pe_call ok_demand_set hr rfl T.demand_set.g T.demand_set.kp T.demand_set.b .nil pass0 (pa_cons (pe_ix (r := rIxL K) ix_list (pe_meth0 (pv 0) T.cl_Auction T.Auction_counted_bids.M ok_Auction_counted_bids hr T.Auction_counted_bids.b .nil pass0) (pe_fld (pv 1) rfl) (fun _ _ => rfl)) (pa_cons (pe_fld (pv 1) rfl) pa_nil))) pa_nil)))), ?_⟩)
  obtain ⟨A, s, c, N, st, st1, r, cl, fs, rfl, hA, hO, hC, hnum, hcl, hcode, hex, k⟩ := h
  obtain ⟨i, v, rfl, rfl⟩ := hcl.at8 hnum
  obtain ⟨x, rfl, hxc, hl, hbi, _, rfl, rfl⟩ := opened 8 (fd8 i v) hcode rfl (by decide) (by decide) (by decide) hex fun x _ hx hl => ex8 i v hx (hl v rfl)
  have hlv := hl v rfl
  obtain ⟨n, rfl, hn⟩ := bid_nat hbi
  have hP := fitP_of hO hlv
  have hb5 := bids_len hO
  obtain ⟨row, hrow⟩ : ∃ row, (Vbndax.bidsOf x)[n]? = some row := ⟨_, List.getElem?_eq_getElem (by omega)⟩
  have hrl := (bids_row hO row (List.mem_of_getElem? hrow)).1
  obtain ⟨dx, ra, h1, h2, h3, h4⟩ := id hA
  obtain ⟨dc, vq, hc1, q0, rfl, hq0, hN⟩ := hC
  refine ⟨_, rfl, A, dx, _, rfl, h1, aF_no _ _ _ (by decide +kernel), A, s, x, rfl, hA, hO, fun b H1 hb e1 ⟨as, hR1, hR⟩ => ?_⟩
  obtain ⟨rq, hrq, hrl2⟩ := hR.at hrow
  refine ⟨_, rfl, c, _, dc, _, _, rfl, e1 _ _ hc1, T.cl_Call, T.n_Call_bidder, cF_b _ _ _, b, _, _, .ref rq, rfl, rfl, sq_of hR1, atI_nat (by rw [List.getElem?_map, hrq]; rfl), ?_⟩
  have h04 := hO.1
  have h44 := hO.2.1
  refine ⟨_, rfl, c, _, dc, _, _, rfl, e1 _ _ hc1, T.cl_Call, T.n_Call_row, cF_r _ _ _, rq, q0, row, v, rfl, hrl2, e1 _ _ hq0, by omega, by omega, by omega, fun d H2 hd e2 hd2 => ?_⟩
  have hdl := demL_len row v
  refine ⟨d, _, rfl, hd2, by omega, fun p H3 hp e3 hp3 => ?_⟩
  have e := (e1.trans e2).trans e3
  refine k p s H3 (fresh_back (e1.trans e2) hp) (Fr2.of_ex e) (.inl rfl) (hA.mono e) ?_
  have hds : fd8 (n : Int) v x (Vbndax.bidsOf x) = Vbndax.withLength (demL row v) := by
    unfold fd8 demL
    rw [Int.toNat_natCast, demandSet_row hrow, hrl]
  rw [hds]
  exact hp3
theorem ok_get_overdemanded_set (T : Tx K mg) : FnOk P w K mg base CX0 6 T.get_overdemanded_set.f T.get_overdemanded_set.fd ["auction", "call"] (OpSp T 9) := by
  have ok_first_overdemanded_set := ok_first_overdemanded_set (P := P) (w := w) (base := base) T
  have ok_Auction_counted_bids := ok_Auction_counted_bids (P := P) (w := w) (base := base) T
  refine T.get_overdemanded_set.F.ok sc_get_overdemanded_set (fun vs H Q E h => OpSp.len h) (fun cdv A outer s H vs Q E hr h => ⟨_, (pss_cons (ps_set (i := 2) sc_get_overdemanded_set.nd rfl (Or.inl rfl) (pe_call ok_first_overdemanded_set hr rfl T.first_overdemanded_set.g T.first_overdemanded_set.kp T.first_overdemanded_set.b .nil pass0 (pa_cons (pe_meth0 (pv 0) T.cl_Auction T.Auction_counted_bids.M ok_Auction_counted_bids (hr.mono (by decide)) T.Auction_counted_bids.b .nil pass0) (pa_cons (pe_fld (pv 1) rfl) pa_nil)))) (pss_cons (ps_if (pt_cmpR op_eq (pv 2) (pe_glob (v := .int (0)) rfl T.k_NO_SET ⟨_, rfl⟩) (nomark _)) (pss_one (ps_ret (pe_lst (pa_cons pe_int pa_nil)))) pss_nil) (pss_one (ps_ret (pe_lst (pa_cons pe_int (pa_cons (pv 2) pa_nil))))))), ?_⟩)
  obtain ⟨A, s, c, N, st, st1, r, cl, fs, rfl, hA, hO, hC, hnum, hcl, hcode, hex, k⟩ := h
  obtain ⟨v, rfl, rfl⟩ := hcl.at9 hnum
  obtain ⟨x, rfl, hxc, hl, _, _, rfl, rfl⟩ := opened 9 (fd9 v) hcode rfl (by decide) (by decide) (by decide) hex fun x _ hx hl => ex9 v hx (hl v rfl)
  have hlv := hl v rfl
  have hP := fitP_of hO hlv
  have hfs := firstSet_is hP
  rw [hlv] at hfs
  obtain ⟨dx, ra, h1, h2, h3, h4⟩ := id hA
  obtain ⟨dc, vq, hc1, q0, rfl, hq0, hN⟩ := hC
  refine ⟨_, rfl, A, dx, _, rfl, h1, aF_no _ _ _ (by decide +kernel), A, s, x, rfl, hA, hO, fun b H1 hb e1 hR => ?_⟩
  refine ⟨_, rfl, c, _, dc, _, _, rfl, e1 _ _ hc1, T.cl_Call, T.n_Call_row, cF_r _ _ _, b, q0, _, v, rfl, hR, e1 _ _ hq0, hP, fun H2 e2 => ?_⟩
  have e := e1.trans e2
  refine ⟨_, rfl, rfl, _, rfl, ?_⟩
  have ret : ∀ (l : List Int), l = fd9 v x (Vbndax.bidsOf x) → ∀ p, H2 p = none → Q (.ref p) (L2.upd H2 p (.lst (l.map V.int))) := fun l hl4 p hp => by
    have e5 := e.trans (Ex.new (o := .lst (l.map V.int)) hp)
    exact k p s _ (fresh_back e hp) (Fr2.of_ex e5) (.inl rfl) (hA.mono e5) (by rw [LI, upd_same, hl4])
  unfold fd9 at ret
  cases hO2 : Vbndax.firstOverdemanded (Vbndax.bidsOf x) v x.reserves.length with
  | none =>
    rw [hO2] at hfs ret
    rw [← hfs]
    exact if_true_of rfl ⟨sz_1, ret [0] rfl⟩
  | some z =>
    rw [hO2] at hfs ret
    have hz := (firstOd_pos (by have := hO.2.1; omega) (fit_rows (fit_of hO)) hO2).1
    have hzs : firstSet (Vbndax.bidsOf x) v = z := hfs.symm
    rw [hzs]
    have hne : (z : Int) ≠ 0 := by omega
    exact if_false_of (decide_eq_false fun h => hne (V.int.inj h)) ⟨_, rfl, sz_2, ret [1, (z : Int)] rfl⟩
theorem ok_get_clock (T : Tx K mg) : FnOk P w K mg base CX0 7 T.get_clock.f T.get_clock.fd ["auction", "call"] (OpSp T 10) := by
  have ok_with_length := ok_with_length (P := P) (w := w) (base := base) T
  have ok_run_clock := ok_run_clock (P := P) (w := w) (base := base) T
  have ok_Auction_counted_bids := ok_Auction_counted_bids (P := P) (w := w) (base := base) T
  refine T.get_clock.F.ok sc_get_clock (fun vs H Q E h => OpSp.len h) (fun cdv A outer s H vs Q E hr h => ⟨_, (pss_cons (ps_set (i := 2) sc_get_clock.nd rfl (Or.inl rfl) (pe_lst pa_nil)) (pss_cons (ps_for PassesOwn.never rfl (pi_tup (pe_call ok_run_clock hr rfl T.run_clock.g T.run_clock.kp T.run_clock.b .nil pass0 (pa_cons (pe_fld (pv 0) rfl) (pa_cons (pe_meth0 (pv 0) T.cl_Auction T.Auction_counted_bids.M ok_Auction_counted_bids (hr.mono (by decide)) T.Auction_counted_bids.b .nil pass0) pa_nil)))) (pg_name (i := 3) sc_get_clock.nd rfl (Or.inl rfl)) (pss_one (ps_expr (pe_bm PySem.F.plainAttrs_list PySem.F.slot_list_extend PySem.F.type_list_extend mt_extend (pv 2) (pa_cons (pe_call ok_with_length (hr.mono (by decide)) rfl T.with_length.g T.with_length.kp T.with_length.b .nil pass0 (pa_cons (pv 3) pa_nil)) pa_nil))))) (pss_one (ps_ret (pv 2))))), ?_⟩)
  obtain ⟨A, s, c, N, st, st1, r, cl, fs, rfl, hA, hO, hC, hnum, hcl, hcode, hex, k⟩ := h
  obtain ⟨rfl, rfl⟩ := hcl.at10 hnum
  obtain ⟨x, rfl, hxc, hl, _, _, rfl, rfl⟩ := opened 10 fd10 hcode rfl (by decide) (by decide) (by decide) hex fun x _ hx _ => ex10 hx
  have hP : FitP (toI x.reserves) (Vbndax.bidsOf x) := fitP_of hO (toI_len _)
  refine ⟨Nat.zero_le _, fun p hp => ?_⟩
  have e0 : Ex H (upd H p (.lst [])) := Ex.new hp
  obtain ⟨dx, ra, h1, h2, h3, h4⟩ := id (hA.mono e0)
  refine ⟨_, rfl, A, _, dx, _, _, rfl, h1, T.cl_Auction, T.n_Auction_reserves, aF_r _ _ _, _, rfl, A, dx, _, rfl, h1, aF_no _ _ _ (by decide +kernel), A, s, x, rfl, hA.mono e0, hO, fun b H1 hb e1 hR => ?_⟩
  have hms := meas_start x.reserves
  have hr4 := hO.2.1
  refine ⟨ra, b, toI x.reserves, _, rfl, e1 _ _ h2, hR, hP, fun row hr => (bids_row hO row hr).2, by rw [toI_len]; unfold fuel Vbndax.maxBid; omega, fun t l1 l2 H2 ht hf1 hf2 e2 ht2 hl1 hl2 => ?_⟩
  rw [toI_len] at hl1 hl2
  have htot := run_len (Vbndax.bidsOf x) x.reserves.length (fuel x.reserves.length) (toI x.reserves)
  have hfl : fuel x.reserves.length ≤ 245 := by unfold fuel Vbndax.maxBid; omega
  rw [toI_len] at htot
  have hrc : Vbndax.runClock x.reserves (Vbndax.bidsOf x) = Vbndax.runClockFrom (Vbndax.bidsOf x) x.reserves.length (fuel x.reserves.length) (toI x.reserves) := rfl
  rw [← hrc] at hl1 hl2 htot
  have e := (e0.trans e1).trans e2
  have hp2 : LI H2 p [] := e2 _ _ (e1 _ _ upd_same)
  have htp : t ≠ p := fun z => by rw [z, e1 _ _ upd_same] at ht; cases ht
  have hfd : fd10 x (Vbndax.bidsOf x) = Vbndax.withLength (toI (Vbndax.runClock x.reserves (Vbndax.bidsOf x)).1) ++ Vbndax.withLength (Vbndax.runClock x.reserves (Vbndax.bidsOf x)).2 := rfl
  rw [hfd] at k
  generalize Vbndax.runClock x.reserves (Vbndax.bidsOf x) = rc at hl1 hl2 htot k
  have hn1 : l1 ≠ p := fun z => by rw [z, e1 _ _ upd_same] at hf1; cases hf1
  have hn2 : l2 ≠ p := fun z => by rw [z, e1 _ _ upd_same] at hf2; cases hf2
  have hwl : ∀ l : List Int, (Vbndax.withLength l).length = l.length + 1 := fun l => rfl
  refine ⟨t, rfl, ⟨_, Evl.st_of ht2⟩, for_tup (K := K) (a := t) (xs := [.ref l1, .ref l2]) (fun i σ H' => ∃ u, σ = [some (.ref A), some (.ref c), some (.ref p), u] ∧ Ex H H' ∧ (∀ b o, b ≠ p → H2 b = some o → H' b = some o) ∧ LI H' p ((([toI rc.1, rc.2] : List (List Int)).take i).flatMap Vbndax.withLength)) ⟨_, rfl, e, fun b o _ h => h, hp2⟩ (fun i σ H' _ ⟨_, _, _, k3, _⟩ => Evl.st_of (k3 _ _ htp ht2)) ?_ ?_⟩
  · rintro i y σ H3 hi ⟨u, rfl, e3, k3, hl3⟩
    obtain ⟨lj, L, hy, hL, hlj, hljp, hLl⟩ : ∃ lj L, y = .ref lj ∧ ([toI rc.1, rc.2] : List (List Int))[i]? = some L ∧ LI H2 lj L ∧ lj ≠ p ∧ L.length ≤ 245 := by
      match i, hi with
      | 0, hi => exact ⟨l1, toI rc.1, by simpa using hi.symm, rfl, hl1, hn1, by rw [toI_len]; omega⟩
      | 1, hi => exact ⟨l2, rc.2, by simpa using hi.symm, rfl, hl2, hn2, by omega⟩
      | n + 2, hi => simp at hi
    subst hy
    have hsz : ((([toI rc.1, rc.2] : List (List Int)).take i).flatMap Vbndax.withLength).length ≤ 500 := by
      have h9 : ((([toI rc.1, rc.2] : List (List Int)).take i).flatMap Vbndax.withLength).length ≤ (([toI rc.1, rc.2] : List (List Int)).flatMap Vbndax.withLength).length := by
        conv => rhs; rw [← List.take_append_drop i ([toI rc.1, rc.2] : List (List Int)), List.flatMap_append, List.length_append]
        exact Nat.le_add_right _ _
      have h10 : (([toI rc.1, rc.2] : List (List Int)).flatMap Vbndax.withLength).length = rc.1.length + 1 + (rc.2.length + 1) := by
        show (Vbndax.withLength (toI rc.1) ++ (Vbndax.withLength rc.2 ++ [])).length = _
        rw [List.append_nil, List.length_append, hwl, hwl, toI_len]
      omega
    refine ⟨_, rfl, Or.inl ⟨rfl, _, sq_of hl3⟩, _, rfl, lj, L, rfl, k3 _ _ hljp hlj, by omega, fun q H4 hq e4 hq4 => ?_⟩
    refine ⟨p, q, _, _, rfl, rfl, e4 _ _ hl3, hq4, ?_, _, rfl, Ex.mut (e3.trans e4) hp, fun b o hb h => by rw [upd_ne hb]; exact e4 _ _ (k3 b o hb h), ?_⟩
    · rw [List.length_map, List.length_map, hwl]
      exact sz1 (by omega)
    · rw [LI, take_more hL, List.flatMap_append, List.map_append]
      show (upd H4 p _) p = some (.lst (_ ++ (Vbndax.withLength L ++ []).map V.int))
      rw [List.append_nil]
      exact upd_same
  · rintro σ H3 ⟨u, rfl, e3, k3, hl3⟩
    refine ⟨_, rfl, k p s H3 hp (Fr2.of_ex e3) (.inl rfl) (hA.mono e3) ?_⟩
    have hl3 : LI H3 p (Vbndax.withLength (toI rc.1) ++ (Vbndax.withLength rc.2 ++ [])) := hl3
    rw [List.append_nil] at hl3
    exact hl3
end Sl
/-! # The operations on one bidder -/
namespace Sl
open PySem PySem.Spec PyProof.Rows L2 Mir
open Evl (Ex Ex.refl Ex.trans Ex.new Ex.mut fresh_back sz_of sz_lt ex_l sq_of RetL RetV given)
variable {P : Program} {w : World} {K : PySem.W.Frag} {mg : Str → Option Value} {base : Heap}
theorem fit_set {x : Vbndax.Auction} (h : StOk (some x)) {k : Nat} {v : List Int} (hv : v.length = x.reserves.length) : Fit4 (toI x.reserves) ((Vbndax.bidsOf x).set k v) := by
  have hF := fit_of h
  refine ⟨hF.1, by rw [List.length_set]; exact hF.2.1, fun row hr => ?_⟩
  rcases List.mem_or_eq_of_mem_set hr with c | c
  · exact hF.2.2 row c
  · rw [c, toI_len]
    exact hv
def sp_hypothetical_outcome (T : Tx K mg) : Sp := fun vs H Q _ => ∃ (A s c : Addr) (N : Addr → Prop) (x : Vbndax.Auction) (n : Int) (k : Nat) (v : List Int), vs = [.ref A, .ref c] ∧ AuctAt T H A s (some x) ∧ StOk (some x) ∧ CallX T H N c (n, some (k : Int), some v) ∧ k < 5 ∧ v.length = x.reserves.length ∧
  ∀ (t : Addr) (H' : Hp) (o : Int × Int), Ex H H' → (outs (toI x.reserves) ((Vbndax.bidsOf x).set k v))[k]? = some o → H' t = some (.tup [.int o.1, .int o.2]) → Q (.ref t) H'
theorem ok_hypothetical_outcome (T : Tx K mg) : FnOk P w K mg base CX0 7 T.hypothetical_outcome.f T.hypothetical_outcome.fd ["auction", "call"] (sp_hypothetical_outcome T) := by
  have ok_outcomes := ok_outcomes (P := P) (w := w) (base := base) T
  have ok_Auction_counted_bids_with := ok_Auction_counted_bids_with (P := P) (w := w) (base := base) T
  refine T.hypothetical_outcome.F.ok sc_hypothetical_outcome (fun vs H Q E h => by obtain ⟨A, s, c, N, x, n, k, v, rfl, _⟩ := h; rfl) (fun cdv A outer s H vs Q E hr h => ⟨_, (pss_one (ps_ret (pe_ix (r := rIxL K) ix_list (pe_call ok_outcomes hr rfl T.outcomes.g T.outcomes.kp T.outcomes.b .nil pass0 (pa_cons (pe_fld (pv 0) rfl) (pa_cons (pe_meth (pv 0) T.cl_Auction T.Auction_counted_bids_with.M ok_Auction_counted_bids_with (hr.mono (by decide)) T.Auction_counted_bids_with.b .nil pass0 (pa_cons (pe_fld (pv 1) rfl) (pa_cons (pe_fld (pv 1) rfl) pa_nil))) pa_nil))) (pe_fld (pv 1) rfl) (fun _ _ => rfl)))), ?_⟩)
  obtain ⟨A, s, c, N, x, n, k, v, rfl, hA, hO, hC, hk, hlv, kk⟩ := h
  have hF := fit_set hO hlv (k := k)
  obtain ⟨dx, ra, h1, h2, h3, h4⟩ := id hA
  obtain ⟨dc, vq, hc1, q0, rfl, hq0, hN⟩ := hC
  refine ⟨_, rfl, A, _, dx, _, _, rfl, h1, T.cl_Auction, T.n_Auction_reserves, aF_r _ _ _, _, rfl, A, dx, _, rfl, h1, aF_no _ _ _ (by decide +kernel), ?_⟩
  refine ⟨_, rfl, c, _, dc, _, _, rfl, hc1, T.cl_Call, T.n_Call_bidder, cF_b _ _ _, _, rfl, c, _, dc, _, _, rfl, hc1, T.cl_Call, T.n_Call_row, cF_r _ _ _, A, s, q0, x, k, v, rfl, hA, hO, hk, hq0, fun b H1 hb e1 hR => ?_⟩
  refine ⟨ra, b, toI x.reserves, _, rfl, e1 _ _ h2, hR, hF, fun q H2 as hq e2 hq2 hP => ?_⟩
  obtain ⟨o, ho⟩ : ∃ o, (outs (toI x.reserves) ((Vbndax.bidsOf x).set k v))[k]? = some o := ⟨_, List.getElem?_eq_getElem (by rw [outs_len, List.length_set, bids_len hO]; exact hk)⟩
  obtain ⟨a, ha⟩ : ∃ a, as[k]? = some a := ⟨_, List.getElem?_eq_getElem (by rw [hP.1, outs_len, List.length_set, bids_len hO]; exact hk)⟩
  obtain ⟨o2, ho2, hao⟩ := hP.2 k a ha
  rw [ho] at ho2
  cases ho2
  exact ⟨_, rfl, c, _, dc, _, _, rfl, e2 _ _ (e1 _ _ hc1), T.cl_Call, T.n_Call_bidder, cF_b _ _ _, q, _, _, .ref a, rfl, rfl, sq_of hq2, atI_nat (by rw [List.getElem?_map, ha]; rfl), kk a H2 o (e1.trans e2) ho hao⟩
theorem ok_get_hypothetical_result (T : Tx K mg) : FnOk P w K mg base CX0 8 T.get_hypothetical_result.f T.get_hypothetical_result.fd ["auction", "call"] (OpSp T 11) := by
  have ok_hypothetical_outcome := ok_hypothetical_outcome (P := P) (w := w) (base := base) T
  refine T.get_hypothetical_result.F.ok sc_get_hypothetical_result (fun vs H Q E h => OpSp.len h) (fun cdv A outer s H vs Q E hr h => ⟨_, (pss_one (ps_ret (pe_callTy call_list_of (by rfl) T.b_list (by decide +kernel) (pa_cons (pe_call ok_hypothetical_outcome hr rfl T.hypothetical_outcome.g T.hypothetical_outcome.kp T.hypothetical_outcome.b .nil pass0 (pa_cons (pv 0) (pa_cons (pv 1) pa_nil))) pa_nil)))), ?_⟩)
  obtain ⟨A, s, c, N, st, st1, r, cl, fs, rfl, hA, hO, hC, hnum, hcl, hcode, hex, k⟩ := h
  obtain ⟨i, v, rfl, rfl⟩ := hcl.at11 hnum
  obtain ⟨x, rfl, hxc, hl, hbi, _, rfl, rfl⟩ := opened 11 (fd11 i v) hcode rfl (by decide) (by decide) (by decide) hex fun x _ hx hl => ex11 i v hx (hl v rfl)
  have hlv := hl v rfl
  obtain ⟨n, rfl, hn⟩ := bid_nat hbi
  have hout := outs_at (fit_set hO hlv (k := n)) (by rw [List.length_set, bids_len hO]) hn
  refine ⟨_, rfl, _, rfl, A, s, c, _, x, _, n, v, rfl, hA, hO, hC, hn, hlv, fun t H1 o e1 ho ht => ?_⟩
  rw [hout] at ho
  cases ho
  refine ⟨t, _, rfl, .inr (Evl.st_of ht), fun p hp => ?_⟩
  have e := e1.trans (Ex.new (o := .lst [.int (Vbndax.lotNumber (Vbndax.lotOfBidder (Vbndax.bestAllocation x.reserves ((Vbndax.bidsOf x).set n v)).2 n)), .int (Vbndax.payment x ((Vbndax.bidsOf x).set n v) n)]) hp)
  exact k p s _ (fresh_back e1 hp) (Fr2.of_ex e) (.inl rfl) (hA.mono e) upd_same
theorem ok_get_utility (T : Tx K mg) : FnOk P w K mg base CX0 7 T.get_utility.f T.get_utility.fd ["auction", "call"] (OpSp T 12) := by
  have ok_outcomes := ok_outcomes (P := P) (w := w) (base := base) T
  have ok_utility_of := ok_utility_of (P := P) (w := w) (base := base) T
  have ok_Auction_counted_bids := ok_Auction_counted_bids (P := P) (w := w) (base := base) T
  refine T.get_utility.F.ok sc_get_utility (fun vs H Q E h => OpSp.len h) (fun cdv A outer s H vs Q E hr h => ⟨_, (pss_cons (ps_set (i := 2) sc_get_utility.nd rfl (Or.inl rfl) (pe_ix (r := rIxL K) ix_list (pe_call ok_outcomes hr rfl T.outcomes.g T.outcomes.kp T.outcomes.b .nil pass0 (pa_cons (pe_fld (pv 0) rfl) (pa_cons (pe_meth0 (pv 0) T.cl_Auction T.Auction_counted_bids.M ok_Auction_counted_bids (hr.mono (by decide)) T.Auction_counted_bids.b .nil pass0) pa_nil))) (pe_fld (pv 1) rfl) (fun _ _ => rfl))) (pss_one (ps_ret (pe_lst (pa_cons (pe_call ok_utility_of (hr.mono (by decide)) rfl T.utility_of.g T.utility_of.kp T.utility_of.b .nil pass0 (pa_cons (pv 2) (pa_cons (pe_fld (pv 1) rfl) pa_nil))) pa_nil))))), ?_⟩)
  obtain ⟨A, s, c, N, st, st1, r, cl, fs, rfl, hA, hO, hC, hnum, hcl, hcode, hex, k⟩ := h
  obtain ⟨i, v, rfl, rfl⟩ := hcl.at12 hnum
  obtain ⟨x, rfl, hxc, hl, hbi, hro, rfl, rfl⟩ := opened 12 (fd12 i v) hcode rfl (by decide) (by decide) (by decide) hex fun x _ hx hl => ex12 i v hx (hl v rfl)
  have hlv := hl v rfl
  obtain ⟨n, rfl, hn⟩ := bid_nat hbi
  obtain ⟨hvn, _⟩ := vec_nat (row_facts hro).2.1
  have hF := fit_of hO
  have hout := outs_at hF (bids_len hO) hn
  obtain ⟨dx, ra, h1, h2, h3, h4⟩ := id hA
  obtain ⟨dc, vq, hc1, q0, rfl, hq0, hN⟩ := hC
  refine ⟨_, rfl, A, _, dx, _, _, rfl, h1, T.cl_Auction, T.n_Auction_reserves, aF_r _ _ _, _, rfl, A, dx, _, rfl, h1, aF_no _ _ _ (by decide +kernel), A, s, x, rfl, hA, hO, fun b H1 hb e1 hR => ?_⟩
  refine ⟨ra, b, toI x.reserves, _, rfl, e1 _ _ h2, hR, hF, fun q H2 as hq e2 hq2 hP => ?_⟩
  have e := e1.trans e2
  obtain ⟨a, ha⟩ : ∃ a, as[n]? = some a := ⟨_, List.getElem?_eq_getElem (by rw [hP.1, outs_len, bids_len hO]; exact hn)⟩
  obtain ⟨o, ho, hao⟩ := hP.2 n a ha
  have hlot := outs_lot hF ho
  rw [hout] at ho
  cases ho
  refine ⟨_, rfl, c, _, dc, _, _, rfl, e _ _ hc1, T.cl_Call, T.n_Call_bidder, cF_b _ _ _, q, _, _, .ref a, rfl, rfl, sq_of hq2, atI_nat (by rw [List.getElem?_map, ha]; rfl), ?_⟩
  refine ⟨_, rfl, _, rfl, c, _, dc, _, _, rfl, e _ _ hc1, T.cl_Call, T.n_Call_row, cF_r _ _ _, a, q0, _, v, rfl, hao, e _ _ hq0, by rw [hlv, ← toI_len]; exact hlot, fun H3 e3 => ⟨sz_1, fun p hp => ?_⟩⟩
  have e' := e.trans e3
  have e'' := e'.trans (Ex.new (o := .lst [.int (utilOf v (Vbndax.lotNumber (Vbndax.lotOfBidder (Vbndax.bestAllocation x.reserves (Vbndax.bidsOf x)).2 n), Vbndax.payment x (Vbndax.bidsOf x) n))]) hp)
  refine k p s _ (fresh_back e' hp) (Fr2.of_ex e'') (.inl rfl) (hA.mono e'') ?_
  have hu := util_is (x := x) (b := Vbndax.bidsOf x) (i := n) (v := v.map Int.toNat) (by rw [List.length_map]; exact hlv)
  rw [hvn] at hu
  rw [LI, upd_same, hu]
  rfl
theorem ok_get_truthful_utility (T : Tx K mg) : FnOk P w K mg base CX0 8 T.get_truthful_utility.f T.get_truthful_utility.fd ["auction", "call"] (OpSp T 13) := by
  have ok_hypothetical_outcome := ok_hypothetical_outcome (P := P) (w := w) (base := base) T
  have ok_utility_of := ok_utility_of (P := P) (w := w) (base := base) T
  refine T.get_truthful_utility.F.ok sc_get_truthful_utility (fun vs H Q E h => OpSp.len h) (fun cdv A outer s H vs Q E hr h => ⟨_, (pss_one (ps_ret (pe_lst (pa_cons (pe_call ok_utility_of (hr.mono (by decide)) rfl T.utility_of.g T.utility_of.kp T.utility_of.b .nil pass0 (pa_cons (pe_call ok_hypothetical_outcome hr rfl T.hypothetical_outcome.g T.hypothetical_outcome.kp T.hypothetical_outcome.b .nil pass0 (pa_cons (pv 0) (pa_cons (pv 1) pa_nil))) (pa_cons (pe_fld (pv 1) rfl) pa_nil))) pa_nil)))), ?_⟩)
  obtain ⟨A, s, c, N, st, st1, r, cl, fs, rfl, hA, hO, hC, hnum, hcl, hcode, hex, k⟩ := h
  obtain ⟨i, v, rfl, rfl⟩ := hcl.at13 hnum
  obtain ⟨x, rfl, hxc, hl, hbi, hro, rfl, rfl⟩ := opened 13 (fd13 i v) hcode rfl (by decide) (by decide) (by decide) hex fun x _ hx hl => ex13 i v hx (hl v rfl)
  have hlv := hl v rfl
  obtain ⟨n, rfl, hn⟩ := bid_nat hbi
  obtain ⟨hvn, _⟩ := vec_nat (row_facts hro).2.1
  have hF := fit_set hO hlv (k := n)
  have hout := outs_at hF (by rw [List.length_set, bids_len hO]) hn
  refine ⟨_, rfl, _, rfl, A, s, c, _, x, _, n, v, rfl, hA, hO, hC, hn, hlv, fun t H1 o e1 ho ht => ?_⟩
  have hlot := outs_lot hF ho
  rw [hout] at ho
  cases ho
  obtain ⟨dc, vq, hc1, q0, rfl, hq0, hN⟩ := hC
  refine ⟨_, rfl, c, _, dc, _, _, rfl, e1 _ _ hc1, T.cl_Call, T.n_Call_row, cF_r _ _ _, t, q0, _, v, rfl, ht, e1 _ _ hq0, by rw [hlv, ← toI_len]; exact hlot, fun H3 e3 => ⟨sz_1, fun p hp => ?_⟩⟩
  have e' := e1.trans e3
  have e'' := e'.trans (Ex.new (o := .lst [.int (utilOf v (Vbndax.lotNumber (Vbndax.lotOfBidder (Vbndax.bestAllocation x.reserves ((Vbndax.bidsOf x).set n v)).2 n), Vbndax.payment x ((Vbndax.bidsOf x).set n v) n))]) hp)
  refine k p s _ (fresh_back e' hp) (Fr2.of_ex e'') (.inl rfl) (hA.mono e'') ?_
  have hu := util_is (x := x) (b := (Vbndax.bidsOf x).set n v) (i := n) (v := v.map Int.toNat) (by rw [List.length_map]; exact hlv)
  rw [hvn] at hu
  rw [LI, upd_same, hu]
  rfl
theorem RowsAt.erase {H : Hp} {as : List Addr} {B : List (List Int)} {k : Nat} (h : RowsAt H as B) (hk : k < as.length) : RowsAt H (as.eraseIdx k) (B.eraseIdx k) := by
  refine ⟨by rw [List.length_eraseIdx_of_lt hk, List.length_eraseIdx_of_lt (by rw [← h.1]; exact hk), h.1], fun i a z => ?_⟩
  rw [List.getElem?_eraseIdx] at z ⊢
  split at z
  · rename_i c
    rw [if_pos c]
    exact h.2 i a z
  · rename_i c
    rw [if_neg c]
    exact h.2 (i + 1) a z
theorem ok_get_total_without (T : Tx K mg) : FnOk P w K mg base CX0 5 T.get_total_without.f T.get_total_without.fd ["auction", "call"] (OpSp T 14) := by
  have ok_maximum_value := ok_maximum_value (P := P) (w := w) (base := base) T
  have ok_without := ok_without (P := P) (w := w) (base := base) T
  have ok_Auction_counted_bids := ok_Auction_counted_bids (P := P) (w := w) (base := base) T
  refine T.get_total_without.F.ok sc_get_total_without (fun vs H Q E h => OpSp.len h) (fun cdv A outer s H vs Q E hr h => ⟨_, (pss_one (ps_ret (pe_lst (pa_cons (pe_call ok_maximum_value hr rfl T.maximum_value.g T.maximum_value.kp T.maximum_value.b .nil pass0 (pa_cons (pe_fld (pv 0) rfl) (pa_cons (pe_call ok_without (hr.mono (by decide)) rfl T.without.g T.without.kp T.without.b .nil pass0 (pa_cons (pe_meth0 (pv 0) T.cl_Auction T.Auction_counted_bids.M ok_Auction_counted_bids (hr.mono (by decide)) T.Auction_counted_bids.b .nil pass0) (pa_cons (pe_fld (pv 1) rfl) pa_nil))) pa_nil))) pa_nil)))), ?_⟩)
  obtain ⟨A, s, c, N, st, st1, r, cl, fs, rfl, hA, hO, hC, hnum, hcl, hcode, hex, k⟩ := h
  obtain ⟨i, rfl, rfl⟩ := hcl.at14 hnum
  obtain ⟨x, rfl, hxc, hl, hbi, _, rfl, rfl⟩ := opened 14 (fd14 i) hcode rfl (by decide) (by decide) (by decide) hex fun x _ hx hl => ex14 i hx
  obtain ⟨n, rfl, hn⟩ := bid_nat hbi
  have hF := fit_of hO
  have h5 := bids_len hO
  have hsub : ∀ row ∈ (Vbndax.bidsOf x).eraseIdx n, row ∈ Vbndax.bidsOf x := fun row hr => List.mem_of_mem_eraseIdx hr
  have hmv := maxValue_is x.reserves ((Vbndax.bidsOf x).eraseIdx n) (by have := hO.2.1; omega) fun row hr => fit_rows hF row (hsub row hr)
  obtain ⟨dx, ra, h1, h2, h3, h4⟩ := id hA
  obtain ⟨dc, vq, hc1, hv⟩ := hC
  refine ⟨_, rfl, A, _, dx, _, _, rfl, h1, T.cl_Auction, T.n_Auction_reserves, aF_r _ _ _, _, rfl, A, dx, _, rfl, h1, aF_no _ _ _ (by decide +kernel), A, s, x, rfl, hA, hO, fun b H1 hb e1 ⟨as, hR1, hR⟩ => ?_⟩
  have has : as.length = 5 := by rw [hR.1, h5]
  refine ⟨_, rfl, c, _, dc, _, _, rfl, e1 _ _ hc1, T.cl_Call, T.n_Call_bidder, cF_b _ _ _, b, _, n, rfl, hR1, by rw [List.length_map, has]; exact hn, by rw [List.length_map]; omega, fun b2 H2 hb2 e2 hb22 => ?_⟩
  rw [erase_map] at hb22
  refine ⟨ra, b2, toI x.reserves, _, rfl, e2 _ _ (e1 _ _ h2), ⟨_, hb22, (hR.erase (by omega)).mono e2⟩, ⟨hF.fit.1, ?_, fun row hr => hF.fit.2.2 row (hsub row hr)⟩, fun H3 e3 => ⟨sz_1, fun p hp => ?_⟩⟩
  · rw [List.length_eraseIdx_of_lt (by omega)]
    omega
  have e := (e1.trans e2).trans e3
  have e' := e.trans (Ex.new (o := .lst [.int (maxValue (toI x.reserves) ((Vbndax.bidsOf x).eraseIdx n))]) hp)
  refine k p s _ (fresh_back e hp) (Fr2.of_ex e') (.inl rfl) (hA.mono e') ?_
  rw [LI, upd_same, hmv]
  rfl
end Sl
/-! # The other operations -/
namespace Sl
open PySem PySem.Spec PyProof.Rows L2 Mir
open Evl (Ex Ex.refl Ex.trans Ex.new Ex.mut fresh_back sz_of sz_lt ex_l sq_of RetL RetV given)
variable {P : Program} {w : World} {K : PySem.W.Frag} {mg : Str → Option Value} {base : Heap}
theorem flat_len {n : Nat} : ∀ {l : List (List Int)}, (∀ row ∈ l, row.length = n) → (l.flatMap id).length = l.length * n
  | [], _ => by simp
  | a :: l, h => by
    rw [List.flatMap_cons, List.length_append, flat_len (fun r hr => h r (List.mem_cons_of_mem _ hr)), List.length_cons, Nat.succ_mul]
    have := h a (List.mem_cons_self ..)
    show a.length + _ = _
    omega
theorem ex15 (x : Vbndax.Auction) : Vbndax.execute (some x) .listSubmitted = (some x, 0 :: Vbndax.toInts (x.sealedBids.map fun y => if y.isSome = true then 1 else 0)) := rfl
theorem ex17 (x : Vbndax.Auction) : Vbndax.execute (some x) .summary = (some x, 0 :: Vbndax.toInts ([x.reserves.length] ++ x.reserves ++ [if x.isClosed = true then 1 else 0])) := rfl
theorem ex0 (st : Option Vbndax.Auction) (v : List Int) : Vbndax.execute st (.newAuction v) = (some (begun (v.map Int.toNat)), 0 :: []) := rfl
theorem ok_list_bids (T : Tx K mg) : FnOk P w K mg base CX0 2 T.list_bids.f T.list_bids.fd ["auction", "call"] (OpSp T 16) := by
  have ok_Auction_counted_bids := ok_Auction_counted_bids (P := P) (w := w) (base := base) T
  refine T.list_bids.F.ok sc_list_bids (fun vs H Q E h => OpSp.len h) (fun cdv A outer s H vs Q E hr h => ⟨_, (pss_cons (ps_set (i := 2) sc_list_bids.nd rfl (Or.inl rfl) (pe_lst pa_nil)) (pss_cons (ps_for PassesOwn.never rfl (pi_list (pe_meth0 (pv 0) T.cl_Auction T.Auction_counted_bids.M ok_Auction_counted_bids hr T.Auction_counted_bids.b .nil pass0)) (pg_name (i := 3) sc_list_bids.nd rfl (Or.inl rfl)) (pss_one (ps_expr (pe_bm PySem.F.plainAttrs_list PySem.F.slot_list_extend PySem.F.type_list_extend mt_extend (pv 2) (pa_cons (pv 3) pa_nil))))) (pss_one (ps_ret (pv 2))))), ?_⟩)
  obtain ⟨A, s, c, N, st, st1, r, cl, fs, rfl, hA, hO, hC, hnum, hcl, hcode, hex, k⟩ := h
  obtain ⟨rfl, rfl⟩ := hcl.at16 hnum
  obtain ⟨x, rfl, hxc, hl, _, _, rfl, rfl⟩ := opened 16 fd16 hcode rfl (by decide) (by decide) (by decide) hex fun x _ hx _ => ex16 hx
  have h5 := bids_len hO
  have hrow := fun row hr => (bids_row hO row hr).1
  refine ⟨Nat.zero_le _, fun p hp => ?_⟩
  have e0 : Ex H (upd H p (.lst [])) := Ex.new hp
  obtain ⟨dx, ra, h1, h2, h3, h4⟩ := id (hA.mono e0)
  refine ⟨_, rfl, A, dx, _, rfl, h1, aF_no _ _ _ (by decide +kernel), A, s, x, rfl, hA.mono e0, hO, fun b H1 hb e1 ⟨as, hR1, hR⟩ => ?_⟩
  have hlen : (as.map V.ref).length = 5 := by rw [List.length_map, hR.1, h5]
  have has : 0 < as.length := by rw [List.length_map] at hlen; omega
  have hbp : b ≠ p := fun z => by rw [z, upd_same] at hb; cases hb
  have hp1 : LI H1 p [] := e1 _ _ upd_same
  have e := e0.trans e1
  refine ⟨b, rfl, ⟨_, sq_of hR1⟩, for_list (K := K) (a := b) (xs := as.map V.ref) (fun i σ H' => ∃ u, σ = [some (.ref A), some (.ref c), some (.ref p), u] ∧ Ex H H' ∧ (∀ b o, b ≠ p → H1 b = some o → H' b = some o) ∧ LI H' p (((Vbndax.bidsOf x).take i).flatMap id)) ⟨_, rfl, e, fun b o _ h => h, hp1⟩ (fun i σ H' _ ⟨_, _, _, k3, _⟩ => sq_of (k3 _ _ hbp hR1)) ?_ ?_⟩
  · rintro i y σ H3 hi ⟨u, rfl, e3, k3, hl3⟩
    obtain ⟨q, hq, rfl⟩ := at_ref hi
    obtain ⟨row, hr1, hrl⟩ := hR.2 i q hq
    have hrn := hrow row (List.mem_of_getElem? hr1)
    have hqp : q ≠ p := fun z => by
      rw [z, LI, hp1] at hrl
      injection hrl with hrl
      injection hrl with hrl
      have := congrArg List.length hrl
      rw [List.length_map, List.length_map, hrn] at this
      have := hO.1
      simp at *
      omega
    have hi5 : i < 5 := by rw [← hlen]; exact (List.getElem?_eq_some_iff.mp hi).1
    have hfl := flat_len (l := (Vbndax.bidsOf x).take i) fun r hr => hrow r (List.mem_of_mem_take hr)
    have hr4 := hO.2.1
    have hsz : (((Vbndax.bidsOf x).take i).flatMap id).length ≤ 20 := by
      rw [hfl, List.length_take]
      calc min i (Vbndax.bidsOf x).length * x.reserves.length ≤ 5 * 4 := Nat.mul_le_mul (by omega) hr4
        _ = 20 := rfl
    refine ⟨_, rfl, Or.inl ⟨rfl, _, sq_of hl3⟩, _, rfl, p, q, _, _, rfl, rfl, hl3, k3 _ _ hqp hrl, ?_, _, rfl, Ex.mut e3 hp, fun b o hb h => by rw [upd_ne hb]; exact k3 b o hb h, ?_⟩
    · rw [List.length_map, List.length_map]
      exact sz1 (by omega)
    · rw [LI, take_more hr1, List.flatMap_append, List.map_append]
      show (upd H3 p _) p = some (.lst (_ ++ (row ++ []).map V.int))
      rw [List.append_nil]
      exact upd_same
  · rintro σ H3 ⟨u, rfl, e3, k3, hl3⟩
    refine ⟨_, rfl, k p s H3 hp (Fr2.of_ex e3) (.inl rfl) (hA.mono e3) ?_⟩
    rw [hlen, ← h5, List.take_length] at hl3
    have hfd : fd16 x (Vbndax.bidsOf x) = (Vbndax.bidsOf x).flatMap id := by
      unfold fd16
      exact flatMap_congr' fun row hr => by rw [← hrow row hr]; exact List.take_length
    rw [hfd]
    exact hl3
theorem ok_list_submitted (T : Tx K mg) : FnOk P w K mg base CX0 2 T.list_submitted.f T.list_submitted.fd ["auction", "call"] (OpSp T 15) := by
  have ok_Auction_has_submitted := ok_Auction_has_submitted (P := P) (w := w) (base := base) T
  refine T.list_submitted.F.ok sc_list_submitted (fun vs H Q E h => OpSp.len h) (fun cdv A outer s H vs Q E hr h => ⟨_, (pss_one (ps_ret (pe_lc (own := [("i", 2)]) rfl sc_list_submitted.nd (pi_range1 (by rfl) T.b_range (pa_cons (pe_glob (v := .int (5)) rfl T.k_BIDDERS ⟨_, rfl⟩) pa_nil)) (blkOk_by (own := [("i", 2)]) (N := N_list_submitted) (sc := defScope s_list_submitted) (by decide +kernel)) (fun _ _ _ _ _ => (pg_name (i := 2) sc_list_submitted.nd rfl (Or.inl rfl) (hf := Or.inr rfl))) (fun _ _ _ _ _ => pts_nil) (fun _ _ _ _ _ => (pe_callTy call_int1 (by rfl) T.b_int (by decide +kernel) (pa_cons (pe_meth (pv 0) T.cl_Auction T.Auction_has_submitted.M ok_Auction_has_submitted hr T.Auction_has_submitted.b .nil pass0 (pa_cons (pv 2) pa_nil)) pa_nil)))))), ?_⟩)
  obtain ⟨A, s, c, N, st, st1, r, cl, fs, rfl, hA, hO, hC, hnum, hcl, hcode, hex, k⟩ := h
  obtain ⟨rfl, rfl⟩ := hcl.at15 hnum
  obtain ⟨x, rfl⟩ := any_yes hcode (by decide) (by decide) (by decide)
  rw [ex15] at hex
  obtain ⟨e1, e2⟩ := pair_inj hex
  subst e1 e2
  have h5 := hO.2.2.2.1
  obtain ⟨dx, ra, h1, h2, h3, h4⟩ := id hA
  refine ⟨_, rfl, by decide, by decide, fun D hD => lc_map (walk_range (lo := 0) (n := 5)) ((Vbndax.toInts (x.sealedBids.map fun y => if y.isSome = true then 1 else 0)).map V.int) (by unfold Vbndax.toInts; simp [h5]) hD (by decide) (fun H e => trivial) ?_ ?_⟩
  · rintro i y H1 H2 z hi hz e1 ⟨rfl, rfl⟩ M k2
    show gName 2 (V.int (0 + (i : Int))) _ _ _
    rw [Int.zero_add]
    have hib : i < x.sealedBids.length := by omega
    refine ⟨rfl, _, rfl, A, dx, _, rfl, e1 _ _ h1, aF_no _ _ _ (by decide +kernel), _, rfl, A, s, x, i, rfl, hA.mono e1, hib, fun H3 e3 => ?_⟩
    refine .inr ⟨_, rfl, ?_⟩
    have hz' : z = .int (if (x.sealedBids.getD i none).isSome = true then 1 else 0) := by
      unfold Vbndax.toInts at hz
      rw [List.getElem?_map, List.getElem?_map, List.getElem?_map, List.getElem?_eq_getElem hib] at hz
      rw [List.getD_eq_getElem?_getD, List.getElem?_eq_getElem hib]
      have hz : some (V.int ((if (x.sealedBids[i]).isSome = true then 1 else 0 : Nat) : Int)) = some z := hz
      rw [← Option.some.inj hz]
      show _ = V.int (if (x.sealedBids[i]).isSome = true then 1 else 0)
      split <;> rfl
    rw [← hz']
    exact k2 _ e3
  · intro H1 e1 hD1
    exact k D s _ hD (Fr2.of_ex e1) (.inl rfl) (hA.mono e1) hD1
theorem ok_summary (T : Tx K mg) : FnOk P w K mg base CX0 1 T.summary.f T.summary.fd ["auction", "call"] (OpSp T 17) := by
  refine T.summary.F.ok sc_summary (fun vs H Q E h => OpSp.len h) (fun cdv A outer s H vs Q E hr h => ⟨_, (pss_one (ps_ret (pe_op op_cat (pe_op op_cat (pe_lst (pa_cons (pe_callB call_len_seq (by rfl) T.b_len PySem.boot_len (pa_cons (pe_fld (pv 0) rfl) pa_nil)) pa_nil)) (pe_fld (pv 0) rfl)) (pe_lst (pa_cons (pe_callTy call_int1 (by rfl) T.b_int (by decide +kernel) (pa_cons (pe_fld (pv 0) rfl) pa_nil)) pa_nil))))), ?_⟩)
  obtain ⟨A, s, c, N, st, st1, r, cl, fs, rfl, hA, hO, hC, hnum, hcl, hcode, hex, k⟩ := h
  obtain ⟨rfl, rfl⟩ := hcl.at17 hnum
  obtain ⟨x, rfl⟩ := any_yes hcode (by decide) (by decide) (by decide)
  rw [ex17] at hex
  obtain ⟨e1, e2⟩ := pair_inj hex
  subst e1 e2
  obtain ⟨dx, ra, h1, h2, h3, h4⟩ := id hA
  have hr4 := hO.2.1
  refine ⟨_, rfl, A, _, dx, _, _, rfl, h1, T.cl_Auction, T.n_Auction_reserves, aF_r _ _ _, ra, _, rfl, .inl (sq_of h2), sz_1, fun p hp => ?_⟩
  have e1 := Ex.new (o := .lst [.int (((toI x.reserves).map V.int).length : Nat)]) hp
  refine ⟨_, rfl, A, _, dx, _, _, rfl, e1 _ _ h1, T.cl_Auction, T.n_Auction_reserves, aF_r _ _ _, p, ra, _, _, rfl, rfl, upd_same, e1 _ _ h2, by rw [List.length_map, toI_len]; exact sz1 (by show 1 + _ ≤ 1000; omega), fun q hq => ?_⟩
  have e2 := e1.trans (Ex.new (o := .lst ([.int (((toI x.reserves).map V.int).length : Nat)] ++ (toI x.reserves).map V.int)) hq)
  refine ⟨_, rfl, A, _, dx, _, _, rfl, e2 _ _ h1, T.cl_Auction, T.n_Auction_closed, aF_c _ _ _, .inr ⟨_, rfl, sz_1, fun y hy => ?_⟩⟩
  have e3 := e2.trans (Ex.new (o := .lst [.int (if x.isClosed = true then 1 else 0)]) hy)
  have hyq : q ≠ y := fun z => by rw [← z, upd_same] at hy; cases hy
  refine ⟨q, y, _, _, rfl, rfl, (by rw [upd_ne hyq]; exact upd_same), upd_same, by rw [List.length_append, List.length_map, toI_len]; exact sz1 (by show 1 + _ + 1 ≤ 1000; omega), fun z hz => ?_⟩
  · have e4 := e3.trans (Ex.new (o := .lst ([.int (((toI x.reserves).map V.int).length : Nat)] ++ (toI x.reserves).map V.int ++ [.int (if x.isClosed = true then 1 else 0)])) hz)
    refine k z s _ (fresh_back e3 hz) (Fr2.of_ex e4) (.inl rfl) (hA.mono e4) ?_
    rw [LI, upd_same, List.length_map, toI_len]
    have hfin : (Vbndax.toInts ([x.reserves.length] ++ x.reserves ++ [if x.isClosed = true then 1 else 0])).map V.int = [V.int ((x.reserves.length : Nat) : Int)] ++ (toI x.reserves).map V.int ++ [.int (if x.isClosed = true then 1 else 0)] := by
      unfold Vbndax.toInts toI
      rw [List.map_append, List.map_append, List.map_append, List.map_append]
      congr 1
      show [V.int ((if x.isClosed = true then 1 else 0 : Nat) : Int)] = _
      cases x.isClosed <;> rfl
    rw [hfin]
theorem ok_close_auction (T : Tx K mg) : FnOk P w K mg base CX0 2 T.close_auction.f T.close_auction.fd ["auction", "call"] (OpSp T 2) := by
  have ok_Auction_shut := ok_Auction_shut (P := P) (w := w) (base := base) T
  have ok_Auction_how_many_submitted := ok_Auction_how_many_submitted (P := P) (w := w) (base := base) T
  refine T.close_auction.F.ok sc_close_auction (fun vs H Q E h => OpSp.len h) (fun cdv A outer s H vs Q E hr h => ⟨_, (pss_cons (ps_expr (pe_meth0 (pv 0) T.cl_Auction T.Auction_shut.M ok_Auction_shut hr T.Auction_shut.b .nil pass0)) (pss_one (ps_ret (pe_lst (pa_cons (pe_meth0 (pv 0) T.cl_Auction T.Auction_how_many_submitted.M ok_Auction_how_many_submitted hr T.Auction_how_many_submitted.b .nil pass0) pa_nil))))), ?_⟩)
  obtain ⟨A, s, c, N, st, st1, r, cl, fs, rfl, hA, hO, hC, hnum, hcl, hcode, hex, k⟩ := h
  obtain ⟨rfl, rfl⟩ := hcl.at2 hnum
  obtain ⟨x, rfl, hxc, _⟩ := before_yes hcode (by decide) (by decide) (by decide)
  have hex2 : Vbndax.execute (some x) .closeAuction = (some { x with isClosed := true }, 0 :: [((x.sealedBids.filter fun y => y.isSome).length : Int)]) := by
    show (if x.isClosed = true then (some x, [-6]) else _) = _
    rw [hxc]
    rfl
  rw [hex2] at hex
  obtain ⟨e1, e2⟩ := pair_inj hex
  subst e1 e2
  obtain ⟨dx, ra, h1, h2, h3, h4⟩ := id hA
  refine ⟨_, rfl, A, dx, _, rfl, h1, aF_no _ _ _ (by decide +kernel), A, s, x, rfl, hA, fun H1 k1 hA1 => ?_⟩
  obtain ⟨dx1, ra1, g1, g2, g3, g4⟩ := id hA1
  refine ⟨_, rfl, A, dx1, _, rfl, g1, aF_no _ _ _ (by decide +kernel), A, s, _, rfl, hA1, by show x.sealedBids.length ≤ 5; rw [hO.2.2.2.1]; decide, fun H2 e2 => ⟨sz_1, fun p hp => ?_⟩⟩
  have e3 := e2.trans (Ex.new (o := .lst [.int (((x.sealedBids.filter fun y => y.isSome).length : Nat) : Int)]) hp)
  have hpA : p ≠ A := fun z => by rw [z, e2 _ _ g1] at hp; cases hp
  have hpH : H p = none := by
    cases hz : H p with
    | none => rfl
    | some o => rw [e2 _ _ (k1 p o hz hpA)] at hp; cases hp
  exact k p s _ hpH (fun b o hb hbA hbs => e3 _ _ (k1 b o hb hbA)) (.inl rfl) (hA1.mono e3) upd_same
theorem ok_new_auction (T : Tx K mg) : FnOk P w K mg base CX0 2 T.new_auction.f T.new_auction.fd ["auction", "call"] (OpSp T 0) := by
  have ok_Auction_begin := ok_Auction_begin (P := P) (w := w) (base := base) T
  refine T.new_auction.F.ok sc_new_auction (fun vs H Q E h => OpSp.len h) (fun cdv A outer s H vs Q E hr h => ⟨_, (pss_cons (ps_expr (pe_meth (pv 0) T.cl_Auction T.Auction_begin.M ok_Auction_begin hr T.Auction_begin.b .nil pass0 (pa_cons (pe_fld (pv 1) rfl) pa_nil))) (pss_one (ps_ret (pe_lst pa_nil)))), ?_⟩)
  obtain ⟨A, s, c, N, st, st1, r, cl, fs, rfl, hA, hO, hC, hnum, hcl, hcode, hex, k⟩ := h
  obtain ⟨v, rfl, rfl⟩ := hcl.at0 hnum
  have hro := (valid_of hcode).2
  obtain ⟨hvn, _⟩ := vec_nat (row_facts hro).2.1
  rw [ex0] at hex
  obtain ⟨e1, e2⟩ := pair_inj hex
  subst e1 e2
  obtain ⟨dc, vq, hc1, q0, rfl, hq0, hN⟩ := hC
  obtain ⟨dx, rv, cv, h1, o, hs0⟩ := hA.fields
  refine ⟨_, rfl, A, dx, _, rfl, h1, aF_no _ _ _ (by decide +kernel), _, rfl, c, _, dc, _, _, rfl, hc1, T.cl_Call, T.n_Call_row, cF_r _ _ _, A, s, q0, st, v.map Int.toNat, rfl, hA, by rw [hvn]; exact hq0, hN.2, fun H1 s1 k1 hs1 hA1 => ?_⟩
  refine ⟨Nat.zero_le _, fun p hp => ?_⟩
  have e3 : Ex H1 (upd H1 p (.lst [])) := Ex.new hp
  obtain ⟨dx1, ra1, g1, g2, g3, g4⟩ := id hA1
  have hpA : p ≠ A := fun z => by rw [z, g1] at hp; cases hp
  have hpH : H p = none := by
    cases hz : H p with
    | none => rfl
    | some o => rw [k1 p o hz hpA] at hp; cases hp
  exact k p s1 _ hpH (fun b o hb hbA hbs => e3 _ _ (k1 b o hb hbA)) (.inr hs1) (hA1.mono e3) upd_same
theorem ok_submit_bid (T : Tx K mg) : FnOk P w K mg base CX0 2 T.submit_bid.f T.submit_bid.fd ["auction", "call"] (OpSp T 1) := by
  have ok_Auction_has_submitted := ok_Auction_has_submitted (P := P) (w := w) (base := base) T
  have ok_Auction_submit := ok_Auction_submit (P := P) (w := w) (base := base) T
  refine T.submit_bid.F.ok sc_submit_bid (fun vs H Q E h => OpSp.len h) (fun cdv A outer s H vs Q E hr h => ⟨_, (pss_cons (ps_set (i := 2) sc_submit_bid.nd rfl (Or.inl rfl) (pe_meth (pv 0) T.cl_Auction T.Auction_has_submitted.M ok_Auction_has_submitted hr T.Auction_has_submitted.b .nil pass0 (pa_cons (pe_fld (pv 1) rfl) pa_nil))) (pss_cons (ps_expr (pe_meth (pv 0) T.cl_Auction T.Auction_submit.M ok_Auction_submit hr T.Auction_submit.b .nil pass0 (pa_cons (pe_fld (pv 1) rfl) (pa_cons (pe_fld (pv 1) rfl) pa_nil)))) (pss_one (ps_ret (pe_lst (pa_cons (pe_callTy call_int1 (by rfl) T.b_int (by decide +kernel) (pa_cons (pv 2) pa_nil)) pa_nil)))))), ?_⟩)
  obtain ⟨A, s, c, N, st, st1, r, cl, fs, rfl, hA, hO, hC, hnum, hcl, hcode, hex, k⟩ := h
  obtain ⟨i, v, rfl, rfl⟩ := hcl.at1 hnum
  obtain ⟨x, rfl, hxc, hl, hbi, hro⟩ := before_yes hcode (by decide) (by decide) (by decide)
  have hlv := hl v rfl
  obtain ⟨n, rfl, hn⟩ := bid_nat hbi
  obtain ⟨hvn, _⟩ := vec_nat (row_facts hro).2.1
  have h5 := hO.2.2.2.1
  have hex2 : Vbndax.execute (some x) (.submitBid (n : Int) v) = (some { x with sealedBids := x.sealedBids.set n (some (v.map Int.toNat)) }, 0 :: [if ((x.sealedBids.getD n none).isSome) = true then 1 else 0]) := by
    refine (if_neg (c := x.isClosed = true) (t := (some x, [-6])) (e := Vbndax.withRowLength (some x) x v fun _ => (some { x with sealedBids := x.sealedBids.set ((n : Int)).toNat (some (v.map Int.toNat)) }, Vbndax.toInts [0, if ((x.sealedBids.getD ((n : Int)).toNat none).isSome) = true then 1 else 0])) (by rw [hxc]; decide)).trans ((row_eq hlv _).trans ?_)
    rw [Int.toNat_natCast]
    cases (x.sealedBids.getD n none).isSome <;> rfl
  rw [hex2] at hex
  obtain ⟨e1, e2⟩ := pair_inj hex
  subst e1 e2
  obtain ⟨dx, ra, h1, h2, h3, h4⟩ := id hA
  obtain ⟨dc, vq, hc1, q0, rfl, hq0, hN⟩ := hC
  refine ⟨_, rfl, A, dx, _, rfl, h1, aF_no _ _ _ (by decide +kernel), _, rfl, c, _, dc, _, _, rfl, hc1, T.cl_Call, T.n_Call_bidder, cF_b _ _ _, A, s, x, n, rfl, hA, by omega, fun H1 e1 => ?_⟩
  refine ⟨_, rfl, A, dx, _, rfl, e1 _ _ h1, aF_no _ _ _ (by decide +kernel), _, rfl, c, _, dc, _, _, rfl, e1 _ _ hc1, T.cl_Call, T.n_Call_bidder, cF_b _ _ _, _, rfl, c, _, dc, _, _, rfl, e1 _ _ hc1, T.cl_Call, T.n_Call_row, cF_r _ _ _, A, s, q0, x, n, v.map Int.toNat, rfl, hA.mono e1, by omega, by rw [hvn]; exact e1 _ _ hq0, hN.2, fun H2 k2 hA2 => ?_⟩
  refine ⟨_, rfl, .inr ⟨_, rfl, sz_1, fun p hp => ?_⟩⟩
  have e3 := Ex.new (o := .lst [.int (if (x.sealedBids.getD n none).isSome = true then 1 else 0)]) hp
  obtain ⟨dx2, ra2, g1, g2, g3, vs2, g4, _⟩ := id hA2
  have hps : p ≠ s := fun z => by rw [z, g4] at hp; cases hp
  have hpH : H p = none := by
    cases hz : H p with
    | none => rfl
    | some o => rw [k2 p o (e1 _ _ hz) hps] at hp; cases hp
  exact k p s _ hpH (fun b o hb hbA hbs => e3 _ _ (k2 b o (e1 _ _ hb) hbs)) (.inl rfl) (hA2.mono e3) upd_same
end Sl
/-! # The whole -/
namespace Sl
open PySem PySem.Spec PyProof.Rows L2 Mir
open Evl (Ex Ex.refl Ex.trans Ex.new Ex.mut fresh_back sz_of sz_lt ex_l sq_of RetL RetV given)
variable {P : Program} {w : World} {K : PySem.W.Frag} {mg : Str → Option Value} {base : Heap}
inductive OKS (T : Tx K mg) : Addr → Sp → Prop
  | o0 : OKS T T.new_auction.f (OpSp T 0)
  | o1 : OKS T T.submit_bid.f (OpSp T 1)
  | o2 : OKS T T.close_auction.f (OpSp T 2)
  | o3 : OKS T T.get_result.f (OpSp T 3)
  | o4 : OKS T T.get_minimum_prices.f (OpSp T 4)
  | o5 : OKS T T.get_maximum_prices.f (OpSp T 5)
  | o6 : OKS T T.get_total_value.f (OpSp T 6)
  | o7 : OKS T T.check_prices.f (OpSp T 7)
  | o8 : OKS T T.get_demand_set.f (OpSp T 8)
  | o9 : OKS T T.get_overdemanded_set.f (OpSp T 9)
  | o10 : OKS T T.get_clock.f (OpSp T 10)
  | o11 : OKS T T.get_hypothetical_result.f (OpSp T 11)
  | o12 : OKS T T.get_utility.f (OpSp T 12)
  | o13 : OKS T T.get_truthful_utility.f (OpSp T 13)
  | o14 : OKS T T.get_total_without.f (OpSp T 14)
  | o15 : OKS T T.list_submitted.f (OpSp T 15)
  | o16 : OKS T T.list_bids.f (OpSp T 16)
  | o17 : OKS T T.summary.f (OpSp T 17)
theorem OKS.ok {T : Tx K mg} {f : Addr} {sp : Sp} (h : OKS T f sp) : ∃ (fd : FuncData) (ps : List Str), FnOk P w K mg base CX0 8 f fd ps sp ∧ PySem.W.keepIn K (.ref f) = true ∧ Binds K fd ps [] := by
  cases h with
  | o0 => exact ⟨T.new_auction.fd, _, (ok_new_auction T).mono (by decide), T.new_auction.kp, T.new_auction.b⟩
  | o1 => exact ⟨T.submit_bid.fd, _, (ok_submit_bid T).mono (by decide), T.submit_bid.kp, T.submit_bid.b⟩
  | o2 => exact ⟨T.close_auction.fd, _, (ok_close_auction T).mono (by decide), T.close_auction.kp, T.close_auction.b⟩
  | o3 => exact ⟨T.get_result.fd, _, (ok_get_result T).mono (by decide), T.get_result.kp, T.get_result.b⟩
  | o4 => exact ⟨T.get_minimum_prices.fd, _, (ok_get_minimum_prices T).mono (by decide), T.get_minimum_prices.kp, T.get_minimum_prices.b⟩
  | o5 => exact ⟨T.get_maximum_prices.fd, _, (ok_get_maximum_prices T).mono (by decide), T.get_maximum_prices.kp, T.get_maximum_prices.b⟩
  | o6 => exact ⟨T.get_total_value.fd, _, (ok_get_total_value T).mono (by decide), T.get_total_value.kp, T.get_total_value.b⟩
  | o7 => exact ⟨T.check_prices.fd, _, (ok_check_prices T).mono (by decide), T.check_prices.kp, T.check_prices.b⟩
  | o8 => exact ⟨T.get_demand_set.fd, _, (ok_get_demand_set T).mono (by decide), T.get_demand_set.kp, T.get_demand_set.b⟩
  | o9 => exact ⟨T.get_overdemanded_set.fd, _, (ok_get_overdemanded_set T).mono (by decide), T.get_overdemanded_set.kp, T.get_overdemanded_set.b⟩
  | o10 => exact ⟨T.get_clock.fd, _, (ok_get_clock T).mono (by decide), T.get_clock.kp, T.get_clock.b⟩
  | o11 => exact ⟨T.get_hypothetical_result.fd, _, (ok_get_hypothetical_result T).mono (by decide), T.get_hypothetical_result.kp, T.get_hypothetical_result.b⟩
  | o12 => exact ⟨T.get_utility.fd, _, (ok_get_utility T).mono (by decide), T.get_utility.kp, T.get_utility.b⟩
  | o13 => exact ⟨T.get_truthful_utility.fd, _, (ok_get_truthful_utility T).mono (by decide), T.get_truthful_utility.kp, T.get_truthful_utility.b⟩
  | o14 => exact ⟨T.get_total_without.fd, _, (ok_get_total_without T).mono (by decide), T.get_total_without.kp, T.get_total_without.b⟩
  | o15 => exact ⟨T.list_submitted.fd, _, (ok_list_submitted T).mono (by decide), T.list_submitted.kp, T.list_submitted.b⟩
  | o16 => exact ⟨T.list_bids.fd, _, (ok_list_bids T).mono (by decide), T.list_bids.kp, T.list_bids.b⟩
  | o17 => exact ⟨T.summary.fd, _, (ok_summary T).mono (by decide), T.summary.kp, T.summary.b⟩
def PerfSp (T : Tx K mg) : Sp := fun vs H Q E => ∃ num, OpSp T num vs H Q E
theorem ok_perform (T : Tx K mg) : FnOk P w K mg base CX0 9 T.perform.f T.perform.fd ["auction", "call"] (PerfSp T) := by
  have hokE := fun f sp (h : OKS T f sp) => OKS.ok (P := P) (w := w) (base := base) h
  refine T.perform.F.ok sc_perform (fun vs H Q E ⟨_, h⟩ => OpSp.len h) (fun cdv A outer s H vs Q E hr h => ⟨_, (pss_one (ps_ret (pe_callE (OK := OKS T) (pe_ix (r := rIxI K) ix_kint (pe_glob (v := .ref T.a_OPERATIONS) rfl T.k_OPERATIONS rfl) (pe_fld (pv 1) rfl) (fun _ _ => rfl)) (pa_cons (pv 0) (pa_cons (pv 1) pa_nil)) hr hokE))), ?_⟩)
  obtain ⟨num, A, s, c, N, st, st1, r, cl, fs, rfl, hA, hO, hC, hnum, hcl, hcode, hex, k⟩ := h
  obtain ⟨f, hf, ho⟩ : ∃ f, findBy Value.isInt T.e_OPERATIONS r.1 = some (.ref f) ∧ OKS T f (OpSp T r.1) := by
    cases hcl with
    | c0 v => exact ⟨_, T.o_OPERATIONS_0, .o0⟩
    | c1 b v => exact ⟨_, T.o_OPERATIONS_1, .o1⟩
    | c2 => exact ⟨_, T.o_OPERATIONS_2, .o2⟩
    | c3 => exact ⟨_, T.o_OPERATIONS_3, .o3⟩
    | c4 => exact ⟨_, T.o_OPERATIONS_4, .o4⟩
    | c5 => exact ⟨_, T.o_OPERATIONS_5, .o5⟩
    | c6 => exact ⟨_, T.o_OPERATIONS_6, .o6⟩
    | c7 v => exact ⟨_, T.o_OPERATIONS_7, .o7⟩
    | c8 b v => exact ⟨_, T.o_OPERATIONS_8, .o8⟩
    | c9 v => exact ⟨_, T.o_OPERATIONS_9, .o9⟩
    | c10 => exact ⟨_, T.o_OPERATIONS_10, .o10⟩
    | c11 b v => exact ⟨_, T.o_OPERATIONS_11, .o11⟩
    | c12 b v => exact ⟨_, T.o_OPERATIONS_12, .o12⟩
    | c13 b v => exact ⟨_, T.o_OPERATIONS_13, .o13⟩
    | c14 b => exact ⟨_, T.o_OPERATIONS_14, .o14⟩
    | c15 => exact ⟨_, T.o_OPERATIONS_15, .o15⟩
    | c16 => exact ⟨_, T.o_OPERATIONS_16, .o16⟩
    | c17 => exact ⟨_, T.o_OPERATIONS_17, .o17⟩
  obtain ⟨dc, vq, hc1, hv⟩ := id hC
  exact ⟨_, rfl, c, _, dc, _, _, rfl, hc1, T.cl_Call, T.n_Call_number, cF_n _ _ _, _, _, _, _, _, .ref f, rfl, rfl, T.d_OPERATIONS, hf, rfl, f, _, rfl, ho, _, rfl, _, rfl, A, s, c, N, st, st1, r, cl, fs, rfl, hA, hO, hC, rfl, hcl, hcode, hex, k⟩
def sp_answer_to (T : Tx K mg) : Sp := fun vs H Q _ => ∃ (A s c : Addr) (N : Addr → Prop) (st : Option Vbndax.Auction) (r : Rec) (cl : Vbndax.Call), vs = [.ref A, .ref c] ∧ AuctAt T H A s st ∧ StOk st ∧ CallX T H (fun q => N q ∧ T.av q) c r ∧ Form r ∧ Calls r cl ∧ (Vbndax.step st cl).2.length ≤ 10000000 ∧
  ∀ (p s1 : Addr) (H' : Hp), (∀ b o, H b = some o → b ≠ A → b ≠ s → p ≠ b) → Fr2 H A s H' → (s1 = s ∨ H s1 = none) → AuctAt T H' A s1 (Vbndax.step st cl).1 → StOk (Vbndax.step st cl).1 → LI H' p (Vbndax.step st cl).2 → Q (.ref p) H'
theorem ok_answer_to (T : Tx K mg) : FnOk P w K mg base CX0 10 T.answer_to.f T.answer_to.fd ["auction", "call"] (sp_answer_to T) := by
  have ok_first_refusal := ok_first_refusal (P := P) (w := w) (base := base) T
  have ok_perform := ok_perform (P := P) (w := w) (base := base) T
  refine T.answer_to.F.ok sc_answer_to (fun vs H Q E h => by obtain ⟨A, s, c, N, st, r, cl, rfl, _⟩ := h; rfl) (fun cdv A outer s H vs Q E hr h => ⟨_, (pss_cons (ps_set (i := 2) sc_answer_to.nd rfl (Or.inl rfl) (pe_call ok_first_refusal (hr.mono (by decide)) rfl T.first_refusal.g T.first_refusal.kp T.first_refusal.b .nil pass0 (pa_cons (pv 0) (pa_cons (pv 1) pa_nil)))) (pss_cons (ps_if (pt_cmpR op_ne (pv 2) pe_int (nomark _)) (pss_one (ps_ret (pe_lst (pa_cons (pv 2) pa_nil)))) pss_nil) (pss_one (ps_ret (pe_op op_cat (pe_lst (pa_cons pe_int pa_nil)) (pe_call ok_perform hr rfl T.perform.g T.perform.kp T.perform.b .nil pass0 (pa_cons (pv 0) (pa_cons (pv 1) pa_nil)))))))), ?_⟩)
  obtain ⟨A, s, c, N, st, r, cl, rfl, hA, hO, hC, hF, hcl, hlen, k⟩ := h
  refine ⟨_, rfl, _, rfl, A, s, c, _, st, r, rfl, hA, hC, hF, fun H1 e1 => ?_⟩
  refine ⟨_, rfl, rfl, _, rfl, ?_⟩
  by_cases hcode : codeR st r = 0
  · obtain ⟨hstep, st1, fs, hex, hO1⟩ := code_yes hcl hO hcode
    rw [hstep, hex] at hlen k
    refine if_false_of (by rw [hcode]; rfl) ⟨sz_1, fun z hz => ?_⟩
    have e2 : Ex H (upd H1 z (.lst [.int 0])) := e1.trans (Ex.new hz)
    obtain ⟨dx, rv, cv, hA1, o, hs1⟩ := (hA.mono e1).fields
    have hzA : z ≠ A := fun h => by rw [h, hA1] at hz; cases hz
    have hzs : z ≠ s := fun h => by rw [h, hs1] at hz; cases hz
    refine ⟨_, rfl, _, rfl, r.1, A, s, c, N, st, st1, r, cl, fs, rfl, hA.mono e2, hO, hC.mono e2, rfl, hcl, hcode, hex, fun p s1 H2 hp hfr hs hA2 hl2 => ?_⟩
    have hz2 : H2 z = some (.lst [.int 0]) := hfr _ _ upd_same hzA hzs
    refine ⟨z, p, _, _, rfl, rfl, hz2, hl2, ?_, fun q hq => ?_⟩
    · rw [List.length_map]
      have h9 : (0 :: fs).length ≤ 10000000 := hlen
      rw [List.length_cons] at h9
      have : 10000000 ≤ sizeLine := by decide
      show 1 + _ ≤ sizeLine
      omega
    · have e3 : Ex H2 (upd H2 q (.lst ([.int 0] ++ fs.map V.int))) := Ex.new hq
      refine k q s1 _ (fun b o hb hbA hbs h => ?_) (fun b o hb hbA hbs => e3 _ _ (hfr b o (e2 _ _ hb) hbA hbs)) (hs.imp id fun h => fresh_back e2 h) (hA2.mono e3) hO1 upd_same
      rw [h, hfr b o (e2 _ _ hb) hbA hbs] at hq
      cases hq
  · have hstep := code_no hcl hcode
    rw [hstep] at k
    refine if_true_of (by rw [decide_eq_false fun z => hcode (V.int.inj z)]; rfl) ⟨_, rfl, sz_1, fun p hp => ?_⟩
    have e2 := e1.trans (Ex.new (o := .lst [.int (codeR st r)]) hp)
    exact k p s _ (fun b o hb _ _ h => by rw [h, e1 _ _ hb] at hp; cases hp) (Fr2.of_ex e2) (.inl rfl) (hA.mono e2) hO upd_same
/-! ### the calls of a request -/
theorem recs_of : ∀ (raw : List (List (List Int))) (g : Nat) (l : List Int), PyFlat.calls PyVbndax.shape g l = some raw → ∃ rs : List Rec, raw = rs.map unRec ∧ ∀ c ∈ rs, Form c
  | [], _, _, _ => ⟨[], rfl, fun c h => by cases h⟩
  | c :: raw, g, l, h => by
    cases l with
    | nil => cases calls_nil h
    | cons p r =>
      obtain ⟨g1, cs1, i, row, t, e, h1, _, hf⟩ := calls_step h
      injection e with e1 e2
      subst e2
      obtain ⟨rs, e3, h3⟩ := recs_of raw g1 t h1
      refine ⟨(p, i, row) :: rs, by rw [e1, e3]; rfl, fun c hc => ?_⟩
      rcases List.mem_cons.mp hc with rfl | hc
      · exact hf
      · exact h3 c hc
theorem whole_id {r : Rec} (h : Form r) : PyVbndax.whole (unRec r) = unRec r := by
  obtain ⟨cl, hcl⟩ := h.calls
  cases hcl <;> rfl
theorem answers_of {ns : List Int} {rs : List Rec} (h : PyFlat.calls PyVbndax.shape ns.length ns = some (rs.map unRec)) (hf : ∀ c ∈ rs, Form c) : PyVbndax.answers ns = PyFlat.told (PyFlat.played VbndaxNeutral.step VbndaxNeutral.start (rs.map unRec)) := by
  unfold PyVbndax.answers PyVbndax.calls
  rw [h]
  dsimp only
  have e : (rs.map unRec).map PyVbndax.whole = rs.map unRec := by
    rw [List.map_map]
    exact List.map_congr_left fun c hc => whole_id (hf c hc)
  rw [e]
theorem step_of {r : Rec} {cl : Vbndax.Call} (h : Calls r cl) (st : Option Vbndax.Auction) : VbndaxNeutral.step st (unRec r) = Vbndax.step st cl := by
  unfold VbndaxNeutral.step Vbndax.stepLists
  rw [h.decode]
theorem told_cons {st : Option Vbndax.Auction} {r : Rec} {cl : Vbndax.Call} (h : Calls r cl) (rest : List Rec) : PyFlat.told (PyFlat.played VbndaxNeutral.step st ((r :: rest).map unRec)) =
    (((Vbndax.step st cl).2.length : Int) :: (Vbndax.step st cl).2) ++ PyFlat.told (PyFlat.played VbndaxNeutral.step (Vbndax.step st cl).1 (rest.map unRec)) := by
  rw [List.map_cons, PyFlat.played, step_of h]
  rfl
def sp_answers (K : PySem.W.Frag) : Sp := fun vs H Q _ => ∃ (a : Addr) (ns : List Int), vs = [.ref a] ∧ SqL K H a (ns.map V.int) ∧ PyVbndax.answers_asked ns = true ∧ ∀ (H' : Hp) (p : Addr), H' p = some (.lst ((PyVbndax.answers ns).map V.int)) → Q (.ref p) H'
theorem asked_of {ns : List Int} (h : PyVbndax.answers_asked ns = true) : ∃ rs : List Rec, PyFlat.calls PyVbndax.shape ns.length ns = some (rs.map unRec) ∧ (∀ c ∈ rs, Form c) ∧ rs.length ≤ 60 ∧ (PyVbndax.answers ns).length ≤ 10000000 := by
  unfold PyVbndax.answers_asked at h
  cases hr : PyFlat.calls PyVbndax.shape ns.length ns with
  | none => rw [hr] at h; cases h
  | some raw =>
    rw [hr] at h
    dsimp only at h
    rw [Bool.and_eq_true, Bool.and_eq_true, Bool.and_eq_true, Bool.and_eq_true] at h
    obtain ⟨rs, rfl, hf⟩ := recs_of raw _ _ hr
    have h1 : decide ((rs.map unRec).length ≤ 60) = true := h.1.1.1.2
    have h2 : decide ((PyVbndax.answers ns).length ≤ 10000000) = true := h.2
    rw [decide_eq_true_eq] at h1 h2
    rw [List.length_map] at h1
    exact ⟨rs, rfl, hf, h1, h2⟩
theorem aF_ne_cF {r s c n b v : V} : aF r s c ≠ cF n b v := by
  intro h
  injection h with h _
  injection h with h _
  exact absurd h (by decide +kernel)
/-- a promise for each of many -/
theorem FnOk.ex {k : Nat} {f : Addr} {fd : FuncData} {ps : List Str} {α : Type} {sp : α → Sp} (F : ∀ a, FnOk P w K mg base CX0 k f fd ps (sp a)) : FnOk P w K mg base CX0 k f fd ps (fun vs H Q E => ∃ a, sp a vs H Q E) :=
  ⟨fun vs H Q E ⟨a, h⟩ => (F a).len vs H Q E h, fun A outer s H args us vs Q E hr he hb hv ⟨a, hs⟩ => (F a).run A outer s H args us vs Q E hr he hb hv hs⟩
def Tx.at (T : Tx K mg) (N : Addr → Prop) : Tx K mg := { T with av := N }
/-- what stands if another object changes -/
theorem AuctAt.keep {T : Tx K mg} {H H' : Hp} {A s p : Addr} {st : Option Vbndax.Auction} (h : AuctAt (T.at fun q => q ≠ p) H A s st) (hp : A ≠ p) (hs : s ≠ p) (k : ∀ b o, b ≠ p → H b = some o → H' b = some o) : AuctAt (T.at fun q => q ≠ p) H' A s st := by
  cases st with
  | none => obtain ⟨dx, h1, h2⟩ := h; exact ⟨dx, k _ _ hp h1, k _ _ hs h2⟩
  | some x =>
    obtain ⟨dx, r, h1, h2, h3, vs, h4, h5, h6⟩ := h
    exact ⟨dx, r, k _ _ hp h1, k _ _ h3.2 h2, h3, vs, k _ _ hs h4, h5, fun i v z => (h6 i v z).imp id fun ⟨l, q, a1, a2, a3, a4⟩ => ⟨l, q, a1, a2, k _ _ a4.2 a3, a4⟩⟩
theorem ok_answers (T : Tx K mg) : FnOk P w K mg base CX0 11 T.answers.f T.answers.fd ["calls"] (sp_answers K) := by
  have ok_Auction_init := ok_Auction_init (P := P) (w := w) (base := base) T
  have ok_split_calls := ok_split_calls (P := P) (w := w) (base := base) T
  have ok_answer_to := FnOk.ex (P := P) (w := w) (K := K) (mg := mg) (base := base) (k := 10) (f := T.answer_to.f) (fd := T.answer_to.fd) (ps := ["auction", "call"]) (sp := fun p : Addr => sp_answer_to (T.at fun q => q ≠ p)) fun p => ok_answer_to (P := P) (w := w) (base := base) (T.at fun q => q ≠ p)
  refine T.answers.F.ok sc_answers (fun vs H Q E h => by obtain ⟨a, ns, rfl, _⟩ := h; rfl) (fun cdv A outer s H vs Q E hr h => ⟨_, (pss_cons (ps_set (i := 1) sc_answers.nd rfl (Or.inl rfl) (pe_make0 T.mk_Auction ok_Auction_init (hr.mono (by decide)) rfl T.g_Auction T.Auction_init.b .nil pass0)) (pss_cons (ps_set (i := 2) sc_answers.nd rfl (Or.inl rfl) (pe_lst pa_nil)) (pss_cons (ps_for PassesOwn.never rfl (pi_list (pe_call ok_split_calls (hr.mono (by decide)) rfl T.split_calls.g T.split_calls.kp T.split_calls.b .nil pass0 (pa_cons (pv 0) pa_nil))) (pg_name (i := 3) sc_answers.nd rfl (Or.inl rfl)) (pss_cons (ps_set (i := 4) sc_answers.nd rfl (Or.inl rfl) (pe_call ok_answer_to hr rfl T.answer_to.g T.answer_to.kp T.answer_to.b .nil pass0 (pa_cons (pv 1) (pa_cons (pv 3) pa_nil)))) (pss_cons (ps_expr (pe_bm PySem.F.plainAttrs_list PySem.F.slot_list_append PySem.F.type_list_append mt_append (pv 2) (pa_cons (pe_callB call_len_seq (by rfl) T.b_len PySem.boot_len (pa_cons (pv 4) pa_nil)) pa_nil))) (pss_one (ps_expr (pe_bm PySem.F.plainAttrs_list PySem.F.slot_list_extend PySem.F.type_list_extend mt_extend (pv 2) (pa_cons (pv 4) pa_nil))))))) (pss_one (ps_ret (pv 2)))))), ?_⟩)
  obtain ⟨a, ns, rfl, ha, hask, k⟩ := h
  obtain ⟨rs, hcs, hf, h60, hlen⟩ := asked_of hask
  have hans := answers_of hcs hf
  -- auction = Auction()
  intro A0 dx hA0 hdx hne
  refine ⟨A0, dx, rfl, upd_same, fun H1 s0 hk1 hs0 hAu => ⟨rfl, ?_⟩⟩
  have e1 : Ex H H1 := fun b o h => hk1 b o (by rw [upd_ne (ne_of_none h hA0), upd_ne (ne_of_none h hdx)]; exact h) (ne_of_none h hA0)
  -- answered = []
  refine ⟨Nat.zero_le _, fun p hp => ?_⟩
  have e2 : Ex H (upd H1 p (.lst [])) := e1.trans (Ex.new hp)
  have e12 : Ex H1 (upd H1 p (.lst [])) := Ex.new hp
  obtain ⟨dA, hA1, hs1⟩ := id hAu
  have hps0 : p ≠ s0 := fun h => by rw [h, hs1] at hp; cases hp
  -- for call in split_calls(calls)
  refine ⟨_, rfl, a, ns, rs, _, rfl, ex_l e2 ha, hcs, h60, fun f H2 as hf2 e3 hfl hC => ?_⟩
  have hfs0 : f ≠ s0 := fun h => by rw [h, e12 _ _ hs1] at hf2; cases hf2
  have hfp : f ≠ p := fun h => by rw [h, upd_same] at hf2; cases hf2
  have hC0 : CallsX (T.at fun q => q ≠ p) H2 (fun q => q ≠ s0 ∧ q ≠ p) as rs := hC.keep (T := T.at fun q => q ≠ p) (fun c dx n b v h => h) fun q l hN h => by
    refine ⟨h, ?_, ?_⟩
    · rintro rfl
      have h9 := hN.2
      rw [e12 _ _ hs1] at h9
      cases h9
    · rintro rfl
      have h9 := hN.2
      rw [upd_same] at h9
      cases h9
  refine ⟨f, rfl, ⟨_, sq_of hfl⟩, for_list (K := K) (a := f) (xs := as.map V.ref) (fun i σ H' => ∃ (s : Addr) (st : Option Vbndax.Auction) (done : List Int) (u v : Option V), σ = [some (.ref a), some (.ref A0), some (.ref p), u, v] ∧ H' f = some (.lst (as.map V.ref)) ∧ CallsX (T.at fun q => q ≠ p) H' (fun q => q ≠ s ∧ q ≠ p) as rs ∧ AuctAt (T.at fun q => q ≠ p) H' A0 s st ∧ StOk st ∧ LI H' p done ∧ p ≠ s ∧ f ≠ s ∧
    done ++ PyFlat.told (PyFlat.played VbndaxNeutral.step st ((rs.drop i).map unRec)) = PyVbndax.answers ns) ⟨s0, none, [], _, _, rfl, hfl, hC0, (show AuctAt (T.at fun q => q ≠ p) H1 A0 s0 none from hAu).mono (e12.trans e3), trivial, e3 _ _ upd_same, hps0, hfs0, by rw [List.drop_zero, hans]; rfl⟩ (fun i σ H' _ ⟨_, _, _, _, _, _, h, _⟩ => sq_of h) ?_ ?_⟩
  · rintro i y σ H3 hi ⟨s, st, done, u, v, rfl, hfl3, hC3, hA3, hO3, hp3, hps, hfs, hd⟩
    obtain ⟨c, hc, rfl⟩ := at_ref hi
    obtain ⟨r, hr1, hcx⟩ := hC3.2 i c hc
    have hform := hf r (List.mem_of_getElem? hr1)
    obtain ⟨cl, hcl⟩ := hform.calls
    have hdrop : rs.drop i = r :: rs.drop (i + 1) := by
      rw [List.drop_eq_getElem_cons (List.getElem?_eq_some_iff.mp hr1).1, (List.getElem?_eq_some_iff.mp hr1).2]
    rw [hdrop, told_cons hcl] at hd
    have hl9 := congrArg List.length hd
    rw [List.length_append, List.length_append, List.length_cons] at hl9
    have hline : 10000000 ≤ sizeLine := by decide
    obtain ⟨dA3, rv3, cv3, hA4, o3, hs3⟩ := hA3.fields
    have hpA : p ≠ A0 := fun h => by rw [h, LI, hA4] at hp3; cases hp3
    have hfA : f ≠ A0 := fun h => by rw [h, hA4] at hfl3; cases hfl3
    refine ⟨_, rfl, _, rfl, p, A0, s, c, fun q => q ≠ s, st, r, cl, rfl, hA3, hO3, hcx, hform, hcl, by omega, fun q s1 H4 hq hfr hs hA5 hO5 hq4 => ?_⟩
    have hp4 := hfr _ _ hp3 hpA hps
    have hqp : q ≠ p := hq _ _ hp3 hpA hps
    have hqf : q ≠ f := hq _ _ hfl3 hfA hfs
    -- answered.append(len(answer)); answered.extend(answer)
    refine ⟨_, rfl, Or.inl ⟨rfl, _, sq_of hp4⟩, _, rfl, q, _, rfl, .inl (sq_of hq4), p, _, _, rfl, rfl, hp4, by rw [List.length_map]; omega, ?_⟩
    refine ⟨_, rfl, Or.inl ⟨rfl, _, sq_of upd_same⟩, _, rfl, p, q, _, _, rfl, rfl, upd_same, by rw [upd_ne hqp]; exact hq4, ?_, ?_⟩
    · rw [List.length_append, List.length_map, List.length_map]
      show done.length + 1 + _ ≤ sizeLine
      omega
    have hps1 : p ≠ s1 := by
      rcases hs with rfl | hs
      · exact hps
      · intro h
        rw [← h, hp3] at hs
        cases hs
    have hfs1 : f ≠ s1 := by
      rcases hs with rfl | hs
      · exact hfs
      · intro h
        rw [← h, hfl3] at hs
        cases hs
    have keepp : ∀ b o o1 o2, b ≠ p → H4 b = some o → (L2.upd (L2.upd H4 p o1) p o2) b = some o := fun b o o1 o2 hb h => by rw [upd_ne hb, upd_ne hb]; exact h
    refine ⟨s1, (Vbndax.step st cl).1, done ++ (((Vbndax.step st cl).2.length : Int) :: (Vbndax.step st cl).2), _, _, rfl, keepp _ _ _ _ hfp (hfr _ _ hfl3 hfA hfs), ?_, ?_, hO5, ?_, hps1, hfs1, ?_⟩
    · refine hC3.keep (fun c dx n b v h => ?_) fun q l hN h => ⟨?_, ?_, hN.2⟩
      · have h1 : c ≠ A0 := fun z => by rw [z, hA4] at h; injection h with h; injection h with _ _ h; exact aF_ne_cF h
        have h2 : c ≠ s := fun z => by rw [z, hs3] at h; cases h
        have h3 : c ≠ p := fun z => by rw [z, hp3] at h; cases h
        exact keepp _ _ _ _ h3 (hfr _ _ h h1 h2)
      · have h1 : q ≠ A0 := fun z => by rw [z, LI, hA4] at h; cases h
        exact keepp _ _ _ _ hN.2 (hfr _ _ h h1 hN.1)
      · rcases hs with rfl | hs
        · exact hN.1
        · intro z
          rw [LI, z, hs] at h
          cases h
    · exact hA5.keep (Ne.symm hpA) (Ne.symm hps1) fun b o hb h => keepp _ _ _ _ hb h
    · rw [LI, List.map_append, upd_same]
      have : done.map V.int ++ [V.int (((Vbndax.step st cl).2.map V.int).length : Nat)] ++ (Vbndax.step st cl).2.map V.int = done.map V.int ++ (((Vbndax.step st cl).2.length : Int) :: (Vbndax.step st cl).2).map V.int := by
        rw [List.length_map, List.append_assoc]
        rfl
      rw [this]
    · rw [List.append_assoc]
      exact hd
  · rintro σ H3 ⟨s, st, done, u, v, rfl, hfl3, hC3, hA3, hO3, hp3, hps, hfs, hd⟩
    have hdl : rs.drop (as.map V.ref).length = [] := List.drop_eq_nil_of_le (by rw [List.length_map, hC3.1]; exact Nat.le_refl _)
    rw [hdl] at hd
    have hd : done ++ [] = PyVbndax.answers ns := hd
    rw [List.append_nil] at hd
    subst hd
    exact ⟨_, rfl, k H3 p hp3⟩
end Sl
/-! # The end: what the top has written -/
namespace Sl
open PySem PySem.Spec PyProof.Rows L2
def Lies (K : PySem.W.Frag) (x qual : Str) (st : Stmt) (f : Addr) : Prop := ∃ (oc : Value) (od an : Option Addr) (sl : Array (Option Value)) (kV dc pm cd ct : Value),
  K.lookup f = some ⟨oc, od, .func (PySem.W.fnOf x qual (defArgs st) (defBody st) (defScope st) .none kV dc pm an cd ct), sl⟩ ∧ PySem.W.codeIn K cd qual = true ∧ PySem.W.keepIn K (.ref f) = true
theorem lies_mk {K : PySem.W.Frag} {x qual : Str} {st : Stmt} {f : Addr} {oc : Value} {od an : Option Addr} {sl : Array (Option Value)} {kV dc pm cd ct : Value}
    (l : K.lookup f = some ⟨oc, od, .func (PySem.W.fnOf x qual (defArgs st) (defBody st) (defScope st) .none kV dc pm an cd ct), sl⟩) (c : PySem.W.codeIn K cd qual = true) (k : PySem.W.keepIn K (.ref f) = true) : Lies K x qual st f := ⟨oc, od, an, sl, kV, dc, pm, cd, ct, l, c, k⟩
theorem Lies.df {K : PySem.W.Frag} {h : Heap} {mg : Str → Option Value} {x : Str} {st : Stmt} {f : Addr} {ps : List Str} (L : Lies K x x st f) (X : K.In h) (G : h.Ns mainGlobals mg) (a : PySem.W.nsIn K mainGlobals x = some (some (.ref f)))
    (hb : ∀ (kV doc pm : Value) (an : Option Addr) (cdv ct : Value) (us : List Value), us.length = ps.length → bindArgs (PySem.W.fnOf x x (defArgs st) (defBody st) (defScope st) .none kV doc pm an cdv ct) ⟨us, []⟩ = pure (ps.zip us)) : ∃ d : Df K mg x st ps, d.f = f := by
  obtain ⟨oc, od, an, sl, kV, dc, pm, cd, ct, l, c, k⟩ := L
  have F := fun_mk (st := st) l c k
  exact ⟨⟨f, _, F, PySem.W.mg_of X G a, k, F.binds hb, fun s us hu => .of_eq (hb kV dc pm an cd ct us hu)⟩, rfl⟩
theorem Lies.dm {K : PySem.W.Frag} {C : Addr} {x qual : Str} {st : Stmt} {f : Addr} {ps : List Str} (L : Lies K x qual st f) (a : PySem.W.findIn K (.ref C) x = some (some (.ref f))) (i : PySem.W.isFn K (.ref f) = true)
    (hb : ∀ (kV doc pm : Value) (an : Option Addr) (cdv ct : Value) (us : List Value), us.length = ps.length → bindArgs (PySem.W.fnOf x qual (defArgs st) (defBody st) (defScope st) .none kV doc pm an cdv ct) ⟨us, []⟩ = pure (ps.zip us)) : ∃ d : Dm K C x qual st ps, d.f = f := by
  obtain ⟨oc, od, an, sl, kV, dc, pm, cd, ct, l, c, k⟩ := L
  have F := fun_mk (st := st) l c k
  exact ⟨⟨f, _, F, ⟨a, i, k⟩, F.binds hb⟩, rfl⟩
def intsOf : List Value → Option (List Int)
  | [] => some []
  | .int k _ :: l => (intsOf l).map fun r => k :: r
  | _ :: _ => none
theorem vals_of : ∀ {l : List Value} {ns : List Int}, intsOf l = some ns → Vals (ns.map V.int) l
  | [], ns, h => by cases h; exact .nil
  | v :: l, ns, h => by
    cases v with
    | int k t =>
      unfold intsOf at h
      cases hl : intsOf l with
      | none => rw [hl] at h; cases h
      | some r =>
        rw [hl] at h
        cases h
        exact .cons (show RelV (.int k) (.int k t) from ⟨t, rfl⟩) (vals_of hl)
    | _ => cases h
theorem tup_ints {K : PySem.W.Frag} {H : Hp} {a : Addr} {d : Option Addr} {its : Array Value} {n : Nat} {sl : Array (Option Value)} {ns : List Int} (h : K.lookup a = some ⟨.type "tuple", d, .seq its n, sl⟩) (hv : intsOf its.toList = some ns) (hl : ns.length ≤ 1000) : SqT K H a (ns.map V.int) := by
  have v := vals_of hv
  refine .inr ⟨_, its, n, h, rfl, rfl, ?_, v⟩
  have h3 : ns.length = its.size := by
    have h4 := v.length
    simpa using h4
  exact sz1 (by omega)
theorem bd_unsold_values (kV doc pm : Value) (an : Option Addr) (cdv ct : Value) (us : List Value) (hl : us.length = (["reserves"] : List Str).length) : bindArgs (PySem.W.fnOf "unsold_values" "unsold_values" (defArgs s_unsold_values) (defBody s_unsold_values) (defScope s_unsold_values) .none kV doc pm an cdv ct) ⟨us, []⟩ = pure ((["reserves"] : List Str).zip us) := match us, hl with | [_], _ => rfl
theorem bd_choices (kV doc pm : Value) (an : Option Addr) (cdv ct : Value) (us : List Value) (hl : us.length = (["row", "left", "later"] : List Str).length) : bindArgs (PySem.W.fnOf "choices" "choices" (defArgs s_choices) (defBody s_choices) (defScope s_choices) .none kV doc pm an cdv ct) ⟨us, []⟩ = pure ((["row", "left", "later"] : List Str).zip us) := match us, hl with | [_, _, _], _ => rfl
theorem bd_best_choice (kV doc pm : Value) (an : Option Addr) (cdv ct : Value) (us : List Value) (hl : us.length = (["row", "left", "later"] : List Str).length) : bindArgs (PySem.W.fnOf "best_choice" "best_choice" (defArgs s_best_choice) (defBody s_best_choice) (defScope s_best_choice) .none kV doc pm an cdv ct) ⟨us, []⟩ = pure ((["row", "left", "later"] : List Str).zip us) := match us, hl with | [_, _, _], _ => rfl
theorem bd_value_tables (kV doc pm : Value) (an : Option Addr) (cdv ct : Value) (us : List Value) (hl : us.length = (["reserves", "bids"] : List Str).length) : bindArgs (PySem.W.fnOf "value_tables" "value_tables" (defArgs s_value_tables) (defBody s_value_tables) (defScope s_value_tables) .none kV doc pm an cdv ct) ⟨us, []⟩ = pure ((["reserves", "bids"] : List Str).zip us) := match us, hl with | [_, _], _ => rfl
theorem bd_maximum_value (kV doc pm : Value) (an : Option Addr) (cdv ct : Value) (us : List Value) (hl : us.length = (["reserves", "bids"] : List Str).length) : bindArgs (PySem.W.fnOf "maximum_value" "maximum_value" (defArgs s_maximum_value) (defBody s_maximum_value) (defScope s_maximum_value) .none kV doc pm an cdv ct) ⟨us, []⟩ = pure ((["reserves", "bids"] : List Str).zip us) := match us, hl with | [_, _], _ => rfl
theorem bd_returned_allocation (kV doc pm : Value) (an : Option Addr) (cdv ct : Value) (us : List Value) (hl : us.length = (["reserves", "bids"] : List Str).length) : bindArgs (PySem.W.fnOf "returned_allocation" "returned_allocation" (defArgs s_returned_allocation) (defBody s_returned_allocation) (defScope s_returned_allocation) .none kV doc pm an cdv ct) ⟨us, []⟩ = pure ((["reserves", "bids"] : List Str).zip us) := match us, hl with | [_, _], _ => rfl
theorem bd_minimum_prices (kV doc pm : Value) (an : Option Addr) (cdv ct : Value) (us : List Value) (hl : us.length = (["reserves", "bids"] : List Str).length) : bindArgs (PySem.W.fnOf "minimum_prices" "minimum_prices" (defArgs s_minimum_prices) (defBody s_minimum_prices) (defScope s_minimum_prices) .none kV doc pm an cdv ct) ⟨us, []⟩ = pure ((["reserves", "bids"] : List Str).zip us) := match us, hl with | [_, _], _ => rfl
theorem bd_maximum_prices (kV doc pm : Value) (an : Option Addr) (cdv ct : Value) (us : List Value) (hl : us.length = (["reserves", "bids"] : List Str).length) : bindArgs (PySem.W.fnOf "maximum_prices" "maximum_prices" (defArgs s_maximum_prices) (defBody s_maximum_prices) (defScope s_maximum_prices) .none kV doc pm an cdv ct) ⟨us, []⟩ = pure ((["reserves", "bids"] : List Str).zip us) := match us, hl with | [_, _], _ => rfl
theorem bd_without (kV doc pm : Value) (an : Option Addr) (cdv ct : Value) (us : List Value) (hl : us.length = (["row", "at"] : List Str).length) : bindArgs (PySem.W.fnOf "without" "without" (defArgs s_without) (defBody s_without) (defScope s_without) .none kV doc pm an cdv ct) ⟨us, []⟩ = pure ((["row", "at"] : List Str).zip us) := match us, hl with | [_, _], _ => rfl
theorem bd_demand_set (kV doc pm : Value) (an : Option Addr) (cdv ct : Value) (us : List Value) (hl : us.length = (["row", "prices"] : List Str).length) : bindArgs (PySem.W.fnOf "demand_set" "demand_set" (defArgs s_demand_set) (defBody s_demand_set) (defScope s_demand_set) .none kV doc pm an cdv ct) ⟨us, []⟩ = pure ((["row", "prices"] : List Str).zip us) := match us, hl with | [_, _], _ => rfl
theorem bd_first_wrong_lot (kV doc pm : Value) (an : Option Addr) (cdv ct : Value) (us : List Value) (hl : us.length = (["reserves", "allocation", "prices"] : List Str).length) : bindArgs (PySem.W.fnOf "first_wrong_lot" "first_wrong_lot" (defArgs s_first_wrong_lot) (defBody s_first_wrong_lot) (defScope s_first_wrong_lot) .none kV doc pm an cdv ct) ⟨us, []⟩ = pure ((["reserves", "allocation", "prices"] : List Str).zip us) := match us, hl with | [_, _, _], _ => rfl
theorem bd_first_discontent_bidder (kV doc pm : Value) (an : Option Addr) (cdv ct : Value) (us : List Value) (hl : us.length = (["bids", "allocation", "prices"] : List Str).length) : bindArgs (PySem.W.fnOf "first_discontent_bidder" "first_discontent_bidder" (defArgs s_first_discontent_bidder) (defBody s_first_discontent_bidder) (defScope s_first_discontent_bidder) .none kV doc pm an cdv ct) ⟨us, []⟩ = pure ((["bids", "allocation", "prices"] : List Str).zip us) := match us, hl with | [_, _, _], _ => rfl
theorem bd_how_many (kV doc pm : Value) (an : Option Addr) (cdv ct : Value) (us : List Value) (hl : us.length = (["members"] : List Str).length) : bindArgs (PySem.W.fnOf "how_many" "how_many" (defArgs s_how_many) (defBody s_how_many) (defScope s_how_many) .none kV doc pm an cdv ct) ⟨us, []⟩ = pure ((["members"] : List Str).zip us) := match us, hl with | [_], _ => rfl
theorem bd_sets_in_order (kV doc pm : Value) (an : Option Addr) (cdv ct : Value) (us : List Value) (hl : us.length = (["lots"] : List Str).length) : bindArgs (PySem.W.fnOf "sets_in_order" "sets_in_order" (defArgs s_sets_in_order) (defBody s_sets_in_order) (defScope s_sets_in_order) .none kV doc pm an cdv ct) ⟨us, []⟩ = pure ((["lots"] : List Str).zip us) := match us, hl with | [_], _ => rfl
theorem bd_wanted_sets (kV doc pm : Value) (an : Option Addr) (cdv ct : Value) (us : List Value) (hl : us.length = (["bids", "prices"] : List Str).length) : bindArgs (PySem.W.fnOf "wanted_sets" "wanted_sets" (defArgs s_wanted_sets) (defBody s_wanted_sets) (defScope s_wanted_sets) .none kV doc pm an cdv ct) ⟨us, []⟩ = pure ((["bids", "prices"] : List Str).zip us) := match us, hl with | [_, _], _ => rfl
theorem bd_is_overdemanded (kV doc pm : Value) (an : Option Addr) (cdv ct : Value) (us : List Value) (hl : us.length = (["members", "wanted"] : List Str).length) : bindArgs (PySem.W.fnOf "is_overdemanded" "is_overdemanded" (defArgs s_is_overdemanded) (defBody s_is_overdemanded) (defScope s_is_overdemanded) .none kV doc pm an cdv ct) ⟨us, []⟩ = pure ((["members", "wanted"] : List Str).zip us) := match us, hl with | [_, _], _ => rfl
theorem bd_first_overdemanded_set (kV doc pm : Value) (an : Option Addr) (cdv ct : Value) (us : List Value) (hl : us.length = (["bids", "prices"] : List Str).length) : bindArgs (PySem.W.fnOf "first_overdemanded_set" "first_overdemanded_set" (defArgs s_first_overdemanded_set) (defBody s_first_overdemanded_set) (defScope s_first_overdemanded_set) .none kV doc pm an cdv ct) ⟨us, []⟩ = pure ((["bids", "prices"] : List Str).zip us) := match us, hl with | [_, _], _ => rfl
theorem bd_raised (kV doc pm : Value) (an : Option Addr) (cdv ct : Value) (us : List Value) (hl : us.length = (["prices", "members"] : List Str).length) : bindArgs (PySem.W.fnOf "raised" "raised" (defArgs s_raised) (defBody s_raised) (defScope s_raised) .none kV doc pm an cdv ct) ⟨us, []⟩ = pure ((["prices", "members"] : List Str).zip us) := match us, hl with | [_, _], _ => rfl
theorem bd_run_clock (kV doc pm : Value) (an : Option Addr) (cdv ct : Value) (us : List Value) (hl : us.length = (["reserves", "bids"] : List Str).length) : bindArgs (PySem.W.fnOf "run_clock" "run_clock" (defArgs s_run_clock) (defBody s_run_clock) (defScope s_run_clock) .none kV doc pm an cdv ct) ⟨us, []⟩ = pure ((["reserves", "bids"] : List Str).zip us) := match us, hl with | [_, _], _ => rfl
theorem bd_outcomes (kV doc pm : Value) (an : Option Addr) (cdv ct : Value) (us : List Value) (hl : us.length = (["reserves", "bids"] : List Str).length) : bindArgs (PySem.W.fnOf "outcomes" "outcomes" (defArgs s_outcomes) (defBody s_outcomes) (defScope s_outcomes) .none kV doc pm an cdv ct) ⟨us, []⟩ = pure ((["reserves", "bids"] : List Str).zip us) := match us, hl with | [_, _], _ => rfl
theorem bd_payment_for (kV doc pm : Value) (an : Option Addr) (cdv ct : Value) (us : List Value) (hl : us.length = (["lot", "prices"] : List Str).length) : bindArgs (PySem.W.fnOf "payment_for" "payment_for" (defArgs s_payment_for) (defBody s_payment_for) (defScope s_payment_for) .none kV doc pm an cdv ct) ⟨us, []⟩ = pure ((["lot", "prices"] : List Str).zip us) := match us, hl with | [_, _], _ => rfl
theorem bd_utility_of (kV doc pm : Value) (an : Option Addr) (cdv ct : Value) (us : List Value) (hl : us.length = (["outcome", "values"] : List Str).length) : bindArgs (PySem.W.fnOf "utility_of" "utility_of" (defArgs s_utility_of) (defBody s_utility_of) (defScope s_utility_of) .none kV doc pm an cdv ct) ⟨us, []⟩ = pure ((["outcome", "values"] : List Str).zip us) := match us, hl with | [_, _], _ => rfl
theorem bd_Auction_init (kV doc pm : Value) (an : Option Addr) (cdv ct : Value) (us : List Value) (hl : us.length = (["self"] : List Str).length) : bindArgs (PySem.W.fnOf "__init__" "Auction.__init__" (defArgs s_Auction_init) (defBody s_Auction_init) (defScope s_Auction_init) .none kV doc pm an cdv ct) ⟨us, []⟩ = pure ((["self"] : List Str).zip us) := match us, hl with | [_], _ => rfl
theorem bd_Auction_begin (kV doc pm : Value) (an : Option Addr) (cdv ct : Value) (us : List Value) (hl : us.length = (["self", "reserves"] : List Str).length) : bindArgs (PySem.W.fnOf "begin" "Auction.begin" (defArgs s_Auction_begin) (defBody s_Auction_begin) (defScope s_Auction_begin) .none kV doc pm an cdv ct) ⟨us, []⟩ = pure ((["self", "reserves"] : List Str).zip us) := match us, hl with | [_, _], _ => rfl
theorem bd_Auction_has_submitted (kV doc pm : Value) (an : Option Addr) (cdv ct : Value) (us : List Value) (hl : us.length = (["self", "i"] : List Str).length) : bindArgs (PySem.W.fnOf "has_submitted" "Auction.has_submitted" (defArgs s_Auction_has_submitted) (defBody s_Auction_has_submitted) (defScope s_Auction_has_submitted) .none kV doc pm an cdv ct) ⟨us, []⟩ = pure ((["self", "i"] : List Str).zip us) := match us, hl with | [_, _], _ => rfl
theorem bd_Auction_how_many_submitted (kV doc pm : Value) (an : Option Addr) (cdv ct : Value) (us : List Value) (hl : us.length = (["self"] : List Str).length) : bindArgs (PySem.W.fnOf "how_many_submitted" "Auction.how_many_submitted" (defArgs s_Auction_how_many_submitted) (defBody s_Auction_how_many_submitted) (defScope s_Auction_how_many_submitted) .none kV doc pm an cdv ct) ⟨us, []⟩ = pure ((["self"] : List Str).zip us) := match us, hl with | [_], _ => rfl
theorem bd_Auction_submit (kV doc pm : Value) (an : Option Addr) (cdv ct : Value) (us : List Value) (hl : us.length = (["self", "i", "bids"] : List Str).length) : bindArgs (PySem.W.fnOf "submit" "Auction.submit" (defArgs s_Auction_submit) (defBody s_Auction_submit) (defScope s_Auction_submit) .none kV doc pm an cdv ct) ⟨us, []⟩ = pure ((["self", "i", "bids"] : List Str).zip us) := match us, hl with | [_, _, _], _ => rfl
theorem bd_Auction_shut (kV doc pm : Value) (an : Option Addr) (cdv ct : Value) (us : List Value) (hl : us.length = (["self"] : List Str).length) : bindArgs (PySem.W.fnOf "shut" "Auction.shut" (defArgs s_Auction_shut) (defBody s_Auction_shut) (defScope s_Auction_shut) .none kV doc pm an cdv ct) ⟨us, []⟩ = pure ((["self"] : List Str).zip us) := match us, hl with | [_], _ => rfl
theorem bd_Auction_counted_bids (kV doc pm : Value) (an : Option Addr) (cdv ct : Value) (us : List Value) (hl : us.length = (["self"] : List Str).length) : bindArgs (PySem.W.fnOf "counted_bids" "Auction.counted_bids" (defArgs s_Auction_counted_bids) (defBody s_Auction_counted_bids) (defScope s_Auction_counted_bids) .none kV doc pm an cdv ct) ⟨us, []⟩ = pure ((["self"] : List Str).zip us) := match us, hl with | [_], _ => rfl
theorem bd_Auction_counted_bids_with (kV doc pm : Value) (an : Option Addr) (cdv ct : Value) (us : List Value) (hl : us.length = (["self", "i", "row"] : List Str).length) : bindArgs (PySem.W.fnOf "counted_bids_with" "Auction.counted_bids_with" (defArgs s_Auction_counted_bids_with) (defBody s_Auction_counted_bids_with) (defScope s_Auction_counted_bids_with) .none kV doc pm an cdv ct) ⟨us, []⟩ = pure ((["self", "i", "row"] : List Str).zip us) := match us, hl with | [_, _, _], _ => rfl
theorem bd_new_auction (kV doc pm : Value) (an : Option Addr) (cdv ct : Value) (us : List Value) (hl : us.length = (["auction", "call"] : List Str).length) : bindArgs (PySem.W.fnOf "new_auction" "new_auction" (defArgs s_new_auction) (defBody s_new_auction) (defScope s_new_auction) .none kV doc pm an cdv ct) ⟨us, []⟩ = pure ((["auction", "call"] : List Str).zip us) := match us, hl with | [_, _], _ => rfl
theorem bd_submit_bid (kV doc pm : Value) (an : Option Addr) (cdv ct : Value) (us : List Value) (hl : us.length = (["auction", "call"] : List Str).length) : bindArgs (PySem.W.fnOf "submit_bid" "submit_bid" (defArgs s_submit_bid) (defBody s_submit_bid) (defScope s_submit_bid) .none kV doc pm an cdv ct) ⟨us, []⟩ = pure ((["auction", "call"] : List Str).zip us) := match us, hl with | [_, _], _ => rfl
theorem bd_close_auction (kV doc pm : Value) (an : Option Addr) (cdv ct : Value) (us : List Value) (hl : us.length = (["auction", "call"] : List Str).length) : bindArgs (PySem.W.fnOf "close_auction" "close_auction" (defArgs s_close_auction) (defBody s_close_auction) (defScope s_close_auction) .none kV doc pm an cdv ct) ⟨us, []⟩ = pure ((["auction", "call"] : List Str).zip us) := match us, hl with | [_, _], _ => rfl
theorem bd_get_result (kV doc pm : Value) (an : Option Addr) (cdv ct : Value) (us : List Value) (hl : us.length = (["auction", "call"] : List Str).length) : bindArgs (PySem.W.fnOf "get_result" "get_result" (defArgs s_get_result) (defBody s_get_result) (defScope s_get_result) .none kV doc pm an cdv ct) ⟨us, []⟩ = pure ((["auction", "call"] : List Str).zip us) := match us, hl with | [_, _], _ => rfl
theorem bd_get_minimum_prices (kV doc pm : Value) (an : Option Addr) (cdv ct : Value) (us : List Value) (hl : us.length = (["auction", "call"] : List Str).length) : bindArgs (PySem.W.fnOf "get_minimum_prices" "get_minimum_prices" (defArgs s_get_minimum_prices) (defBody s_get_minimum_prices) (defScope s_get_minimum_prices) .none kV doc pm an cdv ct) ⟨us, []⟩ = pure ((["auction", "call"] : List Str).zip us) := match us, hl with | [_, _], _ => rfl
theorem bd_get_maximum_prices (kV doc pm : Value) (an : Option Addr) (cdv ct : Value) (us : List Value) (hl : us.length = (["auction", "call"] : List Str).length) : bindArgs (PySem.W.fnOf "get_maximum_prices" "get_maximum_prices" (defArgs s_get_maximum_prices) (defBody s_get_maximum_prices) (defScope s_get_maximum_prices) .none kV doc pm an cdv ct) ⟨us, []⟩ = pure ((["auction", "call"] : List Str).zip us) := match us, hl with | [_, _], _ => rfl
theorem bd_get_total_value (kV doc pm : Value) (an : Option Addr) (cdv ct : Value) (us : List Value) (hl : us.length = (["auction", "call"] : List Str).length) : bindArgs (PySem.W.fnOf "get_total_value" "get_total_value" (defArgs s_get_total_value) (defBody s_get_total_value) (defScope s_get_total_value) .none kV doc pm an cdv ct) ⟨us, []⟩ = pure ((["auction", "call"] : List Str).zip us) := match us, hl with | [_, _], _ => rfl
theorem bd_check_prices (kV doc pm : Value) (an : Option Addr) (cdv ct : Value) (us : List Value) (hl : us.length = (["auction", "call"] : List Str).length) : bindArgs (PySem.W.fnOf "check_prices" "check_prices" (defArgs s_check_prices) (defBody s_check_prices) (defScope s_check_prices) .none kV doc pm an cdv ct) ⟨us, []⟩ = pure ((["auction", "call"] : List Str).zip us) := match us, hl with | [_, _], _ => rfl
theorem bd_get_demand_set (kV doc pm : Value) (an : Option Addr) (cdv ct : Value) (us : List Value) (hl : us.length = (["auction", "call"] : List Str).length) : bindArgs (PySem.W.fnOf "get_demand_set" "get_demand_set" (defArgs s_get_demand_set) (defBody s_get_demand_set) (defScope s_get_demand_set) .none kV doc pm an cdv ct) ⟨us, []⟩ = pure ((["auction", "call"] : List Str).zip us) := match us, hl with | [_, _], _ => rfl
theorem bd_get_overdemanded_set (kV doc pm : Value) (an : Option Addr) (cdv ct : Value) (us : List Value) (hl : us.length = (["auction", "call"] : List Str).length) : bindArgs (PySem.W.fnOf "get_overdemanded_set" "get_overdemanded_set" (defArgs s_get_overdemanded_set) (defBody s_get_overdemanded_set) (defScope s_get_overdemanded_set) .none kV doc pm an cdv ct) ⟨us, []⟩ = pure ((["auction", "call"] : List Str).zip us) := match us, hl with | [_, _], _ => rfl
theorem bd_get_clock (kV doc pm : Value) (an : Option Addr) (cdv ct : Value) (us : List Value) (hl : us.length = (["auction", "call"] : List Str).length) : bindArgs (PySem.W.fnOf "get_clock" "get_clock" (defArgs s_get_clock) (defBody s_get_clock) (defScope s_get_clock) .none kV doc pm an cdv ct) ⟨us, []⟩ = pure ((["auction", "call"] : List Str).zip us) := match us, hl with | [_, _], _ => rfl
theorem bd_get_hypothetical_result (kV doc pm : Value) (an : Option Addr) (cdv ct : Value) (us : List Value) (hl : us.length = (["auction", "call"] : List Str).length) : bindArgs (PySem.W.fnOf "get_hypothetical_result" "get_hypothetical_result" (defArgs s_get_hypothetical_result) (defBody s_get_hypothetical_result) (defScope s_get_hypothetical_result) .none kV doc pm an cdv ct) ⟨us, []⟩ = pure ((["auction", "call"] : List Str).zip us) := match us, hl with | [_, _], _ => rfl
theorem bd_get_utility (kV doc pm : Value) (an : Option Addr) (cdv ct : Value) (us : List Value) (hl : us.length = (["auction", "call"] : List Str).length) : bindArgs (PySem.W.fnOf "get_utility" "get_utility" (defArgs s_get_utility) (defBody s_get_utility) (defScope s_get_utility) .none kV doc pm an cdv ct) ⟨us, []⟩ = pure ((["auction", "call"] : List Str).zip us) := match us, hl with | [_, _], _ => rfl
theorem bd_get_truthful_utility (kV doc pm : Value) (an : Option Addr) (cdv ct : Value) (us : List Value) (hl : us.length = (["auction", "call"] : List Str).length) : bindArgs (PySem.W.fnOf "get_truthful_utility" "get_truthful_utility" (defArgs s_get_truthful_utility) (defBody s_get_truthful_utility) (defScope s_get_truthful_utility) .none kV doc pm an cdv ct) ⟨us, []⟩ = pure ((["auction", "call"] : List Str).zip us) := match us, hl with | [_, _], _ => rfl
theorem bd_hypothetical_outcome (kV doc pm : Value) (an : Option Addr) (cdv ct : Value) (us : List Value) (hl : us.length = (["auction", "call"] : List Str).length) : bindArgs (PySem.W.fnOf "hypothetical_outcome" "hypothetical_outcome" (defArgs s_hypothetical_outcome) (defBody s_hypothetical_outcome) (defScope s_hypothetical_outcome) .none kV doc pm an cdv ct) ⟨us, []⟩ = pure ((["auction", "call"] : List Str).zip us) := match us, hl with | [_, _], _ => rfl
theorem bd_get_total_without (kV doc pm : Value) (an : Option Addr) (cdv ct : Value) (us : List Value) (hl : us.length = (["auction", "call"] : List Str).length) : bindArgs (PySem.W.fnOf "get_total_without" "get_total_without" (defArgs s_get_total_without) (defBody s_get_total_without) (defScope s_get_total_without) .none kV doc pm an cdv ct) ⟨us, []⟩ = pure ((["auction", "call"] : List Str).zip us) := match us, hl with | [_, _], _ => rfl
theorem bd_list_submitted (kV doc pm : Value) (an : Option Addr) (cdv ct : Value) (us : List Value) (hl : us.length = (["auction", "call"] : List Str).length) : bindArgs (PySem.W.fnOf "list_submitted" "list_submitted" (defArgs s_list_submitted) (defBody s_list_submitted) (defScope s_list_submitted) .none kV doc pm an cdv ct) ⟨us, []⟩ = pure ((["auction", "call"] : List Str).zip us) := match us, hl with | [_, _], _ => rfl
theorem bd_list_bids (kV doc pm : Value) (an : Option Addr) (cdv ct : Value) (us : List Value) (hl : us.length = (["auction", "call"] : List Str).length) : bindArgs (PySem.W.fnOf "list_bids" "list_bids" (defArgs s_list_bids) (defBody s_list_bids) (defScope s_list_bids) .none kV doc pm an cdv ct) ⟨us, []⟩ = pure ((["auction", "call"] : List Str).zip us) := match us, hl with | [_, _], _ => rfl
theorem bd_summary (kV doc pm : Value) (an : Option Addr) (cdv ct : Value) (us : List Value) (hl : us.length = (["auction", "call"] : List Str).length) : bindArgs (PySem.W.fnOf "summary" "summary" (defArgs s_summary) (defBody s_summary) (defScope s_summary) .none kV doc pm an cdv ct) ⟨us, []⟩ = pure ((["auction", "call"] : List Str).zip us) := match us, hl with | [_, _], _ => rfl
theorem bd_with_length (kV doc pm : Value) (an : Option Addr) (cdv ct : Value) (us : List Value) (hl : us.length = (["row"] : List Str).length) : bindArgs (PySem.W.fnOf "with_length" "with_length" (defArgs s_with_length) (defBody s_with_length) (defScope s_with_length) .none kV doc pm an cdv ct) ⟨us, []⟩ = pure ((["row"] : List Str).zip us) := match us, hl with | [_], _ => rfl
theorem bd_perform (kV doc pm : Value) (an : Option Addr) (cdv ct : Value) (us : List Value) (hl : us.length = (["auction", "call"] : List Str).length) : bindArgs (PySem.W.fnOf "perform" "perform" (defArgs s_perform) (defBody s_perform) (defScope s_perform) .none kV doc pm an cdv ct) ⟨us, []⟩ = pure ((["auction", "call"] : List Str).zip us) := match us, hl with | [_, _], _ => rfl
theorem bd_Call_init (kV doc pm : Value) (an : Option Addr) (cdv ct : Value) (us : List Value) (hl : us.length = (["self", "number", "bidder", "row"] : List Str).length) : bindArgs (PySem.W.fnOf "__init__" "Call.__init__" (defArgs s_Call_init) (defBody s_Call_init) (defScope s_Call_init) .none kV doc pm an cdv ct) ⟨us, []⟩ = pure ((["self", "number", "bidder", "row"] : List Str).zip us) := match us, hl with | [_, _, _, _], _ => rfl
theorem bd_split_calls (kV doc pm : Value) (an : Option Addr) (cdv ct : Value) (us : List Value) (hl : us.length = (["numbers"] : List Str).length) : bindArgs (PySem.W.fnOf "split_calls" "split_calls" (defArgs s_split_calls) (defBody s_split_calls) (defScope s_split_calls) .none kV doc pm an cdv ct) ⟨us, []⟩ = pure ((["numbers"] : List Str).zip us) := match us, hl with | [_], _ => rfl
theorem bd_first_refusal (kV doc pm : Value) (an : Option Addr) (cdv ct : Value) (us : List Value) (hl : us.length = (["auction", "call"] : List Str).length) : bindArgs (PySem.W.fnOf "first_refusal" "first_refusal" (defArgs s_first_refusal) (defBody s_first_refusal) (defScope s_first_refusal) .none kV doc pm an cdv ct) ⟨us, []⟩ = pure ((["auction", "call"] : List Str).zip us) := match us, hl with | [_, _], _ => rfl
theorem bd_bidder_out_of_range (kV doc pm : Value) (an : Option Addr) (cdv ct : Value) (us : List Value) (hl : us.length = (["call"] : List Str).length) : bindArgs (PySem.W.fnOf "bidder_out_of_range" "bidder_out_of_range" (defArgs s_bidder_out_of_range) (defBody s_bidder_out_of_range) (defScope s_bidder_out_of_range) .none kV doc pm an cdv ct) ⟨us, []⟩ = pure ((["call"] : List Str).zip us) := match us, hl with | [_], _ => rfl
theorem bd_row_out_of_range (kV doc pm : Value) (an : Option Addr) (cdv ct : Value) (us : List Value) (hl : us.length = (["call"] : List Str).length) : bindArgs (PySem.W.fnOf "row_out_of_range" "row_out_of_range" (defArgs s_row_out_of_range) (defBody s_row_out_of_range) (defScope s_row_out_of_range) .none kV doc pm an cdv ct) ⟨us, []⟩ = pure ((["call"] : List Str).zip us) := match us, hl with | [_], _ => rfl
theorem bd_answers (kV doc pm : Value) (an : Option Addr) (cdv ct : Value) (us : List Value) (hl : us.length = (["calls"] : List Str).length) : bindArgs (PySem.W.fnOf "answers" "answers" (defArgs s_answers) (defBody s_answers) (defScope s_answers) .none kV doc pm an cdv ct) ⟨us, []⟩ = pure ((["calls"] : List Str).zip us) := match us, hl with | [_], _ => rfl
theorem bd_answer_to (kV doc pm : Value) (an : Option Addr) (cdv ct : Value) (us : List Value) (hl : us.length = (["auction", "call"] : List Str).length) : bindArgs (PySem.W.fnOf "answer_to" "answer_to" (defArgs s_answer_to) (defBody s_answer_to) (defScope s_answer_to) .none kV doc pm an cdv ct) ⟨us, []⟩ = pure ((["auction", "call"] : List Str).zip us) := match us, hl with | [_, _], _ => rfl
theorem all_mk {P : Program} {w : World} {K : PySem.W.Frag} {h : Heap} {mg : Str → Option Value} {fa : Addr} (X : K.In h) (G : h.Ns mainGlobals mg) (hfa : mg "answers" = some (.ref fa))
    {cAuction cCall f_unsold_values f_choices f_best_choice f_value_tables f_maximum_value f_returned_allocation f_minimum_prices f_maximum_prices f_without f_demand_set f_first_wrong_lot f_first_discontent_bidder f_how_many f_sets_in_order f_wanted_sets f_is_overdemanded f_first_overdemanded_set f_raised f_run_clock f_outcomes f_payment_for f_utility_of f_Auction_init f_Auction_begin f_Auction_has_submitted f_Auction_how_many_submitted f_Auction_submit f_Auction_shut f_Auction_counted_bids f_Auction_counted_bids_with f_new_auction f_submit_bid f_close_auction f_get_result f_get_minimum_prices f_get_maximum_prices f_get_total_value f_check_prices f_get_demand_set f_get_overdemanded_set f_get_clock f_get_hypothetical_result f_get_utility f_get_truthful_utility f_hypothetical_outcome f_get_total_without f_list_submitted f_list_bids f_summary f_with_length f_perform f_Call_init f_split_calls f_first_refusal f_bidder_out_of_range f_row_out_of_range f_answers f_answer_to : Addr} {tNONE tNO_SET tBIDDERS tNO_BID tOUT_OF_RANGE tNO_AUCTION tNOT_CLOSED tCLOSED tWRONG_LENGTH tNEW_AUCTION tMOST_LOTS : Tok}
    {aWITH_BIDDER aWITH_ROW aONLY_BEFORE_CLOSING aONLY_AFTER_CLOSING aOPERATIONS aLARGEST_IN_ROW : Addr} {iWITH_BIDDER iWITH_ROW iONLY_BEFORE_CLOSING iONLY_AFTER_CLOSING : Array Value} {eOPERATIONS eLARGEST_IN_ROW : Array DictEntry} {nWITH_BIDDER nWITH_ROW nONLY_BEFORE_CLOSING nONLY_AFTER_CLOSING mOPERATIONS mLARGEST_IN_ROW : Nat} {dWITH_BIDDER dWITH_ROW dONLY_BEFORE_CLOSING dONLY_AFTER_CLOSING : Option Addr} {sWITH_BIDDER sWITH_ROW sONLY_BEFORE_CLOSING sONLY_AFTER_CLOSING : Array (Option Value)}
    (zgAuction : PySem.W.nsIn K mainGlobals "Auction" = some (some (.ref cAuction)))
    (zpgAuction : PySem.W.plainGet K cAuction Str.empty = true)
    (zhdAuction : PySem.W.hasDictIn K cAuction = true)
    (zpoAuction : PySem.W.plainOver K cAuction = true)
    (zsaAuction : PySem.W.findIn K (.ref cAuction) "__setattr__" = some (some (.builtin "object.__setattr__")))
    (zmkAuction : PySem.W.makesIn K cAuction = true)
    (zkcAuction : PySem.W.keepIn K (.ref cAuction) = true)
    (znAuction_reserves : PySem.W.findIn K (.ref cAuction) "reserves" = some none)
    (znAuction_submitted : PySem.W.findIn K (.ref cAuction) "submitted" = some none)
    (znAuction_closed : PySem.W.findIn K (.ref cAuction) "closed" = some none)
    (zgCall : PySem.W.nsIn K mainGlobals "Call" = some (some (.ref cCall)))
    (zpgCall : PySem.W.plainGet K cCall Str.empty = true)
    (zhdCall : PySem.W.hasDictIn K cCall = true)
    (zpoCall : PySem.W.plainOver K cCall = true)
    (zsaCall : PySem.W.findIn K (.ref cCall) "__setattr__" = some (some (.builtin "object.__setattr__")))
    (zmkCall : PySem.W.makesIn K cCall = true)
    (zkcCall : PySem.W.keepIn K (.ref cCall) = true)
    (znCall_number : PySem.W.findIn K (.ref cCall) "number" = some none)
    (znCall_bidder : PySem.W.findIn K (.ref cCall) "bidder" = some none)
    (znCall_row : PySem.W.findIn K (.ref cCall) "row" = some none)
    (za_unsold_values : PySem.W.nsIn K mainGlobals "unsold_values" = some (some (.ref f_unsold_values)))
    (zl_unsold_values : Lies K "unsold_values" "unsold_values" s_unsold_values f_unsold_values)
    (za_choices : PySem.W.nsIn K mainGlobals "choices" = some (some (.ref f_choices)))
    (zl_choices : Lies K "choices" "choices" s_choices f_choices)
    (za_best_choice : PySem.W.nsIn K mainGlobals "best_choice" = some (some (.ref f_best_choice)))
    (zl_best_choice : Lies K "best_choice" "best_choice" s_best_choice f_best_choice)
    (za_value_tables : PySem.W.nsIn K mainGlobals "value_tables" = some (some (.ref f_value_tables)))
    (zl_value_tables : Lies K "value_tables" "value_tables" s_value_tables f_value_tables)
    (za_maximum_value : PySem.W.nsIn K mainGlobals "maximum_value" = some (some (.ref f_maximum_value)))
    (zl_maximum_value : Lies K "maximum_value" "maximum_value" s_maximum_value f_maximum_value)
    (za_returned_allocation : PySem.W.nsIn K mainGlobals "returned_allocation" = some (some (.ref f_returned_allocation)))
    (zl_returned_allocation : Lies K "returned_allocation" "returned_allocation" s_returned_allocation f_returned_allocation)
    (za_minimum_prices : PySem.W.nsIn K mainGlobals "minimum_prices" = some (some (.ref f_minimum_prices)))
    (zl_minimum_prices : Lies K "minimum_prices" "minimum_prices" s_minimum_prices f_minimum_prices)
    (za_maximum_prices : PySem.W.nsIn K mainGlobals "maximum_prices" = some (some (.ref f_maximum_prices)))
    (zl_maximum_prices : Lies K "maximum_prices" "maximum_prices" s_maximum_prices f_maximum_prices)
    (za_without : PySem.W.nsIn K mainGlobals "without" = some (some (.ref f_without)))
    (zl_without : Lies K "without" "without" s_without f_without)
    (za_demand_set : PySem.W.nsIn K mainGlobals "demand_set" = some (some (.ref f_demand_set)))
    (zl_demand_set : Lies K "demand_set" "demand_set" s_demand_set f_demand_set)
    (za_first_wrong_lot : PySem.W.nsIn K mainGlobals "first_wrong_lot" = some (some (.ref f_first_wrong_lot)))
    (zl_first_wrong_lot : Lies K "first_wrong_lot" "first_wrong_lot" s_first_wrong_lot f_first_wrong_lot)
    (za_first_discontent_bidder : PySem.W.nsIn K mainGlobals "first_discontent_bidder" = some (some (.ref f_first_discontent_bidder)))
    (zl_first_discontent_bidder : Lies K "first_discontent_bidder" "first_discontent_bidder" s_first_discontent_bidder f_first_discontent_bidder)
    (za_how_many : PySem.W.nsIn K mainGlobals "how_many" = some (some (.ref f_how_many)))
    (zl_how_many : Lies K "how_many" "how_many" s_how_many f_how_many)
    (za_sets_in_order : PySem.W.nsIn K mainGlobals "sets_in_order" = some (some (.ref f_sets_in_order)))
    (zl_sets_in_order : Lies K "sets_in_order" "sets_in_order" s_sets_in_order f_sets_in_order)
    (za_wanted_sets : PySem.W.nsIn K mainGlobals "wanted_sets" = some (some (.ref f_wanted_sets)))
    (zl_wanted_sets : Lies K "wanted_sets" "wanted_sets" s_wanted_sets f_wanted_sets)
    (za_is_overdemanded : PySem.W.nsIn K mainGlobals "is_overdemanded" = some (some (.ref f_is_overdemanded)))
    (zl_is_overdemanded : Lies K "is_overdemanded" "is_overdemanded" s_is_overdemanded f_is_overdemanded)
    (za_first_overdemanded_set : PySem.W.nsIn K mainGlobals "first_overdemanded_set" = some (some (.ref f_first_overdemanded_set)))
    (zl_first_overdemanded_set : Lies K "first_overdemanded_set" "first_overdemanded_set" s_first_overdemanded_set f_first_overdemanded_set)
    (za_raised : PySem.W.nsIn K mainGlobals "raised" = some (some (.ref f_raised)))
    (zl_raised : Lies K "raised" "raised" s_raised f_raised)
    (za_run_clock : PySem.W.nsIn K mainGlobals "run_clock" = some (some (.ref f_run_clock)))
    (zl_run_clock : Lies K "run_clock" "run_clock" s_run_clock f_run_clock)
    (za_outcomes : PySem.W.nsIn K mainGlobals "outcomes" = some (some (.ref f_outcomes)))
    (zl_outcomes : Lies K "outcomes" "outcomes" s_outcomes f_outcomes)
    (za_payment_for : PySem.W.nsIn K mainGlobals "payment_for" = some (some (.ref f_payment_for)))
    (zl_payment_for : Lies K "payment_for" "payment_for" s_payment_for f_payment_for)
    (za_utility_of : PySem.W.nsIn K mainGlobals "utility_of" = some (some (.ref f_utility_of)))
    (zl_utility_of : Lies K "utility_of" "utility_of" s_utility_of f_utility_of)
    (za_Auction_init : PySem.W.findIn K (.ref cAuction) "__init__" = some (some (.ref f_Auction_init)))
    (zi_Auction_init : PySem.W.isFn K (.ref f_Auction_init) = true)
    (zl_Auction_init : Lies K "__init__" "Auction.__init__" s_Auction_init f_Auction_init)
    (za_Auction_begin : PySem.W.findIn K (.ref cAuction) "begin" = some (some (.ref f_Auction_begin)))
    (zi_Auction_begin : PySem.W.isFn K (.ref f_Auction_begin) = true)
    (zl_Auction_begin : Lies K "begin" "Auction.begin" s_Auction_begin f_Auction_begin)
    (za_Auction_has_submitted : PySem.W.findIn K (.ref cAuction) "has_submitted" = some (some (.ref f_Auction_has_submitted)))
    (zi_Auction_has_submitted : PySem.W.isFn K (.ref f_Auction_has_submitted) = true)
    (zl_Auction_has_submitted : Lies K "has_submitted" "Auction.has_submitted" s_Auction_has_submitted f_Auction_has_submitted)
    (za_Auction_how_many_submitted : PySem.W.findIn K (.ref cAuction) "how_many_submitted" = some (some (.ref f_Auction_how_many_submitted)))
    (zi_Auction_how_many_submitted : PySem.W.isFn K (.ref f_Auction_how_many_submitted) = true)
    (zl_Auction_how_many_submitted : Lies K "how_many_submitted" "Auction.how_many_submitted" s_Auction_how_many_submitted f_Auction_how_many_submitted)
    (za_Auction_submit : PySem.W.findIn K (.ref cAuction) "submit" = some (some (.ref f_Auction_submit)))
    (zi_Auction_submit : PySem.W.isFn K (.ref f_Auction_submit) = true)
    (zl_Auction_submit : Lies K "submit" "Auction.submit" s_Auction_submit f_Auction_submit)
    (za_Auction_shut : PySem.W.findIn K (.ref cAuction) "shut" = some (some (.ref f_Auction_shut)))
    (zi_Auction_shut : PySem.W.isFn K (.ref f_Auction_shut) = true)
    (zl_Auction_shut : Lies K "shut" "Auction.shut" s_Auction_shut f_Auction_shut)
    (za_Auction_counted_bids : PySem.W.findIn K (.ref cAuction) "counted_bids" = some (some (.ref f_Auction_counted_bids)))
    (zi_Auction_counted_bids : PySem.W.isFn K (.ref f_Auction_counted_bids) = true)
    (zl_Auction_counted_bids : Lies K "counted_bids" "Auction.counted_bids" s_Auction_counted_bids f_Auction_counted_bids)
    (za_Auction_counted_bids_with : PySem.W.findIn K (.ref cAuction) "counted_bids_with" = some (some (.ref f_Auction_counted_bids_with)))
    (zi_Auction_counted_bids_with : PySem.W.isFn K (.ref f_Auction_counted_bids_with) = true)
    (zl_Auction_counted_bids_with : Lies K "counted_bids_with" "Auction.counted_bids_with" s_Auction_counted_bids_with f_Auction_counted_bids_with)
    (za_new_auction : PySem.W.nsIn K mainGlobals "new_auction" = some (some (.ref f_new_auction)))
    (zl_new_auction : Lies K "new_auction" "new_auction" s_new_auction f_new_auction)
    (za_submit_bid : PySem.W.nsIn K mainGlobals "submit_bid" = some (some (.ref f_submit_bid)))
    (zl_submit_bid : Lies K "submit_bid" "submit_bid" s_submit_bid f_submit_bid)
    (za_close_auction : PySem.W.nsIn K mainGlobals "close_auction" = some (some (.ref f_close_auction)))
    (zl_close_auction : Lies K "close_auction" "close_auction" s_close_auction f_close_auction)
    (za_get_result : PySem.W.nsIn K mainGlobals "get_result" = some (some (.ref f_get_result)))
    (zl_get_result : Lies K "get_result" "get_result" s_get_result f_get_result)
    (za_get_minimum_prices : PySem.W.nsIn K mainGlobals "get_minimum_prices" = some (some (.ref f_get_minimum_prices)))
    (zl_get_minimum_prices : Lies K "get_minimum_prices" "get_minimum_prices" s_get_minimum_prices f_get_minimum_prices)
    (za_get_maximum_prices : PySem.W.nsIn K mainGlobals "get_maximum_prices" = some (some (.ref f_get_maximum_prices)))
    (zl_get_maximum_prices : Lies K "get_maximum_prices" "get_maximum_prices" s_get_maximum_prices f_get_maximum_prices)
    (za_get_total_value : PySem.W.nsIn K mainGlobals "get_total_value" = some (some (.ref f_get_total_value)))
    (zl_get_total_value : Lies K "get_total_value" "get_total_value" s_get_total_value f_get_total_value)
    (za_check_prices : PySem.W.nsIn K mainGlobals "check_prices" = some (some (.ref f_check_prices)))
    (zl_check_prices : Lies K "check_prices" "check_prices" s_check_prices f_check_prices)
    (za_get_demand_set : PySem.W.nsIn K mainGlobals "get_demand_set" = some (some (.ref f_get_demand_set)))
    (zl_get_demand_set : Lies K "get_demand_set" "get_demand_set" s_get_demand_set f_get_demand_set)
    (za_get_overdemanded_set : PySem.W.nsIn K mainGlobals "get_overdemanded_set" = some (some (.ref f_get_overdemanded_set)))
    (zl_get_overdemanded_set : Lies K "get_overdemanded_set" "get_overdemanded_set" s_get_overdemanded_set f_get_overdemanded_set)
    (za_get_clock : PySem.W.nsIn K mainGlobals "get_clock" = some (some (.ref f_get_clock)))
    (zl_get_clock : Lies K "get_clock" "get_clock" s_get_clock f_get_clock)
    (za_get_hypothetical_result : PySem.W.nsIn K mainGlobals "get_hypothetical_result" = some (some (.ref f_get_hypothetical_result)))
    (zl_get_hypothetical_result : Lies K "get_hypothetical_result" "get_hypothetical_result" s_get_hypothetical_result f_get_hypothetical_result)
    (za_get_utility : PySem.W.nsIn K mainGlobals "get_utility" = some (some (.ref f_get_utility)))
    (zl_get_utility : Lies K "get_utility" "get_utility" s_get_utility f_get_utility)
    (za_get_truthful_utility : PySem.W.nsIn K mainGlobals "get_truthful_utility" = some (some (.ref f_get_truthful_utility)))
    (zl_get_truthful_utility : Lies K "get_truthful_utility" "get_truthful_utility" s_get_truthful_utility f_get_truthful_utility)
    (za_hypothetical_outcome : PySem.W.nsIn K mainGlobals "hypothetical_outcome" = some (some (.ref f_hypothetical_outcome)))
    (zl_hypothetical_outcome : Lies K "hypothetical_outcome" "hypothetical_outcome" s_hypothetical_outcome f_hypothetical_outcome)
    (za_get_total_without : PySem.W.nsIn K mainGlobals "get_total_without" = some (some (.ref f_get_total_without)))
    (zl_get_total_without : Lies K "get_total_without" "get_total_without" s_get_total_without f_get_total_without)
    (za_list_submitted : PySem.W.nsIn K mainGlobals "list_submitted" = some (some (.ref f_list_submitted)))
    (zl_list_submitted : Lies K "list_submitted" "list_submitted" s_list_submitted f_list_submitted)
    (za_list_bids : PySem.W.nsIn K mainGlobals "list_bids" = some (some (.ref f_list_bids)))
    (zl_list_bids : Lies K "list_bids" "list_bids" s_list_bids f_list_bids)
    (za_summary : PySem.W.nsIn K mainGlobals "summary" = some (some (.ref f_summary)))
    (zl_summary : Lies K "summary" "summary" s_summary f_summary)
    (za_with_length : PySem.W.nsIn K mainGlobals "with_length" = some (some (.ref f_with_length)))
    (zl_with_length : Lies K "with_length" "with_length" s_with_length f_with_length)
    (za_perform : PySem.W.nsIn K mainGlobals "perform" = some (some (.ref f_perform)))
    (zl_perform : Lies K "perform" "perform" s_perform f_perform)
    (za_Call_init : PySem.W.findIn K (.ref cCall) "__init__" = some (some (.ref f_Call_init)))
    (zi_Call_init : PySem.W.isFn K (.ref f_Call_init) = true)
    (zl_Call_init : Lies K "__init__" "Call.__init__" s_Call_init f_Call_init)
    (za_split_calls : PySem.W.nsIn K mainGlobals "split_calls" = some (some (.ref f_split_calls)))
    (zl_split_calls : Lies K "split_calls" "split_calls" s_split_calls f_split_calls)
    (za_first_refusal : PySem.W.nsIn K mainGlobals "first_refusal" = some (some (.ref f_first_refusal)))
    (zl_first_refusal : Lies K "first_refusal" "first_refusal" s_first_refusal f_first_refusal)
    (za_bidder_out_of_range : PySem.W.nsIn K mainGlobals "bidder_out_of_range" = some (some (.ref f_bidder_out_of_range)))
    (zl_bidder_out_of_range : Lies K "bidder_out_of_range" "bidder_out_of_range" s_bidder_out_of_range f_bidder_out_of_range)
    (za_row_out_of_range : PySem.W.nsIn K mainGlobals "row_out_of_range" = some (some (.ref f_row_out_of_range)))
    (zl_row_out_of_range : Lies K "row_out_of_range" "row_out_of_range" s_row_out_of_range f_row_out_of_range)
    (za_answers : PySem.W.nsIn K mainGlobals "answers" = some (some (.ref f_answers)))
    (zl_answers : Lies K "answers" "answers" s_answers f_answers)
    (za_answer_to : PySem.W.nsIn K mainGlobals "answer_to" = some (some (.ref f_answer_to)))
    (zl_answer_to : Lies K "answer_to" "answer_to" s_answer_to f_answer_to)
    (zk_NONE : PySem.W.nsIn K mainGlobals "NONE" = some (some (.int (-1) tNONE)))
    (zk_NO_SET : PySem.W.nsIn K mainGlobals "NO_SET" = some (some (.int (0) tNO_SET)))
    (zk_BIDDERS : PySem.W.nsIn K mainGlobals "BIDDERS" = some (some (.int (5) tBIDDERS)))
    (zk_NO_BID : PySem.W.nsIn K mainGlobals "NO_BID" = some (some (.int (-1) tNO_BID)))
    (zk_OUT_OF_RANGE : PySem.W.nsIn K mainGlobals "OUT_OF_RANGE" = some (some (.int (-1) tOUT_OF_RANGE)))
    (zk_NO_AUCTION : PySem.W.nsIn K mainGlobals "NO_AUCTION" = some (some (.int (-2) tNO_AUCTION)))
    (zk_NOT_CLOSED : PySem.W.nsIn K mainGlobals "NOT_CLOSED" = some (some (.int (-5) tNOT_CLOSED)))
    (zk_CLOSED : PySem.W.nsIn K mainGlobals "CLOSED" = some (some (.int (-6) tCLOSED)))
    (zk_WRONG_LENGTH : PySem.W.nsIn K mainGlobals "WRONG_LENGTH" = some (some (.int (-7) tWRONG_LENGTH)))
    (zk_NEW_AUCTION : PySem.W.nsIn K mainGlobals "NEW_AUCTION" = some (some (.int (0) tNEW_AUCTION)))
    (zk_MOST_LOTS : PySem.W.nsIn K mainGlobals "MOST_LOTS" = some (some (.int (4) tMOST_LOTS)))
    (zk_WITH_BIDDER : PySem.W.nsIn K mainGlobals "WITH_BIDDER" = some (some (.ref aWITH_BIDDER)))
    (zt_WITH_BIDDER : K.lookup aWITH_BIDDER = some ⟨.type "tuple", dWITH_BIDDER, .seq iWITH_BIDDER nWITH_BIDDER, sWITH_BIDDER⟩)
    (zv_WITH_BIDDER : intsOf iWITH_BIDDER.toList = some [1, 8, 11, 12, 13, 14])
    (zk_WITH_ROW : PySem.W.nsIn K mainGlobals "WITH_ROW" = some (some (.ref aWITH_ROW)))
    (zt_WITH_ROW : K.lookup aWITH_ROW = some ⟨.type "tuple", dWITH_ROW, .seq iWITH_ROW nWITH_ROW, sWITH_ROW⟩)
    (zv_WITH_ROW : intsOf iWITH_ROW.toList = some [0, 1, 7, 8, 9, 11, 12, 13])
    (zk_ONLY_BEFORE_CLOSING : PySem.W.nsIn K mainGlobals "ONLY_BEFORE_CLOSING" = some (some (.ref aONLY_BEFORE_CLOSING)))
    (zt_ONLY_BEFORE_CLOSING : K.lookup aONLY_BEFORE_CLOSING = some ⟨.type "tuple", dONLY_BEFORE_CLOSING, .seq iONLY_BEFORE_CLOSING nONLY_BEFORE_CLOSING, sONLY_BEFORE_CLOSING⟩)
    (zv_ONLY_BEFORE_CLOSING : intsOf iONLY_BEFORE_CLOSING.toList = some [1, 2])
    (zk_ONLY_AFTER_CLOSING : PySem.W.nsIn K mainGlobals "ONLY_AFTER_CLOSING" = some (some (.ref aONLY_AFTER_CLOSING)))
    (zt_ONLY_AFTER_CLOSING : K.lookup aONLY_AFTER_CLOSING = some ⟨.type "tuple", dONLY_AFTER_CLOSING, .seq iONLY_AFTER_CLOSING nONLY_AFTER_CLOSING, sONLY_AFTER_CLOSING⟩)
    (zv_ONLY_AFTER_CLOSING : intsOf iONLY_AFTER_CLOSING.toList = some [3, 4, 5, 6, 7, 8, 9, 10, 11, 12, 13, 14, 16])
    (zk_OPERATIONS : PySem.W.nsIn K mainGlobals "OPERATIONS" = some (some (.ref aOPERATIONS)))
    (zt_OPERATIONS : K.lookup aOPERATIONS = some ⟨.type "dict", none, .dict eOPERATIONS mOPERATIONS, #[]⟩)
    (zv_OPERATIONS : intKeyed eOPERATIONS = true)
    (zo_OPERATIONS_0 : findBy Value.isInt eOPERATIONS 0 = some (.ref f_new_auction))
    (zo_OPERATIONS_1 : findBy Value.isInt eOPERATIONS 1 = some (.ref f_submit_bid))
    (zo_OPERATIONS_2 : findBy Value.isInt eOPERATIONS 2 = some (.ref f_close_auction))
    (zo_OPERATIONS_3 : findBy Value.isInt eOPERATIONS 3 = some (.ref f_get_result))
    (zo_OPERATIONS_4 : findBy Value.isInt eOPERATIONS 4 = some (.ref f_get_minimum_prices))
    (zo_OPERATIONS_5 : findBy Value.isInt eOPERATIONS 5 = some (.ref f_get_maximum_prices))
    (zo_OPERATIONS_6 : findBy Value.isInt eOPERATIONS 6 = some (.ref f_get_total_value))
    (zo_OPERATIONS_7 : findBy Value.isInt eOPERATIONS 7 = some (.ref f_check_prices))
    (zo_OPERATIONS_8 : findBy Value.isInt eOPERATIONS 8 = some (.ref f_get_demand_set))
    (zo_OPERATIONS_9 : findBy Value.isInt eOPERATIONS 9 = some (.ref f_get_overdemanded_set))
    (zo_OPERATIONS_10 : findBy Value.isInt eOPERATIONS 10 = some (.ref f_get_clock))
    (zo_OPERATIONS_11 : findBy Value.isInt eOPERATIONS 11 = some (.ref f_get_hypothetical_result))
    (zo_OPERATIONS_12 : findBy Value.isInt eOPERATIONS 12 = some (.ref f_get_utility))
    (zo_OPERATIONS_13 : findBy Value.isInt eOPERATIONS 13 = some (.ref f_get_truthful_utility))
    (zo_OPERATIONS_14 : findBy Value.isInt eOPERATIONS 14 = some (.ref f_get_total_without))
    (zo_OPERATIONS_15 : findBy Value.isInt eOPERATIONS 15 = some (.ref f_list_submitted))
    (zo_OPERATIONS_16 : findBy Value.isInt eOPERATIONS 16 = some (.ref f_list_bids))
    (zo_OPERATIONS_17 : findBy Value.isInt eOPERATIONS 17 = some (.ref f_summary))
    (zk_LARGEST_IN_ROW : PySem.W.nsIn K mainGlobals "LARGEST_IN_ROW" = some (some (.ref aLARGEST_IN_ROW)))
    (zt_LARGEST_IN_ROW : K.lookup aLARGEST_IN_ROW = some ⟨.type "dict", none, .dict eLARGEST_IN_ROW mLARGEST_IN_ROW, #[]⟩)
    (zv_LARGEST_IN_ROW : intKeyed eLARGEST_IN_ROW = true)
    (zo_LARGEST_IN_ROW_0 : ∃ t, findBy Value.isInt eLARGEST_IN_ROW 0 = some (.int 60 t))
    (zo_LARGEST_IN_ROW_1 : ∃ t, findBy Value.isInt eLARGEST_IN_ROW 1 = some (.int 60 t))
    (zo_LARGEST_IN_ROW_7 : ∃ t, findBy Value.isInt eLARGEST_IN_ROW 7 = some (.int 1000 t))
    (zo_LARGEST_IN_ROW_8 : ∃ t, findBy Value.isInt eLARGEST_IN_ROW 8 = some (.int 1000 t))
    (zo_LARGEST_IN_ROW_9 : ∃ t, findBy Value.isInt eLARGEST_IN_ROW 9 = some (.int 1000 t))
    (zo_LARGEST_IN_ROW_11 : ∃ t, findBy Value.isInt eLARGEST_IN_ROW 11 = some (.int 60 t))
    (zo_LARGEST_IN_ROW_12 : ∃ t, findBy Value.isInt eLARGEST_IN_ROW 12 = some (.int 60 t))
    (zo_LARGEST_IN_ROW_13 : ∃ t, findBy Value.isInt eLARGEST_IN_ROW 13 = some (.int 60 t))
    (zb_len : PySem.W.nsIn K mainGlobals "len" = some none)
    (zb_range : PySem.W.nsIn K mainGlobals "range" = some none)
    (zb_enumerate : PySem.W.nsIn K mainGlobals "enumerate" = some none)
    (zb_zip : PySem.W.nsIn K mainGlobals "zip" = some none)
    (zb_reversed : PySem.W.nsIn K mainGlobals "reversed" = some none)
    (zb_list : PySem.W.nsIn K mainGlobals "list" = some none)
    (zb_sum : PySem.W.nsIn K mainGlobals "sum" = some none)
    (zb_max : PySem.W.nsIn K mainGlobals "max" = some none)
    (zb_sorted : PySem.W.nsIn K mainGlobals "sorted" = some none)
    (zb_any : PySem.W.nsIn K mainGlobals "any" = some none)
    (zb_int : PySem.W.nsIn K mainGlobals "int" = some none)
    : ∃ fd : FuncData, (∀ (s : Shared) (us : List Value), us.length = (["calls"] : List Str).length → BindsTo s fd ⟨us, []⟩ ((["calls"] : List Str).zip us)) ∧ ∀ base : Heap, K.In base → base.Ns mainGlobals mg → FnOk P w K mg base CX0 30 fa fd ["calls"] (sp_answers K) := by
  obtain ⟨d_unsold_values, e⟩ := zl_unsold_values.df (mg := mg) X G za_unsold_values bd_unsold_values
  subst e
  obtain ⟨d_choices, e⟩ := zl_choices.df (mg := mg) X G za_choices bd_choices
  subst e
  obtain ⟨d_best_choice, e⟩ := zl_best_choice.df (mg := mg) X G za_best_choice bd_best_choice
  subst e
  obtain ⟨d_value_tables, e⟩ := zl_value_tables.df (mg := mg) X G za_value_tables bd_value_tables
  subst e
  obtain ⟨d_maximum_value, e⟩ := zl_maximum_value.df (mg := mg) X G za_maximum_value bd_maximum_value
  subst e
  obtain ⟨d_returned_allocation, e⟩ := zl_returned_allocation.df (mg := mg) X G za_returned_allocation bd_returned_allocation
  subst e
  obtain ⟨d_minimum_prices, e⟩ := zl_minimum_prices.df (mg := mg) X G za_minimum_prices bd_minimum_prices
  subst e
  obtain ⟨d_maximum_prices, e⟩ := zl_maximum_prices.df (mg := mg) X G za_maximum_prices bd_maximum_prices
  subst e
  obtain ⟨d_without, e⟩ := zl_without.df (mg := mg) X G za_without bd_without
  subst e
  obtain ⟨d_demand_set, e⟩ := zl_demand_set.df (mg := mg) X G za_demand_set bd_demand_set
  subst e
  obtain ⟨d_first_wrong_lot, e⟩ := zl_first_wrong_lot.df (mg := mg) X G za_first_wrong_lot bd_first_wrong_lot
  subst e
  obtain ⟨d_first_discontent_bidder, e⟩ := zl_first_discontent_bidder.df (mg := mg) X G za_first_discontent_bidder bd_first_discontent_bidder
  subst e
  obtain ⟨d_how_many, e⟩ := zl_how_many.df (mg := mg) X G za_how_many bd_how_many
  subst e
  obtain ⟨d_sets_in_order, e⟩ := zl_sets_in_order.df (mg := mg) X G za_sets_in_order bd_sets_in_order
  subst e
  obtain ⟨d_wanted_sets, e⟩ := zl_wanted_sets.df (mg := mg) X G za_wanted_sets bd_wanted_sets
  subst e
  obtain ⟨d_is_overdemanded, e⟩ := zl_is_overdemanded.df (mg := mg) X G za_is_overdemanded bd_is_overdemanded
  subst e
  obtain ⟨d_first_overdemanded_set, e⟩ := zl_first_overdemanded_set.df (mg := mg) X G za_first_overdemanded_set bd_first_overdemanded_set
  subst e
  obtain ⟨d_raised, e⟩ := zl_raised.df (mg := mg) X G za_raised bd_raised
  subst e
  obtain ⟨d_run_clock, e⟩ := zl_run_clock.df (mg := mg) X G za_run_clock bd_run_clock
  subst e
  obtain ⟨d_outcomes, e⟩ := zl_outcomes.df (mg := mg) X G za_outcomes bd_outcomes
  subst e
  obtain ⟨d_payment_for, e⟩ := zl_payment_for.df (mg := mg) X G za_payment_for bd_payment_for
  subst e
  obtain ⟨d_utility_of, e⟩ := zl_utility_of.df (mg := mg) X G za_utility_of bd_utility_of
  subst e
  obtain ⟨d_Auction_init, e⟩ := zl_Auction_init.dm za_Auction_init zi_Auction_init bd_Auction_init
  subst e
  obtain ⟨d_Auction_begin, e⟩ := zl_Auction_begin.dm za_Auction_begin zi_Auction_begin bd_Auction_begin
  subst e
  obtain ⟨d_Auction_has_submitted, e⟩ := zl_Auction_has_submitted.dm za_Auction_has_submitted zi_Auction_has_submitted bd_Auction_has_submitted
  subst e
  obtain ⟨d_Auction_how_many_submitted, e⟩ := zl_Auction_how_many_submitted.dm za_Auction_how_many_submitted zi_Auction_how_many_submitted bd_Auction_how_many_submitted
  subst e
  obtain ⟨d_Auction_submit, e⟩ := zl_Auction_submit.dm za_Auction_submit zi_Auction_submit bd_Auction_submit
  subst e
  obtain ⟨d_Auction_shut, e⟩ := zl_Auction_shut.dm za_Auction_shut zi_Auction_shut bd_Auction_shut
  subst e
  obtain ⟨d_Auction_counted_bids, e⟩ := zl_Auction_counted_bids.dm za_Auction_counted_bids zi_Auction_counted_bids bd_Auction_counted_bids
  subst e
  obtain ⟨d_Auction_counted_bids_with, e⟩ := zl_Auction_counted_bids_with.dm za_Auction_counted_bids_with zi_Auction_counted_bids_with bd_Auction_counted_bids_with
  subst e
  obtain ⟨d_new_auction, e⟩ := zl_new_auction.df (mg := mg) X G za_new_auction bd_new_auction
  subst e
  obtain ⟨d_submit_bid, e⟩ := zl_submit_bid.df (mg := mg) X G za_submit_bid bd_submit_bid
  subst e
  obtain ⟨d_close_auction, e⟩ := zl_close_auction.df (mg := mg) X G za_close_auction bd_close_auction
  subst e
  obtain ⟨d_get_result, e⟩ := zl_get_result.df (mg := mg) X G za_get_result bd_get_result
  subst e
  obtain ⟨d_get_minimum_prices, e⟩ := zl_get_minimum_prices.df (mg := mg) X G za_get_minimum_prices bd_get_minimum_prices
  subst e
  obtain ⟨d_get_maximum_prices, e⟩ := zl_get_maximum_prices.df (mg := mg) X G za_get_maximum_prices bd_get_maximum_prices
  subst e
  obtain ⟨d_get_total_value, e⟩ := zl_get_total_value.df (mg := mg) X G za_get_total_value bd_get_total_value
  subst e
  obtain ⟨d_check_prices, e⟩ := zl_check_prices.df (mg := mg) X G za_check_prices bd_check_prices
  subst e
  obtain ⟨d_get_demand_set, e⟩ := zl_get_demand_set.df (mg := mg) X G za_get_demand_set bd_get_demand_set
  subst e
  obtain ⟨d_get_overdemanded_set, e⟩ := zl_get_overdemanded_set.df (mg := mg) X G za_get_overdemanded_set bd_get_overdemanded_set
  subst e
  obtain ⟨d_get_clock, e⟩ := zl_get_clock.df (mg := mg) X G za_get_clock bd_get_clock
  subst e
  obtain ⟨d_get_hypothetical_result, e⟩ := zl_get_hypothetical_result.df (mg := mg) X G za_get_hypothetical_result bd_get_hypothetical_result
  subst e
  obtain ⟨d_get_utility, e⟩ := zl_get_utility.df (mg := mg) X G za_get_utility bd_get_utility
  subst e
  obtain ⟨d_get_truthful_utility, e⟩ := zl_get_truthful_utility.df (mg := mg) X G za_get_truthful_utility bd_get_truthful_utility
  subst e
  obtain ⟨d_hypothetical_outcome, e⟩ := zl_hypothetical_outcome.df (mg := mg) X G za_hypothetical_outcome bd_hypothetical_outcome
  subst e
  obtain ⟨d_get_total_without, e⟩ := zl_get_total_without.df (mg := mg) X G za_get_total_without bd_get_total_without
  subst e
  obtain ⟨d_list_submitted, e⟩ := zl_list_submitted.df (mg := mg) X G za_list_submitted bd_list_submitted
  subst e
  obtain ⟨d_list_bids, e⟩ := zl_list_bids.df (mg := mg) X G za_list_bids bd_list_bids
  subst e
  obtain ⟨d_summary, e⟩ := zl_summary.df (mg := mg) X G za_summary bd_summary
  subst e
  obtain ⟨d_with_length, e⟩ := zl_with_length.df (mg := mg) X G za_with_length bd_with_length
  subst e
  obtain ⟨d_perform, e⟩ := zl_perform.df (mg := mg) X G za_perform bd_perform
  subst e
  obtain ⟨d_Call_init, e⟩ := zl_Call_init.dm za_Call_init zi_Call_init bd_Call_init
  subst e
  obtain ⟨d_split_calls, e⟩ := zl_split_calls.df (mg := mg) X G za_split_calls bd_split_calls
  subst e
  obtain ⟨d_first_refusal, e⟩ := zl_first_refusal.df (mg := mg) X G za_first_refusal bd_first_refusal
  subst e
  obtain ⟨d_bidder_out_of_range, e⟩ := zl_bidder_out_of_range.df (mg := mg) X G za_bidder_out_of_range bd_bidder_out_of_range
  subst e
  obtain ⟨d_row_out_of_range, e⟩ := zl_row_out_of_range.df (mg := mg) X G za_row_out_of_range bd_row_out_of_range
  subst e
  obtain ⟨d_answers, e⟩ := zl_answers.df (mg := mg) X G za_answers bd_answers
  subst e
  obtain ⟨d_answer_to, e⟩ := zl_answer_to.df (mg := mg) X G za_answer_to bd_answer_to
  subst e
  let T : Tx K mg := {
    av := fun _ => True
    c_Auction := cAuction
    g_Auction := PySem.W.mg_of X G zgAuction
    cl_Auction := ⟨zpgAuction, zhdAuction, zpoAuction, zsaAuction⟩
    n_Auction_reserves := znAuction_reserves
    n_Auction_submitted := znAuction_submitted
    n_Auction_closed := znAuction_closed
    mk_Auction := ⟨zmkAuction, d_Auction_init.M.at_, d_Auction_init.M.fn, zkcAuction⟩
    c_Call := cCall
    g_Call := PySem.W.mg_of X G zgCall
    cl_Call := ⟨zpgCall, zhdCall, zpoCall, zsaCall⟩
    n_Call_number := znCall_number
    n_Call_bidder := znCall_bidder
    n_Call_row := znCall_row
    mk_Call := ⟨zmkCall, d_Call_init.M.at_, d_Call_init.M.fn, zkcCall⟩
    unsold_values := d_unsold_values
    choices := d_choices
    best_choice := d_best_choice
    value_tables := d_value_tables
    maximum_value := d_maximum_value
    returned_allocation := d_returned_allocation
    minimum_prices := d_minimum_prices
    maximum_prices := d_maximum_prices
    without := d_without
    demand_set := d_demand_set
    first_wrong_lot := d_first_wrong_lot
    first_discontent_bidder := d_first_discontent_bidder
    how_many := d_how_many
    sets_in_order := d_sets_in_order
    wanted_sets := d_wanted_sets
    is_overdemanded := d_is_overdemanded
    first_overdemanded_set := d_first_overdemanded_set
    raised := d_raised
    run_clock := d_run_clock
    outcomes := d_outcomes
    payment_for := d_payment_for
    utility_of := d_utility_of
    Auction_init := d_Auction_init
    Auction_begin := d_Auction_begin
    Auction_has_submitted := d_Auction_has_submitted
    Auction_how_many_submitted := d_Auction_how_many_submitted
    Auction_submit := d_Auction_submit
    Auction_shut := d_Auction_shut
    Auction_counted_bids := d_Auction_counted_bids
    Auction_counted_bids_with := d_Auction_counted_bids_with
    new_auction := d_new_auction
    submit_bid := d_submit_bid
    close_auction := d_close_auction
    get_result := d_get_result
    get_minimum_prices := d_get_minimum_prices
    get_maximum_prices := d_get_maximum_prices
    get_total_value := d_get_total_value
    check_prices := d_check_prices
    get_demand_set := d_get_demand_set
    get_overdemanded_set := d_get_overdemanded_set
    get_clock := d_get_clock
    get_hypothetical_result := d_get_hypothetical_result
    get_utility := d_get_utility
    get_truthful_utility := d_get_truthful_utility
    hypothetical_outcome := d_hypothetical_outcome
    get_total_without := d_get_total_without
    list_submitted := d_list_submitted
    list_bids := d_list_bids
    summary := d_summary
    with_length := d_with_length
    perform := d_perform
    Call_init := d_Call_init
    split_calls := d_split_calls
    first_refusal := d_first_refusal
    bidder_out_of_range := d_bidder_out_of_range
    row_out_of_range := d_row_out_of_range
    answers := d_answers
    answer_to := d_answer_to
    t_NONE := tNONE
    k_NONE := PySem.W.mg_of X G zk_NONE
    t_NO_SET := tNO_SET
    k_NO_SET := PySem.W.mg_of X G zk_NO_SET
    t_BIDDERS := tBIDDERS
    k_BIDDERS := PySem.W.mg_of X G zk_BIDDERS
    t_NO_BID := tNO_BID
    k_NO_BID := PySem.W.mg_of X G zk_NO_BID
    t_OUT_OF_RANGE := tOUT_OF_RANGE
    k_OUT_OF_RANGE := PySem.W.mg_of X G zk_OUT_OF_RANGE
    t_NO_AUCTION := tNO_AUCTION
    k_NO_AUCTION := PySem.W.mg_of X G zk_NO_AUCTION
    t_NOT_CLOSED := tNOT_CLOSED
    k_NOT_CLOSED := PySem.W.mg_of X G zk_NOT_CLOSED
    t_CLOSED := tCLOSED
    k_CLOSED := PySem.W.mg_of X G zk_CLOSED
    t_WRONG_LENGTH := tWRONG_LENGTH
    k_WRONG_LENGTH := PySem.W.mg_of X G zk_WRONG_LENGTH
    t_NEW_AUCTION := tNEW_AUCTION
    k_NEW_AUCTION := PySem.W.mg_of X G zk_NEW_AUCTION
    t_MOST_LOTS := tMOST_LOTS
    k_MOST_LOTS := PySem.W.mg_of X G zk_MOST_LOTS
    a_WITH_BIDDER := aWITH_BIDDER
    k_WITH_BIDDER := PySem.W.mg_of X G zk_WITH_BIDDER
    v_WITH_BIDDER := fun H => tup_ints zt_WITH_BIDDER zv_WITH_BIDDER (by decide)
    a_WITH_ROW := aWITH_ROW
    k_WITH_ROW := PySem.W.mg_of X G zk_WITH_ROW
    v_WITH_ROW := fun H => tup_ints zt_WITH_ROW zv_WITH_ROW (by decide)
    a_ONLY_BEFORE_CLOSING := aONLY_BEFORE_CLOSING
    k_ONLY_BEFORE_CLOSING := PySem.W.mg_of X G zk_ONLY_BEFORE_CLOSING
    v_ONLY_BEFORE_CLOSING := fun H => tup_ints zt_ONLY_BEFORE_CLOSING zv_ONLY_BEFORE_CLOSING (by decide)
    a_ONLY_AFTER_CLOSING := aONLY_AFTER_CLOSING
    k_ONLY_AFTER_CLOSING := PySem.W.mg_of X G zk_ONLY_AFTER_CLOSING
    v_ONLY_AFTER_CLOSING := fun H => tup_ints zt_ONLY_AFTER_CLOSING zv_ONLY_AFTER_CLOSING (by decide)
    a_OPERATIONS := aOPERATIONS
    e_OPERATIONS := eOPERATIONS
    m_OPERATIONS := mOPERATIONS
    k_OPERATIONS := PySem.W.mg_of X G zk_OPERATIONS
    d_OPERATIONS := ⟨zt_OPERATIONS, zv_OPERATIONS⟩
    o_OPERATIONS_0 := zo_OPERATIONS_0
    o_OPERATIONS_1 := zo_OPERATIONS_1
    o_OPERATIONS_2 := zo_OPERATIONS_2
    o_OPERATIONS_3 := zo_OPERATIONS_3
    o_OPERATIONS_4 := zo_OPERATIONS_4
    o_OPERATIONS_5 := zo_OPERATIONS_5
    o_OPERATIONS_6 := zo_OPERATIONS_6
    o_OPERATIONS_7 := zo_OPERATIONS_7
    o_OPERATIONS_8 := zo_OPERATIONS_8
    o_OPERATIONS_9 := zo_OPERATIONS_9
    o_OPERATIONS_10 := zo_OPERATIONS_10
    o_OPERATIONS_11 := zo_OPERATIONS_11
    o_OPERATIONS_12 := zo_OPERATIONS_12
    o_OPERATIONS_13 := zo_OPERATIONS_13
    o_OPERATIONS_14 := zo_OPERATIONS_14
    o_OPERATIONS_15 := zo_OPERATIONS_15
    o_OPERATIONS_16 := zo_OPERATIONS_16
    o_OPERATIONS_17 := zo_OPERATIONS_17
    a_LARGEST_IN_ROW := aLARGEST_IN_ROW
    e_LARGEST_IN_ROW := eLARGEST_IN_ROW
    m_LARGEST_IN_ROW := mLARGEST_IN_ROW
    k_LARGEST_IN_ROW := PySem.W.mg_of X G zk_LARGEST_IN_ROW
    d_LARGEST_IN_ROW := ⟨zt_LARGEST_IN_ROW, zv_LARGEST_IN_ROW⟩
    o_LARGEST_IN_ROW_0 := zo_LARGEST_IN_ROW_0
    o_LARGEST_IN_ROW_1 := zo_LARGEST_IN_ROW_1
    o_LARGEST_IN_ROW_7 := zo_LARGEST_IN_ROW_7
    o_LARGEST_IN_ROW_8 := zo_LARGEST_IN_ROW_8
    o_LARGEST_IN_ROW_9 := zo_LARGEST_IN_ROW_9
    o_LARGEST_IN_ROW_11 := zo_LARGEST_IN_ROW_11
    o_LARGEST_IN_ROW_12 := zo_LARGEST_IN_ROW_12
    o_LARGEST_IN_ROW_13 := zo_LARGEST_IN_ROW_13
    b_len := PySem.W.mg_none_of X G zb_len
    b_range := PySem.W.mg_none_of X G zb_range
    b_enumerate := PySem.W.mg_none_of X G zb_enumerate
    b_zip := PySem.W.mg_none_of X G zb_zip
    b_reversed := PySem.W.mg_none_of X G zb_reversed
    b_list := PySem.W.mg_none_of X G zb_list
    b_sum := PySem.W.mg_none_of X G zb_sum
    b_max := PySem.W.mg_none_of X G zb_max
    b_sorted := PySem.W.mg_none_of X G zb_sorted
    b_any := PySem.W.mg_none_of X G zb_any
    b_int := PySem.W.mg_none_of X G zb_int
  }
  have e : fa = d_answers.f := by
    have h1 := hfa.symm.trans d_answers.g
    injection h1 with h1
    injection h1
  subst e
  exact ⟨d_answers.fd, d_answers.bt, fun base _ _ => (ok_answers (P := P) (w := w) (base := base) T).mono (by decide)⟩
end Sl
open PySem PySem.W PyProof.Rows
set_option maxRecDepth 100000 in
set_option maxHeartbeats 40000000 in
theorem PySem.Challenge.cw_sealedlots_s01_answers_holds : PySem.Challenge.rw_sealedlots_s01_answers.Holds := by
  w_on; k_headS; (case hw => exact ⟨[.list [.int 2]], by decide +kernel, by decide +kernel⟩)
  k_fillS
  refine L2.walk_specK (r := PySem.Challenge.rw_sealedlots_s01_answers) (k := 30) (CX := L2.CX0) (ps := ["calls"]) (sp := Sl.sp_answers) (by decide +kernel) rfl rfl ⟨rfl, by decide, by decide⟩ (fun w h Y => PySem.W.kIn_of Y) ?F ?S (fun _ _ _ _ z => z)
  case F =>
    intro w mg fa h Y KX G hmg
    refine' Sl.all_mk KX G hmg ?zgAuction ?zpgAuction ?zhdAuction ?zpoAuction ?zsaAuction ?zmkAuction ?zkcAuction ?znAuction_reserves ?znAuction_submitted ?znAuction_closed ?zgCall ?zpgCall ?zhdCall ?zpoCall ?zsaCall ?zmkCall ?zkcCall ?znCall_number ?znCall_bidder ?znCall_row ?za_unsold_values ?zl_unsold_values ?za_choices ?zl_choices ?za_best_choice ?zl_best_choice ?za_value_tables ?zl_value_tables ?za_maximum_value ?zl_maximum_value ?za_returned_allocation ?zl_returned_allocation ?za_minimum_prices ?zl_minimum_prices ?za_maximum_prices ?zl_maximum_prices ?za_without ?zl_without ?za_demand_set ?zl_demand_set ?za_first_wrong_lot ?zl_first_wrong_lot ?za_first_discontent_bidder ?zl_first_discontent_bidder ?za_how_many ?zl_how_many ?za_sets_in_order ?zl_sets_in_order ?za_wanted_sets ?zl_wanted_sets ?za_is_overdemanded ?zl_is_overdemanded ?za_first_overdemanded_set ?zl_first_overdemanded_set ?za_raised ?zl_raised ?za_run_clock ?zl_run_clock ?za_outcomes ?zl_outcomes ?za_payment_for ?zl_payment_for ?za_utility_of ?zl_utility_of ?za_Auction_init ?zi_Auction_init ?zl_Auction_init ?za_Auction_begin ?zi_Auction_begin ?zl_Auction_begin ?za_Auction_has_submitted ?zi_Auction_has_submitted ?zl_Auction_has_submitted ?za_Auction_how_many_submitted ?zi_Auction_how_many_submitted ?zl_Auction_how_many_submitted ?za_Auction_submit ?zi_Auction_submit ?zl_Auction_submit ?za_Auction_shut ?zi_Auction_shut ?zl_Auction_shut ?za_Auction_counted_bids ?zi_Auction_counted_bids ?zl_Auction_counted_bids ?za_Auction_counted_bids_with ?zi_Auction_counted_bids_with ?zl_Auction_counted_bids_with ?za_new_auction ?zl_new_auction ?za_submit_bid ?zl_submit_bid ?za_close_auction ?zl_close_auction ?za_get_result ?zl_get_result ?za_get_minimum_prices ?zl_get_minimum_prices ?za_get_maximum_prices ?zl_get_maximum_prices ?za_get_total_value ?zl_get_total_value ?za_check_prices ?zl_check_prices ?za_get_demand_set ?zl_get_demand_set ?za_get_overdemanded_set ?zl_get_overdemanded_set ?za_get_clock ?zl_get_clock ?za_get_hypothetical_result ?zl_get_hypothetical_result ?za_get_utility ?zl_get_utility ?za_get_truthful_utility ?zl_get_truthful_utility ?za_hypothetical_outcome ?zl_hypothetical_outcome ?za_get_total_without ?zl_get_total_without ?za_list_submitted ?zl_list_submitted ?za_list_bids ?zl_list_bids ?za_summary ?zl_summary ?za_with_length ?zl_with_length ?za_perform ?zl_perform ?za_Call_init ?zi_Call_init ?zl_Call_init ?za_split_calls ?zl_split_calls ?za_first_refusal ?zl_first_refusal ?za_bidder_out_of_range ?zl_bidder_out_of_range ?za_row_out_of_range ?zl_row_out_of_range ?za_answers ?zl_answers ?za_answer_to ?zl_answer_to ?zk_NONE ?zk_NO_SET ?zk_BIDDERS ?zk_NO_BID ?zk_OUT_OF_RANGE ?zk_NO_AUCTION ?zk_NOT_CLOSED ?zk_CLOSED ?zk_WRONG_LENGTH ?zk_NEW_AUCTION ?zk_MOST_LOTS ?zk_WITH_BIDDER ?zt_WITH_BIDDER ?zv_WITH_BIDDER ?zk_WITH_ROW ?zt_WITH_ROW ?zv_WITH_ROW ?zk_ONLY_BEFORE_CLOSING ?zt_ONLY_BEFORE_CLOSING ?zv_ONLY_BEFORE_CLOSING ?zk_ONLY_AFTER_CLOSING ?zt_ONLY_AFTER_CLOSING ?zv_ONLY_AFTER_CLOSING ?zk_OPERATIONS ?zt_OPERATIONS ?zv_OPERATIONS ?zo_OPERATIONS_0 ?zo_OPERATIONS_1 ?zo_OPERATIONS_2 ?zo_OPERATIONS_3 ?zo_OPERATIONS_4 ?zo_OPERATIONS_5 ?zo_OPERATIONS_6 ?zo_OPERATIONS_7 ?zo_OPERATIONS_8 ?zo_OPERATIONS_9 ?zo_OPERATIONS_10 ?zo_OPERATIONS_11 ?zo_OPERATIONS_12 ?zo_OPERATIONS_13 ?zo_OPERATIONS_14 ?zo_OPERATIONS_15 ?zo_OPERATIONS_16 ?zo_OPERATIONS_17 ?zk_LARGEST_IN_ROW ?zt_LARGEST_IN_ROW ?zv_LARGEST_IN_ROW ?zo_LARGEST_IN_ROW_0 ?zo_LARGEST_IN_ROW_1 ?zo_LARGEST_IN_ROW_7 ?zo_LARGEST_IN_ROW_8 ?zo_LARGEST_IN_ROW_9 ?zo_LARGEST_IN_ROW_11 ?zo_LARGEST_IN_ROW_12 ?zo_LARGEST_IN_ROW_13 ?zb_len ?zb_range ?zb_enumerate ?zb_zip ?zb_reversed ?zb_list ?zb_sum ?zb_max ?zb_sorted ?zb_any ?zb_int
    case zgAuction => (k_is)
    case zpgAuction => (k_is)
    case zhdAuction => (k_is)
    case zpoAuction => (k_is)
    case zsaAuction => (k_is)
    case zmkAuction => (k_is)
    case zkcAuction => (k_is)
    case znAuction_reserves => (k_is)
    case znAuction_submitted => (k_is)
    case znAuction_closed => (k_is)
    case zgCall => (k_is)
    case zpgCall => (k_is)
    case zhdCall => (k_is)
    case zpoCall => (k_is)
    case zsaCall => (k_is)
    case zmkCall => (k_is)
    case zkcCall => (k_is)
    case znCall_number => (k_is)
    case znCall_bidder => (k_is)
    case znCall_row => (k_is)
    case za_unsold_values => (k_is)
    case zl_unsold_values => (refine' Sl.lies_mk ?yl ?yc ?yk; (case yl => k_is); (case yc => k_is); (case yk => k_is))
    case za_choices => (k_is)
    case zl_choices => (refine' Sl.lies_mk ?yl ?yc ?yk; (case yl => k_is); (case yc => k_is); (case yk => k_is))
    case za_best_choice => (k_is)
    case zl_best_choice => (refine' Sl.lies_mk ?yl ?yc ?yk; (case yl => k_is); (case yc => k_is); (case yk => k_is))
    case za_value_tables => (k_is)
    case zl_value_tables => (refine' Sl.lies_mk ?yl ?yc ?yk; (case yl => k_is); (case yc => k_is); (case yk => k_is))
    case za_maximum_value => (k_is)
    case zl_maximum_value => (refine' Sl.lies_mk ?yl ?yc ?yk; (case yl => k_is); (case yc => k_is); (case yk => k_is))
    case za_returned_allocation => (k_is)
    case zl_returned_allocation => (refine' Sl.lies_mk ?yl ?yc ?yk; (case yl => k_is); (case yc => k_is); (case yk => k_is))
    case za_minimum_prices => (k_is)
    case zl_minimum_prices => (refine' Sl.lies_mk ?yl ?yc ?yk; (case yl => k_is); (case yc => k_is); (case yk => k_is))
    case za_maximum_prices => (k_is)
    case zl_maximum_prices => (refine' Sl.lies_mk ?yl ?yc ?yk; (case yl => k_is); (case yc => k_is); (case yk => k_is))
    case za_without => (k_is)
    case zl_without => (refine' Sl.lies_mk ?yl ?yc ?yk; (case yl => k_is); (case yc => k_is); (case yk => k_is))
    case za_demand_set => (k_is)
    case zl_demand_set => (refine' Sl.lies_mk ?yl ?yc ?yk; (case yl => k_is); (case yc => k_is); (case yk => k_is))
    case za_first_wrong_lot => (k_is)
    case zl_first_wrong_lot => (refine' Sl.lies_mk ?yl ?yc ?yk; (case yl => k_is); (case yc => k_is); (case yk => k_is))
    case za_first_discontent_bidder => (k_is)
    case zl_first_discontent_bidder => (refine' Sl.lies_mk ?yl ?yc ?yk; (case yl => k_is); (case yc => k_is); (case yk => k_is))
    case za_how_many => (k_is)
    case zl_how_many => (refine' Sl.lies_mk ?yl ?yc ?yk; (case yl => k_is); (case yc => k_is); (case yk => k_is))
    case za_sets_in_order => (k_is)
    case zl_sets_in_order => (refine' Sl.lies_mk ?yl ?yc ?yk; (case yl => k_is); (case yc => k_is); (case yk => k_is))
    case za_wanted_sets => (k_is)
    case zl_wanted_sets => (refine' Sl.lies_mk ?yl ?yc ?yk; (case yl => k_is); (case yc => k_is); (case yk => k_is))
    case za_is_overdemanded => (k_is)
    case zl_is_overdemanded => (refine' Sl.lies_mk ?yl ?yc ?yk; (case yl => k_is); (case yc => k_is); (case yk => k_is))
    case za_first_overdemanded_set => (k_is)
    case zl_first_overdemanded_set => (refine' Sl.lies_mk ?yl ?yc ?yk; (case yl => k_is); (case yc => k_is); (case yk => k_is))
    case za_raised => (k_is)
    case zl_raised => (refine' Sl.lies_mk ?yl ?yc ?yk; (case yl => k_is); (case yc => k_is); (case yk => k_is))
    case za_run_clock => (k_is)
    case zl_run_clock => (refine' Sl.lies_mk ?yl ?yc ?yk; (case yl => k_is); (case yc => k_is); (case yk => k_is))
    case za_outcomes => (k_is)
    case zl_outcomes => (refine' Sl.lies_mk ?yl ?yc ?yk; (case yl => k_is); (case yc => k_is); (case yk => k_is))
    case za_payment_for => (k_is)
    case zl_payment_for => (refine' Sl.lies_mk ?yl ?yc ?yk; (case yl => k_is); (case yc => k_is); (case yk => k_is))
    case za_utility_of => (k_is)
    case zl_utility_of => (refine' Sl.lies_mk ?yl ?yc ?yk; (case yl => k_is); (case yc => k_is); (case yk => k_is))
    case za_Auction_init => (k_is)
    case zi_Auction_init => (k_is)
    case zl_Auction_init => (refine' Sl.lies_mk ?yl ?yc ?yk; (case yl => k_is); (case yc => k_is); (case yk => k_is))
    case za_Auction_begin => (k_is)
    case zi_Auction_begin => (k_is)
    case zl_Auction_begin => (refine' Sl.lies_mk ?yl ?yc ?yk; (case yl => k_is); (case yc => k_is); (case yk => k_is))
    case za_Auction_has_submitted => (k_is)
    case zi_Auction_has_submitted => (k_is)
    case zl_Auction_has_submitted => (refine' Sl.lies_mk ?yl ?yc ?yk; (case yl => k_is); (case yc => k_is); (case yk => k_is))
    case za_Auction_how_many_submitted => (k_is)
    case zi_Auction_how_many_submitted => (k_is)
    case zl_Auction_how_many_submitted => (refine' Sl.lies_mk ?yl ?yc ?yk; (case yl => k_is); (case yc => k_is); (case yk => k_is))
    case za_Auction_submit => (k_is)
    case zi_Auction_submit => (k_is)
    case zl_Auction_submit => (refine' Sl.lies_mk ?yl ?yc ?yk; (case yl => k_is); (case yc => k_is); (case yk => k_is))
    case za_Auction_shut => (k_is)
    case zi_Auction_shut => (k_is)
    case zl_Auction_shut => (refine' Sl.lies_mk ?yl ?yc ?yk; (case yl => k_is); (case yc => k_is); (case yk => k_is))
    case za_Auction_counted_bids => (k_is)
    case zi_Auction_counted_bids => (k_is)
    case zl_Auction_counted_bids => (refine' Sl.lies_mk ?yl ?yc ?yk; (case yl => k_is); (case yc => k_is); (case yk => k_is))
    case za_Auction_counted_bids_with => (k_is)
    case zi_Auction_counted_bids_with => (k_is)
    case zl_Auction_counted_bids_with => (refine' Sl.lies_mk ?yl ?yc ?yk; (case yl => k_is); (case yc => k_is); (case yk => k_is))
    case za_new_auction => (k_is)
    case zl_new_auction => (refine' Sl.lies_mk ?yl ?yc ?yk; (case yl => k_is); (case yc => k_is); (case yk => k_is))
    case za_submit_bid => (k_is)
    case zl_submit_bid => (refine' Sl.lies_mk ?yl ?yc ?yk; (case yl => k_is); (case yc => k_is); (case yk => k_is))
    case za_close_auction => (k_is)
    case zl_close_auction => (refine' Sl.lies_mk ?yl ?yc ?yk; (case yl => k_is); (case yc => k_is); (case yk => k_is))
    case za_get_result => (k_is)
    case zl_get_result => (refine' Sl.lies_mk ?yl ?yc ?yk; (case yl => k_is); (case yc => k_is); (case yk => k_is))
    case za_get_minimum_prices => (k_is)
    case zl_get_minimum_prices => (refine' Sl.lies_mk ?yl ?yc ?yk; (case yl => k_is); (case yc => k_is); (case yk => k_is))
    case za_get_maximum_prices => (k_is)
    case zl_get_maximum_prices => (refine' Sl.lies_mk ?yl ?yc ?yk; (case yl => k_is); (case yc => k_is); (case yk => k_is))
    case za_get_total_value => (k_is)
    case zl_get_total_value => (refine' Sl.lies_mk ?yl ?yc ?yk; (case yl => k_is); (case yc => k_is); (case yk => k_is))
    case za_check_prices => (k_is)
    case zl_check_prices => (refine' Sl.lies_mk ?yl ?yc ?yk; (case yl => k_is); (case yc => k_is); (case yk => k_is))
    case za_get_demand_set => (k_is)
    case zl_get_demand_set => (refine' Sl.lies_mk ?yl ?yc ?yk; (case yl => k_is); (case yc => k_is); (case yk => k_is))
    case za_get_overdemanded_set => (k_is)
    case zl_get_overdemanded_set => (refine' Sl.lies_mk ?yl ?yc ?yk; (case yl => k_is); (case yc => k_is); (case yk => k_is))
    case za_get_clock => (k_is)
    case zl_get_clock => (refine' Sl.lies_mk ?yl ?yc ?yk; (case yl => k_is); (case yc => k_is); (case yk => k_is))
    case za_get_hypothetical_result => (k_is)
    case zl_get_hypothetical_result => (refine' Sl.lies_mk ?yl ?yc ?yk; (case yl => k_is); (case yc => k_is); (case yk => k_is))
    case za_get_utility => (k_is)
    case zl_get_utility => (refine' Sl.lies_mk ?yl ?yc ?yk; (case yl => k_is); (case yc => k_is); (case yk => k_is))
    case za_get_truthful_utility => (k_is)
    case zl_get_truthful_utility => (refine' Sl.lies_mk ?yl ?yc ?yk; (case yl => k_is); (case yc => k_is); (case yk => k_is))
    case za_hypothetical_outcome => (k_is)
    case zl_hypothetical_outcome => (refine' Sl.lies_mk ?yl ?yc ?yk; (case yl => k_is); (case yc => k_is); (case yk => k_is))
    case za_get_total_without => (k_is)
    case zl_get_total_without => (refine' Sl.lies_mk ?yl ?yc ?yk; (case yl => k_is); (case yc => k_is); (case yk => k_is))
    case za_list_submitted => (k_is)
    case zl_list_submitted => (refine' Sl.lies_mk ?yl ?yc ?yk; (case yl => k_is); (case yc => k_is); (case yk => k_is))
    case za_list_bids => (k_is)
    case zl_list_bids => (refine' Sl.lies_mk ?yl ?yc ?yk; (case yl => k_is); (case yc => k_is); (case yk => k_is))
    case za_summary => (k_is)
    case zl_summary => (refine' Sl.lies_mk ?yl ?yc ?yk; (case yl => k_is); (case yc => k_is); (case yk => k_is))
    case za_with_length => (k_is)
    case zl_with_length => (refine' Sl.lies_mk ?yl ?yc ?yk; (case yl => k_is); (case yc => k_is); (case yk => k_is))
    case za_perform => (k_is)
    case zl_perform => (refine' Sl.lies_mk ?yl ?yc ?yk; (case yl => k_is); (case yc => k_is); (case yk => k_is))
    case za_Call_init => (k_is)
    case zi_Call_init => (k_is)
    case zl_Call_init => (refine' Sl.lies_mk ?yl ?yc ?yk; (case yl => k_is); (case yc => k_is); (case yk => k_is))
    case za_split_calls => (k_is)
    case zl_split_calls => (refine' Sl.lies_mk ?yl ?yc ?yk; (case yl => k_is); (case yc => k_is); (case yk => k_is))
    case za_first_refusal => (k_is)
    case zl_first_refusal => (refine' Sl.lies_mk ?yl ?yc ?yk; (case yl => k_is); (case yc => k_is); (case yk => k_is))
    case za_bidder_out_of_range => (k_is)
    case zl_bidder_out_of_range => (refine' Sl.lies_mk ?yl ?yc ?yk; (case yl => k_is); (case yc => k_is); (case yk => k_is))
    case za_row_out_of_range => (k_is)
    case zl_row_out_of_range => (refine' Sl.lies_mk ?yl ?yc ?yk; (case yl => k_is); (case yc => k_is); (case yk => k_is))
    case za_answers => (k_is)
    case zl_answers => (refine' Sl.lies_mk ?yl ?yc ?yk; (case yl => k_is); (case yc => k_is); (case yk => k_is))
    case za_answer_to => (k_is)
    case zl_answer_to => (refine' Sl.lies_mk ?yl ?yc ?yk; (case yl => k_is); (case yc => k_is); (case yk => k_is))
    case zk_NONE => (k_is)
    case zk_NO_SET => (k_is)
    case zk_BIDDERS => (k_is)
    case zk_NO_BID => (k_is)
    case zk_OUT_OF_RANGE => (k_is)
    case zk_NO_AUCTION => (k_is)
    case zk_NOT_CLOSED => (k_is)
    case zk_CLOSED => (k_is)
    case zk_WRONG_LENGTH => (k_is)
    case zk_NEW_AUCTION => (k_is)
    case zk_MOST_LOTS => (k_is)
    case zk_WITH_BIDDER => (k_is)
    case zt_WITH_BIDDER => (k_is)
    case zv_WITH_BIDDER => (first | rfl | decide +kernel)
    case zk_WITH_ROW => (k_is)
    case zt_WITH_ROW => (k_is)
    case zv_WITH_ROW => (first | rfl | decide +kernel)
    case zk_ONLY_BEFORE_CLOSING => (k_is)
    case zt_ONLY_BEFORE_CLOSING => (k_is)
    case zv_ONLY_BEFORE_CLOSING => (first | rfl | decide +kernel)
    case zk_ONLY_AFTER_CLOSING => (k_is)
    case zt_ONLY_AFTER_CLOSING => (k_is)
    case zv_ONLY_AFTER_CLOSING => (first | rfl | decide +kernel)
    case zk_OPERATIONS => (k_is)
    case zt_OPERATIONS => (k_is)
    case zv_OPERATIONS => (first | rfl | decide +kernel)
    case zo_OPERATIONS_0 => (rfl)
    case zo_OPERATIONS_1 => (rfl)
    case zo_OPERATIONS_2 => (rfl)
    case zo_OPERATIONS_3 => (rfl)
    case zo_OPERATIONS_4 => (rfl)
    case zo_OPERATIONS_5 => (rfl)
    case zo_OPERATIONS_6 => (rfl)
    case zo_OPERATIONS_7 => (rfl)
    case zo_OPERATIONS_8 => (rfl)
    case zo_OPERATIONS_9 => (rfl)
    case zo_OPERATIONS_10 => (rfl)
    case zo_OPERATIONS_11 => (rfl)
    case zo_OPERATIONS_12 => (rfl)
    case zo_OPERATIONS_13 => (rfl)
    case zo_OPERATIONS_14 => (rfl)
    case zo_OPERATIONS_15 => (rfl)
    case zo_OPERATIONS_16 => (rfl)
    case zo_OPERATIONS_17 => (rfl)
    case zk_LARGEST_IN_ROW => (k_is)
    case zt_LARGEST_IN_ROW => (k_is)
    case zv_LARGEST_IN_ROW => (first | rfl | decide +kernel)
    case zo_LARGEST_IN_ROW_0 => (exact ⟨_, rfl⟩)
    case zo_LARGEST_IN_ROW_1 => (exact ⟨_, rfl⟩)
    case zo_LARGEST_IN_ROW_7 => (exact ⟨_, rfl⟩)
    case zo_LARGEST_IN_ROW_8 => (exact ⟨_, rfl⟩)
    case zo_LARGEST_IN_ROW_9 => (exact ⟨_, rfl⟩)
    case zo_LARGEST_IN_ROW_11 => (exact ⟨_, rfl⟩)
    case zo_LARGEST_IN_ROW_12 => (exact ⟨_, rfl⟩)
    case zo_LARGEST_IN_ROW_13 => (exact ⟨_, rfl⟩)
    case zb_len => (k_is)
    case zb_range => (k_is)
    case zb_enumerate => (k_is)
    case zb_zip => (k_is)
    case zb_reversed => (k_is)
    case zb_list => (k_is)
    case zb_sum => (k_is)
    case zb_max => (k_is)
    case zb_sorted => (k_is)
    case zb_any => (k_is)
    case zb_int => (k_is)
  case S =>
    intro K H xs a hO hwi hask hx
    cases hx with
    | cons h1 h2 =>
      cases h2
      cases h1 with
      | lst hs ha =>
        have e := L2.ints_dw a.1 _ ha
        subst e
        exact ⟨_, a.1, rfl, hs, hask, fun H' p hp => .lst (L2.SqL.of hp) (L2.dw_ints _)⟩
#print axioms PySem.Challenge.cw_sealedlots_s01_answers_holds
