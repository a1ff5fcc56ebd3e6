import PyProof.Rows.All
import Wide.All
import OpenK.AllK
import Wide.FinOn
import HandS.ForMost
import HandS.ReplaceList
import HandS.Walk
import HandS.ForExc
import HandS.ReplaceLit
import HandS.ReplaceDef
import HandS.IsInst
import HandS.Style
import HandS.Flow
import KE.KStrOpen
import PySem.Challenge.RW_signsleft_k01_names_as_written
set_option Elab.async false
set_option linter.all false
set_option maxRecDepth 100000
set_option maxHeartbeats 4000000
/-! Names as lists of codes: what a writing comes to, by a machine that goes sign by sign; plain Lean, nothing of the program. -/
namespace Nm
open PySem TL

def lowc (c : Nat) : Nat := if 65 ≤ c ∧ c ≤ 90 then c + 32 else c
def upc (c : Nat) : Nat := if 97 ≤ c ∧ c ≤ 122 then c - 32 else c
def isGap (c : Nat) : Bool := c == 32 || c == 95 || c == 45
def isAl (c : Nat) : Bool := (decide (97 ≤ c) && decide (c ≤ 122)) || (decide (48 ≤ c) && decide (c ≤ 57))
def okc (c : Nat) : Bool := isGap c || isAl (lowc c)
def okS (c : Nat) : Bool := okc c || c == 47

theorem gap_iff {c : Nat} : isGap c = true ↔ c = 32 ∨ c = 95 ∨ c = 45 := by
  unfold isGap
  simp only [Bool.or_eq_true, beq_iff_eq]
  omega
theorem gap_no {c : Nat} (h : isGap c = false) : c ≠ 32 ∧ c ≠ 95 ∧ c ≠ 45 := by
  refine ⟨fun e => ?_, fun e => ?_, fun e => ?_⟩ <;> (rw [gap_iff.mpr (by omega)] at h; cases h)
theorem low_cases (c : Nat) : (65 ≤ c ∧ c ≤ 90 ∧ lowc c = c + 32) ∨ (¬ (65 ≤ c ∧ c ≤ 90) ∧ lowc c = c) := by
  unfold lowc
  by_cases h : 65 ≤ c ∧ c ≤ 90
  · rw [if_pos h]
    exact .inl ⟨h.1, h.2, rfl⟩
  · rw [if_neg h]
    exact .inr ⟨h, rfl⟩
theorem up_cases (c : Nat) : (97 ≤ c ∧ c ≤ 122 ∧ upc c = c - 32) ∨ (¬ (97 ≤ c ∧ c ≤ 122) ∧ upc c = c) := by
  unfold upc
  by_cases h : 97 ≤ c ∧ c ≤ 122
  · rw [if_pos h]
    exact .inl ⟨h.1, h.2, rfl⟩
  · rw [if_neg h]
    exact .inr ⟨h, rfl⟩
theorem low_low (c : Nat) : lowc (lowc c) = lowc c := by
  rcases low_cases c with ⟨h1, h2, h3⟩ | ⟨h1, h3⟩
  · rcases low_cases (lowc c) with ⟨g1, g2, g3⟩ | ⟨g1, g3⟩
    · omega
    · exact g3
  · rw [h3, h3]
theorem low_up (c : Nat) : lowc (upc c) = lowc c := by
  rcases up_cases c with ⟨h1, h2, h3⟩ | ⟨h1, h3⟩
  · rw [h3]
    rcases low_cases (c - 32) with ⟨g1, g2, g3⟩ | ⟨g1, g3⟩
    · rcases low_cases c with ⟨k1, k2, k3⟩ | ⟨k1, k3⟩ <;> omega
    · omega
  · rw [h3]
theorem gap_low {c : Nat} (h : isGap c = false) : isGap (lowc c) = false := by
  have q := gap_no h
  cases e : isGap (lowc c) with
  | false => rfl
  | true =>
    have e' := gap_iff.mp e
    rcases low_cases c with ⟨k1, k2, k3⟩ | ⟨k1, k3⟩ <;> omega
theorem gap_up {c : Nat} (h : isGap c = false) : isGap (upc c) = false := by
  have q := gap_no h
  cases e : isGap (upc c) with
  | false => rfl
  | true =>
    have e' := gap_iff.mp e
    rcases up_cases c with ⟨k1, k2, k3⟩ | ⟨k1, k3⟩ <;> omega
theorem low47 {c : Nat} : lowc c = 47 ↔ c = 47 := by
  rcases low_cases c with ⟨k1, k2, k3⟩ | ⟨k1, k3⟩ <;> omega
theorem up47 {c : Nat} : upc c = 47 ↔ c = 47 := by
  rcases up_cases c with ⟨k1, k2, k3⟩ | ⟨k1, k3⟩ <;> omega
theorem low95 {c : Nat} (h : isGap c = false) : lowc c ≠ 95 := by
  have q := gap_no h
  rcases low_cases c with ⟨k1, k2, k3⟩ | ⟨k1, k3⟩ <;> omega

/-! ### a segment -/
abbrev SSt := List Nat × Bool
def segStep (st : SSt) (c : Nat) : SSt := if isGap c = true then (st.1, !st.1.isEmpty) else (st.1 ++ (if st.2 = true then [95] else []) ++ [lowc c], false)
def segR (l : List Nat) : SSt := l.foldl segStep ([], false)
def seg (l : List Nat) : List Nat := (segR l).1
theorem step_gap {st : SSt} {c : Nat} (h : isGap c = true) : segStep st c = (st.1, !st.1.isEmpty) := by unfold segStep; rw [if_pos h]
theorem step_no {st : SSt} {c : Nat} (h : isGap c = false) : segStep st c = (st.1 ++ (if st.2 = true then [95] else []) ++ [lowc c], false) := by
  unfold segStep
  rw [if_neg (by rw [h]; exact Bool.false_ne_true)]

/-! ### joined lists -/
theorem joinL_one (S x : List Nat) : joinL S [x] = x := rfl
theorem joinL_cons {S x : List Nat} {r : List (List Nat)} (h : r ≠ []) : joinL S (x :: r) = x ++ (S ++ joinL S r) := by
  cases r with
  | nil => exact absurd rfl h
  | cons y r => simp [joinL]
theorem joinL_snoc (S x : List Nat) : ∀ ws : List (List Nat), joinL S (ws ++ [x]) = (if ws = [] then x else joinL S ws ++ S ++ x)
  | [] => by simp [joinL_one]
  | [w] => by
    rw [if_neg (by simp), joinL_one]
    show joinL S (w :: [x]) = _
    rw [joinL_cons (by simp), joinL_one, List.append_assoc]
  | w :: v :: r => by
    rw [if_neg (by simp)]
    show joinL S (w :: ((v :: r) ++ [x])) = _
    rw [joinL_cons (by simp), joinL_snoc S x (v :: r), if_neg (by simp), joinL_cons (r := v :: r) (by simp)]
    simp [List.append_assoc]
theorem joinL_empty {ws : List (List Nat)} (h : ∀ w ∈ ws, w ≠ []) : (joinL [95] ws).isEmpty = ws.isEmpty := by
  cases ws with
  | nil => rfl
  | cons w r =>
    have hw := h w (by simp)
    cases r with
    | nil =>
      rw [joinL_one]
      cases w with
      | nil => exact absurd rfl hw
      | cons a b => rfl
    | cons v r =>
      rw [joinL_cons (by simp)]
      cases w with
      | nil => exact absurd rfl hw
      | cons a b => rfl

/-! ### a segment by its words, as a program may do it -/
def bar (c : Nat) : Nat := if isGap c = true then 95 else lowc c
def keepW (w : List Nat) : Bool := !w.isEmpty
def segP (l : List Nat) : List Nat := joinL [95] ((spl [95] 0 [] (l.map bar)).filter keepW)
theorem pre1_hit (c : Nat) (r : List Nat) : pre [c] (c :: r) = true := by simp [pre]
theorem pre1_miss {s c : Nat} (r : List Nat) (h : c ≠ s) : pre [s] (c :: r) = false := pre_of_head [] r h
theorem segP_run : ∀ (l : List Nat) (ws : List (List Nat)) (acc : List Nat), (∀ w ∈ ws, w ≠ []) →
    joinL [95] (ws ++ (spl [95] 0 acc (l.map bar)).filter keepW) = (l.foldl segStep (joinL [95] (ws ++ if acc = [] then [] else [acc]), decide (acc = []) && !ws.isEmpty)).1
  | [], ws, acc, h => by
    rw [List.map_nil, spl_nil, List.foldl_nil]
    cases acc with
    | nil => simp [keepW]
    | cons a b => simp [keepW]
  | c :: l, ws, acc, h => by
    rw [List.map_cons, List.foldl_cons]
    cases g : isGap c with
    | true =>
      have eb : bar c = 95 := by unfold bar; rw [if_pos g]
      rw [eb, spl_hit (pre1_hit 95 _), step_gap g]
      show joinL [95] (ws ++ List.filter keepW (acc :: spl [95] 0 [] (l.map bar))) = _
      cases acc with
      | nil =>
        have ih := segP_run l ws [] h
        rw [if_pos rfl, List.append_nil] at ih
        rw [if_pos rfl, List.append_nil, List.filter_cons_of_neg (by simp [keepW]), ih, joinL_empty h]
        simp
      | cons a b =>
        have h' : ∀ w ∈ ws ++ [a :: b], w ≠ [] := fun w hw => by
          rcases List.mem_append.mp hw with q | q
          · exact h w q
          · rw [List.mem_singleton.mp q]; simp
        have ih := segP_run l (ws ++ [a :: b]) [] h'
        rw [if_pos rfl, List.append_nil] at ih
        rw [if_neg (by simp), List.filter_cons_of_pos (by simp [keepW]), List.append_cons, ih]
        show _ = (List.foldl segStep (joinL [95] (ws ++ [a :: b]), !(joinL [95] (ws ++ [a :: b])).isEmpty) l).1
        rw [joinL_empty h']
        simp
    | false =>
      have eb : bar c = lowc c := by unfold bar; rw [if_neg (by rw [g]; exact Bool.false_ne_true)]
      rw [eb, spl_miss (pre1_miss _ (low95 g)), step_no g]
      have ih := segP_run l ws (acc ++ [lowc c]) h
      rw [if_neg (by simp), decide_eq_false (by simp), Bool.false_and] at ih
      rw [ih]
      congr 2
      cases acc with
      | nil =>
        rw [if_pos rfl, List.append_nil, joinL_snoc]
        cases ws with
        | nil => rfl
        | cons w r => simp [List.append_assoc]
      | cons a b =>
        rw [if_neg (by simp), joinL_snoc, joinL_snoc]
        cases ws with
        | nil => simp
        | cons w r => simp [List.append_assoc]
theorem segP_eq (l : List Nat) : segP l = seg l := by
  have h := segP_run l [] [] (fun w hw => by simp at hw)
  simpa [segP, seg, segR, joinL] using h

/-! ### what a segment comes to, once more -/
structure SInv (st : SSt) : Prop where
  back : segR st.1 = (st.1, false)
  open_ : st.2 = true → st.1 ≠ []
  n47 : 47 ∉ st.1
theorem sinv0 : SInv ([], false) := ⟨rfl, fun h => (by cases h), by simp⟩
theorem SInv.step {st : SSt} {c : Nat} (I : SInv st) (hc : c ≠ 47) : SInv (segStep st c) := by
  cases g : isGap c with
  | true =>
    rw [step_gap g]
    refine ⟨I.back, fun h => ?_, I.n47⟩
    intro e
    have h' : (!st.1.isEmpty) = true := h
    have e' : st.1 = [] := e
    rw [e'] at h'
    cases h'
  | false =>
    rw [step_no g]
    have hl : isGap (lowc c) = false := gap_low g
    refine ⟨?_, fun h => (by cases h), ?_⟩
    · show segR (st.1 ++ (if st.2 = true then [95] else []) ++ [lowc c]) = _
      unfold segR
      rw [List.foldl_append, List.foldl_append]
      have b : List.foldl segStep ([], false) st.1 = (st.1, false) := I.back
      rw [b]
      cases o : st.2 with
      | true =>
        have hne := I.open_ o
        rw [if_pos rfl, List.foldl_cons, List.foldl_nil, List.foldl_cons, List.foldl_nil, step_gap (c := 95) (by decide)]
        have hz : (!st.1.isEmpty) = true := by
          cases e : st.1 with
          | nil => exact absurd e hne
          | cons a b => rfl
        show segStep (st.1, !st.1.isEmpty) (lowc c) = _
        rw [hz, step_no hl, low_low] <;> rfl
      | false =>
        rw [if_neg Bool.false_ne_true, List.foldl_nil, List.foldl_cons, List.foldl_nil, step_no hl, low_low] <;> rfl
    · intro hm
      rcases List.mem_append.mp hm with q | q
      · rcases List.mem_append.mp q with q | q
        · exact I.n47 q
        · cases o : st.2 with
          | true =>
            rw [o, if_pos rfl] at q
            simp at q
          | false =>
            rw [o, if_neg Bool.false_ne_true] at q
            simp at q
      · have e := List.mem_singleton.mp q
        exact hc (low47.mp e.symm)
theorem SInv.run : ∀ (l : List Nat) {st : SSt}, SInv st → 47 ∉ l → SInv (l.foldl segStep st)
  | [], _, I, _ => I
  | c :: l, st, I, h => by
    rw [List.foldl_cons]
    exact SInv.run l (I.step fun e => h (by rw [e]; simp)) fun q => h (List.mem_cons_of_mem _ q)
theorem seg_inv {p : List Nat} (h : 47 ∉ p) : SInv (segR p) := SInv.run p sinv0 h
theorem seg_seg {p : List Nat} (h : 47 ∉ p) : seg (seg p) = seg p := by
  have q := (seg_inv h).back
  show (segR (seg p)).1 = _
  rw [show segR (seg p) = (seg p, false) from q]
theorem seg47 {p : List Nat} (h : 47 ∉ p) : 47 ∉ seg p := (seg_inv h).n47
theorem okc_low {c : Nat} (h : okc c = true) (g : isGap c = false) : okc (lowc c) = true := by
  unfold okc at h ⊢
  rw [g, Bool.false_or] at h
  rw [low_low, h, Bool.or_true]
theorem seg_ok : ∀ (l : List Nat) (st : SSt), l.all okc = true → st.1.all okc = true → (l.foldl segStep st).1.all okc = true
  | [], _, _, h => h
  | c :: l, st, hl, h => by
    rw [List.all_cons, Bool.and_eq_true] at hl
    rw [List.foldl_cons]
    refine seg_ok l _ hl.2 ?_
    cases g : isGap c with
    | true => rw [step_gap g]; exact h
    | false =>
      rw [step_no g]
      show (st.1 ++ (if st.2 = true then [95] else []) ++ [lowc c]).all okc = true
      rw [List.all_append, List.all_append, h, List.all_cons, okc_low hl.1 g]
      cases st.2 <;> simp <;> decide
theorem seg_len : ∀ (l : List Nat) (st : SSt), (l.foldl segStep st).1.length + (if (l.foldl segStep st).2 = true then 1 else 0) ≤ st.1.length + (if st.2 = true then 1 else 0) + l.length
  | [], st => by
    rw [List.foldl_nil, List.length_nil]
    exact Nat.le_refl _
  | c :: l, st => by
    rw [List.foldl_cons]
    have ih := seg_len l (segStep st c)
    refine Nat.le_trans ih ?_
    cases g : isGap c with
    | true =>
      rw [step_gap g]
      simp only [List.length_cons]
      split <;> split <;> omega
    | false =>
      rw [step_no g]
      simp only [List.length_append, List.length_cons, List.length_nil]
      cases st.2 <;> simp <;> omega

theorem all_congr {f g : Nat → Bool} : ∀ {l : List Nat}, (∀ c ∈ l, f c = g c) → l.all f = l.all g
  | [], _ => rfl
  | c :: l, h => by
    rw [List.all_cons, List.all_cons, h c (by simp), all_congr fun d hd => h d (List.mem_cons_of_mem _ hd)]
/-! ### whole names -/
def cuts (l : List Nat) : List (List Nat) := spl [47] 0 [] l
def nm (l : List Nat) : List Nat := joinL [47] ((cuts l).map seg)
def bnd (o : List Nat) : Bool := decide ((cuts o).length ≤ 4) && ((cuts o).all (fun p => !p.isEmpty) && decide (o.length ≤ 24))
def nameB (l : List Nat) : Bool := l.all okS && bnd (nm l)
def nameOf (l : List Nat) : Option (List Nat) := if nameB l = true then some (nm l) else none

/-- the first stroke, if there is one -/
theorem slash_split : ∀ l : List Nat, 47 ∉ l ∨ ∃ p r, 47 ∉ p ∧ l = p ++ 47 :: r
  | [] => .inl (by simp)
  | c :: l => by
    by_cases hc : c = 47
    · exact .inr ⟨[], l, by simp, by rw [hc]; rfl⟩
    · rcases slash_split l with h | ⟨p, r, hp, rfl⟩
      · exact .inl (by simp [h, Ne.symm hc])
      · exact .inr ⟨c :: p, r, by simp [hp, Ne.symm hc], rfl⟩
theorem cuts_last {p : List Nat} (h : 47 ∉ p) : cuts p = [p] := by
  have q := spl_last1 (S := []) (acc := []) h
  simpa [cuts] using q
theorem cuts_part {p r : List Nat} (h : 47 ∉ p) : cuts (p ++ 47 :: r) = p :: cuts r := by
  have q := spl_part1 (S := []) (acc := []) (rest := r) h
  simpa [cuts] using q
theorem cuts_ne (l : List Nat) : cuts l ≠ [] := by
  rcases slash_split l with h | ⟨p, r, hp, rfl⟩
  · rw [cuts_last h]; simp
  · rw [cuts_part hp]; simp
theorem cuts_ind {P : List Nat → Prop} (h1 : ∀ p, 47 ∉ p → P p) (h2 : ∀ p r, 47 ∉ p → P r → P (p ++ 47 :: r)) : ∀ (n : Nat) (l : List Nat), l.length ≤ n → P l
  | 0, l, h => h1 l (by rw [List.length_eq_zero_iff.mp (Nat.le_zero.mp h)]; simp)
  | n + 1, l, h => by
    rcases slash_split l with q | ⟨p, r, hp, rfl⟩
    · exact h1 l q
    · exact h2 p r hp (cuts_ind h1 h2 n r (by rw [List.length_append, List.length_cons] at h; omega))
theorem cuts_no (l : List Nat) : ∀ p ∈ cuts l, 47 ∉ p := by
  refine cuts_ind (P := fun l => ∀ p ∈ cuts l, 47 ∉ p) (fun p h => ?_) (fun p r h ih => ?_) l.length l (Nat.le_refl _)
  · rw [cuts_last h]
    intro q hq
    rw [List.mem_singleton.mp hq]
    exact h
  · rw [cuts_part h]
    intro q hq
    rcases List.mem_cons.mp hq with e | e
    · rw [e]; exact h
    · exact ih q e
theorem cuts_nm (l : List Nat) : cuts (nm l) = (cuts l).map seg := by
  refine spl_join (S := []) (by simp [cuts_ne l]) fun p hp => ?_
  obtain ⟨q, hq, rfl⟩ := List.mem_map.mp hp
  exact seg47 (cuts_no l q hq)
theorem nm_nm (l : List Nat) : nm (nm l) = nm l := by
  show joinL [47] ((cuts (nm l)).map seg) = joinL [47] ((cuts l).map seg)
  rw [cuts_nm, List.map_map]
  congr 1
  refine List.map_congr_left fun p hp => ?_
  exact seg_seg (cuts_no l p hp)
theorem all_cuts (f : Nat → Bool) (l : List Nat) : l.all (fun c => f c || c == 47) = (cuts l).all (fun p => p.all f) ∨ f 47 = true := by
  by_cases h47 : f 47 = true
  · exact .inr h47
  · refine .inl ?_
    refine cuts_ind (P := fun l => l.all (fun c => f c || c == 47) = (cuts l).all (fun p => p.all f)) (fun p h => ?_) (fun p r h ih => ?_) l.length l (Nat.le_refl _)
    · rw [cuts_last h, List.all_cons, List.all_nil, Bool.and_true]
      refine all_congr ?_
      intro c hc
      have : (c == 47) = false := by
        simp only [beq_eq_false_iff_ne, ne_eq]
        intro e
        exact h (e ▸ hc)
      rw [this, Bool.or_false]
    · rw [cuts_part h, List.all_cons, List.all_append, List.all_cons, ih]
      have e1 : p.all (fun c => f c || c == 47) = p.all f := by
        refine all_congr ?_
        intro c hc
        have : (c == 47) = false := by
          simp only [beq_eq_false_iff_ne, ne_eq]
          intro e
          exact h (e ▸ hc)
        rw [this, Bool.or_false]
      rw [e1]
      simp
theorem okS_cuts (l : List Nat) : l.all okS = (cuts l).all (fun p => p.all okc) := by
  rcases all_cuts okc l with h | h
  · exact h
  · exact absurd h (by decide)
theorem joinL_all (f : Nat → Bool) (h47 : f 47 = true) : ∀ ps : List (List Nat), (joinL [47] ps).all f = ps.all (fun p => p.all f)
  | [] => rfl
  | [p] => by simp [joinL_one]
  | p :: q :: r => by
    rw [joinL_cons (by simp), List.all_append, List.all_append, joinL_all f h47 (q :: r), List.all_cons (l := q :: r)]
    simp [h47]
theorem nm_ok {l : List Nat} (h : l.all okS = true) : (nm l).all okS = true := by
  unfold nm
  rw [joinL_all okS (by decide), List.all_map, List.all_eq_true]
  intro p hp
  rw [okS_cuts, List.all_eq_true] at h
  have q := seg_ok p ([], false) (h p hp) rfl
  show (seg p).all okS = true
  rw [List.all_eq_true]
  intro c hc
  have q' := List.all_eq_true.mp q c hc
  unfold okS
  rw [q', Bool.true_or]
/-- what a writing comes to is written as itself -/
theorem name_self {l d : List Nat} (h : nameOf l = some d) : nameOf d = some d := by
  unfold nameOf at h
  by_cases hb : nameB l = true
  · rw [if_pos hb] at h
    have e : nm l = d := Option.some.inj h
    subst e
    unfold nameB at hb
    rw [Bool.and_eq_true] at hb
    unfold nameOf nameB
    rw [nm_nm, nm_ok hb.1, hb.2]
    rfl
  · rw [if_neg hb] at h
    cases h
theorem name_len {l d : List Nat} (h : nameOf l = some d) : d.length ≤ 24 := by
  unfold nameOf at h
  by_cases hb : nameB l = true
  · rw [if_pos hb] at h
    have e : nm l = d := Option.some.inj h
    subst e
    unfold nameB bnd at hb
    simp only [Bool.and_eq_true, decide_eq_true_eq] at hb
    exact hb.2.2.2
  · rw [if_neg hb] at h
    cases h
theorem name_ok {l d : List Nat} (h : nameOf l = some d) : d.all okS = true := by
  have q := name_self h
  unfold nameOf at q
  by_cases hb : nameB d = true
  · unfold nameB at hb
    rw [Bool.and_eq_true] at hb
    exact hb.1
  · rw [if_neg hb] at q
    cases q
theorem name_nm {l d : List Nat} (h : nameOf l = some d) : nm d = d := by
  have q := name_self h
  unfold nameOf at q
  by_cases hb : nameB d = true
  · rw [if_pos hb] at q
    exact Option.some.inj q
  · rw [if_neg hb] at q
    cases q
theorem name_bnd {l d : List Nat} (h : nameOf l = some d) : bnd d = true := by
  have q := name_self h
  have e := name_nm h
  unfold nameOf at q
  by_cases hb : nameB d = true
  · unfold nameB at hb
    rw [Bool.and_eq_true, e] at hb
    exact hb.2
  · rw [if_neg hb] at q
    cases q

/-! ### the machine over whole names -/
def headOk (o : List Nat) : Bool := !o.isEmpty && !(o.getLast? == some 47)
def nmStep (st : SSt) (c : Nat) : SSt := if c = 47 then (st.1 ++ [47], false) else if isGap c = true then (st.1, headOk st.1) else (st.1 ++ (if st.2 = true then [95] else []) ++ [lowc c], false)
def nmR (l : List Nat) : SSt := l.foldl nmStep ([], false)
/-- where a segment begins -/
def Beg (o : List Nat) : Prop := o = [] ∨ o.getLast? = some 47
theorem head_beg {o a : List Nat} (hb : Beg o) (ha : 47 ∉ a) : headOk (o ++ a) = !a.isEmpty := by
  cases a with
  | nil =>
    rw [List.append_nil]
    rcases hb with rfl | h
    · rfl
    · unfold headOk
      rw [h]
      simp
  | cons x r =>
    have e : (o ++ x :: r).getLast? = (x :: r).getLast? := by
      rw [List.getLast?_append]
      cases q : (x :: r).getLast? with
      | none => simp at q
      | some v => rfl
    have h47 : ¬ (x :: r).getLast? = some 47 := fun q => ha (List.mem_of_getLast? q)
    unfold headOk
    rw [e]
    have h2 : ((x :: r).getLast? == some 47) = false := by
      cases q : ((x :: r).getLast? == some 47) with
      | false => rfl
      | true => exact absurd (eq_of_beq q) h47
    rw [h2]
    simp
theorem nm_seg {o : List Nat} (hb : Beg o) : ∀ (p : List Nat) (st : SSt), SInv st → 47 ∉ p → p.foldl nmStep (o ++ st.1, st.2) = (o ++ (p.foldl segStep st).1, (p.foldl segStep st).2)
  | [], _, _, _ => rfl
  | c :: p, st, I, h => by
    have hc : c ≠ 47 := fun e => h (by rw [e]; simp)
    rw [List.foldl_cons, List.foldl_cons]
    have e : nmStep (o ++ st.1, st.2) c = (o ++ (segStep st c).1, (segStep st c).2) := by
      unfold nmStep
      rw [if_neg hc]
      cases g : isGap c with
      | true => rw [step_gap g, if_pos rfl, head_beg hb I.n47]
      | false =>
        rw [step_no g, if_neg Bool.false_ne_true]
        simp [List.append_assoc]
    rw [e]
    exact nm_seg hb p _ (I.step hc) fun q => h (List.mem_cons_of_mem _ q)
theorem nm_run : ∀ (n : Nat) (l o : List Nat), l.length ≤ n → Beg o → (l.foldl nmStep (o, false)).1 = o ++ nm l := by
  intro n
  refine fun l o h => cuts_ind (P := fun l => ∀ o, Beg o → (l.foldl nmStep (o, false)).1 = o ++ nm l) (fun p hp o hb => ?_) (fun p r hp ih o hb => ?_) n l h o
  · have q := nm_seg hb p ([], false) sinv0 hp
    rw [List.append_nil] at q
    rw [q]
    show o ++ seg p = o ++ nm p
    unfold nm
    rw [cuts_last hp]
    rfl
  · rw [List.foldl_append, List.foldl_cons]
    have q := nm_seg hb p ([], false) sinv0 hp
    rw [List.append_nil] at q
    rw [q]
    have e : nmStep (o ++ (p.foldl segStep ([], false)).1, (p.foldl segStep ([], false)).2) 47 = (o ++ seg p ++ [47], false) := by
      unfold nmStep
      rw [if_pos rfl]
      rfl
    rw [e, ih _ (.inr (by simp))]
    unfold nm
    rw [cuts_part hp, List.map_cons, joinL_cons (by simp [cuts_ne r])]
    simp [List.append_assoc]
theorem nmR_nm (l : List Nat) : (nmR l).1 = nm l := by
  have q := nm_run l.length l [] (Nat.le_refl _) (.inl rfl)
  simpa [nmR] using q
theorem nms_gap {st : SSt} {c : Nat} (h : isGap c = true) : nmStep st c = (st.1, headOk st.1) := by
  unfold nmStep
  have q : c ≠ 47 := by
    have := gap_iff.mp h
    omega
  rw [if_neg q, if_pos h]
/-- one gap or a run of them: the same -/
theorem nms_gaps : ∀ (g : List Nat) (st : SSt), g ≠ [] → g.all isGap = true → g.foldl nmStep st = (st.1, headOk st.1)
  | [], _, h, _ => absurd rfl h
  | [c], st, _, h => by
    rw [List.all_cons, Bool.and_eq_true] at h
    rw [List.foldl_cons, List.foldl_nil, nms_gap h.1]
  | c :: d :: r, st, _, h => by
    rw [List.all_cons, Bool.and_eq_true] at h
    rw [List.foldl_cons, nms_gap h.1, nms_gaps (d :: r) _ (by simp) h.2]
theorem nms_up {st : SSt} {c : Nat} (h : isGap c = false) : nmStep st (upc c) = nmStep st c := by
  unfold nmStep
  by_cases hc : c = 47
  · rw [if_pos hc, if_pos (up47.mpr hc)]
  · rw [if_neg hc, if_neg (fun q => hc (up47.mp q)), gap_up h, h, low_up]
/-- a sign of a name written in another way -/
def OneWay (c : Nat) (w : List Nat) : Prop := (c = 95 ∧ w ≠ [] ∧ w.all isGap = true) ∨ (c ≠ 95 ∧ (w = [c] ∨ w = [upc c]))
theorem way_run {c : Nat} {w : List Nat} (h : OneWay c w) (hg : c = 95 ∨ isGap c = false) (st : SSt) : w.foldl nmStep st = nmStep st c := by
  rcases h with ⟨rfl, h1, h2⟩ | ⟨h1, h2⟩
  · rw [nms_gaps w st h1 h2, nms_gap (by decide)]
  · have g : isGap c = false := by
      rcases hg with q | q
      · exact absurd q h1
      · exact q
    rcases h2 with rfl | rfl
    · rfl
    · rw [List.foldl_cons, List.foldl_nil, nms_up g]
theorem way_ok {c : Nat} {w : List Nat} (h : OneWay c w) (hc : okS c = true) : w.all okS = true := by
  rcases h with ⟨rfl, h1, h2⟩ | ⟨h1, h2⟩
  · rw [List.all_eq_true] at h2 ⊢
    intro x hx
    unfold okS okc
    rw [h2 x hx]
    rfl
  · rcases h2 with rfl | rfl
    · simp [hc]
    · have e : okS (upc c) = true := by
        unfold okS okc at hc ⊢
        rw [low_up]
        cases g : isGap c with
        | true =>
          have q := gap_iff.mp g
          have eu : upc c = c := by rcases up_cases c with ⟨k1, k2, k3⟩ | ⟨k1, k3⟩ <;> omega
          rw [eu, g]
          rfl
        | false =>
          rw [gap_up g]
          rw [g] at hc
          have e2 : (upc c == 47) = (c == 47) := by
            rw [Bool.eq_iff_iff, beq_iff_eq, beq_iff_eq]
            exact up47
          rw [e2]
          exact hc
      simp [e]
/-- d written in another way, sign by sign, with gaps ahead and behind -/
theorem name_way {d b pre suf : List Nat} (h : nameOf d = some d) (hb : (nmR b) = nmR d) (hok : b.all okS = true) (hp : pre.all isGap = true) (hs : suf.all isGap = true) : nameOf (pre ++ b ++ suf) = some d := by
  have ed := name_nm h
  have run : nmR (pre ++ b) = nmR d := by
    unfold nmR
    rw [List.foldl_append]
    have e0 : pre.foldl nmStep ([], false) = ([], false) := by
      cases pre with
      | nil => rfl
      | cons c r => exact nms_gaps (c :: r) _ (by simp) hp
    rw [e0]
    exact hb
  have e : nm (pre ++ b ++ suf) = d := by
    rw [← nmR_nm]
    unfold nmR
    rw [List.foldl_append, show List.foldl nmStep ([], false) (pre ++ b) = nmR d from run]
    cases suf with
    | nil =>
      rw [List.foldl_nil, nmR_nm]
      exact ed
    | cons c r =>
      rw [nms_gaps (c :: r) _ (by simp) hs]
      show (nmR d).1 = d
      rw [nmR_nm]
      exact ed
  have gapok : ∀ l : List Nat, l.all isGap = true → l.all okS = true := fun l hl => by
    rw [List.all_eq_true] at hl ⊢
    intro x hx
    unfold okS okc
    rw [hl x hx]
    rfl
  unfold nameOf nameB
  rw [e, List.all_append, List.all_append, gapok pre hp, gapok suf hs, hok, name_bnd h]
  rfl
/-- as a law may reckon a name -/
def good (p : List Nat) : Option (List Nat) := if (p.all okc && !(seg p).isEmpty) = true then some (seg p) else none
theorem law_name (l : List Nat) : nameOf l = if (none ∈ (cuts l).map good ∨ (cuts l).length > 4 ∨ (nm l).length > 24) then none else some (nm l) := by
  unfold nameOf
  have key : nameB l = true ↔ ¬ (none ∈ (cuts l).map good ∨ (cuts l).length > 4 ∨ (nm l).length > 24) := by
    unfold nameB bnd
    rw [okS_cuts, cuts_nm]
    simp only [Bool.and_eq_true, decide_eq_true_eq, List.length_map, List.all_eq_true, List.mem_map, not_or, good]
    constructor
    · rintro ⟨h1, h2, h3, h4⟩
      refine ⟨?_, by omega, by omega⟩
      rintro ⟨p, hp, e⟩
      have q1 := h1 p hp
      have q2 := h3 (seg p) ⟨p, hp, rfl⟩
      rw [if_pos ⟨q1, q2⟩] at e
      cases e
    · rintro ⟨h1, h2, h3⟩
      have hp : ∀ p ∈ cuts l, (∀ x ∈ p, okc x = true) ∧ (!(seg p).isEmpty) = true := fun p hp => by
        by_cases c : (∀ x ∈ p, okc x = true) ∧ (!(seg p).isEmpty) = true
        · exact c
        · exact absurd ⟨p, hp, if_neg c⟩ h1
      refine ⟨fun p q => (hp p q).1, by omega, ?_, by omega⟩
      rintro x ⟨p, q, rfl⟩
      exact (hp p q).2
  by_cases h : nameB l = true
  · rw [if_pos h, if_neg (key.mp h)]
  · rw [if_neg h]
    by_cases c : (none ∈ (cuts l).map good ∨ (cuts l).length > 4 ∨ (nm l).length > 24)
    · rw [if_pos c]
    · exact absurd (key.mpr c) h
end Nm

/-! Own rules beside the hand layer, and texts as lists of codes. -/
namespace Nm
open PySem PySem.Spec PyProof.Rows L2 TL

section
variable {X : Cx}
/-- list + list, the left one read only -/
def rCatS (K : PySem.W.Frag) : R2 := fun x y H Q => ∃ l b xs zs, x = .ref l ∧ y = .ref b ∧ SqL K H l xs ∧ SqL K H b zs ∧ xs.length + zs.length ≤ sizeLine ∧ ∀ p, H p = none → Q (.ref p) (upd H p (.lst (xs ++ zs)))
theorem op_catS : OpR X (binaryOp .Add) (rCatS X.K) := by
  intro pins s σ H x y v u Q I rx ry h
  obtain ⟨l, b, xs, zs, rfl, rfl, hL, hB, hz, q⟩ := h
  cases rx
  cases ry
  obtain ⟨its, r, ⟨⟨cls, dd, data, sl⟩, n, ho, hc, _, hd⟩, hl⟩ := I.list hL
  obtain ⟨its2, r2, ⟨⟨cls2, dd2, data2, sl2⟩, n2, ho2, hc2, _, hd2⟩, hl2⟩ := I.list hB
  simp only at hc hd hc2 hd2
  subst hc hd hc2 hd2
  have e : its.toArray ++ its2.toArray = (its ++ its2).toArray := by simp
  have hsz : its.length + its2.length ≤ sizeLine := by
    rw [← r.length, ← r2.length]
    exact hz
  refine concat_meets ⟨_, ho, rfl⟩ ⟨_, ho2, rfl⟩ noFill_list_add seq_list_add PySem.F.slot_list_add PySem.F.entry_list_add (PySem.F.args_list_add_2 _ _) (list_addW l b its.toArray its2.toArray n n2 dd dd2 sl sl2 (by simpa using hsz)) ⟨ho, ho2, ?_⟩
  rw [e]
  exact ⟨.ref _, _, I.lnew (t' := s.toks) (r.append r2) (by rw [List.length_append]; omega), rfl, q _ I.fresh⟩
/-- name = value, a token out ahead -/
theorem pst_set {i : Nat} {x : Str} {e : Expr} {te : TE} {pos' pos : Pos} (hN : X.N.Nodup) (hi : X.N[i]? = some x) (hx : Loc X.env.scope x) (he : PET X e te) (hs : swapsWith e (some (.Name x pos')) pos.line X.env = pure false := by rfl) (hf : X.fn x = true ∨ X.env.scope.names.lookup x = some .local := by first | exact .inl rfl | exact .inr rfl | assumption) :
    PST X (.Assign [.Name x pos'] e pos) (tAsg te (gName i)) := by
  intro pins s σ H D h0 I h
  refine wpAny_Assign_Name (thn (he pins s σ H _ h0 I h) fun v s1 ⟨y, H1, I1, r1, q1⟩ => ?_) hs
  exact store_ok I1 hN hi hx r1 (fun s2 I2 => ⟨_, H1, I2, q1⟩) hf
end

section
variable {P : Program} {w : World} {K : PySem.W.Frag} {mg : Str → Option Value} {base : Heap}
/-- as Fun.ok, for a body that wants a token out -/
theorem okT {x qual : Str} {st : Stmt} {f : Addr} {fd : FuncData} {N ps : List Str} {k : Nat} {sp : Sp} (F : Fun K x qual st f fd) (S : FnScope N ps (defScope st)) (hnc : ∀ y ∈ (defScope st).names, y.2 ≠ .cell) (hps : 1 ≤ ps.length) (len : ∀ vs H Q E, sp vs H Q E → vs.length = ps.length)
    (hbody : ∀ (cdv : Value) (A : Around) (outer : List Env) (s : Shared) (H : Hp) (vs : List V) (Q : VK) (E : XK), Room k (A.deeper (envOfC qual (defScope st) s.heap.objs.size f cdv)) → sp vs H Q E →
      ∃ t, PSsT (cxOf CX0 P w K mg base N qual (defScope st) f cdv A outer s H E) (defBody st) t ∧ t { nx := fun _ H' => Q .non H', rt := Q } (start N vs) H) : FnOk P w K mg base CX0 (k + 1) f fd ps sp := by
  obtain ⟨oc, od, kV, doc, pm, an, cdv, ct, osl, rfl, lk, hcd⟩ := F.ex
  exact fn_ofT lk hcd S hnc hps len fun A outer s H vs Q E hr hsp => hbody cdv A outer s H vs Q E hr hsp
/-- a def of the text, as the top has left it -/
def FunAt (K : PySem.W.Frag) (mg : Str → Option Value) (x : Str) (st : Stmt) (ps : List Str) : Prop := ∃ f fd, Fun K x x st f fd ∧ mg x = some (.ref f) ∧ Binds K fd ps []
/-- a def that keeps its promise, ready to be called -/
def Cal (P : Program) (w : World) (K : PySem.W.Frag) (mg : Str → Option Value) (base : Heap) (CX : CXT) (x : Str) (ps : List Str) (k : Nat) (sp : Sp) : Prop :=
  ∃ f fd, FnOk P w K mg base CX k f fd ps sp ∧ mg x = some (.ref f) ∧ PySem.W.keepIn K (.ref f) = true ∧ Binds K fd ps []
/-- an own error class, without values -/
structure ErrAt (K : PySem.W.Frag) (mg : Str → Option Value) (x : Str) (C : Addr) : Prop where
  g : mg x = some (.ref C)
  x : PySem.W.excIn K C [.type "ValueError", .type "Exception", .type "BaseException", .type "object"] "ValueError.__new__" = true
  k : PySem.W.keepIn K (.ref C) = true
  b : PySem.W.subIn K (.ref C) (.type "BaseException") = some true
  t : PySem.W.typeIn K (.ref C) = some (.type "type")
  e : PySem.W.exmOne K (.ref C) (.ref C) = some true
theorem exm_self {K : PySem.W.Frag} {S : Addr} (h1 : PySem.W.subIn K (.ref S) (.type "BaseException") = some true) (h2 : PySem.W.isClsIn K S = true) (h3 : PySem.W.typeIn K (.ref S) = some (.type "type")) (h4 : PySem.W.subIn K (.ref S) (.ref S) = some true) :
    PySem.W.exmOne K (.ref S) (.ref S) = some true := by
  have e1 : (PySem.W.subIn K (.ref S) (.type "BaseException") == some true) = true := by rw [h1] <;> rfl
  have e2 : ((PySem.W.clsIn K S).isSome && PySem.W.typeIn K (.ref S) == some (.type "type")) = true := by
    have h2' : (PySem.W.clsIn K S).isSome = true := h2
    rw [h2', h3] <;> rfl
  show (if (PySem.W.subIn K (.ref S) (.type "BaseException") == some true) = true then (if ((PySem.W.clsIn K S).isSome && PySem.W.typeIn K (.ref S) == some (.type "type")) = true then PySem.W.subIn K (.ref S) (.ref S) else none) else none) = some true
  rw [if_pos e1, if_pos e2]
  exact h4
end

/-! ### texts -/
/-- the text of these codes -/
def S (l : List Nat) : Str := ⟨l.toArray⟩
theorem tl_S (l : List Nat) : tl (S l) = l := rfl
theorem S_tl (z : Str) : S (tl z) = z := ext_tl rfl
theorem len_S (l : List Nat) : (S l).length = l.length := by rw [len_tl]; rfl
theorem S_app (a b : List Nat) : S a ++ S b = S (a ++ b) := ext_tl (by rw [tl_append]; rfl)
theorem S_inj {a b : List Nat} (h : S a = S b) : a = b := by
  have e := congrArg tl h
  exact e
theorem S_beq (a b : List Nat) : (S a == S b) = (a == b) := by
  rw [Bool.eq_iff_iff, beq_iff_eq, beq_iff_eq]
  exact ⟨S_inj, fun h => by rw [h]⟩
def Asc (l : List Nat) : Prop := ∀ c ∈ l, c < 128
theorem ok_asc {c : Nat} (h : okS c = true) : c < 128 := by
  unfold okS okc isGap isAl at h
  simp only [Bool.or_eq_true, Bool.and_eq_true, beq_iff_eq, decide_eq_true_eq] at h
  rcases low_cases c with ⟨k1, k2, k3⟩ | ⟨k1, k3⟩ <;> omega
theorem asc_of {l : List Nat} (h : l.all okS = true) : Asc l := fun c hc => ok_asc (List.all_eq_true.mp h c hc)
theorem lower_S {l : List Nat} (h : Asc l) : Txt.lower (S l) = S (l.map lowc) := by
  have e := lower_ascii (x := S l) (fun c hc => h c (by simpa [S] using hc))
  rw [e]
  refine ext_tl ?_
  show ((S l).cps.map lo1).toList = l.map lowc
  rw [Array.toList_map]
  rfl
theorem upper_S {l : List Nat} (h : Asc l) : Txt.upper (S l) = S (l.map upc) := by
  have e := upper_ascii (x := S l) (fun c hc => h c (by simpa [S] using hc))
  rw [e]
  refine ext_tl ?_
  show ((S l).cps.map up1).toList = l.map upc
  rw [Array.toList_map]
  rfl
theorem repl1 (y z : Nat) : ∀ l : List Nat, StrLaws.replL [y] [z] l = l.map (fun c => if c = y then z else c)
  | [] => StrLaws.replL_nil
  | c :: l => by
    by_cases h : c = y
    · rw [StrLaws.replL_hit (by simp) (by simp [h]), List.map_cons, if_pos h]
      show [z] ++ StrLaws.replL [y] [z] ((c :: l).drop 1) = _
      rw [List.drop_one, List.tail_cons, repl1 y z l]
      rfl
    · rw [StrLaws.replL_miss (by simp [h]), List.map_cons, if_neg h, repl1 y z l]
theorem replace_S (y z : Nat) (l : List Nat) : Txt.replace (S l) (S [y]) (S [z]) = S (l.map (fun c => if c = y then z else c)) := by
  refine ext_tl ?_
  rw [tl_S, ← repl1]
  exact StrLaws.replace_list (by rw [len_S]; exact Nat.le_refl 1)
theorem bars (l : List Nat) : ((l.map lowc).map (fun c => if c = 32 then 95 else c)).map (fun c => if c = 45 then 95 else c) = l.map bar := by
  rw [List.map_map, List.map_map]
  refine List.map_congr_left fun c _ => ?_
  show (if (if lowc c = 32 then 95 else lowc c) = 45 then 95 else (if lowc c = 32 then 95 else lowc c)) = bar c
  unfold bar
  cases g : isGap c with
  | true =>
    rw [if_pos rfl]
    rcases gap_iff.mp g with rfl | rfl | rfl <;> decide
  | false =>
    rw [if_neg Bool.false_ne_true]
    have h := gap_no g
    have e1 : lowc c ≠ 32 := by rcases low_cases c with ⟨k1, k2, k3⟩ | ⟨k1, k3⟩ <;> omega
    have e2 : lowc c ≠ 45 := by rcases low_cases c with ⟨k1, k2, k3⟩ | ⟨k1, k3⟩ <;> omega
    rw [if_neg e1, if_neg e2]
/-- split at one plain sign -/
theorem split_S {s : Nat} (hs : s < 256) (l : List Nat) : Txt.split (S l) (S [s]) = (spl [s] 0 [] l).map S := by
  refine map_tl_inj ?_
  rw [split_spl (S l) (S [s]) (by show [s] ≠ []; simp) (kind_ok (by simp [S, hs])), List.map_map]
  show spl [s] 0 [] l = _
  conv => lhs; rw [← List.map_id (spl [s] 0 [] l)]
  rfl
theorem join_S (a : List Nat) (ps : List (List Nat)) : Txt.join (S a) (ps.map S) = S (joinL a ps) := by
  refine ext_tl ?_
  rw [join_eq, tl_join, tl_S, tl_S, List.map_map]
  congr 1
  conv => rhs; rw [← List.map_id ps]
  rfl

/-! ### lengths -/
theorem spl1_len (s : Nat) : ∀ (l acc : List Nat), (spl [s] 0 acc l).length ≤ l.length + 1
  | [], acc => by rw [spl_nil]; simp
  | c :: l, acc => by
    by_cases h : c = s
    · have := spl1_len s l []
      rw [h, spl_hit (pre1_hit s l), List.length_cons, List.length_cons]
      show (spl [s] 0 [] l).length + 1 ≤ l.length + 1 + 1
      omega
    · rw [spl_miss (pre1_miss l h), List.length_cons]
      have := spl1_len s l (acc ++ [c])
      omega
theorem joinL_len (S : List Nat) : ∀ ps : List (List Nat), (joinL S ps).length ≤ (ps.map List.length).sum + S.length * ps.length
  | [] => by simp [joinL]
  | [p] => by simp [joinL_one]
  | p :: q :: r => by
    rw [joinL_cons (by simp), List.length_append, List.length_append]
    have := joinL_len S (q :: r)
    simp only [List.map_cons, List.sum_cons, List.length_cons, Nat.mul_add, Nat.mul_one] at this ⊢
    omega
end Nm

namespace Nm
open PySem PySem.Spec PyProof.Rows L2 TL
/-- the reading of a truth test -/
def tTruth (K : PySem.W.Frag) (ta : TE) : TT := fun σ H Q => ta σ H fun x H' => ∃ k, TruV K x H' k ∧ Q k H'
theorem S_eq (a b : List Nat) : (S a = S b) = (a = b) := propext ⟨S_inj, fun h => by rw [h]⟩
theorem one_S (c : Nat) : ({ cps := #[c] } : Str) = S [c] := rfl
theorem walk_S {l : List Nat} : Walk (Its (S l)) l.length (fun _ => True) (fun i H v H' => H' = H ∧ ∃ c, l[i]? = some c ∧ v = .str (S [c])) := by
  have h := @walk_str (S l)
  have e : (S l).cps.size = l.length := by simp [S]
  rw [e] at h
  refine ⟨h.goes, h.stops, fun i H x H' hi _ y => ?_⟩
  obtain ⟨e1, c, hc, e2⟩ := h.yields i H x H' hi trivial y
  exact ⟨e1, c, by simpa [S] using hc, e2⟩
theorem take_all {f : Nat → Bool} {l : List Nat} {i c : Nat} (h : (l.take i).all f = true) (hc : l[i]? = some c) (g : f c = true) : (l.take (i + 1)).all f = true := by
  rw [List.take_add_one, hc, List.all_append, h]
  simp [g]
theorem all_false {f : Nat → Bool} {l : List Nat} {i c : Nat} (hc : l[i]? = some c) (g : f c = false) : l.all f = false := by
  cases q : l.all f with
  | false => rfl
  | true =>
    have := List.all_eq_true.mp q c (List.mem_of_getElem? hc)
    rw [g] at this
    cases this
theorem take_len {l : List Nat} : l.take l.length = l := List.take_length
/-! ### heaps -/
theorem same_upd {H : Hp} {p : Addr} {o : HO} (h : H p = none) : Same H (upd H p o) := fun b x e => by
  rw [upd_ne (ne_of_none e h)]
  exact e
/-- all but what stands at a is as it was -/
def Keep (a : Addr) (H H' : Hp) : Prop := ∀ b o, H b = some o → b ≠ a → H' b = some o
theorem Keep.refl (a : Addr) (H : Hp) : Keep a H H := fun _ _ h _ => h
theorem Keep.trans {a : Addr} {H H1 H2 : Hp} (x : Keep a H H1) (y : Keep a H1 H2) : Keep a H H2 := fun b o h n => y b o (x b o h n) n
theorem keep_same {a : Addr} {H H' : Hp} (x : Same H H') : Keep a H H' := fun b o h _ => x b o h
theorem keep_upd {a : Addr} {H : Hp} {o : HO} : Keep a H (upd H a o) := fun b u h n => by
  rw [upd_ne n]
  exact h
theorem keep_new {a p : Addr} {H : Hp} {o : HO} (hp : H p = none) : Keep a H (upd H p o) := keep_same (same_upd hp)
theorem Keep.same {a : Addr} {H H1 H2 : Hp} (x : Keep a H H1) (y : Same H1 H2) : Keep a H H2 := fun b o h n => y b o (x b o h n)
/-- behind a call: what was free ahead and is changed behind -/
theorem Keep.upd_free {a p : Addr} {H H1 : Hp} {o : HO} (x : Keep a H H1) (hp : H p = none) : Keep a H (upd H1 p o) := fun b u h n => by
  rw [upd_ne (ne_of_none h hp)]
  exact x b u h n
theorem Same.upd_free {p : Addr} {H H1 : Hp} {o : HO} (x : Same H H1) (hp : H p = none) : Same H (upd H1 p o) := fun b u h => by
  rw [upd_ne (ne_of_none h hp)]
  exact x b u h
/-! ### the drawing's state -/
def StOk (x y z : Int) : Prop := 0 ≤ x ∧ 0 ≤ y ∧ 7 ≤ z ∧ z < 2147483700
def Dr (H : Hp) (a : Addr) : Prop := ∃ x y z, H a = some (.lst [.int x, .int y, .int z]) ∧ StOk x y z
theorem Dr.same {a : Addr} {H H' : Hp} (h : Dr H a) (s : Same H H') : Dr H' a := by
  obtain ⟨x, y, z, e, o⟩ := h
  exact ⟨x, y, z, s _ _ e, o⟩
theorem Dr.upd {a p : Addr} {H : Hp} {o : HO} (h : Dr H a) (hp : H p = none) : Dr (L2.upd H p o) a := h.same (same_upd hp)
theorem Dr.ne {a p : Addr} {H : Hp} (h : Dr H a) (hp : H p = none) : a ≠ p := by
  obtain ⟨x, y, z, e, o⟩ := h
  exact ne_of_none e hp
theorem Dr.upd_ne {a p : Addr} {H : Hp} {o : HO} (h : Dr H a) (hp : a ≠ p) : Dr (L2.upd H p o) a := by
  obtain ⟨x, y, z, e, k⟩ := h
  exact ⟨x, y, z, by rw [L2.upd_ne hp]; exact e, k⟩
theorem at3_0 {a b c : V} : atI [a, b, c] 0 = some a := rfl
theorem at3_1 {a b c : V} : atI [a, b, c] 1 = some b := rfl
theorem at3_2 {a b c : V} : atI [a, b, c] 2 = some c := rfl
theorem at2_0 {a b : V} : atI [a, b] 0 = some a := rfl
theorem at2_1 {a b : V} : atI [a, b] 1 = some b := rfl
theorem sz {n : Nat} (h : n ≤ 16000000) : n ≤ sizeLine := by
  rw [sizeLine_eq]
  omega
theorem sz' {n : Nat} (h : n < 16000000) : n < sizeLine := by
  rw [sizeLine_eq]
  omega
theorem len2 : ((S [47]).length == 0) = false := rfl
theorem joinL_flat : ∀ ps : List (List Nat), joinL [] ps = ps.flatten
  | [] => rfl
  | [p] => by simp [joinL_one]
  | p :: q :: r => by
    rw [joinL_cons (by simp), joinL_flat (q :: r)]
    simp
theorem flat1 : ∀ ls : List Nat, (ls.map fun c => [c]).flatten = ls
  | [] => rfl
  | c :: l => by simp [flat1 l]
end Nm
namespace Nm
open PySem PySem.Spec PyProof.Rows L2 TL
theorem lit_e : Str.ofString "" = S [] := by decide +kernel
theorem lit_sp : Str.ofString " " = S [32] := by decide +kernel
theorem lit_bar : Str.ofString "_" = S [95] := by decide +kernel
theorem lit_dash : Str.ofString "-" = S [45] := by decide +kernel
theorem lit_dash2 : Str.ofString "--" = S [45, 45] := by decide +kernel
theorem lit_sl : Str.ofString "/" = S [47] := by decide +kernel
theorem lit_gaps : Str.ofString " _-" = S [32, 95, 45] := by decide +kernel
theorem filter_all {α : Type} (p : α → Bool) (l : List α) (i : Nat) (x : α) (h : l[i]? = some x) : (l.take (i + 1)).filter p = (l.take i).filter p ++ (if p x = true then [x] else []) := by
  rw [List.take_add_one, h, List.filter_append]
  cases q : p x <;> simp [q]
theorem map_take1 {α β : Type} (f : α → β) (l : List α) (i : Nat) (x : α) (h : l[i]? = some x) : (l.take (i + 1)).map f = (l.take i).map f ++ [f x] := by
  rw [List.take_add_one, h, List.map_append]
  rfl
theorem spl_mem_len (s : Nat) : ∀ (l acc : List Nat), ∀ p ∈ spl [s] 0 acc l, p.length ≤ acc.length + l.length
  | [], acc, p, hp => by
    rw [spl_nil] at hp
    rw [List.mem_singleton.mp hp]
    simp
  | c :: l, acc, p, hp => by
    by_cases h : c = s
    · rw [h, spl_hit (pre1_hit s l)] at hp
      rcases List.mem_cons.mp hp with e | e
      · rw [e]
        simp
      · have := spl_mem_len s l [] p e
        simp only [List.length_cons, List.length_nil] at this ⊢
        omega
    · rw [spl_miss (pre1_miss l h)] at hp
      have := spl_mem_len s l (acc ++ [c]) p hp
      simp only [List.length_append, List.length_cons, List.length_nil] at this ⊢
      omega
theorem spl_sum (s : Nat) : ∀ (l acc : List Nat), ((spl [s] 0 acc l).map List.length).sum ≤ acc.length + l.length
  | [], acc => by rw [spl_nil]; simp
  | c :: l, acc => by
    by_cases h : c = s
    · rw [h, spl_hit (pre1_hit s l), List.map_cons, List.sum_cons]
      have := spl_sum s l []
      simp only [List.length_cons, List.length_nil] at this ⊢
      show acc.length + ((spl [s] 0 [] l).map List.length).sum ≤ _
      omega
    · rw [spl_miss (pre1_miss l h)]
      have := spl_sum s l (acc ++ [c])
      simp only [List.length_append, List.length_cons, List.length_nil] at this ⊢
      omega
theorem sum_filter (p : List Nat → Bool) : ∀ ps : List (List Nat), ((ps.filter p).map List.length).sum ≤ (ps.map List.length).sum
  | [] => Nat.le_refl _
  | x :: r => by
    have := sum_filter p r
    rw [List.filter_cons]
    split
    · simp only [List.map_cons, List.sum_cons]
      omega
    · simp only [List.map_cons, List.sum_cons]
      omega
theorem lens_S (ps : List (List Nat)) : ((ps.map S).map (·.length)).sum = (ps.map List.length).sum := by
  rw [List.map_map]
  congr 1
theorem map_VS (ps : List (List Nat)) : (ps.map S).map V.str = ps.map (fun p => V.str (S p)) := by rw [List.map_map]; rfl
theorem spl_mem (s : Nat) : ∀ (l acc : List Nat), ∀ p ∈ spl [s] 0 acc l, ∀ c ∈ p, c ∈ acc ∨ c ∈ l
  | [], acc, p, hp, c, hc => by
    rw [spl_nil] at hp
    rw [List.mem_singleton.mp hp] at hc
    exact .inl hc
  | d :: l, acc, p, hp, c, hc => by
    by_cases h : d = s
    · rw [h, spl_hit (pre1_hit s l)] at hp
      rcases List.mem_cons.mp hp with e | e
      · rw [e] at hc
        exact .inl hc
      · rcases spl_mem s l [] p e c hc with q | q
        · simp at q
        · exact .inr (List.mem_cons_of_mem _ q)
    · rw [spl_miss (pre1_miss l h)] at hp
      rcases spl_mem s l (acc ++ [d]) p hp c hc with q | q
      · rcases List.mem_append.mp q with q | q
        · exact .inl q
        · rw [List.mem_singleton.mp q]
          exact .inr (by simp)
      · exact .inr (List.mem_cons_of_mem _ q)
theorem cuts_mem {l p : List Nat} {c : Nat} (hp : p ∈ spl [47] 0 [] l) (hc : c ∈ p) : c ∈ l := by
  rcases spl_mem 47 l [] p hp c hc with q | q
  · simp at q
  · exact q
theorem seg_le (p : List Nat) : (seg p).length ≤ p.length := by
  have := seg_len p ([], false)
  simp only [List.length_nil] at this
  show ((p.foldl segStep ([], false)).1).length ≤ _
  simp only [Bool.false_eq_true, if_false] at this
  omega
theorem sum_seg : ∀ ps : List (List Nat), ((ps.map seg).map List.length).sum ≤ (ps.map List.length).sum
  | [] => Nat.le_refl _
  | x :: r => by
    have := sum_seg r
    have := seg_le x
    simp only [List.map_cons, List.sum_cons]
    omega
theorem nm_len (l : List Nat) : (nm l).length ≤ 2 * l.length + 1 := by
  have h1 := joinL_len [47] ((cuts l).map seg)
  have h2 := sum_seg (cuts l)
  have h3 := spl_sum 47 l []
  have h4 := spl1_len 47 l []
  simp only [List.length_map, List.length_cons, List.length_nil] at h1 h3
  unfold nm
  unfold cuts at *
  omega
end Nm

/-! Comprehensions whose element is a call: over a list, the heap growing alone; over a range, by the drawing's state. -/
namespace Nm
open PySem PySem.Spec PyProof.Rows L2 TL
theorem wipe1 (σ : L2.St) (i : Nat) (x : Option V) : wipe ((wipe σ [i]).set i x) [i] = wipe σ [i] := by
  show ((σ.set i none).set i x).set i none = σ.set i none
  rw [List.set_set, List.set_set]
theorem lc_same {K : PySem.W.Frag} {a D : Addr} {xs ys : List V} {i : Nat} {σ : L2.St} {H1 : Hp} {te : TE} {Qd : Hp → Prop} (hxs : SqL K H1 a xs) (hD : H1 D = none) (hl : ys.length = xs.length) (hz : xs.length < sizeLine)
    (hte : ∀ (k : Nat) (x y : V) (H3 : Hp) (Qv : VK), xs[k]? = some x → ys[k]? = some y → Same H1 H3 → (∀ H4, Same H3 H4 → Qv y H4) → te ((wipe σ [i]).set i (some x)) H3 Qv)
    (hd : ∀ H', Same H1 H' → H' D = some (.lst ys) → Qd H') :
    ∃ W : Nat → Nat → Hp → Prop, (∃ m, W 0 m (upd H1 D (.lst []))) ∧ ∀ k m H, W k m H →
      ((Itl K a).stop k H ∧ Qd H) ∨ ((Itl K a).go k H ∧ ∃ Nx : Hp → Prop, (∀ H', Nx H' → ∃ m', m' < m ∧ W (k + 1) m' H') ∧ ∀ x H', (Itl K a).yld k H x H' → gName i x (wipe σ [i]) H' fun σ2 H2 => wipe σ2 [i] = wipe σ [i] ∧ tYes σ2 H2 fun b H3 =>
        if b = true then te σ2 H3 fun y H4 => ∃ acc, H4 D = some (.lst acc) ∧ acc.length < sizeLine ∧ Nx (upd H4 D (.lst (acc ++ [y]))) else Nx H3) := by
  refine lc_it (walk_list (xs := xs)) (fun k H => Same H1 H ∧ H D = some (.lst (ys.take k))) ⟨same_upd hD, by rw [upd_same]; rfl⟩ (fun k H _ h => h.1.seq hxs) ?_ ?_
  · rintro k x H H' hk ⟨h1, h2⟩ ⟨rfl, hx⟩
    simp only [gName, tYes, ↓reduceIte]
    refine ⟨wipe1 σ i (some x), ?_⟩
    have hy : ys[k]? = some ys[k] := List.getElem?_eq_getElem (by omega)
    refine hte k x ys[k] _ _ hx hy h1 fun H4 s4 => ⟨_, s4 _ _ h2, ?_, ?_, ?_⟩
    · rw [List.length_take]
      omega
    · exact Same.upd_free (h1.trans s4) hD
    · rw [upd_same, List.take_add_one, hy]
      rfl
  · rintro H ⟨h1, h2⟩
    rw [← hl, List.take_length] at h2
    exact hd H h1 h2
theorem lc_draw {a D : Addr} {lo : Int} {n i : Nat} {σ : L2.St} {H1 : Hp} {te : TE} {Qd : Hp → Prop} (Py : V → Prop) (hS : Dr H1 a) (hD : H1 D = none) (hn : n ≤ 100000)
    (hte : ∀ k H3 Qv, k < n → Dr H3 a → Keep a H1 H3 → (∀ y H4, Py y → Dr H4 a → Keep a H3 H4 → Qv y H4) → te ((wipe σ [i]).set i (some (.int (lo + (k : Nat))))) H3 Qv)
    (hd : ∀ ys H', ys.length = n → (∀ y ∈ ys, Py y) → Dr H' a → Keep a H1 H' → H' D = some (.lst ys) → Qd H') :
    ∃ W : Nat → Nat → Hp → Prop, (∃ m, W 0 m (upd H1 D (.lst []))) ∧ ∀ k m H, W k m H →
      ((Itr lo n).stop k H ∧ Qd H) ∨ ((Itr lo n).go k H ∧ ∃ Nx : Hp → Prop, (∀ H', Nx H' → ∃ m', m' < m ∧ W (k + 1) m' H') ∧ ∀ x H', (Itr lo n).yld k H x H' → gName i x (wipe σ [i]) H' fun σ2 H2 => wipe σ2 [i] = wipe σ [i] ∧ tYes σ2 H2 fun b H3 =>
        if b = true then te σ2 H3 fun y H4 => ∃ acc, H4 D = some (.lst acc) ∧ acc.length < sizeLine ∧ Nx (upd H4 D (.lst (acc ++ [y]))) else Nx H3) := by
  have hDa : D ≠ a := (hS.ne hD).symm
  refine lc_it walk_range (fun k H => ∃ ys, ys.length = k ∧ (∀ y ∈ ys, Py y) ∧ Dr H a ∧ Keep a H1 H ∧ H D = some (.lst ys)) ⟨[], rfl, by simp, hS.upd hD, keep_new hD, upd_same⟩ (fun _ _ _ _ => trivial) ?_ ?_
  · rintro k x H H' hk ⟨ys, h1, h2, h3, h4, h5⟩ ⟨rfl, rfl⟩
    simp only [gName, tYes, ↓reduceIte]
    refine ⟨wipe1 σ i _, ?_⟩
    refine hte k _ _ hk h3 h4 fun y H4 hy s4 k4 => ⟨ys, k4 _ _ h5 hDa, sz' (by omega), ys ++ [y], by simp [h1], ?_, s4.upd_ne hDa.symm, Keep.upd_free (h4.trans k4) hD, upd_same⟩
    intro z hz
    rcases List.mem_append.mp hz with q | q
    · exact h2 z q
    · rw [List.mem_singleton.mp q]
      exact hy
  · rintro H ⟨ys, h1, h2, h3, h4, h5⟩
    exact hd ys H h1 h2 h3 h4 h5
/-- a thing that is no text -/
def NoStr (K : PySem.W.Frag) (H : Hp) (v : V) : Prop := ∃ t, TyX K H v t ∧ PySem.W.kitOne K t (.type "str") = some false
end Nm

namespace Nm
open PySem PySem.Spec PyProof.Rows L2 TL
/-- a sign of what a writing comes to -/
def Plain (c : Nat) : Prop := c = 95 ∨ isGap c = false
theorem nms_plain {st : SSt} {c : Nat} (h : ∀ x ∈ st.1, Plain x) : ∀ x ∈ (nmStep st c).1, Plain x := by
  unfold nmStep
  by_cases h47 : c = 47
  · rw [if_pos h47]
    intro x hx
    rcases List.mem_append.mp hx with q | q
    · exact h x q
    · rw [List.mem_singleton.mp q]
      exact .inr (by decide)
  · rw [if_neg h47]
    cases g : isGap c with
    | true => rw [if_pos rfl]; exact h
    | false =>
      rw [if_neg Bool.false_ne_true]
      intro x hx
      rcases List.mem_append.mp hx with q | q
      · rcases List.mem_append.mp q with q | q
        · exact h x q
        · cases o : st.2 with
          | true =>
            rw [o, if_pos rfl] at q
            exact .inl (List.mem_singleton.mp q)
          | false =>
            rw [o, if_neg Bool.false_ne_true] at q
            simp at q
      · rw [List.mem_singleton.mp q]
        exact .inr (gap_low g)
theorem nmr_plain : ∀ (l : List Nat) (st : SSt), (∀ x ∈ st.1, Plain x) → ∀ x ∈ (l.foldl nmStep st).1, Plain x
  | [], _, h => h
  | c :: l, st, h => by
    rw [List.foldl_cons]
    exact nmr_plain l _ (nms_plain h)
theorem name_plain {d : List Nat} (h : nameOf d = some d) : ∀ c ∈ d, Plain c := by
  have e := name_nm h
  rw [← nmR_nm] at e
  intro c hc
  rw [← e] at hc
  exact nmr_plain d ([], false) (by simp) c hc
theorem way_step {d b w : List Nat} {i c : Nat} (hb : nmR b = nmR (d.take i)) (hc : d[i]? = some c) (hw : OneWay c w) (hp : Plain c) : nmR (b ++ w) = nmR (d.take (i + 1)) := by
  unfold nmR at hb ⊢
  rw [List.foldl_append, hb, way_run hw hp, List.take_add_one, hc, List.foldl_append]
  rfl
/-- what is told of an optional text -/
def oV : Option (List Nat) → V
  | some l => .str (S l)
  | none => .non
theorem oV_some (l : List Nat) : oV (some l) = .str (S l) := rfl
theorem oV_none : oV none = .non := rfl
theorem seg_take {l : List Nat} {i c : Nat} (hc : l[i]? = some c) : segR (l.take (i + 1)) = segStep (segR (l.take i)) c := by
  unfold segR
  rw [List.take_add_one, hc, List.foldl_append]
  rfl
theorem dec_empty (l : List Nat) : decide (V.str (S l) = V.str (S [])) = l.isEmpty := by
  cases l with
  | nil => exact decide_eq_true rfl
  | cons a r =>
    refine decide_eq_false fun h => ?_
    have := S_inj (V.str.inj h)
    cases this
theorem good_none {l : List Nat} {i c : Nat} (hc : l[i]? = some c) (h : okc c = false) : good l = none := by
  unfold good
  rw [all_false hc h, Bool.false_and]
  rfl
theorem good_all {l : List Nat} (h : l.all okc = true) : good l = if (seg l).isEmpty = true then none else some (seg l) := by
  unfold good
  rw [h, Bool.true_and]
  cases (seg l).isEmpty <;> rfl
theorem segR_len (l : List Nat) : (segR l).1.length ≤ l.length := seg_le l
theorem good_some {ps : List (List Nat)} (h : none ∉ ps.map good) : ps.map good = (ps.map seg).map some := by
  rw [List.map_map]
  refine List.map_congr_left fun p hp => ?_
  unfold good
  by_cases c : (p.all okc && !(seg p).isEmpty) = true
  · rw [if_pos c]
    rfl
  · exact absurd (List.mem_map.mpr ⟨p, hp, by unfold good; rw [if_neg c]⟩) h
theorem in_none (os : List (Option (List Nat))) : inV .non (os.map oV) = decide (none ∈ os) := by
  induction os with
  | nil => rfl
  | cons o r ih =>
    unfold inV at ih ⊢
    rw [List.map_cons, List.any_cons, ih]
    cases o with
    | none => simp [oV, eqV]
    | some l => simp [oV, eqV]
theorem flat_oV (os : List (Option (List Nat))) : (os.map oV).all flatV = true := by
  rw [List.all_map, List.all_eq_true]
  intro o _
  cases o <;> rfl
theorem oV_strs (ps : List (List Nat)) : (ps.map some).map oV = (ps.map S).map V.str := by
  rw [List.map_map, List.map_map]
  rfl
end Nm

namespace Ld
open PySem PySem.Spec PyProof.Rows L2 TL Nm
def topS (i : Nat) : Stmt := PySem.Challenge.pw_signsleft_k01_names_as_written.main.body.getD i (.Pass ⟨0, 0, 0, 0⟩)
abbrev c_SIGNS : V := .str (Str.ofString "abcdefghijklmnopqrstuvwxyzABCDEFGHIJKLMNOPQRSTUVWXYZ0123456789 _-/")
abbrev c_MOST_SEGMENTS : V := .int 4
abbrev c_MOST_SIGNS : V := .int 24
section
variable {P : Program} {w : World} {K : PySem.W.Frag} {mg : Str → Option Value} {base : Heap}
abbrev s_has_only_signs : Stmt := topS 9
abbrev N_has_only_signs : List Str := ["text", "sign"]
theorem sc_has_only_signs : FnScope N_has_only_signs ["text"] (defScope s_has_only_signs) := ⟨rfl, rfl, rfl, by decide +kernel, rfl, by decide +kernel, by decide +kernel⟩
theorem st_has_only_signs (v0 : V) : L2.start N_has_only_signs [v0] = [some v0, none] := rfl
theorem signs_mem0 (c : Nat) : decide (c ∈ (Str.ofString "abcdefghijklmnopqrstuvwxyzABCDEFGHIJKLMNOPQRSTUVWXYZ0123456789 _-/").cps.toList) = okS c := by
  by_cases h : c < 128
  · revert c
    decide +kernel
  · have e : okS c = false := by
      cases q : okS c with
      | false => rfl
      | true => exact absurd (ok_asc q) h
    rw [e]
    refine decide_eq_false fun hm => ?_
    have : ∀ x ∈ (Str.ofString "abcdefghijklmnopqrstuvwxyzABCDEFGHIJKLMNOPQRSTUVWXYZ0123456789 _-/").cps.toList, x < 128 := by decide +kernel
    exact h (this c hm)
theorem signs_mem (c : Nat) : (c ∈ (Str.ofString "abcdefghijklmnopqrstuvwxyzABCDEFGHIJKLMNOPQRSTUVWXYZ0123456789 _-/").cps.toList) = (okS c = true) := by
  rw [← signs_mem0 c, decide_eq_true_eq]
def spOnly : Sp := fun vs H Q _ => ∃ l, vs = [.str (S l)] ∧ Q (.bl (l.all okS)) H
theorem ok_only (F : FunAt K mg "has_only_signs" s_has_only_signs ["text"]) (gS : ∃ t, mg "SIGNS" = some (.str (Str.ofString "abcdefghijklmnopqrstuvwxyzABCDEFGHIJKLMNOPQRSTUVWXYZ0123456789 _-/") t)) : Cal P w K mg base CX0 "has_only_signs" ["text"] 1 spOnly := by
  obtain ⟨f, fd, F, g, b⟩ := F
  obtain ⟨t, g_SIGNS⟩ := gS
  refine ⟨f, fd, F.ok sc_has_only_signs (fun vs H Q E h => ?_) (fun cdv A outer s H vs Q E hr h => ?_), g, F.kp, b⟩
  · obtain ⟨l, rfl, _⟩ := h
    rfl
  · obtain ⟨l, rfl, q⟩ := h
    refine ⟨_, (pss_cons (ps_for PassesOwn.never (by rfl) (pi_str (pv 0)) (pg_name (i := 1) sc_has_only_signs.nd rfl (Or.inl rfl)) (pss_one (ps_if (pt_cmpR op_notIn_sign (pv 1) (pe_glob (v := c_SIGNS) (by rfl) g_SIGNS ⟨_, rfl⟩) (by rfl)) (pss_one (ps_ret pe_bl)) pss_nil)))
      (pss_one (ps_ret pe_bl))), ?_⟩
    refine ⟨_, rfl, S l, rfl, for_it walk_S (fun i σ H' => H' = H ∧ ∃ y, σ = [some (.str (S l)), y] ∧ (l.take i).all okS = true) ⟨rfl, none, rfl, rfl⟩ (fun _ _ _ _ _ => trivial) ?_ ?_⟩
    · rintro i x σ H1 H2 hi ⟨rfl, y, rfl, hall⟩ ⟨rfl, c, hc, rfl⟩
      simp only [tSeq, tAsg, tIfS, tRet, tRetN, tDrop, tVar, tC, tCons, tNil, tOp, tUn, tTest, tB, tAnd, tOr, tNot, tAndV, tOrV, tNotV, tIf, tNext, tBreak, tCont, gName, gSub, gCons, gNil, rI0, rI, rU, rEq, rNe, rIn, rIxL, rIxS, rSetL, rIsB, rNotB, rCatS, tLst, tTup, tCall, tCallS, tCB, tM0, tM1, rNewStrs, tYes, rSlL, tSl, tNoPart, tPart, WE, List.getElem?_cons_zero, List.getElem?_cons_succ, List.set_cons_zero, List.set_cons_succ, Option.some.injEq, V.int.injEq, V.str.injEq, V.bl.injEq, V.ref.injEq, List.cons.injEq, and_true, true_and, exists_and_left, exists_eq_left', exists_eq_left, exists_eq', exists_eq, exists_eq_right', exists_eq_right, exists_const, List.append_nil, reduceCtorEq, Bool.false_eq_true, if_true, if_false, ↓reduceIte, one_S, S_eq, signs_mem, Bool.decide_eq_true]
      cases o : okS c with
      | false =>
        rw [all_false hc o] at q
        simpa using q
      | true => simpa using take_all hall hc o
    · rintro σ H1 ⟨rfl, y, rfl, hall⟩
      simp only [tSeq, tAsg, tIfS, tRet, tRetN, tDrop, tVar, tC, tCons, tNil, tOp, tUn, tTest, tB, tAnd, tOr, tNot, tAndV, tOrV, tNotV, tIf, tNext, tBreak, tCont, gName, gSub, gCons, gNil, rI0, rI, rU, rEq, rNe, rIn, rIxL, rIxS, rSetL, rIsB, rNotB, rCatS, tLst, tTup, tCall, tCallS, tCB, tM0, tM1, rNewStrs, tYes, rSlL, tSl, tNoPart, tPart, WE, List.getElem?_cons_zero, List.getElem?_cons_succ, List.set_cons_zero, List.set_cons_succ, Option.some.injEq, V.int.injEq, V.str.injEq, V.bl.injEq, V.ref.injEq, List.cons.injEq, and_true, true_and, exists_and_left, exists_eq_left', exists_eq_left, exists_eq', exists_eq, exists_eq_right', exists_eq_right, exists_const, List.append_nil, reduceCtorEq, Bool.false_eq_true, if_true, if_false, ↓reduceIte]
      rw [take_len] at hall
      rw [hall] at q
      exact q
abbrev s_segment_come_to : Stmt := topS 11
abbrev N_segment_come_to : List Str := ["writing", "strokes", "word"]
theorem sc_segment_come_to : FnScope N_segment_come_to ["writing"] (defScope s_segment_come_to) := ⟨rfl, rfl, rfl, by decide +kernel, rfl, by decide +kernel, by decide +kernel⟩
theorem st_segment_come_to (v0 : V) : L2.start N_segment_come_to [v0] = [some v0, none, none] := rfl
def spSeg : Sp := fun vs H Q _ => ∃ l, vs = [.str (S l)] ∧ Asc l ∧ l.length ≤ 100000 ∧ ∀ H', Same H H' → Q (.str (S (seg l))) H'
theorem ok_seg (F : FunAt K mg "segment_come_to" s_segment_come_to ["writing"]) : Cal P w K mg base CX0 "segment_come_to" ["writing"] 1 spSeg := by
  obtain ⟨f, fd, F, g, b⟩ := F
  refine ⟨f, fd, okT F sc_segment_come_to (by decide +kernel) (by decide) (fun vs H Q E h => ?_) (fun cdv A outer s H vs Q E hr h => ?_), g, F.kp, b⟩
  · obtain ⟨l, rfl, _⟩ := h
    rfl
  · obtain ⟨l, rfl, hA, hl, q⟩ := h
    refine ⟨_, psst_cons (pst_set (i := 1) sc_segment_come_to.nd rfl (Or.inl rfl) (CwR.pet_replT (CwR.pet_replC (pe_lower (pv 0)) (by decide +kernel)) (by decide +kernel))) (PSsT.of
      (pss_one (ps_ret (pe_join pe_str (pe_lc (own := [("word", 2)]) (g := gName 2) (tt := tTruth K (tVar 2)) (by rfl) sc_segment_come_to.nd (pi_list (pe_split (pv 1) pe_str)) (blkOk_by (N := N_segment_come_to) (sc := defScope s_segment_come_to) (by decide +kernel)) (fun _ _ _ _ _ => pg_name (i := 2) sc_segment_come_to.nd rfl (Or.inl rfl)) (fun _ _ _ _ _ => pts_one (pt_truth (pv 2) (by intro _; rfl))) (fun _ _ _ _ _ => (pv 2))))))), ?_⟩
    refine ⟨_, rfl, ⟨S l, rfl⟩, S l, rfl, rfl, by rw [len_S]; omega, _, rfl, ?_, ?_⟩
    · rw [lower_S hA, len_S, List.length_map, lit_bar, len_S]
      simp only [List.length_cons, List.length_nil]
      omega
    rw [lower_S hA, lit_sp, lit_bar, replace_S]
    refine ⟨_, rfl, ?_, ?_⟩
    · rw [len_S, List.length_map, List.length_map, len_S]
      simp only [List.length_cons, List.length_nil]
      omega
    rw [lit_dash, replace_S, bars]
    refine ⟨⟨_, rfl⟩, _, rfl, ⟨_, rfl⟩, S (l.map bar), S [95], rfl, rfl, rfl, ?_, fun p hp => ?_⟩
    · rw [len_S, List.length_map]
      exact sz (by omega)
    rw [split_S (by decide), map_VS]
    refine ⟨p, rfl, ⟨_, SqL.of upd_same⟩, fun D hD => lc_it (walk_list (xs := (spl [95] 0 [] (l.map bar)).map (fun p => V.str (S p))))
      (fun i H' => H' p = some (.lst ((spl [95] 0 [] (l.map bar)).map (fun p => V.str (S p)))) ∧ Same H H' ∧ H' D = some (.lst ((((spl [95] 0 [] (l.map bar)).take i).filter keepW).map (fun p => V.str (S p))))) ?_ ?_ ?_ ?_⟩
    · have hpD : p ≠ D := fun e => by
        rw [← e, upd_same] at hD
        cases hD
      refine ⟨by rw [upd_ne hpD, upd_same], ?_, by rw [upd_same]; rfl⟩
      exact (same_upd hp).trans (same_upd hD)
    · rintro i H' _ ⟨h1, _, _⟩
      exact SqL.of h1
    · rintro i x H1 H2 hi ⟨h1, h2, h3⟩ ⟨rfl, hx⟩
      rw [List.getElem?_map] at hx
      cases hq : (spl [95] 0 [] (l.map bar))[i]? with
      | none =>
        rw [hq] at hx
        cases hx
      | some wd =>
        rw [hq] at hx
        have e := Option.some.inj hx
        subst e
        have hDp : D ≠ p := fun e => by
          rw [e, upd_same] at hD
          cases hD
        have hwl := spl_mem_len 95 (l.map bar) [] wd (List.mem_of_getElem? hq)
        rw [List.length_map] at hwl
        have fl : (((spl [95] 0 [] (l.map bar)).take i).filter keepW).length ≤ l.length + 1 := by
          refine Nat.le_trans (List.length_filter_le _ _) ?_
          rw [List.length_take]
          have := spl1_len 95 (l.map bar) []
          rw [List.length_map] at this
          omega
        refine ⟨rfl, _, rfl, (!wd.isEmpty), ⟨by rw [len_S]; exact sz (by simp at hwl; omega), ?_⟩, ?_⟩
        · cases wd with
          | nil => rfl
          | cons a r =>
            rw [len_S]
            simp
            omega
        · cases hk : (!wd.isEmpty) with
          | true =>
            refine iteT ⟨_, rfl, _, h3, ?_, ?_, ?_, ?_⟩
            · rw [List.length_map]
              exact sz' (by omega)
            · rw [upd_ne hDp.symm]
              exact h1
            · exact Same.upd_free h2 ((same_upd hp).free hD)
            · rw [upd_same, filter_all keepW _ i wd hq, if_pos (show keepW wd = true from hk), List.map_append]
              rfl
          | false =>
            refine iteF ⟨h1, h2, ?_⟩
            rw [h3, filter_all keepW _ i wd hq, if_neg (by rw [show keepW wd = false from hk]; exact Bool.false_ne_true), List.append_nil]
    · rintro H' ⟨h1, h2, h3⟩
      rw [List.length_map, List.take_length] at h3
      refine ⟨S [95], D, ((spl [95] 0 [] (l.map bar)).filter keepW).map S, rfl, rfl, .inl (by rw [map_VS]; exact SqL.of h3), ?_, ?_⟩
      · rw [lens_S, List.length_map, len_S]
        have a1 := sum_filter keepW (spl [95] 0 [] (l.map bar))
        have a2 := spl_sum 95 (l.map bar) []
        have a3 := List.length_filter_le keepW (spl [95] 0 [] (l.map bar))
        have a4 := spl1_len 95 (l.map bar) []
        simp only [List.length_cons, List.length_nil, List.length_map] at *
        omega
      · rw [join_S]
        have e : joinL [95] ((spl [95] 0 [] (l.map bar)).filter keepW) = seg l := segP_eq l
        rw [e]
        exact q H' h2
end
end Ld

namespace Ld
open PySem PySem.Spec PyProof.Rows L2 TL Nm
section
variable {P : Program} {w : World} {K : PySem.W.Frag} {mg : Str → Option Value} {base : Heap}
abbrev s_come_to : Stmt := topS 10
abbrev N_come_to : List Str := ["writing", "segment"]
theorem sc_come_to : FnScope N_come_to ["writing"] (defScope s_come_to) := ⟨rfl, rfl, rfl, by decide +kernel, rfl, by decide +kernel, by decide +kernel⟩
theorem st_come_to (v0 : V) : L2.start N_come_to [v0] = [some v0, none] := rfl
def spCome : Sp := fun vs H Q _ => ∃ l, vs = [.str (S l)] ∧ Asc l ∧ l.length ≤ 100000 ∧ ∀ H', Same H H' → Q (.str (S (nm l))) H'
theorem ok_come (F : FunAt K mg "come_to" s_come_to ["writing"]) (C : Cal P w K mg base CX0 "segment_come_to" ["writing"] 1 spSeg) : Cal P w K mg base CX0 "come_to" ["writing"] 2 spCome := by
  obtain ⟨f, fd, F, g, b⟩ := F
  obtain ⟨f1, fd1, G_segment_come_to, g_segment_come_to, k_segment_come_to, b_segment_come_to⟩ := C
  refine ⟨f, fd, F.ok sc_come_to (fun vs H Q E h => ?_) (fun cdv A outer s H vs Q E hr h => ?_), g, F.kp, b⟩
  · obtain ⟨l, rfl, _⟩ := h
    rfl
  · obtain ⟨l, rfl, hA, hl, q⟩ := h
    refine ⟨_, (pss_one (ps_ret (pe_join pe_str (pe_lc (own := [("segment", 1)]) (g := gName 1) (tt := tYes) (by rfl) sc_come_to.nd (pi_list (pe_split (pv 0) pe_str)) (blkOk_by (N := N_come_to) (sc := defScope s_come_to) (by decide +kernel)) (fun _ _ _ _ _ => pg_name (i := 1) sc_come_to.nd rfl (Or.inl rfl)) (fun _ _ _ _ _ => pts_nil) (fun _ _ _ _ _ => (pe_call G_segment_come_to (hr.mono (by decide)) (by rfl) g_segment_come_to k_segment_come_to b_segment_come_to .nil pass0 (pa_cons (pv 1) pa_nil))))))), ?_⟩
    have n1 := spl1_len 47 l []
    refine ⟨⟨_, rfl⟩, _, rfl, ⟨S l, rfl⟩, S l, S [47], rfl, rfl, rfl, by rw [len_S]; exact sz (by omega), fun p hp => ?_⟩
    rw [split_S (by decide), map_VS]
    refine ⟨p, rfl, ⟨_, SqL.of upd_same⟩, fun D hD => lc_same (ys := ((cuts l).map seg).map (fun p => V.str (S p))) (SqL.of upd_same) hD (by simp [cuts]) (by rw [List.length_map]; exact sz' (by omega)) ?_ ?_⟩
    · intro k x y H3 Qv hx hy s3 hQ
      rw [List.getElem?_map] at hx hy
      rw [List.getElem?_map] at hy
      show _
      cases e : (spl [47] 0 [] l)[k]? with
      | none =>
        rw [e] at hx
        cases hx
      | some pc =>
        rw [e] at hx
        rw [show (cuts l)[k]? = some pc from e] at hy
        have e1 := Option.some.inj hx
        have e2 := Option.some.inj hy
        subst e1 e2
        have hm : pc ∈ spl [47] 0 [] l := List.mem_of_getElem? e
        have h1 := spl_mem_len 47 l [] pc hm
        refine ⟨_, rfl, pc, rfl, fun c hc => ?_, by simp at h1; omega, fun H4 s4 => hQ H4 s4⟩
        exact hA c (cuts_mem hm hc)
    · intro H' s' e'
      have a1 := sum_seg (cuts l)
      have a2 := spl_sum 47 l []
      refine ⟨S [47], D, ((cuts l).map seg).map S, rfl, rfl, .inl (by rw [map_VS]; exact SqL.of e'), ?_, ?_⟩
      · rw [lens_S, List.length_map, List.length_map, len_S]
        simp only [List.length_cons, List.length_nil, cuts] at *
        omega
      · rw [join_S]
        exact q H' ((same_upd hp).trans s')
abbrev s_is_within_bounds : Stmt := topS 12
abbrev N_is_within_bounds : List Str := ["name", "segments"]
theorem sc_is_within_bounds : FnScope N_is_within_bounds ["name"] (defScope s_is_within_bounds) := ⟨rfl, rfl, rfl, by decide +kernel, rfl, by decide +kernel, by decide +kernel⟩
theorem st_is_within_bounds (v0 : V) : L2.start N_is_within_bounds [v0] = [some v0, none] := rfl
def spBnd : Sp := fun vs H Q _ => ∃ l, vs = [.str (S l)] ∧ l.length ≤ 1000000 ∧ ∀ H', Same H H' → Q (.bl (bnd l)) H'
theorem in_empty (ps : List (List Nat)) : inV (.str (S [])) (ps.map (fun p => V.str (S p))) = !(ps.all fun p => !p.isEmpty) := by
  induction ps with
  | nil => rfl
  | cons p r ih =>
    unfold inV at ih ⊢
    rw [List.map_cons, List.any_cons, ih, List.all_cons]
    have e : eqV (.str (S p)) (.str (S [])) = p.isEmpty := by
      show (S p == S []) = p.isEmpty
      rw [S_beq]
      cases p <;> rfl
    rw [e]
    cases p.isEmpty <;> simp
theorem flat_strs (ps : List (List Nat)) : (ps.map (fun p => V.str (S p))).all flatV = true := by
  rw [List.all_map, List.all_eq_true]
  intro p _
  rfl
theorem ok_bnd (F : FunAt K mg "is_within_bounds" s_is_within_bounds ["name"]) (g4 : ∃ t, mg "MOST_SEGMENTS" = some (.int 4 t)) (g24 : ∃ t, mg "MOST_SIGNS" = some (.int 24 t)) (z_len : mg "len" = none) : Cal P w K mg base CX0 "is_within_bounds" ["name"] 1 spBnd := by
  obtain ⟨f, fd, F, g, b⟩ := F
  obtain ⟨t4, g_MOST_SEGMENTS⟩ := g4
  obtain ⟨t24, g_MOST_SIGNS⟩ := g24
  refine ⟨f, fd, F.ok sc_is_within_bounds (fun vs H Q E h => ?_) (fun cdv A outer s H vs Q E hr h => ?_), g, F.kp, b⟩
  · obtain ⟨l, rfl, _⟩ := h
    rfl
  · obtain ⟨l, rfl, hl, q⟩ := h
    refine ⟨_, (pss_cons (ps_set (i := 1) sc_is_within_bounds.nd rfl (Or.inl rfl) (pe_split (pv 0) pe_str))
      (pss_one (ps_ret (pe_and (pe_cmpR op_le (pe_callB call_len_seq (by rfl) z_len PySem.boot_len (pa_cons (pv 1) pa_nil)) (pe_glob (v := c_MOST_SEGMENTS) (by rfl) g_MOST_SEGMENTS ⟨_, rfl⟩) (nomark _)) (pe_and (pe_cmpR op_notIn_seq pe_str (pv 1) (by rfl)) (pe_one (pe_cmpR op_le (pe_callB call_len_str (by rfl) z_len PySem.boot_len (pa_cons (pv 0) pa_nil)) (pe_glob (v := c_MOST_SIGNS) (by rfl) g_MOST_SIGNS ⟨_, rfl⟩) (nomark _)))))))), ?_⟩
    refine ⟨_, rfl, ⟨S l, rfl⟩, S l, S [47], rfl, rfl, rfl, by rw [len_S]; exact sz (by omega), fun p hp => ?_⟩
    rw [split_S (by decide), map_VS]
    have hp' : SqL K (upd H p (.lst ((spl [47] 0 [] l).map (fun p => V.str (S p))))) p ((spl [47] 0 [] l).map (fun p => V.str (S p))) := SqL.of upd_same
    have hq := q _ (same_upd (o := .lst ((spl [47] 0 [] l).map (fun p => V.str (S p)))) hp)
    refine ⟨_, rfl, p, _, rfl, .inl hp', _, _, rfl, rfl, _, rfl, ?_⟩
    by_cases c1 : (cuts l).length ≤ 4
    · rw [List.length_map, decide_eq_true (show ((spl [47] 0 [] l).length : Int) ≤ 4 from by have : (spl [47] 0 [] l).length ≤ 4 := c1; omega)]
      refine iteT ⟨_, rfl, p, _, rfl, .inl hp', rfl, flat_strs _, _, rfl, ?_⟩
      have hb : bnd l = ((cuts l).all (fun p => !p.isEmpty) && decide (l.length ≤ 24)) := by
        unfold bnd
        rw [decide_eq_true c1, Bool.true_and]
      rw [hb] at hq
      have e0 : Str.ofString "" = S [] := lit_e
      show if (if true = true then !inV (.str (Str.ofString "")) _ else _) = true then _ else _
      rw [e0, if_pos rfl, in_empty, Bool.not_not]
      cases c2 : (cuts l).all (fun p => !p.isEmpty) with
      | true =>
        rw [c2, Bool.true_and] at hq
        rw [show (spl [47] 0 [] l).all (fun p => !p.isEmpty) = true from c2]
        refine iteT ⟨_, rfl, _, rfl, by rw [len_S]; exact sz (by omega), _, _, rfl, rfl, ?_⟩
        rw [len_S]
        have e : decide ((l.length : Int) ≤ 24) = decide (l.length ≤ 24) := by
          rw [Bool.eq_iff_iff, decide_eq_true_eq, decide_eq_true_eq]
          omega
        show Q (.bl (decide ((l.length : Int) ≤ 24))) _
        rw [e]
        exact hq
      | false =>
        rw [c2, Bool.false_and] at hq
        rw [show (spl [47] 0 [] l).all (fun p => !p.isEmpty) = false from c2]
        exact iteF hq
    · rw [List.length_map, decide_eq_false (show ¬ ((spl [47] 0 [] l).length : Int) ≤ 4 from by have : ¬ (spl [47] 0 [] l).length ≤ 4 := c1; omega)]
      refine iteF ?_
      have hb : bnd l = false := by
        unfold bnd
        rw [decide_eq_false c1, Bool.false_and]
      rw [hb] at hq
      exact hq
end
end Ld

namespace Ld
open PySem PySem.Spec PyProof.Rows L2 TL Nm
section
variable {P : Program} {w : World} {K : PySem.W.Frag} {mg : Str → Option Value} {base : Heap}
abbrev s_name_of : Stmt := topS 8
abbrev N_name_of : List Str := ["thing", "name"]
theorem sc_name_of : FnScope N_name_of ["thing"] (defScope s_name_of) := ⟨rfl, rfl, rfl, by decide +kernel, rfl, by decide +kernel, by decide +kernel⟩
theorem st_name_of (v0 : V) : L2.start N_name_of [v0] = [some v0, none] := rfl
def spName (K : PySem.W.Frag) (C : Addr) : Sp := fun vs H Q E => (∃ l, vs = [.str (S l)] ∧ l.length ≤ 100000 ∧ (∀ d, nameOf l = some d → ∀ H', Same H H' → Q (.str (S d)) H') ∧ (nameOf l = none → ∀ H', Same H H' → E (.ref C) none H')) ∨
  (∃ v, vs = [v] ∧ NoStr K H v ∧ E (.ref C) none H)
theorem ok_name {C : Addr} (F : FunAt K mg "name_of" s_name_of ["thing"]) (x_NoName : ErrAt K mg "NoName" C) (z_isinstance : mg "isinstance" = none) (z_str : mg "str" = none) (C1 : Cal P w K mg base CX0 "has_only_signs" ["text"] 1 spOnly) (C2 : Cal P w K mg base CX0 "come_to" ["writing"] 2 spCome)
    (C3 : Cal P w K mg base CX0 "is_within_bounds" ["name"] 1 spBnd) : Cal P w K mg base (L2.CX P w) "name_of" ["thing"] 3 (spName K C) := by
  obtain ⟨f, fd, F, g, b⟩ := F
  obtain ⟨_, _, G_has_only_signs, g_has_only_signs, k_has_only_signs, b_has_only_signs⟩ := C1
  obtain ⟨_, _, G_come_to, g_come_to, k_come_to, b_come_to⟩ := C2
  obtain ⟨_, _, G_is_within_bounds, g_is_within_bounds, k_is_within_bounds, b_is_within_bounds⟩ := C3
  refine ⟨f, fd, F.okX sc_name_of (fun vs H Q E h => ?_) (fun cdv A outer s H vs Q E hr h => ?_), g, F.kp, b⟩
  · rcases h with ⟨l, rfl, _⟩ | ⟨v, rfl, _⟩ <;> rfl
  · refine ⟨_, (pss_cons (ps_if (PW.pt (pw_or (pt_not (pt_val (pe_callB call_isi (by rfl) z_isinstance (by decide +kernel) (pa_cons (pv 0) (pa_cons (pe_bltn (v := .ty "str") (by rfl) z_str (by decide +kernel) rfl) pa_nil))))) (pw_or1 (pt_not (pt_val (pe_call G_has_only_signs (hr.mono (by decide)) (by rfl) g_has_only_signs k_has_only_signs b_has_only_signs .nil pass0 (pa_cons (pv 0) pa_nil))))))) (pss_one (ps_raise (by rfl) (takes_of rfl rfl rfl rfl) (pmk_own PySem.F.excBase_ValueError x_NoName.x x_NoName.g x_NoName.k (raises_own x_NoName.b x_NoName.t) (by rfl)))) pss_nil)
      (pss_cons (ps_set (i := 1) sc_name_of.nd rfl (Or.inl rfl) (pe_call G_come_to (hr.mono (by decide)) (by rfl) g_come_to k_come_to b_come_to .nil pass0 (pa_cons (pv 0) pa_nil)))
      (pss_cons (ps_if (pt_not (pt_val (pe_call G_is_within_bounds (hr.mono (by decide)) (by rfl) g_is_within_bounds k_is_within_bounds b_is_within_bounds .nil pass0 (pa_cons (pv 1) pa_nil)))) (pss_one (ps_raise (by rfl) (takes_of rfl rfl rfl rfl) (pmk_own PySem.F.excBase_ValueError x_NoName.x x_NoName.g x_NoName.k (raises_own x_NoName.b x_NoName.t) (by rfl)))) pss_nil)
      (pss_one (ps_ret (pv 1)))))), ?_⟩
    rcases h with ⟨l, rfl, hl, q1, q2⟩ | ⟨v, rfl, ⟨t, ht, hk⟩, q⟩
    · refine ⟨_, rfl, _, _, .type "str", .type "str", true, rfl, .ty _, .base (.str _), kit_ty (by decide +kernel), _, rfl, ?_⟩
      simp only [tSeq, tAsg, tIfS, tRet, tRetN, tDrop, tVar, tC, tCons, tNil, tOp, tUn, tTest, tB, tAnd, tOr, tNot, tAndV, tOrV, tNotV, tIf, tNext, tBreak, tCont, gName, gSub, gCons, gNil, rI0, rI, rU, rEq, rNe, rIn, rIxL, rIxS, rSetL, rIsB, rNotB, rCatS, tLst, tTup, tCall, tCallS, tCB, tM0, tM1, rNewStrs, tYes, rSlL, tSl, tNoPart, tPart, WE, List.getElem?_cons_zero, List.getElem?_cons_succ, List.set_cons_zero, List.set_cons_succ, Option.some.injEq, V.int.injEq, V.str.injEq, V.bl.injEq, V.ref.injEq, List.cons.injEq, and_true, true_and, exists_and_left, exists_eq_left', exists_eq_left, exists_eq', exists_eq, exists_eq_right', exists_eq_right, exists_const, List.append_nil, reduceCtorEq, Bool.false_eq_true, if_true, if_false, ↓reduceIte, spOnly, S_eq, st_name_of]
      unfold nameOf nameB at q1 q2
      cases o : l.all okS with
      | false =>
        rw [o] at q2
        simp only [Bool.not_false, ↓reduceIte]
        exact q2 rfl H (Same.refl H)
      | true =>
        rw [o, Bool.true_and] at q1 q2
        simp only [Bool.not_true, Bool.false_eq_true, ↓reduceIte]
        refine ⟨l, rfl, asc_of o, hl, fun H1 s1 => ?_⟩
        have hn := nm_len l
        refine ⟨nm l, rfl, by omega, fun H2 s2 => ?_⟩
        simp only [tSeq, tAsg, tIfS, tRet, tRetN, tDrop, tVar, tC, tCons, tNil, tOp, tUn, tTest, tB, tAnd, tOr, tNot, tAndV, tOrV, tNotV, tIf, tNext, tBreak, tCont, gName, gSub, gCons, gNil, rI0, rI, rU, rEq, rNe, rIn, rIxL, rIxS, rSetL, rIsB, rNotB, rCatS, tLst, tTup, tCall, tCallS, tCB, tM0, tM1, rNewStrs, tYes, rSlL, tSl, tNoPart, tPart, WE, List.getElem?_cons_zero, List.getElem?_cons_succ, List.set_cons_zero, List.set_cons_succ, Option.some.injEq, V.int.injEq, V.str.injEq, V.bl.injEq, V.ref.injEq, List.cons.injEq, and_true, true_and, exists_and_left, exists_eq_left', exists_eq_left, exists_eq', exists_eq, exists_eq_right', exists_eq_right, exists_const, List.append_nil, reduceCtorEq, Bool.false_eq_true, if_true, if_false, ↓reduceIte]
        cases o2 : bnd (nm l) with
        | true =>
          rw [o2, if_pos rfl] at q1
          simp only [Bool.not_true, Bool.false_eq_true, ↓reduceIte]
          exact q1 _ rfl H2 (s1.trans s2)
        | false =>
          rw [o2, if_neg Bool.false_ne_true] at q2
          simp only [Bool.not_false, ↓reduceIte]
          exact q2 rfl H2 (s1.trans s2)
    · refine ⟨_, rfl, _, _, t, .type "str", false, rfl, .ty _, ht, hk, _, rfl, ?_⟩
      simp only [tSeq, tAsg, tIfS, tRet, tRetN, tDrop, tVar, tC, tCons, tNil, tOp, tUn, tTest, tB, tAnd, tOr, tNot, tAndV, tOrV, tNotV, tIf, tNext, tBreak, tCont, gName, gSub, gCons, gNil, rI0, rI, rU, rEq, rNe, rIn, rIxL, rIxS, rSetL, rIsB, rNotB, rCatS, tLst, tTup, tCall, tCallS, tCB, tM0, tM1, rNewStrs, tYes, rSlL, tSl, tNoPart, tPart, WE, List.getElem?_cons_zero, List.getElem?_cons_succ, List.set_cons_zero, List.set_cons_succ, Option.some.injEq, V.int.injEq, V.str.injEq, V.bl.injEq, V.ref.injEq, List.cons.injEq, and_true, true_and, exists_and_left, exists_eq_left', exists_eq_left, exists_eq', exists_eq, exists_eq_right', exists_eq_right, exists_const, List.append_nil, reduceCtorEq, Bool.false_eq_true, if_true, if_false, ↓reduceIte]
      exact q
abbrev s_is_name : Stmt := topS 7
abbrev N_is_name : List Str := ["thing"]
theorem sc_is_name : FnScope N_is_name ["thing"] (defScope s_is_name) := ⟨rfl, rfl, rfl, by decide +kernel, rfl, by decide +kernel, by decide +kernel⟩
theorem st_is_name (v0 : V) : L2.start N_is_name [v0] = [some v0] := rfl
def spIs (K : PySem.W.Frag) : Sp := fun vs H Q E => (∃ l, vs = [.str (S l)] ∧ l.length ≤ 100000 ∧ ∀ H', Same H H' → Q (.bl (nameOf l).isSome) H') ∨ (∃ v, vs = [v] ∧ NoStr K H v ∧ Q (.bl false) H)
theorem ok_is {C : Addr} (F : FunAt K mg "is_name" s_is_name ["thing"]) (x_NoName : ErrAt K mg "NoName" C) (C1 : Cal P w K mg base (L2.CX P w) "name_of" ["thing"] 3 (spName K C)) : Cal P w K mg base CX0 "is_name" ["thing"] 4 (spIs K) := by
  obtain ⟨f, fd, F, g, b⟩ := F
  obtain ⟨_, _, G_name_of, g_name_of, k_name_of, b_name_of⟩ := C1
  refine ⟨f, fd, F.ok sc_is_name (fun vs H Q E h => ?_) (fun cdv A outer s H vs Q E hr h => ?_), g, F.kp, b⟩
  · rcases h with ⟨l, rfl, _⟩ | ⟨v, rfl, _⟩ <;> rfl
  · refine ⟨_, (pss_cons (ps_try_only (by rfl) (by rfl) ⟨by rfl, by decide, .inl x_NoName.g⟩ takes0 (fun W pn xe tk _ => (pss_one (ps_expr (pe_callS G_name_of (hr.mono (by decide)) (by rfl) g_name_of k_name_of b_name_of (fun σ => passAt tk σ) (pa_cons (pv 0) pa_nil))))) (fun a oe cls d pn _ _ => (pss_one (ps_ret pe_bl))))
      (pss_one (ps_ret pe_bl))), ?_⟩
    rcases h with ⟨l, rfl, hl, q⟩ | ⟨v, rfl, hn, q⟩
    · refine ⟨_, rfl, .inl ⟨l, rfl, hl, fun d hd H' s' => ?_, fun hd H' s' => ?_⟩⟩
      · rw [hd] at q
        exact q H' s'
      · rw [hd] at q
        exact ⟨true, x_NoName.e, fun _ a ha => q H' s', fun z => nomatch z⟩
    · exact ⟨_, rfl, .inr ⟨v, rfl, hn, true, x_NoName.e, fun _ a ha => q, fun z => nomatch z⟩⟩
end
end Ld

namespace Ld
open PySem PySem.Spec PyProof.Rows L2 TL Nm
section
variable {P : Program} {w : World} {K : PySem.W.Frag} {mg : Str → Option Value} {base : Heap}
abbrev s_law_state : Stmt := topS 14
abbrev N_law_state : List Str := ["_law_cell"]
theorem sc_law_state : FnScope N_law_state ["_law_cell"] (defScope s_law_state) := ⟨rfl, rfl, rfl, by decide +kernel, rfl, by decide +kernel, by decide +kernel⟩
theorem st_law_state (v0 : V) : L2.start N_law_state [v0] = [some v0] := rfl
def spState : Sp := fun vs H Q _ => ∃ i, vs = [.int i] ∧ ∀ p H', H p = none → Dr H' p → Same H H' → Q (.ref p) H'
theorem ok_state (F : FunAt K mg "_law_state" s_law_state ["_law_cell"]) (z_abs : mg "abs" = none) : Cal P w K mg base CX0 "_law_state" ["_law_cell"] 1 spState := by
  obtain ⟨f, fd, F, g, b⟩ := F
  refine ⟨f, fd, F.ok sc_law_state (fun vs H Q E h => ?_) (fun cdv A outer s H vs Q E hr h => ?_), g, F.kp, b⟩
  · obtain ⟨i, rfl, _⟩ := h
    rfl
  · refine ⟨_, (pss_one (ps_ret (pe_lst (pa_cons (pe_op op_fdiv (pe_callB call_abs (by rfl) z_abs (by decide +kernel) (pa_cons (pv 0) pa_nil)) pe_int) (pa_cons (pe_op op_mod (pe_callB call_abs (by rfl) z_abs (by decide +kernel) (pa_cons (pv 0) pa_nil)) pe_int) (pa_cons (pe_op op_add (pe_op op_mod (pe_callB call_abs (by rfl) z_abs (by decide +kernel) (pa_cons (pv 0) pa_nil)) pe_int) pe_int) pa_nil)))))), ?_⟩
    obtain ⟨i, rfl, q⟩ := h
    simp only [tSeq, tAsg, tIfS, tRet, tRetN, tDrop, tVar, tC, tCons, tNil, tOp, tUn, tTest, tB, tAnd, tOr, tNot, tAndV, tOrV, tNotV, tIf, tNext, tBreak, tCont, gName, gSub, gCons, gNil, rI0, rI, rU, rEq, rNe, rIn, rIxL, rIxS, rSetL, rIsB, rNotB, rCatS, tLst, tTup, tCall, tCallS, tCB, tM0, tM1, rNewStrs, tYes, rSlL, tSl, tNoPart, tPart, WE, List.getElem?_cons_zero, List.getElem?_cons_succ, List.set_cons_zero, List.set_cons_succ, Option.some.injEq, V.int.injEq, V.str.injEq, V.bl.injEq, V.ref.injEq, List.cons.injEq, and_true, true_and, exists_and_left, exists_eq_left', exists_eq_left, exists_eq', exists_eq, exists_eq_right', exists_eq_right, exists_const, List.append_nil, reduceCtorEq, Bool.false_eq_true, if_true, if_false, ↓reduceIte, st_law_state]
    have ha : 0 ≤ (if i < 0 then -i else i) := by split <;> omega
    generalize (if i < 0 then -i else i) = v at ha
    refine ⟨⟨by decide, by decide⟩, by decide, by decide, sz (by simp), fun p hp => ?_⟩
    refine q p _ hp ⟨_, _, _, upd_same, by omega, by omega, by omega, by omega⟩ (same_upd hp)
abbrev s_law_digit : Stmt := topS 15
abbrev N_law_digit : List Str := ["_law_s", "_law_base", "_law_found"]
theorem sc_law_digit : FnScope N_law_digit ["_law_s", "_law_base"] (defScope s_law_digit) := ⟨rfl, rfl, rfl, by decide +kernel, rfl, by decide +kernel, by decide +kernel⟩
theorem st_law_digit (v0 v1 : V) : L2.start N_law_digit [v0, v1] = [some v0, some v1, none] := rfl
def spDigit : Sp := fun vs H Q _ => ∃ a n, vs = [.ref a, .int n] ∧ Dr H a ∧ 0 < n ∧ n < 1000000 ∧ ∀ d H', 0 ≤ d → d < n → Dr H' a → Keep a H H' → Q (.int d) H'
theorem ok_digit (F : FunAt K mg "_law_digit" s_law_digit ["_law_s", "_law_base"]) : Cal P w K mg base CX0 "_law_digit" ["_law_s", "_law_base"] 1 spDigit := by
  obtain ⟨f, fd, F, g, b⟩ := F
  refine ⟨f, fd, F.ok sc_law_digit (fun vs H Q E h => ?_) (fun cdv A outer s H vs Q E hr h => ?_), g, F.kp, b⟩
  · obtain ⟨a, n, rfl, _⟩ := h
    rfl
  · refine ⟨_, (pss_cons (ps_if (PW.pt (pw_and (pt_cmpR op_eq (pe_ix ix_list (pv 0) pe_int (fun _ _ => rfl)) pe_int (nomark _)) (pw_and1 (pt_cmpR op_gt (pe_ix ix_list (pv 0) pe_int (fun _ _ => rfl)) pe_int (nomark _))))) (pss_cons (ps_set (i := 2) sc_law_digit.nd rfl (Or.inl rfl) (pe_op op_mod (pe_ix ix_list (pv 0) pe_int (fun _ _ => rfl)) (pv 1)))
      (pss_cons (ps_asg (pe_op op_fdiv (pe_ix ix_list (pv 0) pe_int (fun _ _ => rfl)) (pv 1)) (pg_sub (pv 0) pe_int set_list))
      (pss_one (ps_ret (pv 2))))) pss_nil)
      (pss_cons (ps_asg (pe_op op_add (pe_op op_mod (pe_op op_add (pe_op op_mul (pe_ix ix_list (pv 0) pe_int (fun _ _ => rfl)) (pe_op op_add (pe_op op_fdiv (pe_ix ix_list (pv 0) pe_int (fun _ _ => rfl)) pe_int) pe_int)) (pe_op op_mod (pe_ix ix_list (pv 0) pe_int (fun _ _ => rfl)) pe_int)) pe_int) pe_int) (pg_sub (pv 0) pe_int set_list))
      (pss_one (ps_ret (pe_op op_mod (pe_op op_fdiv (pe_ix ix_list (pv 0) pe_int (fun _ _ => rfl)) pe_int) (pv 1)))))), ?_⟩
    obtain ⟨a, n, rfl, ⟨x, y, z, e, ok⟩, hn, hn2, q⟩ := h
    simp only [tSeq, tAsg, tIfS, tRet, tRetN, tDrop, tVar, tC, tCons, tNil, tOp, tUn, tTest, tB, tAnd, tOr, tNot, tAndV, tOrV, tNotV, tIf, tNext, tBreak, tCont, gName, gSub, gCons, gNil, rI0, rI, rU, rEq, rNe, rIn, rIxL, rIxS, rSetL, rIsB, rNotB, rCatS, tLst, tTup, tCall, tCallS, tCB, tM0, tM1, rNewStrs, tYes, rSlL, tSl, tNoPart, tPart, WE, List.getElem?_cons_zero, List.getElem?_cons_succ, List.set_cons_zero, List.set_cons_succ, Option.some.injEq, V.int.injEq, V.str.injEq, V.bl.injEq, V.ref.injEq, List.cons.injEq, and_true, true_and, exists_and_left, exists_eq_left', exists_eq_left, exists_eq', exists_eq, exists_eq_right', exists_eq_right, exists_const, List.append_nil, reduceCtorEq, Bool.false_eq_true, if_true, if_false, ↓reduceIte, st_law_digit]
    have hx : 0 ≤ x := ok.1
    have hy : 0 ≤ y := ok.2.1
    have hz : 7 ≤ z := ok.2.2.1
    have hz2 : z < 2147483700 := ok.2.2.2
    have fin : ∀ d u v t : Int, 0 ≤ d → d < n → StOk u v t → Q (.int d) (upd H a (.lst [.int u, .int v, .int t])) := fun d u v t h1 h2 h3 => q d _ h1 h2 ⟨u, v, t, upd_same, h3⟩ keep_upd
    refine ⟨_, SqL.of e, _, rfl, rfl, ?_⟩
    refine ite2 (fun _ => ?_) (fun _ => ?_)
    · refine ⟨_, SqL.of e, _, rfl, _, rfl, ite2 (fun _ => ?_) (fun _ => ?_)⟩
      · refine ⟨_, SqL.of e, _, rfl, _, rfl, hn, _, SqL.of e, _, rfl, _, rfl, ⟨hn, by omega⟩, _, e, _, rfl, ?_⟩
        refine fin _ _ _ _ (Int.emod_nonneg _ (by omega)) (Int.emod_lt_of_pos _ hn) ⟨Int.ediv_nonneg hx (by omega), hy, hz, hz2⟩
      · refine ⟨_, SqL.of e, _, rfl, _, SqL.of e, _, rfl, _, rfl, ⟨by decide, by decide⟩, _, rfl, .inl ⟨by omega, by omega⟩, _, SqL.of e, _, rfl, _, rfl, by decide, by decide, _, e, _, rfl, ?_⟩
        refine ⟨_, SqL.of upd_same, _, rfl, _, rfl, ⟨by decide, by decide⟩, hn, ?_⟩
        refine fin _ _ _ _ (Int.emod_nonneg _ (by omega)) (Int.emod_lt_of_pos _ hn) ⟨hx, hy, by omega, by omega⟩
    · refine ⟨_, SqL.of e, _, rfl, _, SqL.of e, _, rfl, _, rfl, ⟨by decide, by decide⟩, _, rfl, .inl ⟨by omega, by omega⟩, _, SqL.of e, _, rfl, _, rfl, by decide, by decide, _, e, _, rfl, ?_⟩
      refine ⟨_, SqL.of upd_same, _, rfl, _, rfl, ⟨by decide, by decide⟩, hn, ?_⟩
      refine fin _ _ _ _ (Int.emod_nonneg _ (by omega)) (Int.emod_lt_of_pos _ hn) ⟨hx, hy, by omega, by omega⟩
end
end Ld

namespace Ld
open PySem PySem.Spec PyProof.Rows L2 TL Nm
def isAn (c : Nat) : Bool := isAl (lowc c)
theorem an_ok {c : Nat} (h : isAn c = true) : okc c = true := by
  unfold okc
  rw [show isAl (lowc c) = true from h, Bool.or_true]
theorem gap_ok {c : Nat} (h : isGap c = true) : okc c = true := by
  unfold okc
  rw [h, Bool.true_or]
theorem okc_okS {c : Nat} (h : okc c = true) : okS c = true := by
  unfold okS
  rw [h, Bool.true_or]
theorem all_imp {f g : Nat → Bool} (h : ∀ c, f c = true → g c = true) {l : List Nat} (q : l.all f = true) : l.all g = true := by
  rw [List.all_eq_true] at q ⊢
  exact fun c hc => h c (q c hc)
theorem ys_of {P : List Nat → Prop} : ∀ {ys : List V}, (∀ y ∈ ys, ∃ l, P l ∧ y = .str (S l)) → ∃ ls : List (List Nat), ys = ls.map (fun p => V.str (S p)) ∧ (∀ l ∈ ls, P l) ∧ ls.length = ys.length
  | [], _ => ⟨[], rfl, by simp, rfl⟩
  | y :: r, h => by
    obtain ⟨ls, e, hp, hl⟩ := ys_of (ys := r) fun z hz => h z (List.mem_cons_of_mem _ hz)
    obtain ⟨l, hl0, rfl⟩ := h y (by simp)
    refine ⟨l :: ls, by rw [e]; rfl, fun z hz => ?_, by simp [hl]⟩
    rcases List.mem_cons.mp hz with q | q
    · rw [q]; exact hl0
    · exact hp z q
theorem flat_len {B : Nat} : ∀ {ls : List (List Nat)}, (∀ l ∈ ls, l.length ≤ B) → (ls.map List.length).sum ≤ B * ls.length
  | [], _ => by simp
  | x :: r, h => by
    have := flat_len (ls := r) fun l hl => h l (List.mem_cons_of_mem _ hl)
    have := h x (by simp)
    simp only [List.map_cons, List.sum_cons, List.length_cons, Nat.mul_add, Nat.mul_one]
    omega
theorem flat_all {p : Nat → Bool} {ls : List (List Nat)} (h : ∀ l ∈ ls, l.all p = true) : ls.flatten.all p = true := by
  rw [List.all_eq_true]
  intro c hc
  obtain ⟨l, hl, hcl⟩ := List.mem_flatten.mp hc
  exact List.all_eq_true.mp (h l hl) c hcl
theorem flat_one : ∀ {ls : List (List Nat)}, (∀ l ∈ ls, l.length = 1) → ls.flatten.length = ls.length
  | [], _ => rfl
  | x :: r, h => by
    have := flat_one (ls := r) fun l hl => h l (List.mem_cons_of_mem _ hl)
    have := h x (by simp)
    simp only [List.flatten_cons, List.length_append, List.length_cons]
    omega
abbrev sLet : Str := Str.ofString "abcdefghijklmnopqrstuvwxyz0123456789ABCDEFGHIJKLMNOPQRSTUVWXYZ"
theorem let_at {d : Int} (h0 : 0 ≤ d) (h1 : d < 62) : ∃ c, atI sLet.cps.toList d = some c ∧ isAn c = true := by
  obtain ⟨n, rfl⟩ := Int.eq_ofNat_of_zero_le h0
  have hn : n < 62 := by omega
  have key : ∀ n < 62, ((sLet.cps.toList)[n]?).any isAn = true := by decide +kernel
  have k := key n hn
  cases e : (sLet.cps.toList)[n]? with
  | none =>
    rw [e] at k
    cases k
  | some c =>
    rw [e] at k
    exact ⟨c, atI_nat e, k⟩
theorem gap_at {d : Int} (h0 : 0 ≤ d) (h1 : d < 3) : ∃ c, atI (Str.ofString " _-").cps.toList d = some c ∧ isGap c = true := by
  obtain ⟨n, rfl⟩ := Int.eq_ofNat_of_zero_le h0
  have hn : n < 3 := by omega
  have key : ∀ n < 3, (((Str.ofString " _-").cps.toList)[n]?).any isGap = true := by decide +kernel
  have k := key n hn
  cases e : ((Str.ofString " _-").cps.toList)[n]? with
  | none =>
    rw [e] at k
    cases k
  | some c =>
    rw [e] at k
    exact ⟨c, atI_nat e, k⟩
section
variable {P : Program} {w : World} {K : PySem.W.Frag} {mg : Str → Option Value} {base : Heap}
abbrev CDig (P : Program) (w : World) (K : PySem.W.Frag) (mg : Str → Option Value) (base : Heap) : Prop := Cal P w K mg base CX0 "_law_digit" ["_law_s", "_law_base"] 1 spDigit
abbrev s_law_letters : Stmt := topS 19
abbrev N_law_letters : List Str := ["_law_s", "_law_many", "_law_some", "_law_k"]
theorem sc_law_letters : FnScope N_law_letters ["_law_s", "_law_many"] (defScope s_law_letters) := ⟨rfl, rfl, rfl, by decide +kernel, rfl, by decide +kernel, by decide +kernel⟩
theorem st_law_letters (v0 v1 : V) : L2.start N_law_letters [v0, v1] = [some v0, some v1, none, none] := rfl
def spLet : Sp := fun vs H Q _ => ∃ a m, vs = [.ref a, .int m] ∧ Dr H a ∧ 0 ≤ m ∧ m ≤ 1000 ∧ ∀ l H', l.length = m.toNat → l.all isAn = true → Dr H' a → Keep a H H' → Q (.str (S l)) H'
theorem ok_let (F : FunAt K mg "_law_letters" s_law_letters ["_law_s", "_law_many"]) (z_range : mg "range" = none) (C1 : CDig P w K mg base) : Cal P w K mg base CX0 "_law_letters" ["_law_s", "_law_many"] 2 spLet := by
  obtain ⟨f, fd, F, g, b⟩ := F
  obtain ⟨_, _, G_law_digit, g_law_digit, k_law_digit, b_law_digit⟩ := C1
  refine ⟨f, fd, F.ok sc_law_letters (fun vs H Q E h => ?_) (fun cdv A outer s H vs Q E hr h => ?_), g, F.kp, b⟩
  · obtain ⟨a, m, rfl, _⟩ := h
    rfl
  · refine ⟨_, (pss_cons (ps_set (i := 2) sc_law_letters.nd rfl (Or.inr rfl) pe_str)
      (pss_one (ps_ret (pe_join pe_str (pe_lc (own := [("_law_k", 3)]) (g := gName 3) (tt := tYes) (by rfl) sc_law_letters.nd (pi_range1 (by rfl) z_range (pa_cons (pv 1) pa_nil)) (blkOk_by (N := N_law_letters) (sc := defScope s_law_letters) (by decide +kernel)) (fun _ _ _ _ _ => pg_name (i := 3) sc_law_letters.nd rfl (Or.inl rfl)) (fun _ _ _ _ _ => pts_nil) (fun _ _ _ _ _ => (pe_ix ix_str (pv 2) (pe_call G_law_digit (hr.mono (by decide)) (by rfl) g_law_digit k_law_digit b_law_digit .nil pass0 (pa_cons (pv 0) (pa_cons pe_int pa_nil))) (fun _ _ => rfl)))))))), ?_⟩
    obtain ⟨a, m, rfl, hS, h0, h1, q⟩ := h
    refine ⟨⟨_, rfl⟩, _, rfl, m, rfl, by omega, by omega, fun D hD => lc_draw (fun y => ∃ l, (l.length = 1 ∧ l.all isAn = true) ∧ y = .str (S l)) hS hD (by omega) ?_ ?_⟩
    · intro k H3 Qv hk s3 k3 hQ
      refine ⟨_, rfl, _, rfl, a, 62, rfl, s3, by decide, by decide, fun d H4 d0 d1 s4 k4 => ?_⟩
      obtain ⟨c, hc, ho⟩ := let_at d0 d1
      exact ⟨_, d, c, rfl, rfl, by decide +kernel, hc, hQ _ _ ⟨[c], ⟨rfl, by simp [ho]⟩, rfl⟩ s4 k4⟩
    · intro ys H' hl hy s' k' e'
      obtain ⟨ls, rfl, hp, hl2⟩ := ys_of hy
      have f1 := flat_one (ls := ls) fun l hl => (hp l hl).1
      have f2 := flat_len (B := 1) (ls := ls) fun l hl => by rw [(hp l hl).1]; exact Nat.le_refl _
      rw [List.length_map] at hl
      refine ⟨S [], D, ls.map S, by rw [lit_e], rfl, .inl (by rw [map_VS]; exact SqL.of e'), ?_, ?_⟩
      · rw [lens_S, List.length_map, len_S]
        simp only [List.length_nil]
        omega
      · rw [join_S, joinL_flat]
        exact q _ H' (by omega) (flat_all fun l hl => (hp l hl).2) s' k'
abbrev s_law_gap : Stmt := topS 20
abbrev N_law_gap : List Str := ["_law_s", "_law_k"]
theorem sc_law_gap : FnScope N_law_gap ["_law_s"] (defScope s_law_gap) := ⟨rfl, rfl, rfl, by decide +kernel, rfl, by decide +kernel, by decide +kernel⟩
theorem st_law_gap (v0 : V) : L2.start N_law_gap [v0] = [some v0, none] := rfl
def spGap : Sp := fun vs H Q _ => ∃ a, vs = [.ref a] ∧ Dr H a ∧ ∀ l H', 1 ≤ l.length → l.length ≤ 3 → l.all isGap = true → Dr H' a → Keep a H H' → Q (.str (S l)) H'
theorem ok_gap (F : FunAt K mg "_law_gap" s_law_gap ["_law_s"]) (z_range : mg "range" = none) (C1 : CDig P w K mg base) : Cal P w K mg base CX0 "_law_gap" ["_law_s"] 2 spGap := by
  obtain ⟨f, fd, F, g, b⟩ := F
  obtain ⟨_, _, G_law_digit, g_law_digit, k_law_digit, b_law_digit⟩ := C1
  refine ⟨f, fd, F.ok sc_law_gap (fun vs H Q E h => ?_) (fun cdv A outer s H vs Q E hr h => ?_), g, F.kp, b⟩
  · obtain ⟨a, rfl, _⟩ := h
    rfl
  · refine ⟨_, (pss_one (ps_ret (pe_join pe_str (pe_lc (own := [("_law_k", 1)]) (g := gName 1) (tt := tYes) (by rfl) sc_law_gap.nd (pi_range1 (by rfl) z_range (pa_cons (pe_op op_add pe_int (pe_call G_law_digit (hr.mono (by decide)) (by rfl) g_law_digit k_law_digit b_law_digit .nil pass0 (pa_cons (pv 0) (pa_cons pe_int pa_nil)))) pa_nil)) (blkOk_by (N := N_law_gap) (sc := defScope s_law_gap) (by decide +kernel)) (fun _ _ _ _ _ => pg_name (i := 1) sc_law_gap.nd rfl (Or.inl rfl)) (fun _ _ _ _ _ => pts_nil) (fun _ _ _ _ _ => (pe_ix ix_str pe_str (pe_call G_law_digit (hr.mono (by decide)) (by rfl) g_law_digit k_law_digit b_law_digit .nil pass0 (pa_cons (pv 0) (pa_cons pe_int pa_nil))) (fun _ _ => rfl))))))), ?_⟩
    obtain ⟨a, rfl, hS, q⟩ := h
    refine ⟨⟨_, rfl⟩, _, rfl, a, 3, rfl, hS, by decide, by decide, fun m H1 m0 m1 s1 k1 => ⟨_, _, rfl, rfl, _, rfl, by omega, by omega, fun D hD => lc_draw (fun y => ∃ l, (l.length = 1 ∧ l.all isGap = true) ∧ y = .str (S l)) s1 hD (by omega) ?_ ?_⟩⟩
    · intro k H3 Qv hk s3 k3 hQ
      refine ⟨_, rfl, a, 3, rfl, s3, by decide, by decide, fun d H4 d0 d1 s4 k4 => ?_⟩
      obtain ⟨c, hc, ho⟩ := gap_at d0 d1
      exact ⟨_, d, c, rfl, rfl, by decide +kernel, hc, hQ _ _ ⟨[c], ⟨rfl, by simp [ho]⟩, rfl⟩ s4 k4⟩
    · intro ys H' hl hy s' k' e'
      obtain ⟨ls, rfl, hp, hl2⟩ := ys_of hy
      have f1 := flat_one (ls := ls) fun l hl => (hp l hl).1
      have f2 := flat_len (B := 1) (ls := ls) fun l hl => by rw [(hp l hl).1]; exact Nat.le_refl _
      rw [List.length_map] at hl
      refine ⟨S [], D, ls.map S, by rw [lit_e], rfl, .inl (by rw [map_VS]; exact SqL.of e'), ?_, ?_⟩
      · rw [lens_S, List.length_map, len_S]
        simp only [List.length_nil]
        omega
      · rw [join_S, joinL_flat]
        exact q _ H' (by omega) (by omega) (flat_all fun l hl => (hp l hl).2) s' (k1.trans k')
abbrev s_law_one_segment : Stmt := topS 21
abbrev N_law_one_segment : List Str := ["_law_s", "_law_most", "_law_found", "_law_k"]
theorem sc_law_one_segment : FnScope N_law_one_segment ["_law_s", "_law_most"] (defScope s_law_one_segment) := ⟨rfl, rfl, rfl, by decide +kernel, rfl, by decide +kernel, by decide +kernel⟩
theorem st_law_one_segment (v0 v1 : V) : L2.start N_law_one_segment [v0, v1] = [some v0, some v1, none, none] := rfl
def spOne : Sp := fun vs H Q _ => ∃ a m, vs = [.ref a, .int m] ∧ Dr H a ∧ 0 < m ∧ m ≤ 500 ∧ ∀ l H', l.length ≤ m.toNat + 16 → l.all okc = true → Dr H' a → Keep a H H' → Q (.str (S l)) H'
theorem ok_one (F : FunAt K mg "_law_one_segment" s_law_one_segment ["_law_s", "_law_most"]) (z_range : mg "range" = none) (C1 : CDig P w K mg base) (C2 : Cal P w K mg base CX0 "_law_letters" ["_law_s", "_law_many"] 2 spLet) (C3 : Cal P w K mg base CX0 "_law_gap" ["_law_s"] 2 spGap) :
    Cal P w K mg base CX0 "_law_one_segment" ["_law_s", "_law_most"] 3 spOne := by
  obtain ⟨f, fd, F, g, b⟩ := F
  obtain ⟨_, _, G_law_digit, g_law_digit, k_law_digit, b_law_digit⟩ := C1
  obtain ⟨_, _, G_law_letters, g_law_letters, k_law_letters, b_law_letters⟩ := C2
  obtain ⟨_, _, G_law_gap, g_law_gap, k_law_gap, b_law_gap⟩ := C3
  refine ⟨f, fd, F.ok sc_law_one_segment (fun vs H Q E h => ?_) (fun cdv A outer s H vs Q E hr h => ?_), g, F.kp, b⟩
  · obtain ⟨a, m, rfl, _⟩ := h
    rfl
  · refine ⟨_, (pss_cons (ps_set (i := 2) sc_law_one_segment.nd rfl (Or.inl rfl) (pe_call G_law_letters (hr.mono (by decide)) (by rfl) g_law_letters k_law_letters b_law_letters .nil pass0 (pa_cons (pv 0) (pa_cons (pe_op op_add pe_int (pe_call G_law_digit (hr.mono (by decide)) (by rfl) g_law_digit k_law_digit b_law_digit .nil pass0 (pa_cons (pv 0) (pa_cons (pv 1) pa_nil)))) pa_nil))))
      (pss_cons (ps_for PassesOwn.never (by rfl) (pi_range1 (by rfl) z_range (pa_cons (pe_call G_law_digit (hr.mono (by decide)) (by rfl) g_law_digit k_law_digit b_law_digit .nil pass0 (pa_cons (pv 0) (pa_cons pe_int pa_nil))) pa_nil)) (pg_name (i := 3) sc_law_one_segment.nd rfl (Or.inl rfl)) (pss_one (ps_set (i := 2) sc_law_one_segment.nd rfl (Or.inl rfl) (pe_op op_add_str (pe_op op_add_str (pv 2) (pe_call G_law_gap (hr.mono (by decide)) (by rfl) g_law_gap k_law_gap b_law_gap .nil pass0 (pa_cons (pv 0) pa_nil))) (pe_call G_law_letters (hr.mono (by decide)) (by rfl) g_law_letters k_law_letters b_law_letters .nil pass0 (pa_cons (pv 0) (pa_cons (pe_op op_add pe_int (pe_call G_law_digit (hr.mono (by decide)) (by rfl) g_law_digit k_law_digit b_law_digit .nil pass0 (pa_cons (pv 0) (pa_cons pe_int pa_nil)))) pa_nil)))))))
      (pss_cons (ps_if (pt_cmpR op_eq (pe_call G_law_digit (hr.mono (by decide)) (by rfl) g_law_digit k_law_digit b_law_digit .nil pass0 (pa_cons (pv 0) (pa_cons pe_int pa_nil))) pe_int (nomark _)) (pss_one (ps_set (i := 2) sc_law_one_segment.nd rfl (Or.inl rfl) (pe_op op_add_str (pe_call G_law_gap (hr.mono (by decide)) (by rfl) g_law_gap k_law_gap b_law_gap .nil pass0 (pa_cons (pv 0) pa_nil)) (pv 2)))) pss_nil)
      (pss_cons (ps_if (pt_cmpR op_eq (pe_call G_law_digit (hr.mono (by decide)) (by rfl) g_law_digit k_law_digit b_law_digit .nil pass0 (pa_cons (pv 0) (pa_cons pe_int pa_nil))) pe_int (nomark _)) (pss_one (ps_set (i := 2) sc_law_one_segment.nd rfl (Or.inl rfl) (pe_op op_add_str (pv 2) (pe_call G_law_gap (hr.mono (by decide)) (by rfl) g_law_gap k_law_gap b_law_gap .nil pass0 (pa_cons (pv 0) pa_nil))))) pss_nil)
      (pss_one (ps_ret (pv 2))))))), ?_⟩
    obtain ⟨a, m, rfl, hS, h0, h1, q⟩ := h
    refine ⟨_, rfl, _, rfl, _, rfl, a, m, rfl, hS, h0, by omega, fun d H1 d0 d1 s1 k1 => ⟨_, _, rfl, rfl, a, _, rfl, s1, by omega, by omega, fun l0 H2 hl0 ha0 s2 k2 => ?_⟩⟩
    refine ⟨_, rfl, a, 3, rfl, s2, by decide, by decide, fun n H3 n0 n1 s3 k3 => ⟨n, rfl, by omega, by omega, for_it walk_range (fun i σ H' => ∃ l y, σ = [some (.ref a), some (.int m), some (.str (S l)), y] ∧ l.length ≤ m.toNat + 5 * i ∧ l.all okc = true ∧ Dr H' a ∧ Keep a H H') ?_ (fun _ _ _ _ _ => trivial) ?_ ?_⟩⟩
    · exact ⟨l0, none, rfl, by omega, all_imp (fun c => an_ok) ha0, s3, (k1.trans k2).trans k3⟩
    · rintro i x σ Ha Hb hi ⟨l, y, rfl, hl, ho, sa, ka⟩ ⟨rfl, rfl⟩
      refine ⟨_, rfl, _, rfl, a, rfl, sa, fun lg H4 g1 g2 g3 s4 k4 => ⟨_, _, rfl, rfl, ?_, _, rfl, _, rfl, a, 2, rfl, s4, by decide, by decide, fun d H5 d0 d1 s5 k5 => ⟨_, _, rfl, rfl, a, _, rfl, s5, by omega, by omega, fun ll H6 hl6 ho6 s6 k6 => ⟨_, _, rfl, rfl, ?_, ?_⟩⟩⟩⟩
      · rw [len_S, len_S]
        exact sz (by omega)
      · rw [S_app, len_S, len_S, List.length_append]
        exact sz (by omega)
      · rw [S_app, S_app]
        refine ⟨l ++ lg ++ ll, _, rfl, ?_, ?_, s6, ((ka.trans k4).trans k5).trans k6⟩
        · rw [List.length_append, List.length_append]
          omega
        · rw [List.all_append, List.all_append, ho, all_imp (fun c => gap_ok) g3, all_imp (fun c => an_ok) ho6]
          rfl
    · rintro σ Ha ⟨l, y, rfl, hl, ho, sa, ka⟩
      -- the gap ahead
      have behind : ∀ (l2 : List Nat) (H9 : Hp), l2.length ≤ l.length + 3 → l2.all okc = true → Dr H9 a → Keep a H H9 →
          (tSeq (tIfS (tTest (tOp rEq (tCall spDigit [] E0 (tCons (tVar 0) (tCons (tC (.int 4)) tNil))) (tC (.int 0)))) (tAsg (tOp (fun x y H Q => ∃ i j, x = .str i ∧ y = .str j ∧ i.length + j.length ≤ sizeLine ∧ Q (.str (i ++ j)) H) (tVar 2) (tCall spGap [] E0 (tCons (tVar 0) tNil))) (gName 2)) tNext) (tRet (tVar 2)))
            { nx := fun _ H' => Q .non H', rt := Q } [some (.ref a), some (.int m), some (.str (S l2)), y] H9 := fun l2 H9 h2 o2 s9 k9 => by
        refine ⟨_, rfl, a, 4, rfl, s9, by decide, by decide, fun d H10 d0 d1 s10 k10 => ⟨rfl, _, rfl, ite2 (fun _ => ?_) (fun _ => ?_)⟩⟩
        · refine ⟨_, rfl, _, rfl, a, rfl, s10, fun lg H11 g1 g2 g3 s11 k11 => ⟨_, _, rfl, rfl, ?_, ?_⟩⟩
          · rw [len_S, len_S]
            exact sz (by omega)
          · rw [S_app]
            refine ⟨_, rfl, q (l2 ++ lg) H11 ?_ ?_ s11 ((k9.trans k10).trans k11)⟩
            · rw [List.length_append]
              omega
            · rw [List.all_append, o2, all_imp (fun c => gap_ok) g3]
              rfl
        · exact ⟨_, rfl, q l2 H10 (by omega) o2 s10 (k9.trans k10)⟩
      refine ⟨_, rfl, a, 4, rfl, sa, by decide, by decide, fun d H10 d0 d1 s10 k10 => ⟨rfl, _, rfl, ite2 (fun _ => ?_) (fun _ => ?_)⟩⟩
      · refine ⟨_, rfl, a, rfl, s10, fun lg H11 g1 g2 g3 s11 k11 => ⟨_, rfl, _, _, rfl, rfl, ?_, ?_⟩⟩
        · rw [len_S, len_S]
          exact sz (by omega)
        · rw [S_app]
          refine behind (lg ++ l) H11 ?_ ?_ s11 ((ka.trans k10).trans k11)
          · rw [List.length_append]
            omega
          · rw [List.all_append, ho, all_imp (fun c => gap_ok) g3]
            rfl
      · exact behind l H10 (by omega) ho s10 (ka.trans k10)
end
end Ld

namespace Ld
open PySem PySem.Spec PyProof.Rows L2 TL Nm
section
variable {P : Program} {w : World} {K : PySem.W.Frag} {mg : Str → Option Value} {base : Heap}
theorem join_parts {ls : List (List Nat)} (h : ∀ l ∈ ls, l.all okc = true ∧ l.length ≤ 100) (hn : ls.length ≤ 10) : (joinL [47] ls).all okS = true ∧ (joinL [47] ls).length ≤ 1100 ∧ (ls.map List.length).sum ≤ 1000 := by
  have f2 := flat_len (B := 100) (ls := ls) fun l hl => (h l hl).2
  have f3 := joinL_len [47] ls
  simp only [List.length_cons, List.length_nil] at f3
  refine ⟨?_, by omega, by omega⟩
  rw [joinL_all okS (by decide), List.all_eq_true]
  exact fun l hl => all_imp (fun c => okc_okS) (h l hl).1
abbrev s_law_drawn : Stmt := topS 22
abbrev N_law_drawn : List Str := ["_law_s", "_law_way", "_law_k"]
theorem sc_law_drawn : FnScope N_law_drawn ["_law_s"] (defScope s_law_drawn) := ⟨rfl, rfl, rfl, by decide +kernel, rfl, by decide +kernel, by decide +kernel⟩
theorem st_law_drawn (v0 : V) : L2.start N_law_drawn [v0] = [some v0, none, none] := rfl
def spDrawn : Sp := fun vs H Q _ => ∃ a, vs = [.ref a] ∧ Dr H a ∧ ∀ l H', l.length ≤ 1100 → l.all okS = true → Dr H' a → Keep a H H' → Q (.str (S l)) H'
theorem ok_drawn (F : FunAt K mg "_law_drawn" s_law_drawn ["_law_s"]) (z_range : mg "range" = none) (C1 : CDig P w K mg base) (C2 : Cal P w K mg base CX0 "_law_letters" ["_law_s", "_law_many"] 2 spLet) (C3 : Cal P w K mg base CX0 "_law_one_segment" ["_law_s", "_law_most"] 3 spOne) :
    Cal P w K mg base CX0 "_law_drawn" ["_law_s"] 4 spDrawn := by
  obtain ⟨f, fd, F, g, b⟩ := F
  obtain ⟨_, _, G_law_digit, g_law_digit, k_law_digit, b_law_digit⟩ := C1
  obtain ⟨_, _, G_law_letters, g_law_letters, k_law_letters, b_law_letters⟩ := C2
  obtain ⟨_, _, G_law_one_segment, g_law_one_segment, k_law_one_segment, b_law_one_segment⟩ := C3
  refine ⟨f, fd, F.ok sc_law_drawn (fun vs H Q E h => ?_) (fun cdv A outer s H vs Q E hr h => ?_), g, F.kp, b⟩
  · obtain ⟨a, rfl, _⟩ := h
    rfl
  · refine ⟨_, (pss_cons (ps_set (i := 1) sc_law_drawn.nd rfl (Or.inl rfl) (pe_call G_law_digit (hr.mono (by decide)) (by rfl) g_law_digit k_law_digit b_law_digit .nil pass0 (pa_cons (pv 0) (pa_cons pe_int pa_nil))))
      (pss_cons (ps_if (pt_cmpR op_eq (pv 1) pe_int (nomark _)) (pss_one (ps_ret (pe_call G_law_letters (hr.mono (by decide)) (by rfl) g_law_letters k_law_letters b_law_letters .nil pass0 (pa_cons (pv 0) (pa_cons (pe_op op_add pe_int (pe_call G_law_digit (hr.mono (by decide)) (by rfl) g_law_digit k_law_digit b_law_digit .nil pass0 (pa_cons (pv 0) (pa_cons pe_int pa_nil)))) pa_nil))))) pss_nil)
      (pss_cons (ps_if (pt_cmpR op_eq (pv 1) pe_int (nomark _)) (pss_one (ps_ret (pe_join pe_str (pe_lc (own := [("_law_k", 2)]) (g := gName 2) (tt := tYes) (by rfl) sc_law_drawn.nd (pi_range1 (by rfl) z_range (pa_cons (pe_op op_add pe_int (pe_call G_law_digit (hr.mono (by decide)) (by rfl) g_law_digit k_law_digit b_law_digit .nil pass0 (pa_cons (pv 0) (pa_cons pe_int pa_nil)))) pa_nil)) (blkOk_by (N := N_law_drawn) (sc := defScope s_law_drawn) (by decide +kernel)) (fun _ _ _ _ _ => pg_name (i := 2) sc_law_drawn.nd rfl (Or.inl rfl)) (fun _ _ _ _ _ => pts_nil) (fun _ _ _ _ _ => (pe_call G_law_letters (hr.mono (by decide)) (by rfl) g_law_letters k_law_letters b_law_letters .nil pass0 (pa_cons (pv 0) (pa_cons (pe_op op_add pe_int (pe_call G_law_digit (hr.mono (by decide)) (by rfl) g_law_digit k_law_digit b_law_digit .nil pass0 (pa_cons (pv 0) (pa_cons pe_int pa_nil)))) pa_nil)))))))) pss_nil)
      (pss_one (ps_ret (pe_join pe_str (pe_lc (own := [("_law_k", 2)]) (g := gName 2) (tt := tYes) (by rfl) sc_law_drawn.nd (pi_range1 (by rfl) z_range (pa_cons (pe_op op_add pe_int (pe_call G_law_digit (hr.mono (by decide)) (by rfl) g_law_digit k_law_digit b_law_digit .nil pass0 (pa_cons (pv 0) (pa_cons pe_int pa_nil)))) pa_nil)) (blkOk_by (N := N_law_drawn) (sc := defScope s_law_drawn) (by decide +kernel)) (fun _ _ _ _ _ => pg_name (i := 2) sc_law_drawn.nd rfl (Or.inl rfl)) (fun _ _ _ _ _ => pts_nil) (fun _ _ _ _ _ => (pe_call G_law_one_segment (hr.mono (by decide)) (by rfl) g_law_one_segment k_law_one_segment b_law_one_segment .nil pass0 (pa_cons (pv 0) (pa_cons pe_int pa_nil))))))))))), ?_⟩
    obtain ⟨a, rfl, hS, q⟩ := h
    refine ⟨_, rfl, a, 5, rfl, hS, by decide, by decide, fun d H1 d0 d1 s1 k1 => ⟨_, rfl, rfl, _, rfl, ite2 (fun _ => ?_) (fun _ => ⟨_, rfl, rfl, _, rfl, ite2 (fun _ => ?_) (fun _ => ?_)⟩)⟩⟩
    · refine ⟨_, rfl, _, rfl, a, 5, rfl, s1, by decide, by decide, fun n H2 n0 n1 s2 k2 => ⟨_, _, rfl, rfl, a, _, rfl, s2, by omega, by omega, fun l H3 hl ho s3 k3 => q l H3 (by omega) (all_imp (fun c h => okc_okS (an_ok h)) ho) s3 ((k1.trans k2).trans k3)⟩⟩
    · refine ⟨⟨_, rfl⟩, _, rfl, a, 3, rfl, s1, by decide, by decide, fun n H2 n0 n1 s2 k2 => ⟨_, _, rfl, rfl, _, rfl, by omega, by omega, fun D hD => lc_draw (fun y => ∃ l, (l.all okc = true ∧ l.length ≤ 100) ∧ y = .str (S l)) s2 hD (by omega) ?_ ?_⟩⟩
      · intro k H3 Qv hk s3 k3 hQ
        refine ⟨_, rfl, _, rfl, a, 3, rfl, s3, by decide, by decide, fun n H4 n0 n1 s4 k4 => ⟨_, _, rfl, rfl, a, _, rfl, s4, by omega, by omega, fun l H5 hl ho s5 k5 => hQ _ H5 ⟨l, ⟨all_imp (fun c => an_ok) ho, by omega⟩, rfl⟩ s5 (k4.trans k5)⟩⟩
      · intro ys H' hl hy s' k' e'
        obtain ⟨ls, rfl, hp, hl2⟩ := ys_of hy
        rw [List.length_map] at hl
        obtain ⟨j1, j2, j3⟩ := join_parts hp (by omega)
        refine ⟨S [47], D, ls.map S, by rw [lit_sl], rfl, .inl (by rw [map_VS]; exact SqL.of e'), ?_, ?_⟩
        · rw [lens_S, List.length_map, len_S]
          simp only [List.length_cons, List.length_nil]
          omega
        · rw [join_S]
          exact q _ H' j2 j1 s' ((k1.trans k2).trans k')
    · refine ⟨⟨_, rfl⟩, _, rfl, a, 5, rfl, s1, by decide, by decide, fun n H2 n0 n1 s2 k2 => ⟨_, _, rfl, rfl, _, rfl, by omega, by omega, fun D hD => lc_draw (fun y => ∃ l, (l.all okc = true ∧ l.length ≤ 100) ∧ y = .str (S l)) s2 hD (by omega) ?_ ?_⟩⟩
      · intro k H3 Qv hk s3 k3 hQ
        refine ⟨_, rfl, a, 6, rfl, s3, by decide, by decide, fun l H5 hl ho s5 k5 => hQ _ H5 ⟨l, ⟨ho, by simp at hl; omega⟩, rfl⟩ s5 k5⟩
      · intro ys H' hl hy s' k' e'
        obtain ⟨ls, rfl, hp, hl2⟩ := ys_of hy
        rw [List.length_map] at hl
        obtain ⟨j1, j2, j3⟩ := join_parts hp (by omega)
        refine ⟨S [47], D, ls.map S, by rw [lit_sl], rfl, .inl (by rw [map_VS]; exact SqL.of e'), ?_, ?_⟩
        · rw [lens_S, List.length_map, len_S]
          simp only [List.length_cons, List.length_nil]
          omega
        · rw [join_S]
          exact q _ H' j2 j1 s' ((k1.trans k2).trans k')
/-! ### the name written otherwise -/
abbrev s_law_otherwise : Stmt := topS 23
abbrev N_law_otherwise : List Str := ["_law_name_here", "_law_s", "_law_found", "_law_sign"]
theorem sc_law_otherwise : FnScope N_law_otherwise ["_law_name_here", "_law_s"] (defScope s_law_otherwise) := ⟨rfl, rfl, rfl, by decide +kernel, rfl, by decide +kernel, by decide +kernel⟩
theorem st_law_otherwise (v0 v1 : V) : L2.start N_law_otherwise [v0, v1] = [some v0, some v1, none, none] := rfl
def spOther : Sp := fun vs H Q _ => ∃ a d, vs = [.str (S d), .ref a] ∧ Dr H a ∧ nameOf d = some d ∧ ∀ l H', nameOf l = some d → l.length ≤ 1000 → Dr H' a → Keep a H H' → Q (.str (S l)) H'
theorem bit {d : Int} (h0 : 0 ≤ d) (h1 : d < 2) : d = 0 ∨ d = 1 := by omega
theorem ok_other (F : FunAt K mg "_law_otherwise" s_law_otherwise ["_law_name_here", "_law_s"]) (C1 : CDig P w K mg base) (C2 : Cal P w K mg base CX0 "_law_gap" ["_law_s"] 2 spGap) :
    Cal P w K mg base CX0 "_law_otherwise" ["_law_name_here", "_law_s"] 3 spOther := by
  obtain ⟨f, fd, F, g, b⟩ := F
  obtain ⟨_, _, G_law_digit, g_law_digit, k_law_digit, b_law_digit⟩ := C1
  obtain ⟨_, _, G_law_gap, g_law_gap, k_law_gap, b_law_gap⟩ := C2
  refine ⟨f, fd, F.ok sc_law_otherwise (fun vs H Q E h => ?_) (fun cdv A outer s H vs Q E hr h => ?_), g, F.kp, b⟩
  · obtain ⟨a, d, rfl, _⟩ := h
    rfl
  · refine ⟨_, (pss_cons (ps_set (i := 2) sc_law_otherwise.nd rfl (Or.inl rfl) pe_str)
      (pss_cons (ps_for PassesOwn.never (by rfl) (pi_str (pv 0)) (pg_name (i := 3) sc_law_otherwise.nd rfl (Or.inl rfl)) (pss_one (ps_if (pt_cmpR op_eq (pv 3) pe_str (nomark _)) (pss_one (ps_set (i := 2) sc_law_otherwise.nd rfl (Or.inl rfl) (pe_op op_add_str (pv 2) (pe_call G_law_gap (hr.mono (by decide)) (by rfl) g_law_gap k_law_gap b_law_gap .nil pass0 (pa_cons (pv 1) pa_nil))))) (pss_one (ps_set (i := 2) sc_law_otherwise.nd rfl (Or.inl rfl) (pe_op op_add_str (pv 2) (pe_ix ix_list (pe_lst (pa_cons (pv 3) (pa_cons (pe_upper (pv 3)) pa_nil))) (pe_call G_law_digit (hr.mono (by decide)) (by rfl) g_law_digit k_law_digit b_law_digit .nil pass0 (pa_cons (pv 1) (pa_cons pe_int pa_nil))) (fun _ _ => rfl))))))))
      (pss_one (ps_ret (pe_op op_add_str (pe_op op_add_str (pe_ix ix_list (pe_lst (pa_cons pe_str (pa_cons pe_str pa_nil))) (pe_call G_law_digit (hr.mono (by decide)) (by rfl) g_law_digit k_law_digit b_law_digit .nil pass0 (pa_cons (pv 1) (pa_cons pe_int pa_nil))) (fun _ _ => rfl)) (pv 2)) (pe_ix ix_list (pe_lst (pa_cons pe_str (pa_cons pe_str pa_nil))) (pe_call G_law_digit (hr.mono (by decide)) (by rfl) g_law_digit k_law_digit b_law_digit .nil pass0 (pa_cons (pv 1) (pa_cons pe_int pa_nil))) (fun _ _ => rfl))))))), ?_⟩
    obtain ⟨a, d, rfl, hS, hd, q⟩ := h
    have hlen := name_len hd
    have hok := name_ok hd
    refine ⟨_, rfl, S d, rfl, for_it walk_S (fun i σ H' => ∃ bb y, σ = [some (.str (S d)), some (.ref a), some (.str (S bb)), y] ∧ nmR bb = nmR (d.take i) ∧ bb.all okS = true ∧ bb.length ≤ 3 * i ∧ Dr H' a ∧ Keep a H H') ?_ (fun _ _ _ _ _ => trivial) ?_ ?_⟩
    · exact ⟨[], none, by rw [← lit_e]; rfl, rfl, rfl, by simp, hS, Keep.refl a H⟩
    · rintro i x σ Ha Hb hi ⟨bb, y, rfl, hr1, ho, hl, sa, ka⟩ ⟨rfl, c, hc, rfl⟩
      have hcm : c ∈ d := List.mem_of_getElem? hc
      have hpl := name_plain hd c hcm
      have hcok := List.all_eq_true.mp hok c hcm
      have go : ∀ wd : List Nat, OneWay c wd → wd.length ≤ 3 → ∀ H9, Dr H9 a → Keep a H H9 → ∃ b2 y, [some (V.str (S d)), some (.ref a), some (.str (S (bb ++ wd))), some (.str (S [c]))] = [some (.str (S d)), some (.ref a), some (.str (S b2)), y] ∧ nmR b2 = nmR (d.take (i + 1)) ∧ b2.all okS = true ∧ b2.length ≤ 3 * (i + 1) ∧ Dr H9 a ∧ Keep a H H9 :=
        fun wd hw h3 H9 s9 k9 => ⟨bb ++ wd, _, rfl, way_step hr1 hc hw hpl, by rw [List.all_append, ho, way_ok hw hcok]; rfl, by rw [List.length_append]; omega, s9, k9⟩
      refine ⟨_, rfl, rfl, _, rfl, ite2 (fun e => ?_) (fun e => ?_)⟩
      · have e95 : c = 95 := by
          have h := of_decide_eq_true e
          rw [lit_bar] at h
          have := S_inj (V.str.inj h)
          simpa using this
        refine ⟨_, rfl, _, rfl, a, rfl, sa, fun lg H4 g1 g2 g3 s4 k4 => ⟨_, _, rfl, rfl, by rw [len_S, len_S]; exact sz (by omega), ?_⟩⟩
        rw [S_app]
        exact go lg (.inl ⟨e95, fun z => by rw [z] at g1; simp at g1, g3⟩) g2 H4 s4 (ka.trans k4)
      · have n95 : c ≠ 95 := fun z => e (decide_eq_true (by rw [lit_bar, z]))
        have hcA : c < 128 := ok_asc hcok
        have up : Txt.upper (S [c]) = S [upc c] := upper_S (fun x hx => by rw [List.mem_singleton.mp hx]; exact hcA)
        refine ⟨_, rfl, _, rfl, _, rfl, ⟨_, rfl⟩, _, rfl, rfl, by rw [len_S]; simp, sz (by simp), fun p hp => ?_⟩
        have hpa : p ≠ a := (sa.ne hp).symm
        refine ⟨_, rfl, a, 2, rfl, sa.upd hp, by decide, by decide, fun n H4 n0 n1 s4 k4 => ?_⟩
        rw [up] at k4
        have hl4 : H4 p = some (.lst [.str (S [c]), .str (S [upc c])]) := k4 _ _ upd_same hpa
        have kk : Keep a H H4 := (ka.trans (keep_new hp)).trans k4
        rcases bit n0 n1 with rfl | rfl
        · refine ⟨p, _, 0, _, rfl, rfl, SqL.of hl4, rfl, _, _, rfl, rfl, by rw [len_S, len_S]; exact sz (by simp; omega), ?_⟩
          rw [S_app]
          exact go [c] (.inr ⟨n95, .inl rfl⟩) (by simp) H4 s4 kk
        · refine ⟨p, _, 1, _, rfl, rfl, SqL.of hl4, rfl, _, _, rfl, rfl, by rw [len_S, len_S]; exact sz (by simp; omega), ?_⟩
          rw [S_app]
          exact go [upc c] (.inr ⟨n95, .inr rfl⟩) (by simp) H4 s4 kk
    · rintro σ Ha ⟨bb, y, rfl, hr1, ho, hl, sa, ka⟩
      rw [take_len] at hr1
      have fin : ∀ pre suf : List Nat, pre.all isGap = true → suf.all isGap = true → pre.length ≤ 2 → suf.length ≤ 2 → ∀ H9, Dr H9 a → Keep a H H9 → Q (.str (S (pre ++ bb ++ suf))) H9 := fun pre suf h1 h2 h3 h4 H9 s9 k9 =>
        q _ H9 (name_way hd hr1 ho h1 h2) (by rw [List.length_append, List.length_append]; omega) s9 k9
      refine ⟨sz (by simp), fun p hp => ?_⟩
      have hpa : p ≠ a := (sa.ne hp).symm
      refine ⟨_, rfl, a, 2, rfl, sa.upd hp, by decide, by decide, fun n H4 n0 n1 s4 k4 => ?_⟩
      rw [lit_e, lit_sp] at k4
      have hl4 : H4 p = some (.lst [.str (S []), .str (S [32])]) := k4 _ _ upd_same hpa
      have kk : Keep a H H4 := (ka.trans (keep_new hp)).trans k4
      have second : ∀ pre : List Nat, pre.all isGap = true → pre.length ≤ 2 → tOp (rIxL K) (tLst (tCons (tC (.str (Str.ofString ""))) (tCons (tC (.str (Str.ofString "--"))) tNil))) (tCall spDigit [] E0 (tCons (tVar 1) (tCons (tC (.int 2)) tNil))) [some (.str (S d)), some (.ref a), some (.str (S bb)), y] H4
          fun z H5 => ∃ i j, V.str (S (pre ++ bb)) = .str i ∧ z = .str j ∧ i.length + j.length ≤ sizeLine ∧ Q (.str (i ++ j)) H5 := fun pre h1 h2 => by
        refine ⟨sz (by simp), fun p2 hp2 => ?_⟩
        have hpa2 : p2 ≠ a := (s4.ne hp2).symm
        refine ⟨_, rfl, a, 2, rfl, s4.upd hp2, by decide, by decide, fun n H5 n0 n1 s5 k5 => ?_⟩
        rw [lit_e, lit_dash2] at k5
        have hl5 : H5 p2 = some (.lst [.str (S []), .str (S [45, 45])]) := k5 _ _ upd_same hpa2
        have kk5 : Keep a H H5 := (kk.trans (keep_new hp2)).trans k5
        rcases bit n0 n1 with rfl | rfl
        · refine ⟨p2, _, 0, _, rfl, rfl, SqL.of hl5, rfl, _, _, rfl, rfl, by rw [len_S, len_S, List.length_append]; exact sz (by simp; omega), ?_⟩
          rw [S_app]
          exact fin pre [] h1 rfl h2 (by simp) H5 s5 kk5
        · refine ⟨p2, _, 1, _, rfl, rfl, SqL.of hl5, rfl, _, _, rfl, rfl, by rw [len_S, len_S, List.length_append]; exact sz (by simp; omega), ?_⟩
          rw [S_app]
          exact fin pre [45, 45] h1 (by decide) h2 (by simp) H5 s5 kk5
      rcases bit n0 n1 with rfl | rfl
      · refine ⟨p, _, 0, _, rfl, rfl, SqL.of hl4, rfl, _, rfl, _, _, rfl, rfl, by rw [len_S, len_S]; exact sz (by simp; omega), ?_⟩
        rw [S_app]
        exact second [] rfl (by simp)
      · refine ⟨p, _, 1, _, rfl, rfl, SqL.of hl4, rfl, _, rfl, _, _, rfl, rfl, by rw [len_S, len_S]; exact sz (by simp; omega), ?_⟩
        rw [S_app]
        exact second [32] (by decide) (by simp)
end
end Ld

namespace Ld
open PySem PySem.Spec PyProof.Rows L2 TL Nm
theorem gaps_mem (c : Nat) : (c ∈ (Str.ofString " _-").cps.toList) = (isGap c = true) := by
  have e : (Str.ofString " _-").cps.toList = [32, 95, 45] := by decide +kernel
  rw [e, gap_iff]
  simp
theorem als_mem (c : Nat) : (c ∈ (Str.ofString "abcdefghijklmnopqrstuvwxyz0123456789").cps.toList) = (isAl c = true) := by
  have h0 : decide (c ∈ (Str.ofString "abcdefghijklmnopqrstuvwxyz0123456789").cps.toList) = isAl c := by
    by_cases h : c < 128
    · revert c
      decide +kernel
    · have e : isAl c = false := by
        unfold isAl
        simp only [Bool.or_eq_false_iff, Bool.and_eq_false_iff, decide_eq_false_iff_not]
        omega
      rw [e]
      refine decide_eq_false fun hm => ?_
      have : ∀ x ∈ (Str.ofString "abcdefghijklmnopqrstuvwxyz0123456789").cps.toList, x < 128 := by decide +kernel
      exact h (this c hm)
  rw [← h0, decide_eq_true_eq]
section
variable {P : Program} {w : World} {K : PySem.W.Frag} {mg : Str → Option Value} {base : Heap}
abbrev s_law_segment : Stmt := topS 16
abbrev N_law_segment : List Str := ["_law_text", "_law_found", "_law_gap_here", "_law_sign"]
theorem sc_law_segment : FnScope N_law_segment ["_law_text"] (defScope s_law_segment) := ⟨rfl, rfl, rfl, by decide +kernel, rfl, by decide +kernel, by decide +kernel⟩
theorem st_law_segment (v0 : V) : L2.start N_law_segment [v0] = [some v0, none, none, none] := rfl
def spLSeg : Sp := fun vs H Q _ => ∃ l, vs = [.str (S l)] ∧ Asc l ∧ l.length ≤ 100000 ∧ ∀ H', Same H H' → Q (oV (good l)) H'
theorem ok_lseg (F : FunAt K mg "_law_segment" s_law_segment ["_law_text"]) (z_int : mg "int" = none) : Cal P w K mg base CX0 "_law_segment" ["_law_text"] 1 spLSeg := by
  obtain ⟨f, fd, F, g, b⟩ := F
  refine ⟨f, fd, F.ok sc_law_segment (fun vs H Q E h => ?_) (fun cdv A outer s H vs Q E hr h => ?_), g, F.kp, b⟩
  · obtain ⟨l, rfl, _⟩ := h
    rfl
  · refine ⟨_, (pss_cons (ps_set (i := 1) sc_law_segment.nd rfl (Or.inl rfl) pe_str)
      (pss_cons (ps_set (i := 2) sc_law_segment.nd rfl (Or.inl rfl) pe_bl)
      (pss_cons (ps_for PassesOwn.never (by rfl) (pi_str (pv 0)) (pg_name (i := 3) sc_law_segment.nd rfl (Or.inl rfl)) (pss_one (ps_if (pt_cmpR op_in_sign (pv 3) pe_str (by rfl)) (pss_one (ps_set (i := 2) sc_law_segment.nd rfl (Or.inl rfl) (pe_cmpR op_ne (pv 1) pe_str (nomark _)))) (pss_one (ps_if (pt_cmpR op_in_sign (pe_lower (pv 3)) pe_str (by rfl)) (pss_cons (ps_set (i := 1) sc_law_segment.nd rfl (Or.inl rfl) (pe_op op_add_str (pe_op op_add_str (pv 1) (pe_ix ix_list (pe_lst (pa_cons pe_str (pa_cons pe_str pa_nil))) (pe_callTy call_int1 (by rfl) z_int (by decide +kernel) (pa_cons (pv 2) pa_nil)) (fun _ _ => rfl))) (pe_lower (pv 3))))
      (pss_one (ps_set (i := 2) sc_law_segment.nd rfl (Or.inl rfl) pe_bl))) (pss_one (ps_ret pe_non)))))))
      (pss_one (ps_ret (pe_ix ix_list (pe_lst (pa_cons pe_non (pa_cons (pv 1) pa_nil))) (pe_callTy call_int1 (by rfl) z_int (by decide +kernel) (pa_cons (pe_cmpR op_ne (pv 1) pe_str (nomark _)) pa_nil)) (fun _ _ => rfl))))))), ?_⟩
    obtain ⟨l, rfl, hA, hl, q⟩ := h
    refine ⟨_, rfl, S l, rfl, for_it walk_S (fun i σ H' => ∃ y, σ = [some (.str (S l)), some (.str (S (segR (l.take i)).1)), some (.bl (segR (l.take i)).2), y] ∧ (l.take i).all okc = true ∧ Same H H') ?_ (fun _ _ _ _ _ => trivial) ?_ ?_⟩
    · exact ⟨none, by rw [lit_e]; rfl, rfl, Same.refl H⟩
    · rintro i x σ Ha Hb hi ⟨y, rfl, hall, sa⟩ ⟨rfl, c, hc, rfl⟩
      have hcA : c < 128 := hA c (List.mem_of_getElem? hc)
      have low : Txt.lower (S [c]) = S [lowc c] := lower_S (fun x hx => by rw [List.mem_singleton.mp hx]; exact hcA)
      have hle : (segR (l.take i)).1.length ≤ 100000 := by
        have := segR_len (l.take i)
        rw [List.length_take] at this
        omega
      have next := seg_take hc
      refine ⟨_, rfl, c, _, rfl, rfl, _, rfl, ite2 (fun e => ?_) (fun e => ?_)⟩
      · rw [decide_eq_true_eq, gaps_mem] at e
        refine ⟨_, rfl, rfl, some (.str (S [c])), ?_, take_all hall hc (gap_ok e), sa⟩
        rw [next, step_gap e, lit_e]
        show [some (V.str (S l)), some (V.str (S (segR (l.take i)).1)), some (V.bl (!decide (V.str (S (segR (l.take i)).1) = V.str (S [])))), some (V.str (S [c]))] = _
        rw [dec_empty]
      · rw [decide_eq_true_eq, gaps_mem] at e
        have g0 : isGap c = false := by simpa using e
        refine ⟨_, rfl, ⟨_, rfl⟩, _, rfl, rfl, by rw [len_S]; simp, ?_⟩
        rw [low]
        refine ⟨lowc c, _, rfl, rfl, _, rfl, ite2 (fun e2 => ?_) (fun e2 => ?_)⟩
        · rw [decide_eq_true_eq, als_mem] at e2
          have oc : okc c = true := by
            unfold okc
            rw [e2, Bool.or_true]
          refine ⟨_, rfl, sz (by simp), fun p hp => ?_⟩
          refine ⟨_, rfl, .inr ⟨_, rfl, ?_⟩⟩
          have hsq : SqL K (upd Hb p (.lst [.str (Str.ofString ""), .str (Str.ofString "_")])) p [.str (Str.ofString ""), .str (Str.ofString "_")] := SqL.of upd_same
          have fin : ∀ wd : List Nat, S ((segR (l.take i)).1 ++ wd ++ [lowc c]) = S (segR (l.take (i + 1))).1 → (segR (l.take (i + 1))).2 = false → wd.length ≤ 1 → ∀ H9, Same H H9 →
              tOp (fun x y H Q => ∃ i j, x = .str i ∧ y = .str j ∧ i.length + j.length ≤ sizeLine ∧ Q (.str (i ++ j)) H) (tC (.str (S ((segR (l.take i)).1 ++ wd)))) (tM0 (fun x xs H Q => ∃ a, x = .str a ∧ xs = [] ∧ a.length ≤ 5592405 ∧ Q (.str (Txt.lower a)) H) (tVar 3)) [some (.str (S l)), some (.str (S (segR (l.take i)).1)), some (.bl (segR (l.take i)).2), some (.str (S [c]))] H9
                fun v H10 => ∃ y, [some (V.str (S l)), some v, some (.bl false), some (.str (S [c]))] = [some (.str (S l)), some (.str (S (segR (l.take (i + 1))).1)), some (.bl (segR (l.take (i + 1))).2), y] ∧ (l.take (i + 1)).all okc = true ∧ Same H H10 := fun wd h1 h2 h3 H9 s9 => by
            refine ⟨_, rfl, ⟨_, rfl⟩, _, rfl, rfl, by rw [len_S]; simp, _, _, rfl, rfl, ?_, ?_⟩
            · rw [low, len_S, len_S, List.length_append]
              exact sz (by simp; omega)
            · rw [low, S_app, h1]
              exact ⟨_, by rw [h2], take_all hall hc oc, s9⟩
          have s9 : Same H (upd Hb p (.lst [.str (Str.ofString ""), .str (Str.ofString "_")])) := sa.trans (same_upd hp)
          cases o : (segR (l.take i)).2 with
          | true =>
            refine ⟨p, _, 1, _, rfl, rfl, hsq, rfl, _, _, rfl, rfl, by rw [len_S, lit_bar, len_S]; exact sz (by simp; omega), ?_⟩
            rw [lit_bar, S_app]
            have := fin [95] (by rw [next, step_no g0, o, if_pos rfl]) (by rw [next, step_no g0]) (by simp) _ s9
            rw [o] at this
            exact this
          | false =>
            refine ⟨p, _, 0, _, rfl, rfl, hsq, rfl, _, _, rfl, rfl, by rw [len_S, lit_e, len_S]; exact sz (by simp; omega), ?_⟩
            rw [lit_e, S_app]
            have := fin [] (by rw [next, step_no g0, o, if_neg Bool.false_ne_true]) (by rw [next, step_no g0]) (by simp) _ s9
            rw [o] at this
            exact this
        · rw [decide_eq_true_eq, als_mem] at e2
          have oc : okc c = false := by
            unfold okc
            rw [g0, Bool.false_or]
            simpa using e2
          rw [good_none hc oc] at q
          exact q _ sa
    · rintro σ Ha ⟨y, rfl, hall, sa⟩
      rw [take_len] at hall
      have hle := segR_len l
      rw [good_all hall] at q
      refine ⟨_, rfl, sz (by simp), fun p hp => ?_⟩
      rw [take_len]
      refine ⟨_, rfl, rfl, .inr ⟨_, rfl, ?_⟩⟩
      rw [lit_e]
      rw [dec_empty]
      cases o : (seg l).isEmpty with
      | true =>
        rw [o, if_pos rfl] at q
        rw [show (segR l).1.isEmpty = true from o]
        exact ⟨p, _, 0, _, rfl, rfl, SqL.of upd_same, rfl, q _ (sa.trans (same_upd hp))⟩
      | false =>
        rw [o, if_neg Bool.false_ne_true] at q
        rw [show (segR l).1.isEmpty = false from o]
        exact ⟨p, _, 1, _, rfl, rfl, SqL.of upd_same, rfl, q _ (sa.trans (same_upd hp))⟩
abbrev s_law_name : Stmt := topS 17
abbrev N_law_name : List Str := ["_law_text", "_law_found", "_law_segment_here"]
theorem sc_law_name : FnScope N_law_name ["_law_text"] (defScope s_law_name) := ⟨rfl, rfl, rfl, by decide +kernel, rfl, by decide +kernel, by decide +kernel⟩
theorem st_law_name (v0 : V) : L2.start N_law_name [v0] = [some v0, none, none] := rfl
def spLName : Sp := fun vs H Q _ => ∃ l, vs = [.str (S l)] ∧ Asc l ∧ l.length ≤ 100000 ∧ ∀ H', Same H H' → Q (oV (nameOf l)) H'
theorem ok_lname (F : FunAt K mg "_law_name" s_law_name ["_law_text"]) (z_len : mg "len" = none) (C1 : Cal P w K mg base CX0 "_law_segment" ["_law_text"] 1 spLSeg) : Cal P w K mg base CX0 "_law_name" ["_law_text"] 2 spLName := by
  obtain ⟨f, fd, F, g, b⟩ := F
  obtain ⟨_, _, G_law_segment, g_law_segment, k_law_segment, b_law_segment⟩ := C1
  refine ⟨f, fd, F.ok sc_law_name (fun vs H Q E h => ?_) (fun cdv A outer s H vs Q E hr h => ?_), g, F.kp, b⟩
  · obtain ⟨l, rfl, _⟩ := h
    rfl
  · refine ⟨_, (pss_cons (ps_setLc (i := 1) (own := [("_law_segment_here", 2)]) (g := gName 2) (tt := tYes) (by rfl) sc_law_name.nd rfl rfl (sw_true rfl rfl rfl (by decide +kernel)) (pi_list (pe_split (pv 0) pe_str)) (blkOk_by (N := N_law_name) (sc := defScope s_law_name) (by decide +kernel)) (fun _ _ _ _ _ => pg_name (i := 2) sc_law_name.nd rfl (Or.inl rfl)) (fun _ _ _ _ _ => pts_nil) (fun _ _ _ _ _ => (pe_call G_law_segment (hr.mono (by decide)) (by rfl) g_law_segment k_law_segment b_law_segment .nil pass0 (pa_cons (pv 2) pa_nil))))
      (pss_cons (ps_if (PW.pt (pw_or (pt_cmpR op_in_seq pe_non (pv 1) (by rfl)) (pw_or (pt_cmpR op_gt (pe_callB call_len_seq (by rfl) z_len PySem.boot_len (pa_cons (pv 1) pa_nil)) pe_int (nomark _)) (pw_or1 (pt_cmpR op_gt (pe_callB call_len_str (by rfl) z_len PySem.boot_len (pa_cons (pe_join pe_str (pv 1)) pa_nil)) pe_int (nomark _)))))) (pss_one (ps_ret pe_non)) pss_nil)
      (pss_one (ps_ret (pe_join pe_str (pv 1)))))), ?_⟩
    obtain ⟨l, rfl, hA, hl, q⟩ := h
    have n1 := spl1_len 47 l []
    have n2 := spl_sum 47 l []
    have n3 := sum_seg (cuts l)
    have n4 := nm_len l
    rw [law_name] at q
    refine ⟨_, rfl, ⟨S l, rfl⟩, S l, S [47], rfl, by rw [lit_sl], rfl, by rw [len_S]; exact sz (by omega), fun p hp => ?_⟩
    rw [split_S (by decide), map_VS]
    refine ⟨p, rfl, ⟨_, SqL.of upd_same⟩, fun D hD => lc_same (ys := ((cuts l).map good).map oV) (SqL.of upd_same) hD (by simp [cuts]) (by rw [List.length_map]; exact sz' (by omega)) ?_ ?_⟩
    · intro k x y H3 Qv hx hy s3 hQ
      rw [List.getElem?_map] at hx hy
      rw [List.getElem?_map] at hy
      cases e : (spl [47] 0 [] l)[k]? with
      | none =>
        rw [e] at hx
        cases hx
      | some pc =>
        rw [e] at hx
        rw [show (cuts l)[k]? = some pc from e] at hy
        have e1 := Option.some.inj hx
        have e2 := Option.some.inj hy
        subst e1 e2
        have hm : pc ∈ spl [47] 0 [] l := List.mem_of_getElem? e
        have h1 := spl_mem_len 47 l [] pc hm
        refine ⟨_, rfl, pc, rfl, fun c hc => ?_, by simp at h1; omega, fun H4 s4 => hQ H4 s4⟩
        exact hA c (cuts_mem hm hc)
    · intro H' s' e'
      have s2 : Same H H' := (same_upd hp).trans s'
      have hsq : SqL K H' D (((cuts l).map good).map oV) := SqL.of e'
      refine ⟨_, rfl, D, _, rfl, .inl hsq, rfl, flat_oV _, _, rfl, ?_⟩
      show if (inV .non (((cuts l).map good).map oV)) = true then _ else _
      rw [in_none]
      by_cases c1 : none ∈ (cuts l).map good
      · rw [decide_eq_true c1]
        refine iteT ?_
        rw [if_pos (.inl c1)] at q
        exact q _ s2
      · rw [decide_eq_false c1]
        have hj : SqL K H' D (((cuts l).map seg).map S |>.map V.str) := by
          rw [← oV_strs, ← good_some c1]
          exact hsq
        refine iteF ⟨_, rfl, D, _, rfl, .inl hsq, _, _, rfl, rfl, _, rfl, ?_⟩
        rw [List.length_map, List.length_map]
        by_cases c2 : (cuts l).length > 4
        · rw [decide_eq_true (show (4 : Int) < ((cuts l).length : Int) by omega)]
          refine iteT ?_
          rw [if_pos (.inr (.inl c2))] at q
          exact q _ s2
        · rw [decide_eq_false (show ¬ (4 : Int) < ((cuts l).length : Int) by omega)]
          have jl : ((((cuts l).map seg).map S).map (·.length)).sum + (((cuts l).map seg).map S).length * (S [47]).length ≤ 16777216 := by
            rw [lens_S, List.length_map, List.length_map, len_S]
            simp only [List.length_cons, List.length_nil, cuts] at *
            omega
          refine iteF ⟨⟨_, rfl⟩, _, rfl, S [47], D, _, by rw [lit_sl], rfl, .inl hj, jl, ?_⟩
          rw [join_S]
          have enm : joinL [47] ((cuts l).map seg) = nm l := rfl
          rw [enm]
          refine ⟨_, rfl, by rw [len_S]; exact sz (by omega), _, _, rfl, rfl, _, rfl, ?_⟩
          rw [len_S]
          by_cases c3 : (nm l).length > 24
          · rw [decide_eq_true (show (24 : Int) < ((nm l).length : Int) by omega)]
            refine iteT ?_
            rw [if_pos (.inr (.inr c3))] at q
            exact q _ s2
          · rw [decide_eq_false (show ¬ (24 : Int) < ((nm l).length : Int) by omega)]
            rw [if_neg (by simp only [not_or]; exact ⟨c1, c2, c3⟩)] at q
            refine iteF ⟨⟨_, rfl⟩, _, rfl, S [47], D, _, by rw [lit_sl], rfl, .inl hj, jl, ?_⟩
            rw [join_S, enm]
            exact q _ s2
end
end Ld

namespace Ld
open PySem PySem.Spec PyProof.Rows L2 TL Nm
def toldV : Option (List Nat) → List V
  | some d => [.str (Str.ofString "told"), .str (S d)]
  | none => [.str (Str.ofString "refused"), .non]
def toldD : Option (List Nat) → PyData
  | some d => .tuple [.str (Str.ofString "told"), .str (S d)]
  | none => .tuple [.str (Str.ofString "refused"), .none]
theorem told_dp {K : PySem.W.Frag} {H : Hp} {p : Addr} (o : Option (List Nat)) (h : H p = some (.tup (toldV o))) : Dp K H (.ref p) (toldD o) := by
  cases o with
  | none => exact .tup (SqT.of h) (.cons (.str _) (.cons .non .nil))
  | some d => exact .tup (SqT.of h) (.cons (.str _) (.cons (.str _) .nil))
theorem str_ok {l : List Nat} (h : Asc l) : PyData.strOk (S l) = true := by
  unfold PyData.strOk
  rw [Array.all_eq_true_iff_forall_mem]
  intro c hc
  have := h c (by simpa [S] using hc)
  simp
  omega
def OkO (o : Option (List Nat)) : Prop := ∀ d, o = some d → Asc d
theorem lay_told {o : Option (List Nat)} (h : OkO o) : (toldD o).canLay0 = true := by
  cases o with
  | none =>
    simp only [toldD, PyData.canLay0, PyData.canLayAll0, Bool.and_true, Bool.and_eq_true]
    decide +kernel
  | some d =>
    simp only [toldD, PyData.canLay0, PyData.canLayAll0, Bool.and_true, Bool.and_eq_true]
    exact ⟨by decide +kernel, str_ok (h d rfl)⟩
theorem told_shaped {o : Option (List Nat)} (h : OkO o) : SeqAt.shaped (toldD o) = true := by
  unfold SeqAt.shaped
  rw [lay_told h, Bool.true_and]
  cases o <;> simp [toldD, PyData.depth, PyData.depthAll]
theorem told_refl {o : Option (List Nat)} (h : OkO o) : PyData.eqv (toldD o) (toldD o) = true := SeqAt.eqv_refl _ (lay_told h)
theorem same_keep {p : Addr} {H H1 H2 : Hp} (s : Same H H1) (k : Keep p H1 H2) (hp : H p = none) : Same H H2 := fun b o h => k b o (s b o h) (ne_of_none h hp)
section
variable {P : Program} {w : World} {K : PySem.W.Frag} {mg : Str → Option Value} {base : Heap}
abbrev s_law_told : Stmt := topS 24
abbrev N_law_told : List Str := ["_law_text", "_law_found"]
theorem sc_law_told : FnScope N_law_told ["_law_text"] (defScope s_law_told) := ⟨rfl, rfl, rfl, by decide +kernel, rfl, by decide +kernel, by decide +kernel⟩
theorem st_law_told (v0 : V) : L2.start N_law_told [v0] = [some v0, none] := rfl
def spTold : Sp := fun vs H Q _ => ∃ l, vs = [.str (S l)] ∧ l.length ≤ 100000 ∧ ∀ p H', H p = none → Same H H' → H' p = some (.tup (toldV (nameOf l))) → Q (.ref p) H'
theorem ok_told {C : Addr} (F : FunAt K mg "_law_told" s_law_told ["_law_text"]) (x_NoName : ErrAt K mg "NoName" C) (C1 : Cal P w K mg base (L2.CX P w) "name_of" ["thing"] 3 (spName K C)) : Cal P w K mg base CX0 "_law_told" ["_law_text"] 4 spTold := by
  obtain ⟨f, fd, F, g, b⟩ := F
  obtain ⟨_, _, G_name_of, g_name_of, k_name_of, b_name_of⟩ := C1
  refine ⟨f, fd, F.ok sc_law_told (fun vs H Q E h => ?_) (fun cdv A outer s H vs Q E hr h => ?_), g, F.kp, b⟩
  · obtain ⟨l, rfl, _⟩ := h
    rfl
  · refine ⟨_, (pss_cons (ps_set (i := 1) sc_law_told.nd rfl (Or.inl rfl) (pe_tup (pa_cons pe_str (pa_cons pe_non pa_nil))))
      (pss_cons (ps_try_only (by rfl) (by rfl) ⟨by rfl, by decide, .inl x_NoName.g⟩ takes0 (fun W pn xe tk _ => (pss_one (ps_set (i := 1) sc_law_told.nd rfl (Or.inl rfl) (pe_tup (pa_cons pe_str (pa_cons (pe_callS G_name_of (hr.mono (by decide)) (by rfl) g_name_of k_name_of b_name_of (fun σ => passAt tk σ) (pa_cons (pv 0) pa_nil)) pa_nil)))))) (fun a oe cls d pn _ _ => (pss_one (ps_set (i := 1) sc_law_told.nd rfl (Or.inl rfl) (pe_tup (pa_cons pe_str (pa_cons pe_non pa_nil)))))))
      (pss_one (ps_ret (pv 1))))), ?_⟩
    obtain ⟨l, rfl, hl, q⟩ := h
    refine ⟨sz (by simp), fun p0 hp0 => ⟨_, rfl, .inl ⟨l, rfl, hl, fun d hd H' s' => ⟨sz (by simp), fun p hp => ?_⟩, fun hd H' s' => ⟨true, x_NoName.e, fun _ a ha => ⟨sz (by simp), fun p hp => ?_⟩, fun z => nomatch z⟩⟩⟩⟩
    · have s2 := (same_upd (o := .tup [.str (Str.ofString "told"), .non]) hp0).trans s'
      refine ⟨_, rfl, q p _ (s2.free hp) (s2.trans (same_upd hp)) ?_⟩
      rw [upd_same, hd]
      rfl
    · have s2 := (same_upd (o := .tup [.str (Str.ofString "told"), .non]) hp0).trans s'
      refine ⟨_, rfl, q p _ (s2.free hp) (s2.trans (same_upd hp)) ?_⟩
      rw [upd_same, hd]
      rfl
theorem cut_ints {ns : List Int} {lo hi : Option Int} {x : V} (h : x ∈ cutV (ns.map V.int) lo hi) : ∃ n, x = .int n := by
  unfold cutV at h
  have h2 := List.mem_of_mem_drop (List.mem_of_mem_take h)
  obtain ⟨n, _, rfl⟩ := List.mem_map.mp h2
  exact ⟨n, rfl⟩
abbrev s_law : Stmt := topS 25
abbrev N_law : List Str := ["_law_script", "_law_cell", "_law_s", "_law_text", "_law_due", "_law_told_here", "_law_other"]
theorem sc_law : FnScope N_law ["_law_script"] (defScope s_law) := ⟨rfl, rfl, rfl, by decide +kernel, rfl, by decide +kernel, by decide +kernel⟩
theorem st_law (v0 : V) : L2.start N_law [v0] = [some v0, none, none, none, none, none, none] := rfl
def spLaw (K : PySem.W.Frag) : Sp := fun vs H Q _ => ∃ (a : Addr) (ns : List Int), vs = [.ref a] ∧ SqL K H a (ns.map V.int) ∧ ns.length ≤ 63 ∧ ∀ H', Q (.bl true) H'
theorem ok_law {C f : Addr} {fd : FuncData} (F : Fun K "law" "law" s_law f fd) (z_int : mg "int" = none) (z_bool : mg "bool" = none) (z_isinstance : mg "isinstance" = none)
    (C1 : Cal P w K mg base CX0 "_law_state" ["_law_cell"] 1 spState) (C2 : Cal P w K mg base CX0 "_law_drawn" ["_law_s"] 4 spDrawn) (C3 : Cal P w K mg base CX0 "_law_name" ["_law_text"] 2 spLName)
    (C4 : Cal P w K mg base CX0 "is_name" ["thing"] 4 (spIs K)) (C5 : Cal P w K mg base CX0 "_law_told" ["_law_text"] 4 spTold) (C6 : Cal P w K mg base CX0 "_law_otherwise" ["_law_name_here", "_law_s"] 3 spOther)
    (C7 : Cal P w K mg base (L2.CX P w) "name_of" ["thing"] 3 (spName K C)) : FnOk P w K mg base CX0 5 f fd ["_law_script"] (spLaw K) := by
  obtain ⟨_, _, G_law_state, g_law_state, k_law_state, b_law_state⟩ := C1
  obtain ⟨_, _, G_law_drawn, g_law_drawn, k_law_drawn, b_law_drawn⟩ := C2
  obtain ⟨_, _, G_law_name, g_law_name, k_law_name, b_law_name⟩ := C3
  obtain ⟨_, _, G_is_name, g_is_name, k_is_name, b_is_name⟩ := C4
  obtain ⟨_, _, G_law_told, g_law_told, k_law_told, b_law_told⟩ := C5
  obtain ⟨_, _, G_law_otherwise, g_law_otherwise, k_law_otherwise, b_law_otherwise⟩ := C6
  obtain ⟨_, _, G_name_of, g_name_of, k_name_of, b_name_of⟩ := C7
  refine F.ok sc_law (fun vs H Q E h => ?_) (fun cdv A outer s H vs Q E hr h => ?_)
  · obtain ⟨a, ns, rfl, _⟩ := h
    rfl
  · refine ⟨_, (pss_cons (ps_for PassesOwn.never (by rfl) (pi_list (pe_slice sl_list (pe_op op_catS (pv 0) (pe_lst (pa_cons pe_int pa_nil))) po_none (po_some pe_int))) (pg_name (i := 1) sc_law.nd rfl (Or.inl rfl)) (pss_cons (ps_set (i := 2) sc_law.nd rfl (Or.inl rfl) (pe_call G_law_state (hr.mono (by decide)) (by rfl) g_law_state k_law_state b_law_state .nil pass0 (pa_cons (pv 1) pa_nil)))
      (pss_cons (ps_set (i := 3) sc_law.nd rfl (Or.inl rfl) (pe_call G_law_drawn (hr.mono (by decide)) (by rfl) g_law_drawn k_law_drawn b_law_drawn .nil pass0 (pa_cons (pv 2) pa_nil)))
      (pss_cons (ps_set (i := 4) sc_law.nd rfl (Or.inl rfl) (pe_call G_law_name (hr.mono (by decide)) (by rfl) g_law_name k_law_name b_law_name .nil pass0 (pa_cons (pv 3) pa_nil)))
      (pss_cons (ps_set (i := 5) sc_law.nd rfl (Or.inl rfl) (pe_call G_is_name (hr.mono (by decide)) (by rfl) g_is_name k_is_name b_is_name .nil pass0 (pa_cons (pv 3) pa_nil)))
      (pss_cons (ps_if (PW.pt (pw_or (pt_not (pt_val (pe_callB call_isi (by rfl) z_isinstance (by decide +kernel) (pa_cons (pv 5) (pa_cons (pe_bltn (v := .ty "bool") (by rfl) z_bool (by decide +kernel) rfl) pa_nil))))) (pw_or1 (pt_cmpR op_ne (pv 5) (pe_cmpR op_notN (pv 4) pe_non (nomark _)) (nomark _))))) (pss_one (ps_ret pe_bl)) pss_nil)
      (pss_cons (ps_if (pt_cmpR (op_neD hr.units) (pe_call G_law_told (hr.mono (by decide)) (by rfl) g_law_told k_law_told b_law_told .nil pass0 (pa_cons (pv 3) pa_nil)) (pe_ix ix_list (pe_lst (pa_cons (pe_tup (pa_cons pe_str (pa_cons (pv 4) pa_nil))) (pa_cons (pe_tup (pa_cons pe_str (pa_cons pe_non pa_nil))) pa_nil))) (pe_callTy call_int1 (by rfl) z_int (by decide +kernel) (pa_cons (pe_cmpR op_isN (pv 4) pe_non (nomark _)) pa_nil)) (fun _ _ => rfl)) (nomark _)) (pss_one (ps_ret pe_bl)) pss_nil)
      (pss_one (ps_if (pt_cmpR op_notN (pv 4) pe_non (nomark _)) (pss_cons (ps_set (i := 6) sc_law.nd rfl (Or.inl rfl) (pe_call G_law_otherwise (hr.mono (by decide)) (by rfl) g_law_otherwise k_law_otherwise b_law_otherwise .nil pass0 (pa_cons (pv 4) (pa_cons (pv 2) pa_nil))))
      (pss_one (ps_if (PW.pt (pw_or (pt_cmpR op_ne (pe_call G_name_of (hr.mono (by decide)) (by rfl) g_name_of k_name_of b_name_of .nil passL (pa_cons (pv 4) pa_nil)) (pv 4) (nomark _)) (pw_or (pt_cmpR op_notBl (pe_call G_is_name (hr.mono (by decide)) (by rfl) g_is_name k_is_name b_is_name .nil pass0 (pa_cons (pv 6) pa_nil)) pe_bl (nomark _)) (pw_or1 (pt_cmpR op_ne (pe_call G_name_of (hr.mono (by decide)) (by rfl) g_name_of k_name_of b_name_of .nil passL (pa_cons (pv 6) pa_nil)) (pv 4) (nomark _)))))) (pss_one (ps_ret pe_bl)) pss_nil))) pss_nil)))))))))
      (pss_one (ps_ret pe_bl))), ?_⟩
    obtain ⟨a, ns, rfl, hS, hlen, q⟩ := h
    refine ⟨_, rfl, sz (by simp), fun p1 hp1 => ⟨a, p1, ns.map V.int, [.int 0], rfl, rfl, (same_upd hp1).seq hS, SqL.of upd_same, ?_, fun p2 hp2 => ?_⟩⟩
    · rw [List.length_map]
      exact sz (by simp; omega)
    have e0 : ns.map V.int ++ [V.int 0] = (ns ++ [0]).map V.int := by simp
    rw [e0]
    refine ⟨12, rfl, p2, _, rfl, SqL.of upd_same, fun p3 hp3 => ⟨p3, rfl, ⟨_, SqL.of upd_same⟩, ?_⟩⟩
    generalize hHb : upd (upd (upd H p1 (.lst [.int 0])) p2 (.lst ((ns ++ [0]).map V.int))) p3 (.lst (cutV ((ns ++ [0]).map V.int) none (some 12))) = Hb
    have hp3' : Hb p3 = some (.lst (cutV ((ns ++ [0]).map V.int) none (some 12))) := by
      rw [← hHb]
      exact upd_same
    refine for_it (walk_list (xs := cutV ((ns ++ [0]).map V.int) none (some 12))) (fun i σ H' => Same Hb H' ∧ ∃ y1 y2 y3 y4 y5 y6, σ = [some (.ref a), y1, y2, y3, y4, y5, y6]) ⟨Same.refl _, none, none, none, none, none, none, rfl⟩ (fun i σ H' _ h => SqL.of (h.1 _ _ hp3')) ?_ ?_
    · rintro i x σ Ha Hc hi ⟨sa, y1, y2, y3, y4, y5, y6, rfl⟩ ⟨rfl, hx⟩
      obtain ⟨n, rfl⟩ := cut_ints (List.mem_of_getElem? hx)
      refine ⟨_, rfl, n, rfl, fun ps H1 hps d1 s1 => ⟨_, rfl, ps, rfl, d1, fun l H2 hl ho d2 k2 => ⟨_, rfl, l, rfl, asc_of ho, by omega, fun H3 s3 => ⟨_, rfl, .inl ⟨l, rfl, by omega, fun H4 s4 => ?_⟩⟩⟩⟩⟩
      have sm2 : Same Hb H2 := same_keep (sa.trans s1) k2 (sa.free hps)
      have sm4 : Same Hb H4 := (sm2.trans s3).trans s4
      have d4 : Dr H4 ps := (d2.same s3).same s4
      refine ⟨_, rfl, _, _, .type "bool", .type "bool", true, rfl, .ty _, .base (.bl _), kit_ty (by decide +kernel), _, rfl, ?_⟩
      simp only [tSeq, tAsg, tIfS, tRet, tRetN, tDrop, tVar, tC, tCons, tNil, tOp, tUn, tTest, tB, tAnd, tOr, tNot, tAndV, tOrV, tNotV, tIf, tNext, tBreak, tCont, gName, gSub, gCons, gNil, rI0, rI, rU, rEq, rNe, rIn, rIxL, rIxS, rSetL, rIsB, rNotB, rCatS, tLst, tTup, tCall, tCallS, tCB, tM0, tM1, rNewStrs, tYes, rSlL, tSl, tNoPart, tPart, WE, List.getElem?_cons_zero, List.getElem?_cons_succ, List.set_cons_zero, List.set_cons_succ, Option.some.injEq, V.int.injEq, V.str.injEq, V.bl.injEq, V.ref.injEq, List.cons.injEq, and_true, true_and, exists_and_left, exists_eq_left', exists_eq_left, exists_eq', exists_eq, exists_eq_right', exists_eq_right, exists_const, List.append_nil, reduceCtorEq, Bool.false_eq_true, if_true, if_false, ↓reduceIte]
      have e1 : (nameOf l).isSome = !decide (oV (nameOf l) = V.non) := by
        cases nameOf l <;> simp [oV]
      rw [if_neg (by decide)]
      refine ⟨rfl, ?_⟩
      rw [decide_eq_true e1, if_neg (by decide)]
      refine ⟨l, rfl, by omega, fun p H5 hp s5 e5 => ⟨sz (by simp), fun q1 hq1 => ⟨sz (by simp), fun q2 hq2 => ⟨sz (by simp), fun q3 hq3 => .inr ⟨_, SqL.of upd_same, ?_⟩⟩⟩⟩⟩
      generalize hH6 : upd (upd (upd H5 q1 (.tup [.str (Str.ofString "told"), oV (nameOf l)])) q2 (.tup [.str (Str.ofString "refused"), .non])) q3 (.lst [.ref q1, .ref q2]) = H6
      have s6 : Same H5 H6 := by
        rw [← hH6]
        exact ((same_upd hq1).trans (same_upd hq2)).trans (same_upd hq3)
      have sm6 : Same Hb H6 := (sm4.trans s5).trans s6
      have d6 : Dr H6 ps := (d4.same s5).same s6
      have n12 : q1 ≠ q2 := fun z => by
        rw [← z, upd_same] at hq2
        cases hq2
      have n13 : q1 ≠ q3 := fun z => by
        rw [← z, upd_ne n12, upd_same] at hq3
        cases hq3
      have n23 : q2 ≠ q3 := fun z => by
        rw [← z, upd_same] at hq3
        cases hq3
      have t1 : H6 q1 = some (.tup [.str (Str.ofString "told"), oV (nameOf l)]) := by rw [← hH6, upd_ne n13, upd_ne n12, upd_same]
      have t2 : H6 q2 = some (.tup [.str (Str.ofString "refused"), .non]) := by rw [← hH6, upd_ne n23, upd_same]
      have t0 := s6 _ _ e5
      cases hn : nameOf l with
      | none =>
        rw [hn] at t0 t1
        have hO : OkO none := fun d z => by cases z
        refine ⟨.ref q2, rfl, toldD none, toldD none, told_dp none t0, told_dp none t2, told_shaped hO, told_shaped hO, _, rfl, ?_⟩
        rw [told_refl hO, if_neg (by decide), if_neg (by decide)]
        exact sm6
      | some d =>
        rw [hn] at t0 t1
        have hsf := name_self hn
        have hdl := name_len hn
        have hO : OkO (some d) := fun d' z => by
          cases z
          exact asc_of (name_ok hn)
        refine ⟨.ref q1, rfl, toldD (some d), toldD (some d), told_dp (some d) t0, told_dp (some d) t1, told_shaped hO, told_shaped hO, _, rfl, ?_⟩
        rw [told_refl hO, if_neg (by decide), if_pos (by simp [oV])]
        refine ⟨ps, d, rfl, d6, hsf, fun l2 H7 hl2 hlen2 d7 k7 => ?_⟩
        have sm7 : Same Hb H7 := fun b o h => k7 b o (sm6 b o h) (ne_of_none h (sa.free hps))
        refine .inl ⟨d, rfl, by omega, fun d' hd' H8 s8 => ?_, fun z => by rw [hsf] at z; cases z⟩
        have ed : d' = d := by
          rw [hsf] at hd'
          exact (Option.some.inj hd').symm
        subst ed
        refine ⟨rfl, ?_⟩
        rw [decide_eq_true (show V.str (S d') = oV (some d') from rfl), if_neg (by decide)]
        refine .inl ⟨l2, rfl, by omega, fun H9 s9 => ⟨_, rfl, ?_⟩⟩
        rw [hl2, if_neg (by simp)]
        refine .inl ⟨l2, rfl, by omega, fun d2 hd2 H10 s10 => ?_, fun z => by rw [hl2] at z; cases z⟩
        have ed2 : d2 = d' := by
          rw [hl2] at hd2
          exact (Option.some.inj hd2).symm
        subst ed2
        refine ⟨rfl, ?_⟩
        rw [decide_eq_true (show V.str (S d2) = oV (some d2) from rfl), if_neg (by decide)]
        exact ((sm7.trans s8).trans s9).trans s10
    · rintro σ Ha ⟨sa, y1, y2, y3, y4, y5, y6, rfl⟩
      exact q _
end
end Ld

namespace Ld
open PySem PySem.Spec PyProof.Rows L2 TL Nm
theorem fun_at {K : PySem.W.Frag} {h : Heap} {mg : Str → Option Value} {x : Str} {st : Stmt} {ps : List Str} {f : Addr} {oc : Value} {od an : Option Addr} {osl : Array (Option Value)} {kV doc pm cdv ct : Value} (X : K.In h) (G : h.Ns mainGlobals mg)
    (a : PySem.W.nsIn K mainGlobals x = some (some (.ref f))) (l : K.lookup f = some ⟨oc, od, .func (PySem.W.fnOf x x (defArgs st) (defBody st) (defScope st) .none kV doc pm an cdv ct), osl⟩) (c : PySem.W.codeIn K cdv x = true) (k : PySem.W.keepIn K (.ref f) = true)
    (hb : ∀ (kV doc pm : Value) (an : Option Addr) (cdv ct : Value) (us : List Value), us.length = ps.length → bindArgs (PySem.W.fnOf x x (defArgs st) (defBody st) (defScope st) .none kV doc pm an cdv ct) ⟨us, []⟩ = pure (ps.zip us)) : FunAt K mg x st ps :=
  ⟨f, _, fun_mk l c k, PySem.W.mg_of X G a, (fun_mk l c k).binds hb⟩
theorem err_at {K : PySem.W.Frag} {h : Heap} {mg : Str → Option Value} {x : Str} {C : Addr} (X : K.In h) (G : h.Ns mainGlobals mg) (a : PySem.W.nsIn K mainGlobals x = some (some (.ref C))) (q : PySem.W.excIn K C [.type "ValueError", .type "Exception", .type "BaseException", .type "object"] "ValueError.__new__" = true)
    (k : PySem.W.keepIn K (.ref C) = true) (b : PySem.W.subIn K (.ref C) (.type "BaseException") = some true) (i : PySem.W.isClsIn K C = true) (t : PySem.W.typeIn K (.ref C) = some (.type "type")) (s : PySem.W.subIn K (.ref C) (.ref C) = some true) : ErrAt K mg x C :=
  ⟨PySem.W.mg_of X G a, q, k, b, t, exm_self b i t s⟩
theorem all_mk {l : PySem.W.OpenLaw} {w : World} {K : PySem.W.Frag} {h : Heap} {mg : Str → Option Value} {fa fL C : Addr} {tS t4 t24 : Tok} (X : K.In h) (G : h.Ns mainGlobals mg) (hfa : mg "law" = some (.ref fa))
    {od an : Option Addr} {sl : Array (Option Value)} {oc kV dc pm cd ct : Value}
    (aL : PySem.W.nsIn K mainGlobals "law" = some (some (.ref fL))) (lL : K.lookup fL = some ⟨oc, od, .func (PySem.W.fnOf "law" "law" (defArgs s_law) (defBody s_law) (defScope s_law) .none kV dc pm an cd ct), sl⟩) (cL : PySem.W.codeIn K cd "law" = true) (kL : PySem.W.keepIn K (.ref fL) = true)
    (x_NoName : ErrAt K mg "NoName" C)
    (gS : PySem.W.nsIn K mainGlobals "SIGNS" = some (some (.str (Str.ofString "abcdefghijklmnopqrstuvwxyzABCDEFGHIJKLMNOPQRSTUVWXYZ0123456789 _-/") tS))) (g4 : PySem.W.nsIn K mainGlobals "MOST_SEGMENTS" = some (some (.int 4 t4))) (g24 : PySem.W.nsIn K mainGlobals "MOST_SIGNS" = some (some (.int 24 t24)))
    (F1 : FunAt K mg "is_name" s_is_name ["thing"]) (F2 : FunAt K mg "name_of" s_name_of ["thing"]) (F3 : FunAt K mg "has_only_signs" s_has_only_signs ["text"]) (F4 : FunAt K mg "come_to" s_come_to ["writing"])
    (F5 : FunAt K mg "segment_come_to" s_segment_come_to ["writing"]) (F6 : FunAt K mg "is_within_bounds" s_is_within_bounds ["name"]) (F7 : FunAt K mg "_law_state" s_law_state ["_law_cell"]) (F8 : FunAt K mg "_law_digit" s_law_digit ["_law_s", "_law_base"])
    (F9 : FunAt K mg "_law_segment" s_law_segment ["_law_text"]) (F10 : FunAt K mg "_law_name" s_law_name ["_law_text"]) (F11 : FunAt K mg "_law_letters" s_law_letters ["_law_s", "_law_many"]) (F12 : FunAt K mg "_law_gap" s_law_gap ["_law_s"])
    (F13 : FunAt K mg "_law_one_segment" s_law_one_segment ["_law_s", "_law_most"]) (F14 : FunAt K mg "_law_drawn" s_law_drawn ["_law_s"]) (F15 : FunAt K mg "_law_otherwise" s_law_otherwise ["_law_name_here", "_law_s"]) (F16 : FunAt K mg "_law_told" s_law_told ["_law_text"])
    (z1 : PySem.W.nsIn K mainGlobals "isinstance" = some none) (z2 : PySem.W.nsIn K mainGlobals "str" = some none) (z3 : PySem.W.nsIn K mainGlobals "len" = some none) (z4 : PySem.W.nsIn K mainGlobals "abs" = some none) (z5 : PySem.W.nsIn K mainGlobals "range" = some none) (z6 : PySem.W.nsIn K mainGlobals "int" = some none) (z7 : PySem.W.nsIn K mainGlobals "bool" = some none) :
    ∃ fd : FuncData, (∀ (s : Shared) (v : Value), BindsTo s fd ⟨[v], []⟩ [("_law_script", v)]) ∧ ∀ base : Heap, K.In base → base.Ns mainGlobals mg → FnOk l.prog w K mg base CX0 5 fa fd ["_law_script"] (spLaw K) := by
  have e := hfa.symm.trans (PySem.W.mg_of X G aL)
  cases e
  have z := fun {x : Str} (q : PySem.W.nsIn K mainGlobals x = some none) => PySem.W.mg_none_of X G q
  refine ⟨PySem.W.fnOf "law" "law" (defArgs s_law) (defBody s_law) (defScope s_law) .none kV dc pm an cd ct, fun s v => .of_eq rfl, fun base _ _ => ?_⟩
  have cN : Cal l.prog w K mg base (L2.CX l.prog w) "name_of" ["thing"] 3 (spName K C) := ok_name F2 x_NoName (z z1) (z z2) (ok_only F3 ⟨_, PySem.W.mg_of X G gS⟩) (ok_come F4 (ok_seg F5)) (ok_bnd F6 ⟨_, PySem.W.mg_of X G g4⟩ ⟨_, PySem.W.mg_of X G g24⟩ (z z3))
  have cD : CDig l.prog w K mg base := ok_digit F8
  have cL : Cal l.prog w K mg base CX0 "_law_letters" ["_law_s", "_law_many"] 2 spLet := ok_let F11 (z z5) cD
  have cG : Cal l.prog w K mg base CX0 "_law_gap" ["_law_s"] 2 spGap := ok_gap F12 (z z5) cD
  exact ok_law (fun_mk (st := s_law) lL ‹PySem.W.codeIn K cd "law" = true› kL) (z z6) (z z7) (z z1) (ok_state F7 (z z4)) (ok_drawn F14 (z z5) cD cL (ok_one F13 (z z5) cD cL cG)) (ok_lname F10 (z z3) (ok_lseg F9 (z z6))) (ok_is F1 x_NoName cN) (ok_told F16 x_NoName cN) (ok_other F15 cD cG) cN
end Ld
open PySem PySem.W PyProof.Rows
set_option maxRecDepth 100000 in
set_option maxHeartbeats 0 in
theorem PySem.Challenge.cw_signsleft_k01_names_as_written_holds : PySem.Challenge.rw_signsleft_k01_names_as_written.Holds := by
  w_on; o_law; k_head; (case hw => w_witness2)
  k_fill
  refine L2.walk_of (l := PySem.Challenge.rw_signsleft_k01_names_as_written) (n := 63) (k := 5) (x := "_law_script") (CX := fun _ => L2.CX0) (sp := fun w => Ld.spLaw _) rfl (by decide) rfl ⟨rfl, by decide, by decide⟩ (fun w h Y => PySem.W.kIn_of Y) ?F (fun _ _ a ns hl _ hS => ⟨a, ns, rfl, hS, hl, fun _ => rfl⟩) (fun _ _ _ _ _ h => h)
  case F =>
    intro w mg fa h KX G hmg
    refine' Ld.all_mk KX G hmg ?aL ?lL ?cL ?kL (Ld.err_at KX G ?xa ?xq ?xk ?xb ?xi ?xt ?xs) ?gS ?g4 ?g24 (Ld.fun_at KX G ?a1 ?l1 ?c1 ?k1 fun _ _ _ _ _ _ us hl => match us, hl with | [_], _ => rfl) (Ld.fun_at KX G ?a2 ?l2 ?c2 ?k2 fun _ _ _ _ _ _ us hl => match us, hl with | [_], _ => rfl) (Ld.fun_at KX G ?a3 ?l3 ?c3 ?k3 fun _ _ _ _ _ _ us hl => match us, hl with | [_], _ => rfl) (Ld.fun_at KX G ?a4 ?l4 ?c4 ?k4 fun _ _ _ _ _ _ us hl => match us, hl with | [_], _ => rfl) (Ld.fun_at KX G ?a5 ?l5 ?c5 ?k5 fun _ _ _ _ _ _ us hl => match us, hl with | [_], _ => rfl) (Ld.fun_at KX G ?a6 ?l6 ?c6 ?k6 fun _ _ _ _ _ _ us hl => match us, hl with | [_], _ => rfl) (Ld.fun_at KX G ?a7 ?l7 ?c7 ?k7 fun _ _ _ _ _ _ us hl => match us, hl with | [_], _ => rfl) (Ld.fun_at KX G ?a8 ?l8 ?c8 ?k8 fun _ _ _ _ _ _ us hl => match us, hl with | [_, _], _ => rfl) (Ld.fun_at KX G ?a9 ?l9 ?c9 ?k9 fun _ _ _ _ _ _ us hl => match us, hl with | [_], _ => rfl) (Ld.fun_at KX G ?a10 ?l10 ?c10 ?k10 fun _ _ _ _ _ _ us hl => match us, hl with | [_], _ => rfl) (Ld.fun_at KX G ?a11 ?l11 ?c11 ?k11 fun _ _ _ _ _ _ us hl => match us, hl with | [_, _], _ => rfl) (Ld.fun_at KX G ?a12 ?l12 ?c12 ?k12 fun _ _ _ _ _ _ us hl => match us, hl with | [_], _ => rfl) (Ld.fun_at KX G ?a13 ?l13 ?c13 ?k13 fun _ _ _ _ _ _ us hl => match us, hl with | [_, _], _ => rfl) (Ld.fun_at KX G ?a14 ?l14 ?c14 ?k14 fun _ _ _ _ _ _ us hl => match us, hl with | [_], _ => rfl) (Ld.fun_at KX G ?a15 ?l15 ?c15 ?k15 fun _ _ _ _ _ _ us hl => match us, hl with | [_, _], _ => rfl) (Ld.fun_at KX G ?a16 ?l16 ?c16 ?k16 fun _ _ _ _ _ _ us hl => match us, hl with | [_], _ => rfl) ?z1 ?z2 ?z3 ?z4 ?z5 ?z6 ?z7
    (case aL => k_is); (case lL => k_is); (case cL => k_is); (case kL => k_is)
    (case xa => k_is); (case xq => first | k_is | k_exc); (case xk => k_is); (case xb => k_is); (case xi => k_is); (case xt => k_is); (case xs => first | rfl | k_is)
    (case gS => k_is); (case g4 => k_is); (case g24 => k_is)
    (case a1 => k_is); (case l1 => k_is); (case c1 => k_is); (case k1 => k_is)
    (case a2 => k_is); (case l2 => k_is); (case c2 => k_is); (case k2 => k_is)
    (case a3 => k_is); (case l3 => k_is); (case c3 => k_is); (case k3 => k_is)
    (case a4 => k_is); (case l4 => k_is); (case c4 => k_is); (case k4 => k_is)
    (case a5 => k_is); (case l5 => k_is); (case c5 => k_is); (case k5 => k_is)
    (case a6 => k_is); (case l6 => k_is); (case c6 => k_is); (case k6 => k_is)
    (case a7 => k_is); (case l7 => k_is); (case c7 => k_is); (case k7 => k_is)
    (case a8 => k_is); (case l8 => k_is); (case c8 => k_is); (case k8 => k_is)
    (case a9 => k_is); (case l9 => k_is); (case c9 => k_is); (case k9 => k_is)
    (case a10 => k_is); (case l10 => k_is); (case c10 => k_is); (case k10 => k_is)
    (case a11 => k_is); (case l11 => k_is); (case c11 => k_is); (case k11 => k_is)
    (case a12 => k_is); (case l12 => k_is); (case c12 => k_is); (case k12 => k_is)
    (case a13 => k_is); (case l13 => k_is); (case c13 => k_is); (case k13 => k_is)
    (case a14 => k_is); (case l14 => k_is); (case c14 => k_is); (case k14 => k_is)
    (case a15 => k_is); (case l15 => k_is); (case c15 => k_is); (case k15 => k_is)
    (case a16 => k_is); (case l16 => k_is); (case c16 => k_is); (case k16 => k_is)
    (case z1 => k_is); (case z2 => k_is); (case z3 => k_is); (case z4 => k_is); (case z5 => k_is); (case z6 => k_is); (case z7 => k_is)

