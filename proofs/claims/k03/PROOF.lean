import PyProof.Rows.All
import Wide.All
import OpenK.AllK
import Wide.FinOn
import HandS.ForMost
import HandS.ReplaceList
import HandS.Walk
import HandS.ForExc
import HandS.ReplaceLit
import HandS.ReplaceDef
import HandS.IsInst
import HandS.Style
import HandS.Flow
import KE.KStrOpen
import HandS.StrMore
import HandS.Lambda
import HandS.EndTab
import HandS.HeadWalk
import HandS.ExcIs
import HandS.HeadEnd
import HandS.HeadHook1
import HandS.HeadHook2
import HandS.HeadHook3
import HandS.HeadHook4
import HandS.Head0
import HandS.Head1
import HandS.Head2
import HandS.Defaults
import PySem.Challenge.RW_signsleft_k03_families
set_option Elab.async false
set_option linter.all false
set_option maxRecDepth 100000
set_option maxHeartbeats 4000000
/-! Names as lists of codes: what a writing comes to, by a machine that goes sign by sign; plain Lean, nothing of the program. -/
namespace Nm
open PySem TL

def lowc (c : Nat) : Nat := if 65 ≤ c ∧ c ≤ 90 then c + 32 else c
def upc (c : Nat) : Nat := if 97 ≤ c ∧ c ≤ 122 then c - 32 else c
def isGap (c : Nat) : Bool := c == 32 || c == 95 || c == 45
def isAl (c : Nat) : Bool := (decide (97 ≤ c) && decide (c ≤ 122)) || (decide (48 ≤ c) && decide (c ≤ 57))
def okc (c : Nat) : Bool := isGap c || isAl (lowc c)
def okS (c : Nat) : Bool := okc c || c == 47

theorem gap_iff {c : Nat} : isGap c = true ↔ c = 32 ∨ c = 95 ∨ c = 45 := by
  unfold isGap
  simp only [Bool.or_eq_true, beq_iff_eq]
  omega
theorem gap_no {c : Nat} (h : isGap c = false) : c ≠ 32 ∧ c ≠ 95 ∧ c ≠ 45 := by
  refine ⟨fun e => ?_, fun e => ?_, fun e => ?_⟩ <;> (rw [gap_iff.mpr (by omega)] at h; cases h)
theorem low_cases (c : Nat) : (65 ≤ c ∧ c ≤ 90 ∧ lowc c = c + 32) ∨ (¬ (65 ≤ c ∧ c ≤ 90) ∧ lowc c = c) := by
  unfold lowc
  by_cases h : 65 ≤ c ∧ c ≤ 90
  · rw [if_pos h]
    exact .inl ⟨h.1, h.2, rfl⟩
  · rw [if_neg h]
    exact .inr ⟨h, rfl⟩
theorem up_cases (c : Nat) : (97 ≤ c ∧ c ≤ 122 ∧ upc c = c - 32) ∨ (¬ (97 ≤ c ∧ c ≤ 122) ∧ upc c = c) := by
  unfold upc
  by_cases h : 97 ≤ c ∧ c ≤ 122
  · rw [if_pos h]
    exact .inl ⟨h.1, h.2, rfl⟩
  · rw [if_neg h]
    exact .inr ⟨h, rfl⟩
theorem low_low (c : Nat) : lowc (lowc c) = lowc c := by
  rcases low_cases c with ⟨h1, h2, h3⟩ | ⟨h1, h3⟩
  · rcases low_cases (lowc c) with ⟨g1, g2, g3⟩ | ⟨g1, g3⟩
    · omega
    · exact g3
  · rw [h3, h3]
theorem low_up (c : Nat) : lowc (upc c) = lowc c := by
  rcases up_cases c with ⟨h1, h2, h3⟩ | ⟨h1, h3⟩
  · rw [h3]
    rcases low_cases (c - 32) with ⟨g1, g2, g3⟩ | ⟨g1, g3⟩
    · rcases low_cases c with ⟨k1, k2, k3⟩ | ⟨k1, k3⟩ <;> omega
    · omega
  · rw [h3]
theorem gap_low {c : Nat} (h : isGap c = false) : isGap (lowc c) = false := by
  have q := gap_no h
  cases e : isGap (lowc c) with
  | false => rfl
  | true =>
    have e' := gap_iff.mp e
    rcases low_cases c with ⟨k1, k2, k3⟩ | ⟨k1, k3⟩ <;> omega
theorem gap_up {c : Nat} (h : isGap c = false) : isGap (upc c) = false := by
  have q := gap_no h
  cases e : isGap (upc c) with
  | false => rfl
  | true =>
    have e' := gap_iff.mp e
    rcases up_cases c with ⟨k1, k2, k3⟩ | ⟨k1, k3⟩ <;> omega
theorem low47 {c : Nat} : lowc c = 47 ↔ c = 47 := by
  rcases low_cases c with ⟨k1, k2, k3⟩ | ⟨k1, k3⟩ <;> omega
theorem up47 {c : Nat} : upc c = 47 ↔ c = 47 := by
  rcases up_cases c with ⟨k1, k2, k3⟩ | ⟨k1, k3⟩ <;> omega
theorem low95 {c : Nat} (h : isGap c = false) : lowc c ≠ 95 := by
  have q := gap_no h
  rcases low_cases c with ⟨k1, k2, k3⟩ | ⟨k1, k3⟩ <;> omega

/-! ### a segment -/
abbrev SSt := List Nat × Bool
def segStep (st : SSt) (c : Nat) : SSt := if isGap c = true then (st.1, !st.1.isEmpty) else (st.1 ++ (if st.2 = true then [95] else []) ++ [lowc c], false)
def segR (l : List Nat) : SSt := l.foldl segStep ([], false)
def seg (l : List Nat) : List Nat := (segR l).1
theorem step_gap {st : SSt} {c : Nat} (h : isGap c = true) : segStep st c = (st.1, !st.1.isEmpty) := by unfold segStep; rw [if_pos h]
theorem step_no {st : SSt} {c : Nat} (h : isGap c = false) : segStep st c = (st.1 ++ (if st.2 = true then [95] else []) ++ [lowc c], false) := by
  unfold segStep
  rw [if_neg (by rw [h]; exact Bool.false_ne_true)]

/-! ### joined lists -/
theorem joinL_one (S x : List Nat) : joinL S [x] = x := rfl
theorem joinL_cons {S x : List Nat} {r : List (List Nat)} (h : r ≠ []) : joinL S (x :: r) = x ++ (S ++ joinL S r) := by
  cases r with
  | nil => exact absurd rfl h
  | cons y r => simp [joinL]
theorem joinL_snoc (S x : List Nat) : ∀ ws : List (List Nat), joinL S (ws ++ [x]) = (if ws = [] then x else joinL S ws ++ S ++ x)
  | [] => by simp [joinL_one]
  | [w] => by
    rw [if_neg (by simp), joinL_one]
    show joinL S (w :: [x]) = _
    rw [joinL_cons (by simp), joinL_one, List.append_assoc]
  | w :: v :: r => by
    rw [if_neg (by simp)]
    show joinL S (w :: ((v :: r) ++ [x])) = _
    rw [joinL_cons (by simp), joinL_snoc S x (v :: r), if_neg (by simp), joinL_cons (r := v :: r) (by simp)]
    simp [List.append_assoc]
theorem joinL_empty {ws : List (List Nat)} (h : ∀ w ∈ ws, w ≠ []) : (joinL [95] ws).isEmpty = ws.isEmpty := by
  cases ws with
  | nil => rfl
  | cons w r =>
    have hw := h w (by simp)
    cases r with
    | nil =>
      rw [joinL_one]
      cases w with
      | nil => exact absurd rfl hw
      | cons a b => rfl
    | cons v r =>
      rw [joinL_cons (by simp)]
      cases w with
      | nil => exact absurd rfl hw
      | cons a b => rfl

/-! ### a segment by its words, as a program may do it -/
def bar (c : Nat) : Nat := if isGap c = true then 95 else lowc c
def keepW (w : List Nat) : Bool := !w.isEmpty
def segP (l : List Nat) : List Nat := joinL [95] ((spl [95] 0 [] (l.map bar)).filter keepW)
theorem pre1_hit (c : Nat) (r : List Nat) : pre [c] (c :: r) = true := by simp [pre]
theorem pre1_miss {s c : Nat} (r : List Nat) (h : c ≠ s) : pre [s] (c :: r) = false := pre_of_head [] r h
theorem segP_run : ∀ (l : List Nat) (ws : List (List Nat)) (acc : List Nat), (∀ w ∈ ws, w ≠ []) →
    joinL [95] (ws ++ (spl [95] 0 acc (l.map bar)).filter keepW) = (l.foldl segStep (joinL [95] (ws ++ if acc = [] then [] else [acc]), decide (acc = []) && !ws.isEmpty)).1
  | [], ws, acc, h => by
    rw [List.map_nil, spl_nil, List.foldl_nil]
    cases acc with
    | nil => simp [keepW]
    | cons a b => simp [keepW]
  | c :: l, ws, acc, h => by
    rw [List.map_cons, List.foldl_cons]
    cases g : isGap c with
    | true =>
      have eb : bar c = 95 := by unfold bar; rw [if_pos g]
      rw [eb, spl_hit (pre1_hit 95 _), step_gap g]
      show joinL [95] (ws ++ List.filter keepW (acc :: spl [95] 0 [] (l.map bar))) = _
      cases acc with
      | nil =>
        have ih := segP_run l ws [] h
        rw [if_pos rfl, List.append_nil] at ih
        rw [if_pos rfl, List.append_nil, List.filter_cons_of_neg (by simp [keepW]), ih, joinL_empty h]
        simp
      | cons a b =>
        have h' : ∀ w ∈ ws ++ [a :: b], w ≠ [] := fun w hw => by
          rcases List.mem_append.mp hw with q | q
          · exact h w q
          · rw [List.mem_singleton.mp q]; simp
        have ih := segP_run l (ws ++ [a :: b]) [] h'
        rw [if_pos rfl, List.append_nil] at ih
        rw [if_neg (by simp), List.filter_cons_of_pos (by simp [keepW]), List.append_cons, ih]
        show _ = (List.foldl segStep (joinL [95] (ws ++ [a :: b]), !(joinL [95] (ws ++ [a :: b])).isEmpty) l).1
        rw [joinL_empty h']
        simp
    | false =>
      have eb : bar c = lowc c := by unfold bar; rw [if_neg (by rw [g]; exact Bool.false_ne_true)]
      rw [eb, spl_miss (pre1_miss _ (low95 g)), step_no g]
      have ih := segP_run l ws (acc ++ [lowc c]) h
      rw [if_neg (by simp), decide_eq_false (by simp), Bool.false_and] at ih
      rw [ih]
      congr 2
      cases acc with
      | nil =>
        rw [if_pos rfl, List.append_nil, joinL_snoc]
        cases ws with
        | nil => rfl
        | cons w r => simp [List.append_assoc]
      | cons a b =>
        rw [if_neg (by simp), joinL_snoc, joinL_snoc]
        cases ws with
        | nil => simp
        | cons w r => simp [List.append_assoc]
theorem segP_eq (l : List Nat) : segP l = seg l := by
  have h := segP_run l [] [] (fun w hw => by simp at hw)
  simpa [segP, seg, segR, joinL] using h

/-! ### what a segment comes to, once more -/
structure SInv (st : SSt) : Prop where
  back : segR st.1 = (st.1, false)
  open_ : st.2 = true → st.1 ≠ []
  n47 : 47 ∉ st.1
theorem sinv0 : SInv ([], false) := ⟨rfl, fun h => (by cases h), by simp⟩
theorem SInv.step {st : SSt} {c : Nat} (I : SInv st) (hc : c ≠ 47) : SInv (segStep st c) := by
  cases g : isGap c with
  | true =>
    rw [step_gap g]
    refine ⟨I.back, fun h => ?_, I.n47⟩
    intro e
    have h' : (!st.1.isEmpty) = true := h
    have e' : st.1 = [] := e
    rw [e'] at h'
    cases h'
  | false =>
    rw [step_no g]
    have hl : isGap (lowc c) = false := gap_low g
    refine ⟨?_, fun h => (by cases h), ?_⟩
    · show segR (st.1 ++ (if st.2 = true then [95] else []) ++ [lowc c]) = _
      unfold segR
      rw [List.foldl_append, List.foldl_append]
      have b : List.foldl segStep ([], false) st.1 = (st.1, false) := I.back
      rw [b]
      cases o : st.2 with
      | true =>
        have hne := I.open_ o
        rw [if_pos rfl, List.foldl_cons, List.foldl_nil, List.foldl_cons, List.foldl_nil, step_gap (c := 95) (by decide)]
        have hz : (!st.1.isEmpty) = true := by
          cases e : st.1 with
          | nil => exact absurd e hne
          | cons a b => rfl
        show segStep (st.1, !st.1.isEmpty) (lowc c) = _
        rw [hz, step_no hl, low_low] <;> rfl
      | false =>
        rw [if_neg Bool.false_ne_true, List.foldl_nil, List.foldl_cons, List.foldl_nil, step_no hl, low_low] <;> rfl
    · intro hm
      rcases List.mem_append.mp hm with q | q
      · rcases List.mem_append.mp q with q | q
        · exact I.n47 q
        · cases o : st.2 with
          | true =>
            rw [o, if_pos rfl] at q
            simp at q
          | false =>
            rw [o, if_neg Bool.false_ne_true] at q
            simp at q
      · have e := List.mem_singleton.mp q
        exact hc (low47.mp e.symm)
theorem SInv.run : ∀ (l : List Nat) {st : SSt}, SInv st → 47 ∉ l → SInv (l.foldl segStep st)
  | [], _, I, _ => I
  | c :: l, st, I, h => by
    rw [List.foldl_cons]
    exact SInv.run l (I.step fun e => h (by rw [e]; simp)) fun q => h (List.mem_cons_of_mem _ q)
theorem seg_inv {p : List Nat} (h : 47 ∉ p) : SInv (segR p) := SInv.run p sinv0 h
theorem seg_seg {p : List Nat} (h : 47 ∉ p) : seg (seg p) = seg p := by
  have q := (seg_inv h).back
  show (segR (seg p)).1 = _
  rw [show segR (seg p) = (seg p, false) from q]
theorem seg47 {p : List Nat} (h : 47 ∉ p) : 47 ∉ seg p := (seg_inv h).n47
theorem okc_low {c : Nat} (h : okc c = true) (g : isGap c = false) : okc (lowc c) = true := by
  unfold okc at h ⊢
  rw [g, Bool.false_or] at h
  rw [low_low, h, Bool.or_true]
theorem seg_ok : ∀ (l : List Nat) (st : SSt), l.all okc = true → st.1.all okc = true → (l.foldl segStep st).1.all okc = true
  | [], _, _, h => h
  | c :: l, st, hl, h => by
    rw [List.all_cons, Bool.and_eq_true] at hl
    rw [List.foldl_cons]
    refine seg_ok l _ hl.2 ?_
    cases g : isGap c with
    | true => rw [step_gap g]; exact h
    | false =>
      rw [step_no g]
      show (st.1 ++ (if st.2 = true then [95] else []) ++ [lowc c]).all okc = true
      rw [List.all_append, List.all_append, h, List.all_cons, okc_low hl.1 g]
      cases st.2 <;> simp <;> decide
theorem seg_len : ∀ (l : List Nat) (st : SSt), (l.foldl segStep st).1.length + (if (l.foldl segStep st).2 = true then 1 else 0) ≤ st.1.length + (if st.2 = true then 1 else 0) + l.length
  | [], st => by
    rw [List.foldl_nil, List.length_nil]
    exact Nat.le_refl _
  | c :: l, st => by
    rw [List.foldl_cons]
    have ih := seg_len l (segStep st c)
    refine Nat.le_trans ih ?_
    cases g : isGap c with
    | true =>
      rw [step_gap g]
      simp only [List.length_cons]
      split <;> split <;> omega
    | false =>
      rw [step_no g]
      simp only [List.length_append, List.length_cons, List.length_nil]
      cases st.2 <;> simp <;> omega

theorem all_congr {f g : Nat → Bool} : ∀ {l : List Nat}, (∀ c ∈ l, f c = g c) → l.all f = l.all g
  | [], _ => rfl
  | c :: l, h => by
    rw [List.all_cons, List.all_cons, h c (by simp), all_congr fun d hd => h d (List.mem_cons_of_mem _ hd)]
/-! ### whole names -/
def cuts (l : List Nat) : List (List Nat) := spl [47] 0 [] l
def nm (l : List Nat) : List Nat := joinL [47] ((cuts l).map seg)
def bnd (o : List Nat) : Bool := decide ((cuts o).length ≤ 4) && ((cuts o).all (fun p => !p.isEmpty) && decide (o.length ≤ 24))
def nameB (l : List Nat) : Bool := l.all okS && bnd (nm l)
def nameOf (l : List Nat) : Option (List Nat) := if nameB l = true then some (nm l) else none

/-- the first stroke, if there is one -/
theorem slash_split : ∀ l : List Nat, 47 ∉ l ∨ ∃ p r, 47 ∉ p ∧ l = p ++ 47 :: r
  | [] => .inl (by simp)
  | c :: l => by
    by_cases hc : c = 47
    · exact .inr ⟨[], l, by simp, by rw [hc]; rfl⟩
    · rcases slash_split l with h | ⟨p, r, hp, rfl⟩
      · exact .inl (by simp [h, Ne.symm hc])
      · exact .inr ⟨c :: p, r, by simp [hp, Ne.symm hc], rfl⟩
theorem cuts_last {p : List Nat} (h : 47 ∉ p) : cuts p = [p] := by
  have q := spl_last1 (S := []) (acc := []) h
  simpa [cuts] using q
theorem cuts_part {p r : List Nat} (h : 47 ∉ p) : cuts (p ++ 47 :: r) = p :: cuts r := by
  have q := spl_part1 (S := []) (acc := []) (rest := r) h
  simpa [cuts] using q
theorem cuts_ne (l : List Nat) : cuts l ≠ [] := by
  rcases slash_split l with h | ⟨p, r, hp, rfl⟩
  · rw [cuts_last h]; simp
  · rw [cuts_part hp]; simp
theorem cuts_ind {P : List Nat → Prop} (h1 : ∀ p, 47 ∉ p → P p) (h2 : ∀ p r, 47 ∉ p → P r → P (p ++ 47 :: r)) : ∀ (n : Nat) (l : List Nat), l.length ≤ n → P l
  | 0, l, h => h1 l (by rw [List.length_eq_zero_iff.mp (Nat.le_zero.mp h)]; simp)
  | n + 1, l, h => by
    rcases slash_split l with q | ⟨p, r, hp, rfl⟩
    · exact h1 l q
    · exact h2 p r hp (cuts_ind h1 h2 n r (by rw [List.length_append, List.length_cons] at h; omega))
theorem cuts_no (l : List Nat) : ∀ p ∈ cuts l, 47 ∉ p := by
  refine cuts_ind (P := fun l => ∀ p ∈ cuts l, 47 ∉ p) (fun p h => ?_) (fun p r h ih => ?_) l.length l (Nat.le_refl _)
  · rw [cuts_last h]
    intro q hq
    rw [List.mem_singleton.mp hq]
    exact h
  · rw [cuts_part h]
    intro q hq
    rcases List.mem_cons.mp hq with e | e
    · rw [e]; exact h
    · exact ih q e
theorem cuts_nm (l : List Nat) : cuts (nm l) = (cuts l).map seg := by
  refine spl_join (S := []) (by simp [cuts_ne l]) fun p hp => ?_
  obtain ⟨q, hq, rfl⟩ := List.mem_map.mp hp
  exact seg47 (cuts_no l q hq)
theorem nm_nm (l : List Nat) : nm (nm l) = nm l := by
  show joinL [47] ((cuts (nm l)).map seg) = joinL [47] ((cuts l).map seg)
  rw [cuts_nm, List.map_map]
  congr 1
  refine List.map_congr_left fun p hp => ?_
  exact seg_seg (cuts_no l p hp)
theorem all_cuts (f : Nat → Bool) (l : List Nat) : l.all (fun c => f c || c == 47) = (cuts l).all (fun p => p.all f) ∨ f 47 = true := by
  by_cases h47 : f 47 = true
  · exact .inr h47
  · refine .inl ?_
    refine cuts_ind (P := fun l => l.all (fun c => f c || c == 47) = (cuts l).all (fun p => p.all f)) (fun p h => ?_) (fun p r h ih => ?_) l.length l (Nat.le_refl _)
    · rw [cuts_last h, List.all_cons, List.all_nil, Bool.and_true]
      refine all_congr ?_
      intro c hc
      have : (c == 47) = false := by
        simp only [beq_eq_false_iff_ne, ne_eq]
        intro e
        exact h (e ▸ hc)
      rw [this, Bool.or_false]
    · rw [cuts_part h, List.all_cons, List.all_append, List.all_cons, ih]
      have e1 : p.all (fun c => f c || c == 47) = p.all f := by
        refine all_congr ?_
        intro c hc
        have : (c == 47) = false := by
          simp only [beq_eq_false_iff_ne, ne_eq]
          intro e
          exact h (e ▸ hc)
        rw [this, Bool.or_false]
      rw [e1]
      simp
theorem okS_cuts (l : List Nat) : l.all okS = (cuts l).all (fun p => p.all okc) := by
  rcases all_cuts okc l with h | h
  · exact h
  · exact absurd h (by decide)
theorem joinL_all (f : Nat → Bool) (h47 : f 47 = true) : ∀ ps : List (List Nat), (joinL [47] ps).all f = ps.all (fun p => p.all f)
  | [] => rfl
  | [p] => by simp [joinL_one]
  | p :: q :: r => by
    rw [joinL_cons (by simp), List.all_append, List.all_append, joinL_all f h47 (q :: r), List.all_cons (l := q :: r)]
    simp [h47]
theorem nm_ok {l : List Nat} (h : l.all okS = true) : (nm l).all okS = true := by
  unfold nm
  rw [joinL_all okS (by decide), List.all_map, List.all_eq_true]
  intro p hp
  rw [okS_cuts, List.all_eq_true] at h
  have q := seg_ok p ([], false) (h p hp) rfl
  show (seg p).all okS = true
  rw [List.all_eq_true]
  intro c hc
  have q' := List.all_eq_true.mp q c hc
  unfold okS
  rw [q', Bool.true_or]
/-- what a writing comes to is written as itself -/
theorem name_self {l d : List Nat} (h : nameOf l = some d) : nameOf d = some d := by
  unfold nameOf at h
  by_cases hb : nameB l = true
  · rw [if_pos hb] at h
    have e : nm l = d := Option.some.inj h
    subst e
    unfold nameB at hb
    rw [Bool.and_eq_true] at hb
    unfold nameOf nameB
    rw [nm_nm, nm_ok hb.1, hb.2]
    rfl
  · rw [if_neg hb] at h
    cases h
theorem name_len {l d : List Nat} (h : nameOf l = some d) : d.length ≤ 24 := by
  unfold nameOf at h
  by_cases hb : nameB l = true
  · rw [if_pos hb] at h
    have e : nm l = d := Option.some.inj h
    subst e
    unfold nameB bnd at hb
    simp only [Bool.and_eq_true, decide_eq_true_eq] at hb
    exact hb.2.2.2
  · rw [if_neg hb] at h
    cases h
theorem name_ok {l d : List Nat} (h : nameOf l = some d) : d.all okS = true := by
  have q := name_self h
  unfold nameOf at q
  by_cases hb : nameB d = true
  · unfold nameB at hb
    rw [Bool.and_eq_true] at hb
    exact hb.1
  · rw [if_neg hb] at q
    cases q
theorem name_nm {l d : List Nat} (h : nameOf l = some d) : nm d = d := by
  have q := name_self h
  unfold nameOf at q
  by_cases hb : nameB d = true
  · rw [if_pos hb] at q
    exact Option.some.inj q
  · rw [if_neg hb] at q
    cases q
theorem name_bnd {l d : List Nat} (h : nameOf l = some d) : bnd d = true := by
  have q := name_self h
  have e := name_nm h
  unfold nameOf at q
  by_cases hb : nameB d = true
  · unfold nameB at hb
    rw [Bool.and_eq_true, e] at hb
    exact hb.2
  · rw [if_neg hb] at q
    cases q

/-! ### the machine over whole names -/
def headOk (o : List Nat) : Bool := !o.isEmpty && !(o.getLast? == some 47)
def nmStep (st : SSt) (c : Nat) : SSt := if c = 47 then (st.1 ++ [47], false) else if isGap c = true then (st.1, headOk st.1) else (st.1 ++ (if st.2 = true then [95] else []) ++ [lowc c], false)
def nmR (l : List Nat) : SSt := l.foldl nmStep ([], false)
/-- where a segment begins -/
def Beg (o : List Nat) : Prop := o = [] ∨ o.getLast? = some 47
theorem head_beg {o a : List Nat} (hb : Beg o) (ha : 47 ∉ a) : headOk (o ++ a) = !a.isEmpty := by
  cases a with
  | nil =>
    rw [List.append_nil]
    rcases hb with rfl | h
    · rfl
    · unfold headOk
      rw [h]
      simp
  | cons x r =>
    have e : (o ++ x :: r).getLast? = (x :: r).getLast? := by
      rw [List.getLast?_append]
      cases q : (x :: r).getLast? with
      | none => simp at q
      | some v => rfl
    have h47 : ¬ (x :: r).getLast? = some 47 := fun q => ha (List.mem_of_getLast? q)
    unfold headOk
    rw [e]
    have h2 : ((x :: r).getLast? == some 47) = false := by
      cases q : ((x :: r).getLast? == some 47) with
      | false => rfl
      | true => exact absurd (eq_of_beq q) h47
    rw [h2]
    simp
theorem nm_seg {o : List Nat} (hb : Beg o) : ∀ (p : List Nat) (st : SSt), SInv st → 47 ∉ p → p.foldl nmStep (o ++ st.1, st.2) = (o ++ (p.foldl segStep st).1, (p.foldl segStep st).2)
  | [], _, _, _ => rfl
  | c :: p, st, I, h => by
    have hc : c ≠ 47 := fun e => h (by rw [e]; simp)
    rw [List.foldl_cons, List.foldl_cons]
    have e : nmStep (o ++ st.1, st.2) c = (o ++ (segStep st c).1, (segStep st c).2) := by
      unfold nmStep
      rw [if_neg hc]
      cases g : isGap c with
      | true => rw [step_gap g, if_pos rfl, head_beg hb I.n47]
      | false =>
        rw [step_no g, if_neg Bool.false_ne_true]
        simp [List.append_assoc]
    rw [e]
    exact nm_seg hb p _ (I.step hc) fun q => h (List.mem_cons_of_mem _ q)
theorem nm_run : ∀ (n : Nat) (l o : List Nat), l.length ≤ n → Beg o → (l.foldl nmStep (o, false)).1 = o ++ nm l := by
  intro n
  refine fun l o h => cuts_ind (P := fun l => ∀ o, Beg o → (l.foldl nmStep (o, false)).1 = o ++ nm l) (fun p hp o hb => ?_) (fun p r hp ih o hb => ?_) n l h o
  · have q := nm_seg hb p ([], false) sinv0 hp
    rw [List.append_nil] at q
    rw [q]
    show o ++ seg p = o ++ nm p
    unfold nm
    rw [cuts_last hp]
    rfl
  · rw [List.foldl_append, List.foldl_cons]
    have q := nm_seg hb p ([], false) sinv0 hp
    rw [List.append_nil] at q
    rw [q]
    have e : nmStep (o ++ (p.foldl segStep ([], false)).1, (p.foldl segStep ([], false)).2) 47 = (o ++ seg p ++ [47], false) := by
      unfold nmStep
      rw [if_pos rfl]
      rfl
    rw [e, ih _ (.inr (by simp))]
    unfold nm
    rw [cuts_part hp, List.map_cons, joinL_cons (by simp [cuts_ne r])]
    simp [List.append_assoc]
theorem nmR_nm (l : List Nat) : (nmR l).1 = nm l := by
  have q := nm_run l.length l [] (Nat.le_refl _) (.inl rfl)
  simpa [nmR] using q
theorem nms_gap {st : SSt} {c : Nat} (h : isGap c = true) : nmStep st c = (st.1, headOk st.1) := by
  unfold nmStep
  have q : c ≠ 47 := by
    have := gap_iff.mp h
    omega
  rw [if_neg q, if_pos h]
/-- one gap or a run of them: the same -/
theorem nms_gaps : ∀ (g : List Nat) (st : SSt), g ≠ [] → g.all isGap = true → g.foldl nmStep st = (st.1, headOk st.1)
  | [], _, h, _ => absurd rfl h
  | [c], st, _, h => by
    rw [List.all_cons, Bool.and_eq_true] at h
    rw [List.foldl_cons, List.foldl_nil, nms_gap h.1]
  | c :: d :: r, st, _, h => by
    rw [List.all_cons, Bool.and_eq_true] at h
    rw [List.foldl_cons, nms_gap h.1, nms_gaps (d :: r) _ (by simp) h.2]
theorem nms_up {st : SSt} {c : Nat} (h : isGap c = false) : nmStep st (upc c) = nmStep st c := by
  unfold nmStep
  by_cases hc : c = 47
  · rw [if_pos hc, if_pos (up47.mpr hc)]
  · rw [if_neg hc, if_neg (fun q => hc (up47.mp q)), gap_up h, h, low_up]
/-- a sign of a name written in another way -/
def OneWay (c : Nat) (w : List Nat) : Prop := (c = 95 ∧ w ≠ [] ∧ w.all isGap = true) ∨ (c ≠ 95 ∧ (w = [c] ∨ w = [upc c]))
theorem way_run {c : Nat} {w : List Nat} (h : OneWay c w) (hg : c = 95 ∨ isGap c = false) (st : SSt) : w.foldl nmStep st = nmStep st c := by
  rcases h with ⟨rfl, h1, h2⟩ | ⟨h1, h2⟩
  · rw [nms_gaps w st h1 h2, nms_gap (by decide)]
  · have g : isGap c = false := by
      rcases hg with q | q
      · exact absurd q h1
      · exact q
    rcases h2 with rfl | rfl
    · rfl
    · rw [List.foldl_cons, List.foldl_nil, nms_up g]
theorem way_ok {c : Nat} {w : List Nat} (h : OneWay c w) (hc : okS c = true) : w.all okS = true := by
  rcases h with ⟨rfl, h1, h2⟩ | ⟨h1, h2⟩
  · rw [List.all_eq_true] at h2 ⊢
    intro x hx
    unfold okS okc
    rw [h2 x hx]
    rfl
  · rcases h2 with rfl | rfl
    · simp [hc]
    · have e : okS (upc c) = true := by
        unfold okS okc at hc ⊢
        rw [low_up]
        cases g : isGap c with
        | true =>
          have q := gap_iff.mp g
          have eu : upc c = c := by rcases up_cases c with ⟨k1, k2, k3⟩ | ⟨k1, k3⟩ <;> omega
          rw [eu, g]
          rfl
        | false =>
          rw [gap_up g]
          rw [g] at hc
          have e2 : (upc c == 47) = (c == 47) := by
            rw [Bool.eq_iff_iff, beq_iff_eq, beq_iff_eq]
            exact up47
          rw [e2]
          exact hc
      simp [e]
/-- d written in another way, sign by sign, with gaps ahead and behind -/
theorem name_way {d b pre suf : List Nat} (h : nameOf d = some d) (hb : (nmR b) = nmR d) (hok : b.all okS = true) (hp : pre.all isGap = true) (hs : suf.all isGap = true) : nameOf (pre ++ b ++ suf) = some d := by
  have ed := name_nm h
  have run : nmR (pre ++ b) = nmR d := by
    unfold nmR
    rw [List.foldl_append]
    have e0 : pre.foldl nmStep ([], false) = ([], false) := by
      cases pre with
      | nil => rfl
      | cons c r => exact nms_gaps (c :: r) _ (by simp) hp
    rw [e0]
    exact hb
  have e : nm (pre ++ b ++ suf) = d := by
    rw [← nmR_nm]
    unfold nmR
    rw [List.foldl_append, show List.foldl nmStep ([], false) (pre ++ b) = nmR d from run]
    cases suf with
    | nil =>
      rw [List.foldl_nil, nmR_nm]
      exact ed
    | cons c r =>
      rw [nms_gaps (c :: r) _ (by simp) hs]
      show (nmR d).1 = d
      rw [nmR_nm]
      exact ed
  have gapok : ∀ l : List Nat, l.all isGap = true → l.all okS = true := fun l hl => by
    rw [List.all_eq_true] at hl ⊢
    intro x hx
    unfold okS okc
    rw [hl x hx]
    rfl
  unfold nameOf nameB
  rw [e, List.all_append, List.all_append, gapok pre hp, gapok suf hs, hok, name_bnd h]
  rfl
/-- as a law may reckon a name -/
def good (p : List Nat) : Option (List Nat) := if (p.all okc && !(seg p).isEmpty) = true then some (seg p) else none
theorem law_name (l : List Nat) : nameOf l = if (none ∈ (cuts l).map good ∨ (cuts l).length > 4 ∨ (nm l).length > 24) then none else some (nm l) := by
  unfold nameOf
  have key : nameB l = true ↔ ¬ (none ∈ (cuts l).map good ∨ (cuts l).length > 4 ∨ (nm l).length > 24) := by
    unfold nameB bnd
    rw [okS_cuts, cuts_nm]
    simp only [Bool.and_eq_true, decide_eq_true_eq, List.length_map, List.all_eq_true, List.mem_map, not_or, good]
    constructor
    · rintro ⟨h1, h2, h3, h4⟩
      refine ⟨?_, by omega, by omega⟩
      rintro ⟨p, hp, e⟩
      have q1 := h1 p hp
      have q2 := h3 (seg p) ⟨p, hp, rfl⟩
      rw [if_pos ⟨q1, q2⟩] at e
      cases e
    · rintro ⟨h1, h2, h3⟩
      have hp : ∀ p ∈ cuts l, (∀ x ∈ p, okc x = true) ∧ (!(seg p).isEmpty) = true := fun p hp => by
        by_cases c : (∀ x ∈ p, okc x = true) ∧ (!(seg p).isEmpty) = true
        · exact c
        · exact absurd ⟨p, hp, if_neg c⟩ h1
      refine ⟨fun p q => (hp p q).1, by omega, ?_, by omega⟩
      rintro x ⟨p, q, rfl⟩
      exact (hp p q).2
  by_cases h : nameB l = true
  · rw [if_pos h, if_neg (key.mp h)]
  · rw [if_neg h]
    by_cases c : (none ∈ (cuts l).map good ∨ (cuts l).length > 4 ∨ (nm l).length > 24)
    · rw [if_pos c]
    · exact absurd (key.mpr c) h
end Nm

/-! Own rules beside the hand layer, and texts as lists of codes. -/
namespace Nm
open PySem PySem.Spec PyProof.Rows L2 TL

section
variable {X : Cx}
/-- list + list, the left one read only -/
def rCatS (K : PySem.W.Frag) : R2 := fun x y H Q => ∃ l b xs zs, x = .ref l ∧ y = .ref b ∧ SqL K H l xs ∧ SqL K H b zs ∧ xs.length + zs.length ≤ sizeLine ∧ ∀ p, H p = none → Q (.ref p) (upd H p (.lst (xs ++ zs)))
theorem op_catS : OpR X (binaryOp .Add) (rCatS X.K) := by
  intro pins s σ H x y v u Q I rx ry h
  obtain ⟨l, b, xs, zs, rfl, rfl, hL, hB, hz, q⟩ := h
  cases rx
  cases ry
  obtain ⟨its, r, ⟨⟨cls, dd, data, sl⟩, n, ho, hc, _, hd⟩, hl⟩ := I.list hL
  obtain ⟨its2, r2, ⟨⟨cls2, dd2, data2, sl2⟩, n2, ho2, hc2, _, hd2⟩, hl2⟩ := I.list hB
  simp only at hc hd hc2 hd2
  subst hc hd hc2 hd2
  have e : its.toArray ++ its2.toArray = (its ++ its2).toArray := by simp
  have hsz : its.length + its2.length ≤ sizeLine := by
    rw [← r.length, ← r2.length]
    exact hz
  refine concat_meets ⟨_, ho, rfl⟩ ⟨_, ho2, rfl⟩ noFill_list_add seq_list_add PySem.F.slot_list_add PySem.F.entry_list_add (PySem.F.args_list_add_2 _ _) (list_addW l b its.toArray its2.toArray n n2 dd dd2 sl sl2 (by simpa using hsz)) ⟨ho, ho2, ?_⟩
  rw [e]
  exact ⟨.ref _, _, I.lnew (t' := s.toks) (r.append r2) (by rw [List.length_append]; omega), rfl, q _ I.fresh⟩
/-- the same, the written part named (within a comprehension) -/
theorem ix_listK {K : PySem.W.Frag} (h : X.K = K := by rfl) : IxR X (rIxL K) := by
  subst h
  exact ix_list
theorem op_inK {K : PySem.W.Frag} (h : X.K = K := by rfl) : OpR X (compareOp .In) (rIn K false) := by
  subst h
  exact op_in_seq
theorem op_notInK {K : PySem.W.Frag} (h : X.K = K := by rfl) : OpR X (compareOp .NotIn) (rIn K true) := by
  subst h
  exact op_notIn_seq
theorem op_eqDK {K : PySem.W.Frag} (hu : X.A.units + 64 < cLine) (h : X.K = K := by rfl) : OpR X (compareOp .Eq) (rEqD K) := by
  subst h
  exact op_eqD hu
theorem op_neDK {K : PySem.W.Frag} (hu : X.A.units + 64 < cLine) (h : X.K = K := by rfl) : OpR X (compareOp .NotEq) (rNeD K) := by
  subst h
  exact op_neD hu
theorem sl_listK {K : PySem.W.Frag} (h : X.K = K := by rfl) : SlR X (rSlL K) := by
  subst h
  exact sl_list
/-- name = value, a token out ahead -/
theorem pst_set {i : Nat} {x : Str} {e : Expr} {te : TE} {pos' pos : Pos} (hN : X.N.Nodup) (hi : X.N[i]? = some x) (hx : Loc X.env.scope x) (he : PET X e te) (hs : swapsWith e (some (.Name x pos')) pos.line X.env = pure false := by rfl) (hf : X.fn x = true ∨ X.env.scope.names.lookup x = some .local := by first | exact .inl rfl | exact .inr rfl | assumption) :
    PST X (.Assign [.Name x pos'] e pos) (tAsg te (gName i)) := by
  intro pins s σ H D h0 I h
  refine wpAny_Assign_Name (thn (he pins s σ H _ h0 I h) fun v s1 ⟨y, H1, I1, r1, q1⟩ => ?_) hs
  exact store_ok I1 hN hi hx r1 (fun s2 I2 => ⟨_, H1, I2, q1⟩) hf
end

section
variable {P : Program} {w : World} {K : PySem.W.Frag} {mg : Str → Option Value} {base : Heap}
/-- as Fun.ok, for a body that wants a token out -/
theorem okT {x qual : Str} {st : Stmt} {f : Addr} {fd : FuncData} {N ps : List Str} {k : Nat} {sp : Sp} (F : Fun K x qual st f fd) (S : FnScope N ps (defScope st)) (hnc : ∀ y ∈ (defScope st).names, y.2 ≠ .cell) (hps : 1 ≤ ps.length) (len : ∀ vs H Q E, sp vs H Q E → vs.length = ps.length)
    (hbody : ∀ (cdv : Value) (A : Around) (outer : List Env) (s : Shared) (H : Hp) (vs : List V) (Q : VK) (E : XK), Room k (A.deeper (envOfC qual (defScope st) s.heap.objs.size f cdv)) → sp vs H Q E →
      ∃ t, PSsT (cxOf CX0 P w K mg base N qual (defScope st) f cdv A outer s H E) (defBody st) t ∧ t { nx := fun _ H' => Q .non H', rt := Q } (start N vs) H) : FnOk P w K mg base CX0 (k + 1) f fd ps sp := by
  obtain ⟨oc, od, kV, doc, pm, an, cdv, ct, osl, rfl, lk, hcd⟩ := F.ex
  exact fn_ofT lk hcd S hnc hps len fun A outer s H vs Q E hr hsp => hbody cdv A outer s H vs Q E hr hsp
/-- a def of the text, as the top has left it -/
def FunAt (K : PySem.W.Frag) (mg : Str → Option Value) (x : Str) (st : Stmt) (ps : List Str) : Prop := ∃ f fd, Fun K x x st f fd ∧ mg x = some (.ref f) ∧ Binds K fd ps []
/-- a def that keeps its promise, ready to be called -/
def Cal (P : Program) (w : World) (K : PySem.W.Frag) (mg : Str → Option Value) (base : Heap) (CX : CXT) (x : Str) (ps : List Str) (k : Nat) (sp : Sp) : Prop :=
  ∃ f fd, FnOk P w K mg base CX k f fd ps sp ∧ mg x = some (.ref f) ∧ PySem.W.keepIn K (.ref f) = true ∧ Binds K fd ps []
/-- an own error class, without values -/
structure ErrAt (K : PySem.W.Frag) (mg : Str → Option Value) (x : Str) (C : Addr) : Prop where
  g : mg x = some (.ref C)
  x : PySem.W.excIn K C [.type "ValueError", .type "Exception", .type "BaseException", .type "object"] "ValueError.__new__" = true
  k : PySem.W.keepIn K (.ref C) = true
  b : PySem.W.subIn K (.ref C) (.type "BaseException") = some true
  t : PySem.W.typeIn K (.ref C) = some (.type "type")
  e : PySem.W.exmOne K (.ref C) (.ref C) = some true
theorem exm_self {K : PySem.W.Frag} {S : Addr} (h1 : PySem.W.subIn K (.ref S) (.type "BaseException") = some true) (h2 : PySem.W.isClsIn K S = true) (h3 : PySem.W.typeIn K (.ref S) = some (.type "type")) (h4 : PySem.W.subIn K (.ref S) (.ref S) = some true) :
    PySem.W.exmOne K (.ref S) (.ref S) = some true := by
  have e1 : (PySem.W.subIn K (.ref S) (.type "BaseException") == some true) = true := by rw [h1] <;> rfl
  have e2 : ((PySem.W.clsIn K S).isSome && PySem.W.typeIn K (.ref S) == some (.type "type")) = true := by
    have h2' : (PySem.W.clsIn K S).isSome = true := h2
    rw [h2', h3] <;> rfl
  show (if (PySem.W.subIn K (.ref S) (.type "BaseException") == some true) = true then (if ((PySem.W.clsIn K S).isSome && PySem.W.typeIn K (.ref S) == some (.type "type")) = true then PySem.W.subIn K (.ref S) (.ref S) else none) else none) = some true
  rw [if_pos e1, if_pos e2]
  exact h4
end

/-! ### texts -/
/-- the text of these codes -/
def S (l : List Nat) : Str := ⟨l.toArray⟩
theorem tl_S (l : List Nat) : tl (S l) = l := rfl
theorem S_tl (z : Str) : S (tl z) = z := ext_tl rfl
theorem len_S (l : List Nat) : (S l).length = l.length := by rw [len_tl]; rfl
theorem S_app (a b : List Nat) : S a ++ S b = S (a ++ b) := ext_tl (by rw [tl_append]; rfl)
theorem S_inj {a b : List Nat} (h : S a = S b) : a = b := by
  have e := congrArg tl h
  exact e
theorem S_beq (a b : List Nat) : (S a == S b) = (a == b) := by
  rw [Bool.eq_iff_iff, beq_iff_eq, beq_iff_eq]
  exact ⟨S_inj, fun h => by rw [h]⟩
def Asc (l : List Nat) : Prop := ∀ c ∈ l, c < 128
theorem ok_asc {c : Nat} (h : okS c = true) : c < 128 := by
  unfold okS okc isGap isAl at h
  simp only [Bool.or_eq_true, Bool.and_eq_true, beq_iff_eq, decide_eq_true_eq] at h
  rcases low_cases c with ⟨k1, k2, k3⟩ | ⟨k1, k3⟩ <;> omega
theorem asc_of {l : List Nat} (h : l.all okS = true) : Asc l := fun c hc => ok_asc (List.all_eq_true.mp h c hc)
theorem lower_S {l : List Nat} (h : Asc l) : Txt.lower (S l) = S (l.map lowc) := by
  have e := lower_ascii (x := S l) (fun c hc => h c (by simpa [S] using hc))
  rw [e]
  refine ext_tl ?_
  show ((S l).cps.map lo1).toList = l.map lowc
  rw [Array.toList_map]
  rfl
theorem upper_S {l : List Nat} (h : Asc l) : Txt.upper (S l) = S (l.map upc) := by
  have e := upper_ascii (x := S l) (fun c hc => h c (by simpa [S] using hc))
  rw [e]
  refine ext_tl ?_
  show ((S l).cps.map up1).toList = l.map upc
  rw [Array.toList_map]
  rfl
theorem repl1 (y z : Nat) : ∀ l : List Nat, StrLaws.replL [y] [z] l = l.map (fun c => if c = y then z else c)
  | [] => StrLaws.replL_nil
  | c :: l => by
    by_cases h : c = y
    · rw [StrLaws.replL_hit (by simp) (by simp [h]), List.map_cons, if_pos h]
      show [z] ++ StrLaws.replL [y] [z] ((c :: l).drop 1) = _
      rw [List.drop_one, List.tail_cons, repl1 y z l]
      rfl
    · rw [StrLaws.replL_miss (by simp [h]), List.map_cons, if_neg h, repl1 y z l]
theorem replace_S (y z : Nat) (l : List Nat) : Txt.replace (S l) (S [y]) (S [z]) = S (l.map (fun c => if c = y then z else c)) := by
  refine ext_tl ?_
  rw [tl_S, ← repl1]
  exact StrLaws.replace_list (by rw [len_S]; exact Nat.le_refl 1)
theorem bars (l : List Nat) : ((l.map lowc).map (fun c => if c = 32 then 95 else c)).map (fun c => if c = 45 then 95 else c) = l.map bar := by
  rw [List.map_map, List.map_map]
  refine List.map_congr_left fun c _ => ?_
  show (if (if lowc c = 32 then 95 else lowc c) = 45 then 95 else (if lowc c = 32 then 95 else lowc c)) = bar c
  unfold bar
  cases g : isGap c with
  | true =>
    rw [if_pos rfl]
    rcases gap_iff.mp g with rfl | rfl | rfl <;> decide
  | false =>
    rw [if_neg Bool.false_ne_true]
    have h := gap_no g
    have e1 : lowc c ≠ 32 := by rcases low_cases c with ⟨k1, k2, k3⟩ | ⟨k1, k3⟩ <;> omega
    have e2 : lowc c ≠ 45 := by rcases low_cases c with ⟨k1, k2, k3⟩ | ⟨k1, k3⟩ <;> omega
    rw [if_neg e1, if_neg e2]
/-- split at one plain sign -/
theorem split_S {s : Nat} (hs : s < 256) (l : List Nat) : Txt.split (S l) (S [s]) = (spl [s] 0 [] l).map S := by
  refine map_tl_inj ?_
  rw [split_spl (S l) (S [s]) (by show [s] ≠ []; simp) (kind_ok (by simp [S, hs])), List.map_map]
  show spl [s] 0 [] l = _
  conv => lhs; rw [← List.map_id (spl [s] 0 [] l)]
  rfl
theorem join_S (a : List Nat) (ps : List (List Nat)) : Txt.join (S a) (ps.map S) = S (joinL a ps) := by
  refine ext_tl ?_
  rw [join_eq, tl_join, tl_S, tl_S, List.map_map]
  congr 1
  conv => rhs; rw [← List.map_id ps]
  rfl

/-! ### lengths -/
theorem spl1_len (s : Nat) : ∀ (l acc : List Nat), (spl [s] 0 acc l).length ≤ l.length + 1
  | [], acc => by rw [spl_nil]; simp
  | c :: l, acc => by
    by_cases h : c = s
    · have := spl1_len s l []
      rw [h, spl_hit (pre1_hit s l), List.length_cons, List.length_cons]
      show (spl [s] 0 [] l).length + 1 ≤ l.length + 1 + 1
      omega
    · rw [spl_miss (pre1_miss l h), List.length_cons]
      have := spl1_len s l (acc ++ [c])
      omega
theorem joinL_len (S : List Nat) : ∀ ps : List (List Nat), (joinL S ps).length ≤ (ps.map List.length).sum + S.length * ps.length
  | [] => by simp [joinL]
  | [p] => by simp [joinL_one]
  | p :: q :: r => by
    rw [joinL_cons (by simp), List.length_append, List.length_append]
    have := joinL_len S (q :: r)
    simp only [List.map_cons, List.sum_cons, List.length_cons, Nat.mul_add, Nat.mul_one] at this ⊢
    omega
end Nm

namespace Nm
open PySem PySem.Spec PyProof.Rows L2 TL
/-- the reading of a truth test -/
def tTruth (K : PySem.W.Frag) (ta : TE) : TT := fun σ H Q => ta σ H fun x H' => ∃ k, TruV K x H' k ∧ Q k H'
theorem S_eq (a b : List Nat) : (S a = S b) = (a = b) := propext ⟨S_inj, fun h => by rw [h]⟩
theorem one_S (c : Nat) : ({ cps := #[c] } : Str) = S [c] := rfl
theorem walk_S {l : List Nat} : Walk (Its (S l)) l.length (fun _ => True) (fun i H v H' => H' = H ∧ ∃ c, l[i]? = some c ∧ v = .str (S [c])) := by
  have h := @walk_str (S l)
  have e : (S l).cps.size = l.length := by simp [S]
  rw [e] at h
  refine ⟨h.goes, h.stops, fun i H x H' hi _ y => ?_⟩
  obtain ⟨e1, c, hc, e2⟩ := h.yields i H x H' hi trivial y
  exact ⟨e1, c, by simpa [S] using hc, e2⟩
theorem take_all {f : Nat → Bool} {l : List Nat} {i c : Nat} (h : (l.take i).all f = true) (hc : l[i]? = some c) (g : f c = true) : (l.take (i + 1)).all f = true := by
  rw [List.take_add_one, hc, List.all_append, h]
  simp [g]
theorem all_false {f : Nat → Bool} {l : List Nat} {i c : Nat} (hc : l[i]? = some c) (g : f c = false) : l.all f = false := by
  cases q : l.all f with
  | false => rfl
  | true =>
    have := List.all_eq_true.mp q c (List.mem_of_getElem? hc)
    rw [g] at this
    cases this
theorem take_len {l : List Nat} : l.take l.length = l := List.take_length
/-! ### heaps -/
theorem same_upd {H : Hp} {p : Addr} {o : HO} (h : H p = none) : Same H (upd H p o) := fun b x e => by
  rw [upd_ne (ne_of_none e h)]
  exact e
/-- all but what stands at a is as it was -/
def Keep (a : Addr) (H H' : Hp) : Prop := ∀ b o, H b = some o → b ≠ a → H' b = some o
theorem Keep.refl (a : Addr) (H : Hp) : Keep a H H := fun _ _ h _ => h
theorem Keep.trans {a : Addr} {H H1 H2 : Hp} (x : Keep a H H1) (y : Keep a H1 H2) : Keep a H H2 := fun b o h n => y b o (x b o h n) n
theorem keep_same {a : Addr} {H H' : Hp} (x : Same H H') : Keep a H H' := fun b o h _ => x b o h
theorem keep_upd {a : Addr} {H : Hp} {o : HO} : Keep a H (upd H a o) := fun b u h n => by
  rw [upd_ne n]
  exact h
theorem keep_new {a p : Addr} {H : Hp} {o : HO} (hp : H p = none) : Keep a H (upd H p o) := keep_same (same_upd hp)
theorem Keep.same {a : Addr} {H H1 H2 : Hp} (x : Keep a H H1) (y : Same H1 H2) : Keep a H H2 := fun b o h n => y b o (x b o h n)
/-- behind a call: what was free ahead and is changed behind -/
theorem Keep.upd_free {a p : Addr} {H H1 : Hp} {o : HO} (x : Keep a H H1) (hp : H p = none) : Keep a H (upd H1 p o) := fun b u h n => by
  rw [upd_ne (ne_of_none h hp)]
  exact x b u h n
theorem Same.upd_free {p : Addr} {H H1 : Hp} {o : HO} (x : Same H H1) (hp : H p = none) : Same H (upd H1 p o) := fun b u h => by
  rw [upd_ne (ne_of_none h hp)]
  exact x b u h
/-! ### the drawing's state -/
def StOk (x y z : Int) : Prop := 0 ≤ x ∧ 0 ≤ y ∧ 7 ≤ z ∧ z < 2147483700
def Dr (H : Hp) (a : Addr) : Prop := ∃ x y z, H a = some (.lst [.int x, .int y, .int z]) ∧ StOk x y z
theorem Dr.same {a : Addr} {H H' : Hp} (h : Dr H a) (s : Same H H') : Dr H' a := by
  obtain ⟨x, y, z, e, o⟩ := h
  exact ⟨x, y, z, s _ _ e, o⟩
theorem Dr.upd {a p : Addr} {H : Hp} {o : HO} (h : Dr H a) (hp : H p = none) : Dr (L2.upd H p o) a := h.same (same_upd hp)
theorem Dr.ne {a p : Addr} {H : Hp} (h : Dr H a) (hp : H p = none) : a ≠ p := by
  obtain ⟨x, y, z, e, o⟩ := h
  exact ne_of_none e hp
theorem Dr.upd_ne {a p : Addr} {H : Hp} {o : HO} (h : Dr H a) (hp : a ≠ p) : Dr (L2.upd H p o) a := by
  obtain ⟨x, y, z, e, k⟩ := h
  exact ⟨x, y, z, by rw [L2.upd_ne hp]; exact e, k⟩
theorem at3_0 {a b c : V} : atI [a, b, c] 0 = some a := rfl
theorem at3_1 {a b c : V} : atI [a, b, c] 1 = some b := rfl
theorem at3_2 {a b c : V} : atI [a, b, c] 2 = some c := rfl
theorem at2_0 {a b : V} : atI [a, b] 0 = some a := rfl
theorem at2_1 {a b : V} : atI [a, b] 1 = some b := rfl
theorem sz {n : Nat} (h : n ≤ 16000000) : n ≤ sizeLine := by
  rw [sizeLine_eq]
  omega
theorem sz' {n : Nat} (h : n < 16000000) : n < sizeLine := by
  rw [sizeLine_eq]
  omega
theorem len2 : ((S [47]).length == 0) = false := rfl
theorem joinL_flat : ∀ ps : List (List Nat), joinL [] ps = ps.flatten
  | [] => rfl
  | [p] => by simp [joinL_one]
  | p :: q :: r => by
    rw [joinL_cons (by simp), joinL_flat (q :: r)]
    simp
theorem flat1 : ∀ ls : List Nat, (ls.map fun c => [c]).flatten = ls
  | [] => rfl
  | c :: l => by simp [flat1 l]
end Nm
namespace Nm
open PySem PySem.Spec PyProof.Rows L2 TL
theorem lit_e : Str.ofString "" = S [] := by decide +kernel
theorem lit_sp : Str.ofString " " = S [32] := by decide +kernel
theorem lit_bar : Str.ofString "_" = S [95] := by decide +kernel
theorem lit_dash : Str.ofString "-" = S [45] := by decide +kernel
theorem lit_dash2 : Str.ofString "--" = S [45, 45] := by decide +kernel
theorem lit_sl : Str.ofString "/" = S [47] := by decide +kernel
theorem lit_gaps : Str.ofString " _-" = S [32, 95, 45] := by decide +kernel
theorem filter_all {α : Type} (p : α → Bool) (l : List α) (i : Nat) (x : α) (h : l[i]? = some x) : (l.take (i + 1)).filter p = (l.take i).filter p ++ (if p x = true then [x] else []) := by
  rw [List.take_add_one, h, List.filter_append]
  cases q : p x <;> simp [q]
theorem map_take1 {α β : Type} (f : α → β) (l : List α) (i : Nat) (x : α) (h : l[i]? = some x) : (l.take (i + 1)).map f = (l.take i).map f ++ [f x] := by
  rw [List.take_add_one, h, List.map_append]
  rfl
theorem spl_mem_len (s : Nat) : ∀ (l acc : List Nat), ∀ p ∈ spl [s] 0 acc l, p.length ≤ acc.length + l.length
  | [], acc, p, hp => by
    rw [spl_nil] at hp
    rw [List.mem_singleton.mp hp]
    simp
  | c :: l, acc, p, hp => by
    by_cases h : c = s
    · rw [h, spl_hit (pre1_hit s l)] at hp
      rcases List.mem_cons.mp hp with e | e
      · rw [e]
        simp
      · have := spl_mem_len s l [] p e
        simp only [List.length_cons, List.length_nil] at this ⊢
        omega
    · rw [spl_miss (pre1_miss l h)] at hp
      have := spl_mem_len s l (acc ++ [c]) p hp
      simp only [List.length_append, List.length_cons, List.length_nil] at this ⊢
      omega
theorem spl_sum (s : Nat) : ∀ (l acc : List Nat), ((spl [s] 0 acc l).map List.length).sum ≤ acc.length + l.length
  | [], acc => by rw [spl_nil]; simp
  | c :: l, acc => by
    by_cases h : c = s
    · rw [h, spl_hit (pre1_hit s l), List.map_cons, List.sum_cons]
      have := spl_sum s l []
      simp only [List.length_cons, List.length_nil] at this ⊢
      show acc.length + ((spl [s] 0 [] l).map List.length).sum ≤ _
      omega
    · rw [spl_miss (pre1_miss l h)]
      have := spl_sum s l (acc ++ [c])
      simp only [List.length_append, List.length_cons, List.length_nil] at this ⊢
      omega
theorem sum_filter (p : List Nat → Bool) : ∀ ps : List (List Nat), ((ps.filter p).map List.length).sum ≤ (ps.map List.length).sum
  | [] => Nat.le_refl _
  | x :: r => by
    have := sum_filter p r
    rw [List.filter_cons]
    split
    · simp only [List.map_cons, List.sum_cons]
      omega
    · simp only [List.map_cons, List.sum_cons]
      omega
theorem lens_S (ps : List (List Nat)) : ((ps.map S).map (·.length)).sum = (ps.map List.length).sum := by
  rw [List.map_map]
  congr 1
theorem map_VS (ps : List (List Nat)) : (ps.map S).map V.str = ps.map (fun p => V.str (S p)) := by rw [List.map_map]; rfl
theorem spl_mem (s : Nat) : ∀ (l acc : List Nat), ∀ p ∈ spl [s] 0 acc l, ∀ c ∈ p, c ∈ acc ∨ c ∈ l
  | [], acc, p, hp, c, hc => by
    rw [spl_nil] at hp
    rw [List.mem_singleton.mp hp] at hc
    exact .inl hc
  | d :: l, acc, p, hp, c, hc => by
    by_cases h : d = s
    · rw [h, spl_hit (pre1_hit s l)] at hp
      rcases List.mem_cons.mp hp with e | e
      · rw [e] at hc
        exact .inl hc
      · rcases spl_mem s l [] p e c hc with q | q
        · simp at q
        · exact .inr (List.mem_cons_of_mem _ q)
    · rw [spl_miss (pre1_miss l h)] at hp
      rcases spl_mem s l (acc ++ [d]) p hp c hc with q | q
      · rcases List.mem_append.mp q with q | q
        · exact .inl q
        · rw [List.mem_singleton.mp q]
          exact .inr (by simp)
      · exact .inr (List.mem_cons_of_mem _ q)
theorem cuts_mem {l p : List Nat} {c : Nat} (hp : p ∈ spl [47] 0 [] l) (hc : c ∈ p) : c ∈ l := by
  rcases spl_mem 47 l [] p hp c hc with q | q
  · simp at q
  · exact q
theorem seg_le (p : List Nat) : (seg p).length ≤ p.length := by
  have := seg_len p ([], false)
  simp only [List.length_nil] at this
  show ((p.foldl segStep ([], false)).1).length ≤ _
  simp only [Bool.false_eq_true, if_false] at this
  omega
theorem sum_seg : ∀ ps : List (List Nat), ((ps.map seg).map List.length).sum ≤ (ps.map List.length).sum
  | [] => Nat.le_refl _
  | x :: r => by
    have := sum_seg r
    have := seg_le x
    simp only [List.map_cons, List.sum_cons]
    omega
theorem nm_len (l : List Nat) : (nm l).length ≤ 2 * l.length + 1 := by
  have h1 := joinL_len [47] ((cuts l).map seg)
  have h2 := sum_seg (cuts l)
  have h3 := spl_sum 47 l []
  have h4 := spl1_len 47 l []
  simp only [List.length_map, List.length_cons, List.length_nil] at h1 h3
  unfold nm
  unfold cuts at *
  omega
end Nm

/-! Comprehensions whose element is a call: over a list, the heap growing alone; over a range, by the drawing's state. -/
namespace Nm
open PySem PySem.Spec PyProof.Rows L2 TL
theorem wipe1 (σ : L2.St) (i : Nat) (x : Option V) : wipe ((wipe σ [i]).set i x) [i] = wipe σ [i] := by
  show ((σ.set i none).set i x).set i none = σ.set i none
  rw [List.set_set, List.set_set]
theorem lc_same {K : PySem.W.Frag} {a D : Addr} {xs ys : List V} {i : Nat} {σ : L2.St} {H1 : Hp} {te : TE} {Qd : Hp → Prop} (hxs : SqL K H1 a xs) (hD : H1 D = none) (hl : ys.length = xs.length) (hz : xs.length < sizeLine)
    (hte : ∀ (k : Nat) (x y : V) (H3 : Hp) (Qv : VK), xs[k]? = some x → ys[k]? = some y → Same H1 H3 → (∀ H4, Same H3 H4 → Qv y H4) → te ((wipe σ [i]).set i (some x)) H3 Qv)
    (hd : ∀ H', Same H1 H' → H' D = some (.lst ys) → Qd H') :
    ∃ W : Nat → Nat → Hp → Prop, (∃ m, W 0 m (upd H1 D (.lst []))) ∧ ∀ k m H, W k m H →
      ((Itl K a).stop k H ∧ Qd H) ∨ ((Itl K a).go k H ∧ ∃ Nx : Hp → Prop, (∀ H', Nx H' → ∃ m', m' < m ∧ W (k + 1) m' H') ∧ ∀ x H', (Itl K a).yld k H x H' → gName i x (wipe σ [i]) H' fun σ2 H2 => wipe σ2 [i] = wipe σ [i] ∧ tYes σ2 H2 fun b H3 =>
        if b = true then te σ2 H3 fun y H4 => ∃ acc, H4 D = some (.lst acc) ∧ acc.length < sizeLine ∧ Nx (upd H4 D (.lst (acc ++ [y]))) else Nx H3) := by
  refine lc_it (walk_list (xs := xs)) (fun k H => Same H1 H ∧ H D = some (.lst (ys.take k))) ⟨same_upd hD, by rw [upd_same]; rfl⟩ (fun k H _ h => h.1.seq hxs) ?_ ?_
  · rintro k x H H' hk ⟨h1, h2⟩ ⟨rfl, hx⟩
    simp only [gName, tYes, ↓reduceIte]
    refine ⟨wipe1 σ i (some x), ?_⟩
    have hy : ys[k]? = some ys[k] := List.getElem?_eq_getElem (by omega)
    refine hte k x ys[k] _ _ hx hy h1 fun H4 s4 => ⟨_, s4 _ _ h2, ?_, ?_, ?_⟩
    · rw [List.length_take]
      omega
    · exact Same.upd_free (h1.trans s4) hD
    · rw [upd_same, List.take_add_one, hy]
      rfl
  · rintro H ⟨h1, h2⟩
    rw [← hl, List.take_length] at h2
    exact hd H h1 h2
theorem lc_draw {a D : Addr} {lo : Int} {n i : Nat} {σ : L2.St} {H1 : Hp} {te : TE} {Qd : Hp → Prop} (Py : V → Prop) (hS : Dr H1 a) (hD : H1 D = none) (hn : n ≤ 100000)
    (hte : ∀ k H3 Qv, k < n → Dr H3 a → Keep a H1 H3 → (∀ y H4, Py y → Dr H4 a → Keep a H3 H4 → Qv y H4) → te ((wipe σ [i]).set i (some (.int (lo + (k : Nat))))) H3 Qv)
    (hd : ∀ ys H', ys.length = n → (∀ y ∈ ys, Py y) → Dr H' a → Keep a H1 H' → H' D = some (.lst ys) → Qd H') :
    ∃ W : Nat → Nat → Hp → Prop, (∃ m, W 0 m (upd H1 D (.lst []))) ∧ ∀ k m H, W k m H →
      ((Itr lo n).stop k H ∧ Qd H) ∨ ((Itr lo n).go k H ∧ ∃ Nx : Hp → Prop, (∀ H', Nx H' → ∃ m', m' < m ∧ W (k + 1) m' H') ∧ ∀ x H', (Itr lo n).yld k H x H' → gName i x (wipe σ [i]) H' fun σ2 H2 => wipe σ2 [i] = wipe σ [i] ∧ tYes σ2 H2 fun b H3 =>
        if b = true then te σ2 H3 fun y H4 => ∃ acc, H4 D = some (.lst acc) ∧ acc.length < sizeLine ∧ Nx (upd H4 D (.lst (acc ++ [y]))) else Nx H3) := by
  have hDa : D ≠ a := (hS.ne hD).symm
  refine lc_it walk_range (fun k H => ∃ ys, ys.length = k ∧ (∀ y ∈ ys, Py y) ∧ Dr H a ∧ Keep a H1 H ∧ H D = some (.lst ys)) ⟨[], rfl, by simp, hS.upd hD, keep_new hD, upd_same⟩ (fun _ _ _ _ => trivial) ?_ ?_
  · rintro k x H H' hk ⟨ys, h1, h2, h3, h4, h5⟩ ⟨rfl, rfl⟩
    simp only [gName, tYes, ↓reduceIte]
    refine ⟨wipe1 σ i _, ?_⟩
    refine hte k _ _ hk h3 h4 fun y H4 hy s4 k4 => ⟨ys, k4 _ _ h5 hDa, sz' (by omega), ys ++ [y], by simp [h1], ?_, s4.upd_ne hDa.symm, Keep.upd_free (h4.trans k4) hD, upd_same⟩
    intro z hz
    rcases List.mem_append.mp hz with q | q
    · exact h2 z q
    · rw [List.mem_singleton.mp q]
      exact hy
  · rintro H ⟨ys, h1, h2, h3, h4, h5⟩
    exact hd ys H h1 h2 h3 h4 h5
/-- a thing that is no text -/
def NoStr (K : PySem.W.Frag) (H : Hp) (v : V) : Prop := ∃ t, TyX K H v t ∧ PySem.W.kitOne K t (.type "str") = some false
end Nm

namespace Nm
open PySem PySem.Spec PyProof.Rows L2 TL
/-- a sign of what a writing comes to -/
def Plain (c : Nat) : Prop := c = 95 ∨ isGap c = false
theorem nms_plain {st : SSt} {c : Nat} (h : ∀ x ∈ st.1, Plain x) : ∀ x ∈ (nmStep st c).1, Plain x := by
  unfold nmStep
  by_cases h47 : c = 47
  · rw [if_pos h47]
    intro x hx
    rcases List.mem_append.mp hx with q | q
    · exact h x q
    · rw [List.mem_singleton.mp q]
      exact .inr (by decide)
  · rw [if_neg h47]
    cases g : isGap c with
    | true => rw [if_pos rfl]; exact h
    | false =>
      rw [if_neg Bool.false_ne_true]
      intro x hx
      rcases List.mem_append.mp hx with q | q
      · rcases List.mem_append.mp q with q | q
        · exact h x q
        · cases o : st.2 with
          | true =>
            rw [o, if_pos rfl] at q
            exact .inl (List.mem_singleton.mp q)
          | false =>
            rw [o, if_neg Bool.false_ne_true] at q
            simp at q
      · rw [List.mem_singleton.mp q]
        exact .inr (gap_low g)
theorem nmr_plain : ∀ (l : List Nat) (st : SSt), (∀ x ∈ st.1, Plain x) → ∀ x ∈ (l.foldl nmStep st).1, Plain x
  | [], _, h => h
  | c :: l, st, h => by
    rw [List.foldl_cons]
    exact nmr_plain l _ (nms_plain h)
theorem name_plain {d : List Nat} (h : nameOf d = some d) : ∀ c ∈ d, Plain c := by
  have e := name_nm h
  rw [← nmR_nm] at e
  intro c hc
  rw [← e] at hc
  exact nmr_plain d ([], false) (by simp) c hc
theorem way_step {d b w : List Nat} {i c : Nat} (hb : nmR b = nmR (d.take i)) (hc : d[i]? = some c) (hw : OneWay c w) (hp : Plain c) : nmR (b ++ w) = nmR (d.take (i + 1)) := by
  unfold nmR at hb ⊢
  rw [List.foldl_append, hb, way_run hw hp, List.take_add_one, hc, List.foldl_append]
  rfl
/-- what is told of an optional text -/
def oV : Option (List Nat) → V
  | some l => .str (S l)
  | none => .non
theorem oV_some (l : List Nat) : oV (some l) = .str (S l) := rfl
theorem oV_none : oV none = .non := rfl
theorem seg_take {l : List Nat} {i c : Nat} (hc : l[i]? = some c) : segR (l.take (i + 1)) = segStep (segR (l.take i)) c := by
  unfold segR
  rw [List.take_add_one, hc, List.foldl_append]
  rfl
theorem dec_empty (l : List Nat) : decide (V.str (S l) = V.str (S [])) = l.isEmpty := by
  cases l with
  | nil => exact decide_eq_true rfl
  | cons a r =>
    refine decide_eq_false fun h => ?_
    have := S_inj (V.str.inj h)
    cases this
theorem good_none {l : List Nat} {i c : Nat} (hc : l[i]? = some c) (h : okc c = false) : good l = none := by
  unfold good
  rw [all_false hc h, Bool.false_and]
  rfl
theorem good_all {l : List Nat} (h : l.all okc = true) : good l = if (seg l).isEmpty = true then none else some (seg l) := by
  unfold good
  rw [h, Bool.true_and]
  cases (seg l).isEmpty <;> rfl
theorem segR_len (l : List Nat) : (segR l).1.length ≤ l.length := seg_le l
theorem good_some {ps : List (List Nat)} (h : none ∉ ps.map good) : ps.map good = (ps.map seg).map some := by
  rw [List.map_map]
  refine List.map_congr_left fun p hp => ?_
  unfold good
  by_cases c : (p.all okc && !(seg p).isEmpty) = true
  · rw [if_pos c]
    rfl
  · exact absurd (List.mem_map.mpr ⟨p, hp, by unfold good; rw [if_neg c]⟩) h
theorem in_none (os : List (Option (List Nat))) : inV .non (os.map oV) = decide (none ∈ os) := by
  induction os with
  | nil => rfl
  | cons o r ih =>
    unfold inV at ih ⊢
    rw [List.map_cons, List.any_cons, ih]
    cases o with
    | none => simp [oV, eqV]
    | some l => simp [oV, eqV]
theorem flat_oV (os : List (Option (List Nat))) : (os.map oV).all flatV = true := by
  rw [List.all_map, List.all_eq_true]
  intro o _
  cases o <;> rfl
theorem oV_strs (ps : List (List Nat)) : (ps.map some).map oV = (ps.map S).map V.str := by
  rw [List.map_map, List.map_map]
  rfl
end Nm

/-! Drawn texts: what is known of letters and gaps; comprehensions that draw, over a text, over a list. -/
namespace Nm
open PySem PySem.Spec PyProof.Rows L2 TL
def isAn (c : Nat) : Bool := isAl (lowc c)
theorem an_ok {c : Nat} (h : isAn c = true) : okc c = true := by
  unfold okc
  rw [show isAl (lowc c) = true from h, Bool.or_true]
theorem gap_ok {c : Nat} (h : isGap c = true) : okc c = true := by
  unfold okc
  rw [h, Bool.true_or]
theorem okc_okS {c : Nat} (h : okc c = true) : okS c = true := by
  unfold okS
  rw [h, Bool.true_or]
theorem all_imp {f g : Nat → Bool} (h : ∀ c, f c = true → g c = true) {l : List Nat} (q : l.all f = true) : l.all g = true := by
  rw [List.all_eq_true] at q ⊢
  exact fun c hc => h c (q c hc)
theorem ys_of {P : List Nat → Prop} : ∀ {ys : List V}, (∀ y ∈ ys, ∃ l, P l ∧ y = .str (S l)) → ∃ ls : List (List Nat), ys = ls.map (fun p => V.str (S p)) ∧ (∀ l ∈ ls, P l) ∧ ls.length = ys.length
  | [], _ => ⟨[], rfl, by simp, rfl⟩
  | y :: r, h => by
    obtain ⟨ls, e, hp, hl⟩ := ys_of (ys := r) fun z hz => h z (List.mem_cons_of_mem _ hz)
    obtain ⟨l, hl0, rfl⟩ := h y (by simp)
    refine ⟨l :: ls, by rw [e]; rfl, fun z hz => ?_, by simp [hl]⟩
    rcases List.mem_cons.mp hz with q | q
    · rw [q]; exact hl0
    · exact hp z q
theorem flat_len {B : Nat} : ∀ {ls : List (List Nat)}, (∀ l ∈ ls, l.length ≤ B) → (ls.map List.length).sum ≤ B * ls.length
  | [], _ => by simp
  | x :: r, h => by
    have := flat_len (ls := r) fun l hl => h l (List.mem_cons_of_mem _ hl)
    have := h x (by simp)
    simp only [List.map_cons, List.sum_cons, List.length_cons, Nat.mul_add, Nat.mul_one]
    omega
theorem flat_all {p : Nat → Bool} {ls : List (List Nat)} (h : ∀ l ∈ ls, l.all p = true) : ls.flatten.all p = true := by
  rw [List.all_eq_true]
  intro c hc
  obtain ⟨l, hl, hcl⟩ := List.mem_flatten.mp hc
  exact List.all_eq_true.mp (h l hl) c hcl
theorem flat_one : ∀ {ls : List (List Nat)}, (∀ l ∈ ls, l.length = 1) → ls.flatten.length = ls.length
  | [], _ => rfl
  | x :: r, h => by
    have := flat_one (ls := r) fun l hl => h l (List.mem_cons_of_mem _ hl)
    have := h x (by simp)
    simp only [List.flatten_cons, List.length_append, List.length_cons]
    omega
abbrev sLet : Str := Str.ofString "abcdefghijklmnopqrstuvwxyz0123456789ABCDEFGHIJKLMNOPQRSTUVWXYZ"
theorem let_at {d : Int} (h0 : 0 ≤ d) (h1 : d < 62) : ∃ c, atI sLet.cps.toList d = some c ∧ isAn c = true := by
  obtain ⟨n, rfl⟩ := Int.eq_ofNat_of_zero_le h0
  have hn : n < 62 := by omega
  have key : ∀ n < 62, ((sLet.cps.toList)[n]?).any isAn = true := by decide +kernel
  have k := key n hn
  cases e : (sLet.cps.toList)[n]? with
  | none =>
    rw [e] at k
    cases k
  | some c =>
    rw [e] at k
    exact ⟨c, atI_nat e, k⟩
theorem gap_at {d : Int} (h0 : 0 ≤ d) (h1 : d < 3) : ∃ c, atI (Str.ofString " _-").cps.toList d = some c ∧ isGap c = true := by
  obtain ⟨n, rfl⟩ := Int.eq_ofNat_of_zero_le h0
  have hn : n < 3 := by omega
  have key : ∀ n < 3, (((Str.ofString " _-").cps.toList)[n]?).any isGap = true := by decide +kernel
  have k := key n hn
  cases e : ((Str.ofString " _-").cps.toList)[n]? with
  | none =>
    rw [e] at k
    cases k
  | some c =>
    rw [e] at k
    exact ⟨c, atI_nat e, k⟩
theorem lc_drawT {a D : Addr} {l : List Nat} {i : Nat} {σ : L2.St} {H1 : Hp} {te : TE} {Qd : Hp → Prop} (I : Nat → List (List Nat) → Prop) (h0 : I 0 []) (hS : Dr H1 a) (hD : H1 D = none) (hn : l.length ≤ 100000) (hI : ∀ k ws, I k ws → ws.length = k)
    (hte : ∀ (k c : Nat) (ws : List (List Nat)) (H3 : Hp) (Qv : VK), l[k]? = some c → I k ws → Dr H3 a → Keep a H1 H3 → (∀ w H4, I (k + 1) (ws ++ [w]) → Dr H4 a → Keep a H3 H4 → Qv (.str (S w)) H4) → te ((wipe σ [i]).set i (some (.str (S [c])))) H3 Qv)
    (hd : ∀ ws H', I l.length ws → Dr H' a → Keep a H1 H' → H' D = some (.lst (ws.map fun p => V.str (S p))) → Qd H') :
    ∃ W : Nat → Nat → Hp → Prop, (∃ m, W 0 m (upd H1 D (.lst []))) ∧ ∀ k m H, W k m H →
      ((Its (S l)).stop k H ∧ Qd H) ∨ ((Its (S l)).go k H ∧ ∃ Nx : Hp → Prop, (∀ H', Nx H' → ∃ m', m' < m ∧ W (k + 1) m' H') ∧ ∀ x H', (Its (S l)).yld k H x H' → gName i x (wipe σ [i]) H' fun σ2 H2 => wipe σ2 [i] = wipe σ [i] ∧ tYes σ2 H2 fun b H3 =>
        if b = true then te σ2 H3 fun y H4 => ∃ acc, H4 D = some (.lst acc) ∧ acc.length < sizeLine ∧ Nx (upd H4 D (.lst (acc ++ [y]))) else Nx H3) := by
  have hDa : D ≠ a := (hS.ne hD).symm
  refine lc_it walk_S (fun k H => ∃ ws, I k ws ∧ Dr H a ∧ Keep a H1 H ∧ H D = some (.lst (ws.map fun p => V.str (S p)))) ⟨[], h0, hS.upd hD, keep_new hD, upd_same⟩ (fun _ _ _ _ => trivial) ?_ ?_
  · rintro k x H H' hk ⟨ws, h1, h3, h4, h5⟩ ⟨rfl, c, hc, rfl⟩
    simp only [gName, tYes, ↓reduceIte]
    refine ⟨wipe1 σ i _, ?_⟩
    have hl := hI k ws h1
    refine hte k c ws _ _ hc h1 h3 h4 fun w H4 hy s4 k4 => ⟨_, k4 _ _ h5 hDa, sz' (by rw [List.length_map]; omega), ws ++ [w], hy, s4.upd_ne hDa.symm, Keep.upd_free (h4.trans k4) hD, ?_⟩
    rw [upd_same, List.map_append]
    rfl
  · rintro H ⟨ws, h1, h3, h4, h5⟩
    exact hd ws H h1 h3 h4 h5
theorem lc_drawL {K : PySem.W.Frag} {a b D : Addr} {xs : List V} {i : Nat} {σ : L2.St} {H1 : Hp} {te : TE} {Qd : Hp → Prop} (I : Nat → List V → Prop) (h0 : I 0 []) (hS : Dr H1 a) (hxs : H1 b = some (.lst xs)) (hD : H1 D = none) (hba : b ≠ a) (hn : xs.length ≤ 100000) (hI : ∀ k ws, I k ws → ws.length = k)
    (hte : ∀ (k : Nat) (x : V) (ws : List V) (H3 : Hp) (Qv : VK), xs[k]? = some x → I k ws → Dr H3 a → Keep a H1 H3 → (∀ y H4, I (k + 1) (ws ++ [y]) → Dr H4 a → Keep a H3 H4 → Qv y H4) → te ((wipe σ [i]).set i (some x)) H3 Qv)
    (hd : ∀ ws H', I xs.length ws → Dr H' a → Keep a H1 H' → H' D = some (.lst ws) → Qd H') :
    ∃ W : Nat → Nat → Hp → Prop, (∃ m, W 0 m (upd H1 D (.lst []))) ∧ ∀ k m H, W k m H →
      ((Itl K b).stop k H ∧ Qd H) ∨ ((Itl K b).go k H ∧ ∃ Nx : Hp → Prop, (∀ H', Nx H' → ∃ m', m' < m ∧ W (k + 1) m' H') ∧ ∀ x H', (Itl K b).yld k H x H' → gName i x (wipe σ [i]) H' fun σ2 H2 => wipe σ2 [i] = wipe σ [i] ∧ tYes σ2 H2 fun b H3 =>
        if b = true then te σ2 H3 fun y H4 => ∃ acc, H4 D = some (.lst acc) ∧ acc.length < sizeLine ∧ Nx (upd H4 D (.lst (acc ++ [y]))) else Nx H3) := by
  have hDa : D ≠ a := (hS.ne hD).symm
  refine lc_it (walk_list (xs := xs)) (fun k H => ∃ ws, I k ws ∧ Dr H a ∧ Keep a H1 H ∧ H D = some (.lst ws)) ⟨[], h0, hS.upd hD, keep_new hD, upd_same⟩ (fun k H _ ⟨_, _, _, h4, _⟩ => SqL.of (h4 _ _ hxs hba)) ?_ ?_
  · rintro k x H H' hk ⟨ws, h1, h3, h4, h5⟩ ⟨rfl, hx⟩
    simp only [gName, tYes, ↓reduceIte]
    refine ⟨wipe1 σ i _, ?_⟩
    have hl := hI k ws h1
    refine hte k x ws _ _ hx h1 h3 h4 fun y H4 hy s4 k4 => ⟨_, k4 _ _ h5 hDa, sz' (by omega), ws ++ [y], hy, s4.upd_ne hDa.symm, Keep.upd_free (h4.trans k4) hD, upd_same⟩
  · rintro H ⟨ws, h1, h3, h4, h5⟩
    exact hd ws H h1 h3 h4 h5
end Nm

/-! Plain names (small letters, figures, strokes between segments), families; slices, counts, last strokes of texts. -/
namespace Nm
open PySem PySem.Spec PyProof.Rows L2 TL
def isPl (c : Nat) : Bool := isAl c || c == 47
/-- need: a segment begins and has no sign yet -/
def walk : Bool → List Nat → Option Bool
  | n, [] => some n
  | n, c :: r => if c = 47 then (if n = true then none else walk true r) else walk false r
theorem walk_cons (n : Bool) (c : Nat) (r : List Nat) : walk n (c :: r) = if c = 47 then (if n = true then none else walk true r) else walk false r := by
  conv => lhs; unfold walk
theorem walk_app : ∀ (n : Bool) (a b : List Nat), walk n (a ++ b) = (walk n a).bind fun m => walk m b
  | n, [], b => rfl
  | n, c :: a, b => by
    rw [List.cons_append, walk_cons, walk_cons]
    by_cases h : c = 47
    · rw [if_pos h, if_pos h]
      cases n with
      | true => rfl
      | false =>
        rw [if_neg Bool.false_ne_true, if_neg Bool.false_ne_true]
        exact walk_app true a b
    · rw [if_neg h, if_neg h]
      exact walk_app false a b
theorem walk_take {n b : Bool} {l : List Nat} (h : walk n l = some b) (k : Nat) : ∃ b', walk n (l.take k) = some b' := by
  rw [← List.take_append_drop k l, walk_app] at h
  cases e : walk n (l.take k) with
  | none => rw [e] at h; cases h
  | some b' => exact ⟨b', rfl⟩
theorem walk_plain : ∀ {n : Bool} {l : List Nat}, 47 ∉ l → walk n l = some (n && l.isEmpty)
  | n, [], _ => by simp [walk]
  | n, c :: l, h => by
    have hc : c ≠ 47 := fun e => h (by rw [e]; simp)
    unfold walk
    rw [if_neg hc, walk_plain (fun q => h (List.mem_cons_of_mem _ q))]
    simp
theorem walk_last {n b : Bool} {l : List Nat} {c : Nat} (h : walk n (l ++ [c]) = some b) (hc : c ≠ 47) : b = false := by
  rw [walk_app] at h
  cases e : walk n l with
  | none => rw [e] at h; cases h
  | some m =>
    rw [e] at h
    have h' : walk m [c] = some b := h
    unfold walk at h'
    rw [if_neg hc] at h'
    exact (Option.some.inj h').symm
theorem walk_stroke {n b : Bool} {l : List Nat} (h : walk n (l ++ [47]) = some b) : walk n l = some false := by
  rw [walk_app] at h
  cases e : walk n l with
  | none => rw [e] at h; cases h
  | some m =>
    rw [e] at h
    have h' : walk m [47] = some b := h
    unfold walk at h'
    rw [if_pos rfl] at h'
    cases m with
    | false => rfl
    | true => cases h'
theorem walk_cuts (l : List Nat) : (walk true l == some false) = (cuts l).all fun p => !p.isEmpty := by
  refine cuts_ind (P := fun l => (walk true l == some false) = (cuts l).all fun p => !p.isEmpty) (fun p h => ?_) (fun p r h ih => ?_) l.length l (Nat.le_refl _)
  · rw [cuts_last h, walk_plain h]
    cases p <;> rfl
  · rw [cuts_part h, walk_app, walk_plain h, List.all_cons, ← ih]
    show (((some (true && p.isEmpty)).bind fun m => walk m (47 :: r)) == some false) = _
    cases p with
    | nil => rfl
    | cons a q =>
      show (walk false (47 :: r) == some false) = _
      have e : walk false (47 :: r) = walk true r := by
        conv => lhs; unfold walk
        rw [if_pos rfl, if_neg Bool.false_ne_true]
      rw [e]
      rfl
theorem cuts_count (l : List Nat) : (cuts l).length = l.count 47 + 1 := by
  refine cuts_ind (P := fun l => (cuts l).length = l.count 47 + 1) (fun p h => ?_) (fun p r h ih => ?_) l.length l (Nat.le_refl _)
  · rw [cuts_last h, List.count_eq_zero.mpr h]
    rfl
  · rw [cuts_part h, List.length_cons, ih, List.count_append, List.count_cons_self, List.count_eq_zero.mpr h]
    omega
structure PN (d : List Nat) : Prop where
  pl : d.all isPl = true
  wk : walk true d = some false
  ct : d.count 47 ≤ 3
  ln : d.length ≤ 24
theorem al_low {c : Nat} (h : isAl c = true) : lowc c = c ∧ isGap c = false := by
  unfold isAl at h
  simp only [Bool.or_eq_true, Bool.and_eq_true, decide_eq_true_eq] at h
  refine ⟨?_, ?_⟩
  · rcases low_cases c with ⟨k1, k2, k3⟩ | ⟨k1, k3⟩ <;> omega
  · cases q : isGap c with
    | false => rfl
    | true =>
      have := gap_iff.mp q
      omega
theorem pl_okS {c : Nat} (h : isPl c = true) : okS c = true := by
  unfold isPl at h
  unfold okS okc
  rw [Bool.or_eq_true] at h
  rcases h with h | h
  · rw [(al_low h).1, h, Bool.or_true, Bool.true_or]
  · rw [h, Bool.or_true]
theorem seg_al : ∀ (p : List Nat) (o : List Nat), p.all isAl = true → p.foldl segStep (o, false) = (o ++ p, false)
  | [], o, _ => by simp
  | c :: p, o, h => by
    rw [List.all_cons, Bool.and_eq_true] at h
    rw [List.foldl_cons, step_no (al_low h.1).2, (al_low h.1).1]
    show p.foldl segStep (o ++ [] ++ [c], false) = _
    rw [List.append_nil, seg_al p (o ++ [c]) h.2]
    simp
theorem pl_cuts {d : List Nat} (h : d.all isPl = true) : ∀ p ∈ cuts d, p.all isAl = true := by
  have e := all_cuts isAl d
  rcases e with e | e
  · have h' : d.all (fun c => isAl c || c == 47) = true := h
    rw [e, List.all_eq_true] at h'
    exact h'
  · exact absurd e (by decide)
theorem joinL_cuts (l : List Nat) : joinL [47] (cuts l) = l := by
  refine cuts_ind (P := fun l => joinL [47] (cuts l) = l) (fun p h => ?_) (fun p r h ih => ?_) l.length l (Nat.le_refl _)
  · rw [cuts_last h, joinL_one]
  · rw [cuts_part h, joinL_cons (cuts_ne r), ih]
    rfl
theorem nm_pl {d : List Nat} (h : d.all isPl = true) : nm d = d := by
  unfold nm
  have e : (cuts d).map seg = cuts d := by
    conv => rhs; rw [← List.map_id (cuts d)]
    refine List.map_congr_left fun p hp => ?_
    have := seg_al p [] (pl_cuts h p hp)
    show (p.foldl segStep ([], false)).1 = p
    rw [this]
    simp
  rw [e, joinL_cuts]
theorem pl_name {d : List Nat} (h : d.all isPl = true) (hw : walk true d = some false) : nameOf d = if d.count 47 ≤ 3 ∧ d.length ≤ 24 then some d else none := by
  have ok : d.all okS = true := by
    rw [List.all_eq_true] at h ⊢
    exact fun c hc => pl_okS (h c hc)
  unfold nameOf nameB
  rw [ok, Bool.true_and, nm_pl h]
  unfold bnd
  rw [← walk_cuts, hw, cuts_count]
  by_cases c : d.count 47 ≤ 3 ∧ d.length ≤ 24
  · rw [if_pos c, decide_eq_true (by omega), decide_eq_true (by omega)]
    rfl
  · rw [if_neg c]
    by_cases c1 : d.count 47 + 1 ≤ 4
    · rw [decide_eq_true c1, decide_eq_false (fun z => c ⟨by omega, z⟩)]
      rfl
    · rw [decide_eq_false c1]
      rfl
theorem PN.name {d : List Nat} (h : PN d) : nameOf d = some d := by rw [pl_name h.pl h.wk, if_pos ⟨h.ct, h.ln⟩]
theorem PN.ne {d : List Nat} (h : PN d) : d ≠ [] := fun e => by
  have := h.wk
  rw [e] at this
  cases this
theorem all_take {f : Nat → Bool} {l : List Nat} (k : Nat) (h : l.all f = true) : (l.take k).all f = true := by
  rw [List.all_eq_true] at h ⊢
  exact fun c hc => h c (List.mem_of_mem_take hc)
theorem count_take (l : List Nat) (k : Nat) : (l.take k).count 47 ≤ l.count 47 := (List.take_sublist k l).count_le 47
/-- a part of a plain name up to a place ahead of a stroke -/
theorem PN.before {d : List Nat} (h : PN d) {i : Nat} (hi : d[i]? = some 47) : PN (d.take i) := by
  refine ⟨all_take i h.pl, ?_, Nat.le_trans (count_take d i) h.ct, by rw [List.length_take]; have := h.ln; omega⟩
  obtain ⟨b, e⟩ := walk_take h.wk (i + 1)
  rw [List.take_add_one, hi] at e
  exact walk_stroke e
/-- a plain name whose last strokes are cut off -/
theorem PN.stripped {d : List Nat} {b : Bool} (pl : d.all isPl = true) (wk : walk true d = some b) (ne : d ≠ []) (ct : d.count 47 ≤ 3) (ln : d.length ≤ 24) {k : Nat} (hk : k ≤ d.length)
    (h1 : ∀ j, k ≤ j → j < d.length → d[j]? = some 47) (h2 : k = 0 ∨ ∃ c, d[k - 1]? = some c ∧ c ≠ 47) : PN (d.take k) := by
  refine ⟨all_take k pl, ?_, Nat.le_trans (count_take d k) ct, by rw [List.length_take]; omega⟩
  obtain ⟨b', e⟩ := walk_take wk k
  rcases h2 with h2 | ⟨c, hc, hc47⟩
  · subst h2
    have hd : 0 < d.length := List.length_pos_iff.mpr ne
    have := h1 0 (Nat.le_refl _) hd
    cases d with
    | nil => exact absurd rfl ne
    | cons x r =>
      have ex : x = 47 := Option.some.inj this
      subst ex
      unfold walk at wk
      rw [if_pos rfl, if_pos rfl] at wk
      cases wk
  · have hk0 : 0 < k := by
      cases k with
      | zero =>
        have hc' : d[0]? = some c := hc
        have hd : 0 < d.length := List.length_pos_iff.mpr ne
        have := h1 0 (Nat.le_refl _) hd
        rw [hc'] at this
        exact absurd (Option.some.inj this) hc47
      | succ k => exact Nat.succ_pos k
    obtain ⟨m, rfl⟩ : ∃ m, k = m + 1 := ⟨k - 1, by omega⟩
    rw [Nat.add_sub_cancel] at hc
    rw [List.take_add_one, hc] at e ⊢
    have := walk_last (c := c) (l := d.take m) e hc47
    rw [e, this]
/-! ### families -/
def fam (n s : List Nat) : Bool := pre (s ++ [47]) (n ++ [47])
theorem pre_iff {s l : List Nat} : pre s l = true ↔ ∃ r, l = s ++ r := by
  unfold pre
  rw [beq_iff_eq]
  constructor
  · intro h
    exact ⟨l.drop s.length, by conv => lhs; rw [← List.take_append_drop s.length l, h]⟩
  · rintro ⟨r, rfl⟩
    exact List.take_left
theorem fam_iff {n s : List Nat} : fam n s = true ↔ n = s ∨ ∃ r, n = s ++ 47 :: r := by
  unfold fam
  rw [pre_iff]
  constructor
  · rintro ⟨r, h⟩
    rcases List.eq_nil_or_concat r with rfl | ⟨r', x, rfl⟩
    · left
      rw [List.append_nil] at h
      exact List.append_cancel_right h
    · right
      rw [List.concat_eq_append, ← List.append_assoc] at h
      obtain ⟨h1, h2⟩ := List.append_inj' h rfl
      exact ⟨r', by rw [h1]; simp⟩
  · rintro (rfl | ⟨r, rfl⟩)
    · exact ⟨[], by simp⟩
    · exact ⟨r ++ [47], by simp⟩
theorem fam_or (n s : List Nat) : (decide (n = s) || pre (s ++ [47]) n) = fam n s := by
  rw [Bool.eq_iff_iff, Bool.or_eq_true, decide_eq_true_eq, pre_iff, fam_iff]
  constructor
  · rintro (h | ⟨r, h⟩)
    · exact .inl h
    · exact .inr ⟨r, by rw [h]; simp⟩
  · rintro (h | ⟨r, h⟩)
    · exact .inl h
    · exact .inr ⟨r, by rw [h]; simp⟩
/-- moved: the rest of a family's name behind the stem -/
theorem moved_wk {n s w : List Nat} (hn : PN n) (hs : PN s) (hw : PN w) (hf : fam n s = true) : (w ++ n.drop s.length).all isPl = true ∧ walk true (w ++ n.drop s.length) = some false := by
  have a1 : (n.drop s.length).all isPl = true := by
    have := hn.pl
    rw [List.all_eq_true] at this ⊢
    exact fun c hc => this c (List.mem_of_mem_drop hc)
  refine ⟨by rw [List.all_append, hw.pl, a1]; rfl, ?_⟩
  rw [walk_app, hw.wk]
  show walk false (n.drop s.length) = some false
  rcases fam_iff.mp hf with rfl | ⟨r, rfl⟩
  · rw [List.drop_length]
    rfl
  · have := hn.wk
    rw [walk_app, hs.wk] at this
    rw [List.drop_left]
    exact this
/-! ### texts -/
theorem starts_S (a b : List Nat) : Txt.startswith (S a) (S b) = pre b a := by
  unfold Txt.startswith
  rw [Nat.zero_add, StrLaws.subAt_eq, len_S, len_S]
  show (decide (b.length ≤ a.length) && ((a.drop 0).take b.length == b)) = pre b a
  rw [List.drop_zero]
  unfold pre
  by_cases h : a.take b.length = b
  · have hl : b.length ≤ a.length := by
      have := congrArg List.length h
      rw [List.length_take] at this
      omega
    rw [decide_eq_true hl, Bool.true_and]
  · have : (a.take b.length == b) = false := beq_eq_false_iff_ne.mpr h
    rw [this, Bool.and_false]
theorem parts_len (x : Str) (w : Nat) : ∀ (cs : List Nat) (a : Nat), (StrLaws.partsFrom x w a cs).length = cs.length + 1
  | [], _ => rfl
  | c :: r, a => by
    show (StrLaws.partsFrom x w (c + w) r).length + 1 = _
    rw [parts_len x w r]
    rfl
theorem count_S (a : List Nat) (c : Nat) : Txt.count (S a) (S [c]) = (((spl [c] 0 [] a).length - 1 : Nat) : Int) := by
  unfold Txt.count
  have hy : tl (S [c]) ≠ [] := by show [c] ≠ []; simp
  obtain ⟨f, g, hn⟩ := StrLaws.occ_tight (S a) (S [c]) (by rw [len_S]; simp)
  have key := parts_spl hy _ 0 f (Nat.zero_le _) g hn
  have := congrArg List.length key
  rw [List.length_map, parts_len] at this
  have e : (spl (tl (S [c])) 0 [] ((tl (S a)).drop 0)).length = (spl [c] 0 [] a).length := rfl
  rw [e] at this
  congr 1
  omega
theorem cut_to (l : List Nat) (k : Nat) : cutS (S l) none (some (k : Int)) = S (l.take k) := by
  unfold cutS
  rw [HT.sIx_none, HT.sIx_nat, len_S, Nat.sub_zero]
  show S ((l.drop 0).take (min k l.length)) = S (l.take k)
  rw [List.drop_zero, ← List.take_eq_take_min]
theorem cut_from (l : List Nat) (k : Nat) : cutS (S l) (some (k : Int)) none = S (l.drop k) := by
  unfold cutS
  rw [HT.sIx_none, HT.sIx_nat, len_S]
  show S ((l.drop (min k l.length)).take (l.length - min k l.length)) = S (l.drop k)
  congr 1
  by_cases h : k ≤ l.length
  · rw [Nat.min_eq_left h]
    exact List.take_of_length_le (by rw [List.length_drop]; exact Nat.le_refl _)
  · rw [Nat.min_eq_right (by omega), List.drop_length, List.drop_eq_nil_of_le (by omega), List.take_nil]
theorem cutV_to (xs : List V) (k : Nat) : cutV xs none (some (k : Int)) = xs.take k := by
  unfold cutV
  rw [HT.sIx_none, HT.sIx_nat, Nat.sub_zero, List.drop_zero, ← List.take_eq_take_min]
theorem rstrip_S (l : List Nat) : ∃ k, Txt.rstripChars (S l) (S [47]) = S (l.take k) ∧ k ≤ l.length ∧ (∀ j, k ≤ j → j < l.length → l[j]? = some 47) ∧ (k = 0 ∨ ∃ c, l[k - 1]? = some c ∧ c ≠ 47) := by
  have e := stripBy_eq (S [47]).cps.contains false true (S l)
  have hf := hi_facts (S [47]).cps.contains (S l) 0 (Nat.zero_le _)
  have elo : stripLo (S [47]).cps.contains false (S l) = 0 := by simp [stripLo]
  rw [elo] at e
  obtain ⟨h0, h1, h2, h3⟩ := hf
  generalize stripHi (S [47]).cps.contains true (S l) 0 = k at *
  rw [len_S] at h1
  have hg : ∀ j, (S l).cps.getD j 0 = l.getD j 0 := fun j => (getD_list (S l) j).symm
  have hc : ∀ c : Nat, (S [47]).cps.contains c = (c == 47) := fun c => by
    simp [S, Array.contains, BEq.comm]
  refine ⟨k, ?_, h1, fun j hj hl => ?_, ?_⟩
  · show Txt.stripBy (S [47]).cps.contains false true (S l) = _
    rw [e]
    refine ext_tl ?_
    rw [tl_strSub]
    show ((l.drop 0).take (k - 0)) = l.take k
    rw [List.drop_zero, Nat.sub_zero]
  · have := h2 j hj (by rw [len_S]; exact hl)
    rw [hg, hc, beq_iff_eq] at this
    rw [List.getElem?_eq_getElem hl]
    rw [List.getD_eq_getElem?_getD, List.getElem?_eq_getElem hl] at this
    rw [show l[j] = 47 from this]
  · rcases h3 with h3 | h3
    · exact .inl h3
    · by_cases hk : k = 0
      · exact .inl hk
      · refine .inr ⟨l[k - 1]'(by omega), List.getElem?_eq_getElem (by omega), fun z => ?_⟩
        rw [hg, hc, List.getD_eq_getElem?_getD, List.getElem?_eq_getElem (show k - 1 < l.length by omega)] at h3
        have h3' : (l[k - 1]'(by omega) == 47) = false := h3
        rw [z] at h3'
        cases h3'
/-- cut at the last stroke -/
theorem rpart_S {l : List Nat} (h : 47 ∈ l) : ∃ i, (Txt.rpartition (S l) (S [47])).1 = S (l.take i) ∧ l[i]? = some 47 := by
  unfold Txt.rpartition
  have hy : tl (S [47]) ≠ [] := by show [47] ≠ []; simp
  rcases StrLaws.last_spec (S l) (S [47]) with ⟨h1, h2⟩ | ⟨i, h1, h2, _⟩
  · obtain ⟨j, hj, e⟩ := List.mem_iff_getElem.mp h
    have := (not_congr (at_iff hy j)).mp (h2 j)
    refine absurd ?_ this
    show pre [47] (l.drop j) = true
    rw [List.drop_eq_getElem_cons hj, e]
    exact pre1_hit 47 _
  · rw [h1]
    have h3 := (at_iff hy i).mp h2
    have h3' : pre [47] (l.drop i) = true := h3
    obtain ⟨r, hr⟩ := pre_iff.mp h3'
    refine ⟨i, ?_, ?_⟩
    · refine ext_tl ?_
      rw [tl_strSub]
      show (l.drop 0).take (i - 0) = l.take i
      rw [List.drop_zero, Nat.sub_zero]
    · have : (l.drop i)[0]? = some 47 := by rw [hr]; rfl
      rw [List.getElem?_drop] at this
      exact this
section
variable {X : Cx}
/-- x.rpartition(sep) -/
theorem mt_rpartition : MtR X "str.rpartition" (fun x xs H Q => ∃ a b, x = .str a ∧ xs = [.str b] ∧ (b.length == 0) = false ∧ a.length ≤ sizeLine ∧
    ∀ p, H p = none → Q (.ref p) (upd H p (.tup [.str (Txt.rpartition a b).1, .str (Txt.rpartition a b).2.1, .str (Txt.rpartition a b).2.2]))) := by
  intro pins s σ H x xs v us Q I rx rs h
  obtain ⟨a, b, rfl, rfl, hb, hz, h⟩ := h
  obtain ⟨t, rfl⟩ := rx
  cases rs with
  | cons r1 rs =>
    cases rs
    obtain ⟨u, rfl⟩ := r1
    refine call_meets PySem.F.slot_str_rpartition (typeIs_str _ _ _) PySem.F.entry_str_rpartition (PySem.F.args_str_rpartition_2 _ _) (meets_str_rpartition a b t u hb hz) ?_
    unfold Txt.rpartition at h
    revert h
    cases Builtin.Str.lastOccurrence a b 0 a.length with
    | none => intro h; exact laid_parts I h
    | some i => intro h; exact laid_parts I h
end
end Nm

/-! Lambdas handed to a def, tables of code objects under draws; the head's facts. -/
namespace Nm
open PySem PySem.Spec PyProof.Rows L2 TL
theorem tabs_keep {T : List (Addr × Str)} {a : Addr} {H H' : Hp} (t : LamX.Tabs T H) (d : Dr H a) (k : Keep a H H') : LamX.Tabs T H' := fun p hp => by
  obtain ⟨ps, h1, h2, h3⟩ := t p hp
  obtain ⟨x, y, z, e, _⟩ := d
  have ne : ∀ (b : Addr) (o : HO), H b = some o → (∀ xs, o ≠ .lst xs) → b ≠ a := fun b o hb no z => by
    rw [z, e] at hb
    exact no _ (Option.some.inj hb).symm
  refine ⟨ps, k _ _ h1 (ne _ _ h1 fun xs z => by cases z), h2, fun pos cv hc => ?_⟩
  obtain ⟨c, e1, e2⟩ := h3 pos cv hc
  exact ⟨c, e1, k _ _ e2 (ne _ _ e2 fun xs z => by unfold LamX.CodeO at z; cases z)⟩
theorem tabs_same {T : List (Addr × Str)} {H H' : Hp} (t : LamX.Tabs T H) (s : Same H H') : LamX.Tabs T H' := t.ext s
theorem ext_lst {H H' : Hp} (e : LamX.ExtN H H') {b : Addr} {xs : List V} (h : H b = some (.lst xs)) : H' b = some (.lst xs) := e _ _ h fun ps z => by cases z
theorem ext_dr {H H' : Hp} (e : LamX.ExtN H H') {a : Addr} (h : Dr H a) : Dr H' a := by
  obtain ⟨x, y, z, h1, h2⟩ := h
  exact ⟨x, y, z, ext_lst e h1, h2⟩
theorem codeO_keep {c p : Addr} {q : Str} {H : Hp} {o : HO} (h : H c = some (LamX.CodeO c q)) (hp : H p = none) : upd H p o c = some (LamX.CodeO c q) := by
  rw [upd_ne (ne_of_none h hp)]
  exact h
/-- a block read by one of several readings -/
theorem pss_ex {X : Cx} {ι : Type} {b : List Stmt} {c : ι → Prop} {t : ι → TS} (h : ∀ i, c i → PSs X b (t i)) : PSs X b (fun D σ H => ∃ i, c i ∧ t i D σ H) := ⟨fun pins s σ H D I q => by
  obtain ⟨i, hi, q⟩ := q
  exact (h i hi).run pins s σ H D I q⟩
/-- a block's reading may lean on how many slots there are -/
theorem pss_len {X : Cx} {b : List Stmt} {t : TS} {n : Nat} (hn : X.N.length = n) (h : PSs X b t) : PSs X b (fun D σ H => σ.length = n → t D σ H) := ⟨fun pins s σ H D I q => h.run pins s σ H D I (q (by rw [← hn]; exact I.len))⟩
/-- int(..) as it is read -/
def rInt1 : List V → Hp → VK → Prop := fun xs H Q => (∃ i, xs = [.int i] ∧ Q (.int i) H) ∨ ∃ k, xs = [.bl k] ∧ Q (.int (if k then 1 else 0)) H
/-! ### the head's facts -/
theorem fun_of {K : PySem.W.Frag} {x : Str} {st : Stmt} {f : Addr} {fd : FuncData} (F : FunD K x x (defArgs st) (defBody st) (defScope st) [] [] f fd) : Fun K x x st f fd := by
  obtain ⟨oc, od, dV, kV, doc, pm, an, cdv, ct, osl, rfl, lk, hcd, hd, hk⟩ := F.ex
  rcases hd with ⟨_, rfl⟩ | ⟨h, _⟩
  · exact ⟨⟨oc, od, kV, doc, pm, an, cdv, ct, osl, rfl, lk, hcd⟩, F.kp⟩
  · exact absurd rfl h
/-- a def of the top as a datum -/
def dd (x : Str) (st : Stmt) : He.DefD := ⟨(x, none), x, x, defArgs st, defBody st, defScope st, [], []⟩
theorem fun_at {K : PySem.W.Frag} {h : Heap} {mg : Str → Option Value} {fa : List He.Fa} {fn : List He.DefD} {x : Str} {st : Stmt} {ps : List Str} (X : K.In h) (G : h.Ns mainGlobals mg) (c : He.SaysD fa fn K) (i j : Nat) (hi : fn[i]? = some (dd x st)) (hj : fa[j]? = some (.glo x))
    (hb : ∀ (kV doc pm : Value) (an : Option Addr) (cdv ct : Value) (us : List Value), us.length = ps.length → bindArgs (PySem.W.fnOf x x (defArgs st) (defBody st) (defScope st) .none kV doc pm an cdv ct) ⟨us, []⟩ = pure (ps.zip us)) : FunAt K mg x st ps := by
  obtain ⟨fd, F⟩ := c.def_ i hi
  have F' : Fun K x x st (He.ga K x) fd := fun_of F
  exact ⟨_, fd, F', He.glo_ok X G (c.fact j hj), F'.binds hb⟩
theorem err_at {K : PySem.W.Frag} {h : Heap} {mg : Str → Option Value} {fa : List He.Fa} {fn : List He.DefD} {x : Str} (X : K.In h) (G : h.Ns mainGlobals mg) (c : He.SaysD fa fn K) (i j m : Nat) (hi : fa[i]? = some (.glo x)) (hj : fa[j]? = some (.exc x)) (hm : fa[m]? = some (.exm x x true)) : ErrAt K mg x (He.ga K x) := by
  obtain ⟨q1, q2, q3, q4⟩ := He.exc_ok (c.fact j hj)
  exact ⟨He.glo_ok X G (c.fact i hi), q1, q2, q3, q4, He.exm_ok (c.fact m hm)⟩
/-- isinstance of errors of the class x: what is told of it by one Bool -/
def excCB (K : PySem.W.Frag) (x : Str) : Bool :=
  He.eqO (PySem.W.findIn K (.ref (He.ga K x)) "__getattribute__") (some (some (.builtin "BaseException.__getattribute__"))) && (He.eqO (PySem.W.findIn K (.ref (He.ga K x)) "__getattr__") (some none) &&
    (decide (PySem.W.subIn K (.ref (He.ga K x)) (.type "BaseException") = some true) && (PySem.W.hasDictIn K (He.ga K x) && (He.eqO (PySem.W.findIn K (.ref (He.ga K x)) "__class__") (some (some (.builtin "object.__class__"))) &&
      (He.eqO (PySem.W.specialIn K (.builtin "object.__class__") "__get__") (some (some (.builtin "getset_descriptor.__get__"))) && (decide (PySem.W.takesIn K (.builtin "object.__class__") = some true) && decide (PySem.W.mroIn K (He.ga K x) (.type "object") = some true)))))))
theorem excC_of {K : PySem.W.Frag} {x : Str} (h : excCB K x = true) : ExcC K (He.ga K x) := by
  unfold excCB at h
  simp only [Bool.and_eq_true, decide_eq_true_eq] at h
  obtain ⟨h1, h2, h3, h4, h5, h6, h7, h8⟩ := h
  exact ⟨He.eqO_ok h1, He.eqO_ok h2, h3, h4, He.eqO_ok h5, He.eqO_ok h6, h7, h8⟩
def kitB (K : PySem.W.Frag) (x y : Str) (b : Bool) : Bool := decide (PySem.W.kitOne K (.ref (He.ga K x)) (.ref (He.ga K y)) = some b)
theorem kit_of {K : PySem.W.Frag} {x y : Str} {b : Bool} (h : kitB K x y b = true) : PySem.W.kitOne K (.ref (He.ga K x)) (.ref (He.ga K y)) = some b := of_decide_eq_true h
end Nm

namespace Ld
open PySem PySem.Spec PyProof.Rows L2 TL Nm
def topS (i : Nat) : Stmt := PySem.Challenge.pw_signsleft_k03_families.main.body.getD i (.Pass ⟨0, 0, 0, 0⟩)
abbrev c_SIGNS : V := .str (Str.ofString "abcdefghijklmnopqrstuvwxyzABCDEFGHIJKLMNOPQRSTUVWXYZ0123456789 _-/")
abbrev c_MOST_SEGMENTS : V := .int 4
abbrev c_MOST_SIGNS : V := .int 24
section
variable {P : Program} {w : World} {K : PySem.W.Frag} {mg : Str → Option Value} {base : Heap}
abbrev s_has_only_signs : Stmt := topS 11
abbrev N_has_only_signs : List Str := ["text", "sign"]
theorem sc_has_only_signs : FnScope N_has_only_signs ["text"] (defScope s_has_only_signs) := ⟨rfl, rfl, rfl, by decide +kernel, rfl, by decide +kernel, by decide +kernel⟩
theorem st_has_only_signs (v0 : V) : L2.start N_has_only_signs [v0] = [some v0, none] := rfl
theorem signs_mem0 (c : Nat) : decide (c ∈ (Str.ofString "abcdefghijklmnopqrstuvwxyzABCDEFGHIJKLMNOPQRSTUVWXYZ0123456789 _-/").cps.toList) = okS c := by
  by_cases h : c < 128
  · revert c
    decide +kernel
  · have e : okS c = false := by
      cases q : okS c with
      | false => rfl
      | true => exact absurd (ok_asc q) h
    rw [e]
    refine decide_eq_false fun hm => ?_
    have : ∀ x ∈ (Str.ofString "abcdefghijklmnopqrstuvwxyzABCDEFGHIJKLMNOPQRSTUVWXYZ0123456789 _-/").cps.toList, x < 128 := by decide +kernel
    exact h (this c hm)
theorem signs_mem (c : Nat) : (c ∈ (Str.ofString "abcdefghijklmnopqrstuvwxyzABCDEFGHIJKLMNOPQRSTUVWXYZ0123456789 _-/").cps.toList) = (okS c = true) := by
  rw [← signs_mem0 c, decide_eq_true_eq]
def spOnly : Sp := fun vs H Q _ => ∃ l, vs = [.str (S l)] ∧ Q (.bl (l.all okS)) H
theorem ok_only (F : FunAt K mg "has_only_signs" s_has_only_signs ["text"]) (gS : ∃ t, mg "SIGNS" = some (.str (Str.ofString "abcdefghijklmnopqrstuvwxyzABCDEFGHIJKLMNOPQRSTUVWXYZ0123456789 _-/") t)) : Cal P w K mg base CX0 "has_only_signs" ["text"] 1 spOnly := by
  obtain ⟨f, fd, F, g, b⟩ := F
  obtain ⟨t, g_SIGNS⟩ := gS
  refine ⟨f, fd, F.ok sc_has_only_signs (fun vs H Q E h => ?_) (fun cdv A outer s H vs Q E hr h => ?_), g, F.kp, b⟩
  · obtain ⟨l, rfl, _⟩ := h
    rfl
  · obtain ⟨l, rfl, q⟩ := h
    refine ⟨_, (pss_cons (ps_for PassesOwn.never (by rfl) (pi_str (pv 0)) (pg_name (i := 1) sc_has_only_signs.nd rfl (Or.inl rfl)) (pss_one (ps_if (pt_cmpR op_notIn_sign (pv 1) (pe_glob (v := c_SIGNS) (by rfl) g_SIGNS ⟨_, rfl⟩) (by rfl)) (pss_one (ps_ret pe_bl)) pss_nil)))
      (pss_one (ps_ret pe_bl))), ?_⟩
    refine ⟨_, rfl, S l, rfl, for_it walk_S (fun i σ H' => H' = H ∧ ∃ y, σ = [some (.str (S l)), y] ∧ (l.take i).all okS = true) ⟨rfl, none, rfl, rfl⟩ (fun _ _ _ _ _ => trivial) ?_ ?_⟩
    · rintro i x σ H1 H2 hi ⟨rfl, y, rfl, hall⟩ ⟨rfl, c, hc, rfl⟩
      simp only [tSeq, tAsg, tIfS, tRet, tRetN, tDrop, tVar, tC, tCons, tNil, tOp, tUn, tTest, tB, tAnd, tOr, tNot, tAndV, tOrV, tNotV, tIf, tNext, tBreak, tCont, gName, gSub, gCons, gNil, rI0, rI, rU, rEq, rNe, rIn, rIxL, rIxS, rSetL, rIsB, rNotB, rCatS, tLst, tTup, tCall, tCallS, tCB, tM0, tM1, rNewStrs, tYes, rSlL, tSl, tNoPart, tPart, WE, List.getElem?_cons_zero, List.getElem?_cons_succ, List.set_cons_zero, List.set_cons_succ, Option.some.injEq, V.int.injEq, V.str.injEq, V.bl.injEq, V.ref.injEq, List.cons.injEq, and_true, true_and, exists_and_left, exists_eq_left', exists_eq_left, exists_eq', exists_eq, exists_eq_right', exists_eq_right, exists_const, List.append_nil, reduceCtorEq, Bool.false_eq_true, if_true, if_false, ↓reduceIte, one_S, S_eq, signs_mem, Bool.decide_eq_true]
      cases o : okS c with
      | false =>
        rw [all_false hc o] at q
        simpa using q
      | true => simpa using take_all hall hc o
    · rintro σ H1 ⟨rfl, y, rfl, hall⟩
      simp only [tSeq, tAsg, tIfS, tRet, tRetN, tDrop, tVar, tC, tCons, tNil, tOp, tUn, tTest, tB, tAnd, tOr, tNot, tAndV, tOrV, tNotV, tIf, tNext, tBreak, tCont, gName, gSub, gCons, gNil, rI0, rI, rU, rEq, rNe, rIn, rIxL, rIxS, rSetL, rIsB, rNotB, rCatS, tLst, tTup, tCall, tCallS, tCB, tM0, tM1, rNewStrs, tYes, rSlL, tSl, tNoPart, tPart, WE, List.getElem?_cons_zero, List.getElem?_cons_succ, List.set_cons_zero, List.set_cons_succ, Option.some.injEq, V.int.injEq, V.str.injEq, V.bl.injEq, V.ref.injEq, List.cons.injEq, and_true, true_and, exists_and_left, exists_eq_left', exists_eq_left, exists_eq', exists_eq, exists_eq_right', exists_eq_right, exists_const, List.append_nil, reduceCtorEq, Bool.false_eq_true, if_true, if_false, ↓reduceIte]
      rw [take_len] at hall
      rw [hall] at q
      exact q
abbrev s_segment_come_to : Stmt := topS 13
abbrev N_segment_come_to : List Str := ["writing", "strokes", "word"]
theorem sc_segment_come_to : FnScope N_segment_come_to ["writing"] (defScope s_segment_come_to) := ⟨rfl, rfl, rfl, by decide +kernel, rfl, by decide +kernel, by decide +kernel⟩
theorem st_segment_come_to (v0 : V) : L2.start N_segment_come_to [v0] = [some v0, none, none] := rfl
def spSeg : Sp := fun vs H Q _ => ∃ l, vs = [.str (S l)] ∧ Asc l ∧ l.length ≤ 100000 ∧ ∀ H', Same H H' → Q (.str (S (seg l))) H'
theorem ok_seg (F : FunAt K mg "segment_come_to" s_segment_come_to ["writing"]) : Cal P w K mg base CX0 "segment_come_to" ["writing"] 1 spSeg := by
  obtain ⟨f, fd, F, g, b⟩ := F
  refine ⟨f, fd, okT F sc_segment_come_to (by decide +kernel) (by decide) (fun vs H Q E h => ?_) (fun cdv A outer s H vs Q E hr h => ?_), g, F.kp, b⟩
  · obtain ⟨l, rfl, _⟩ := h
    rfl
  · obtain ⟨l, rfl, hA, hl, q⟩ := h
    refine ⟨_, psst_cons (pst_set (i := 1) sc_segment_come_to.nd rfl (Or.inl rfl) (CwR.pet_replT (CwR.pet_replC (pe_lower (pv 0)) (by decide +kernel)) (by decide +kernel))) (PSsT.of
      (pss_one (ps_ret (pe_join pe_str (pe_lc (own := [("word", 2)]) (g := gName 2) (tt := tTruth K (tVar 2)) (by rfl) sc_segment_come_to.nd (pi_list (pe_split (pv 1) pe_str)) (blkOk_by (N := N_segment_come_to) (sc := defScope s_segment_come_to) (by decide +kernel)) (fun _ _ _ _ _ => pg_name (i := 2) sc_segment_come_to.nd rfl (Or.inl rfl)) (fun _ _ _ _ _ => pts_one (pt_truth (pv 2) (by intro _; rfl))) (fun _ _ _ _ _ => (pv 2))))))), ?_⟩
    refine ⟨_, rfl, ⟨S l, rfl⟩, S l, rfl, rfl, by rw [len_S]; omega, _, rfl, ?_, ?_⟩
    · rw [lower_S hA, len_S, List.length_map, lit_bar, len_S]
      simp only [List.length_cons, List.length_nil]
      omega
    rw [lower_S hA, lit_sp, lit_bar, replace_S]
    refine ⟨_, rfl, ?_, ?_⟩
    · rw [len_S, List.length_map, List.length_map, len_S]
      simp only [List.length_cons, List.length_nil]
      omega
    rw [lit_dash, replace_S, bars]
    refine ⟨⟨_, rfl⟩, _, rfl, ⟨_, rfl⟩, S (l.map bar), S [95], rfl, rfl, rfl, ?_, fun p hp => ?_⟩
    · rw [len_S, List.length_map]
      exact sz (by omega)
    rw [split_S (by decide), map_VS]
    refine ⟨p, rfl, ⟨_, SqL.of upd_same⟩, fun D hD => lc_it (walk_list (xs := (spl [95] 0 [] (l.map bar)).map (fun p => V.str (S p))))
      (fun i H' => H' p = some (.lst ((spl [95] 0 [] (l.map bar)).map (fun p => V.str (S p)))) ∧ Same H H' ∧ H' D = some (.lst ((((spl [95] 0 [] (l.map bar)).take i).filter keepW).map (fun p => V.str (S p))))) ?_ ?_ ?_ ?_⟩
    · have hpD : p ≠ D := fun e => by
        rw [← e, upd_same] at hD
        cases hD
      refine ⟨by rw [upd_ne hpD, upd_same], ?_, by rw [upd_same]; rfl⟩
      exact (same_upd hp).trans (same_upd hD)
    · rintro i H' _ ⟨h1, _, _⟩
      exact SqL.of h1
    · rintro i x H1 H2 hi ⟨h1, h2, h3⟩ ⟨rfl, hx⟩
      rw [List.getElem?_map] at hx
      cases hq : (spl [95] 0 [] (l.map bar))[i]? with
      | none =>
        rw [hq] at hx
        cases hx
      | some wd =>
        rw [hq] at hx
        have e := Option.some.inj hx
        subst e
        have hDp : D ≠ p := fun e => by
          rw [e, upd_same] at hD
          cases hD
        have hwl := spl_mem_len 95 (l.map bar) [] wd (List.mem_of_getElem? hq)
        rw [List.length_map] at hwl
        have fl : (((spl [95] 0 [] (l.map bar)).take i).filter keepW).length ≤ l.length + 1 := by
          refine Nat.le_trans (List.length_filter_le _ _) ?_
          rw [List.length_take]
          have := spl1_len 95 (l.map bar) []
          rw [List.length_map] at this
          omega
        refine ⟨rfl, _, rfl, (!wd.isEmpty), ⟨by rw [len_S]; exact sz (by simp at hwl; omega), ?_⟩, ?_⟩
        · cases wd with
          | nil => rfl
          | cons a r =>
            rw [len_S]
            simp
            omega
        · cases hk : (!wd.isEmpty) with
          | true =>
            refine iteT ⟨_, rfl, _, h3, ?_, ?_, ?_, ?_⟩
            · rw [List.length_map]
              exact sz' (by omega)
            · rw [upd_ne hDp.symm]
              exact h1
            · exact Same.upd_free h2 ((same_upd hp).free hD)
            · rw [upd_same, filter_all keepW _ i wd hq, if_pos (show keepW wd = true from hk), List.map_append]
              rfl
          | false =>
            refine iteF ⟨h1, h2, ?_⟩
            rw [h3, filter_all keepW _ i wd hq, if_neg (by rw [show keepW wd = false from hk]; exact Bool.false_ne_true), List.append_nil]
    · rintro H' ⟨h1, h2, h3⟩
      rw [List.length_map, List.take_length] at h3
      refine ⟨S [95], D, ((spl [95] 0 [] (l.map bar)).filter keepW).map S, rfl, rfl, .inl (by rw [map_VS]; exact SqL.of h3), ?_, ?_⟩
      · rw [lens_S, List.length_map, len_S]
        have a1 := sum_filter keepW (spl [95] 0 [] (l.map bar))
        have a2 := spl_sum 95 (l.map bar) []
        have a3 := List.length_filter_le keepW (spl [95] 0 [] (l.map bar))
        have a4 := spl1_len 95 (l.map bar) []
        simp only [List.length_cons, List.length_nil, List.length_map] at *
        omega
      · rw [join_S]
        have e : joinL [95] ((spl [95] 0 [] (l.map bar)).filter keepW) = seg l := segP_eq l
        rw [e]
        exact q H' h2
end
end Ld

namespace Ld
open PySem PySem.Spec PyProof.Rows L2 TL Nm
section
variable {P : Program} {w : World} {K : PySem.W.Frag} {mg : Str → Option Value} {base : Heap}
abbrev s_come_to : Stmt := topS 12
abbrev N_come_to : List Str := ["writing", "segment"]
theorem sc_come_to : FnScope N_come_to ["writing"] (defScope s_come_to) := ⟨rfl, rfl, rfl, by decide +kernel, rfl, by decide +kernel, by decide +kernel⟩
theorem st_come_to (v0 : V) : L2.start N_come_to [v0] = [some v0, none] := rfl
def spCome : Sp := fun vs H Q _ => ∃ l, vs = [.str (S l)] ∧ Asc l ∧ l.length ≤ 100000 ∧ ∀ H', Same H H' → Q (.str (S (nm l))) H'
theorem ok_come (F : FunAt K mg "come_to" s_come_to ["writing"]) (C : Cal P w K mg base CX0 "segment_come_to" ["writing"] 1 spSeg) : Cal P w K mg base CX0 "come_to" ["writing"] 2 spCome := by
  obtain ⟨f, fd, F, g, b⟩ := F
  obtain ⟨f1, fd1, G_segment_come_to, g_segment_come_to, k_segment_come_to, b_segment_come_to⟩ := C
  refine ⟨f, fd, F.ok sc_come_to (fun vs H Q E h => ?_) (fun cdv A outer s H vs Q E hr h => ?_), g, F.kp, b⟩
  · obtain ⟨l, rfl, _⟩ := h
    rfl
  · obtain ⟨l, rfl, hA, hl, q⟩ := h
    refine ⟨_, (pss_one (ps_ret (pe_join pe_str (pe_lc (own := [("segment", 1)]) (g := gName 1) (tt := tYes) (by rfl) sc_come_to.nd (pi_list (pe_split (pv 0) pe_str)) (blkOk_by (N := N_come_to) (sc := defScope s_come_to) (by decide +kernel)) (fun _ _ _ _ _ => pg_name (i := 1) sc_come_to.nd rfl (Or.inl rfl)) (fun _ _ _ _ _ => pts_nil) (fun _ _ _ _ _ => (pe_call G_segment_come_to (hr.mono (by decide)) (by rfl) g_segment_come_to k_segment_come_to b_segment_come_to .nil pass0 (pa_cons (pv 1) pa_nil))))))), ?_⟩
    have n1 := spl1_len 47 l []
    refine ⟨⟨_, rfl⟩, _, rfl, ⟨S l, rfl⟩, S l, S [47], rfl, rfl, rfl, by rw [len_S]; exact sz (by omega), fun p hp => ?_⟩
    rw [split_S (by decide), map_VS]
    refine ⟨p, rfl, ⟨_, SqL.of upd_same⟩, fun D hD => lc_same (ys := ((cuts l).map seg).map (fun p => V.str (S p))) (SqL.of upd_same) hD (by simp [cuts]) (by rw [List.length_map]; exact sz' (by omega)) ?_ ?_⟩
    · intro k x y H3 Qv hx hy s3 hQ
      rw [List.getElem?_map] at hx hy
      rw [List.getElem?_map] at hy
      show _
      cases e : (spl [47] 0 [] l)[k]? with
      | none =>
        rw [e] at hx
        cases hx
      | some pc =>
        rw [e] at hx
        rw [show (cuts l)[k]? = some pc from e] at hy
        have e1 := Option.some.inj hx
        have e2 := Option.some.inj hy
        subst e1 e2
        have hm : pc ∈ spl [47] 0 [] l := List.mem_of_getElem? e
        have h1 := spl_mem_len 47 l [] pc hm
        refine ⟨_, rfl, pc, rfl, fun c hc => ?_, by simp at h1; omega, fun H4 s4 => hQ H4 s4⟩
        exact hA c (cuts_mem hm hc)
    · intro H' s' e'
      have a1 := sum_seg (cuts l)
      have a2 := spl_sum 47 l []
      refine ⟨S [47], D, ((cuts l).map seg).map S, rfl, rfl, .inl (by rw [map_VS]; exact SqL.of e'), ?_, ?_⟩
      · rw [lens_S, List.length_map, List.length_map, len_S]
        simp only [List.length_cons, List.length_nil, cuts] at *
        omega
      · rw [join_S]
        exact q H' ((same_upd hp).trans s')
abbrev s_is_within_bounds : Stmt := topS 14
abbrev N_is_within_bounds : List Str := ["name", "segments"]
theorem sc_is_within_bounds : FnScope N_is_within_bounds ["name"] (defScope s_is_within_bounds) := ⟨rfl, rfl, rfl, by decide +kernel, rfl, by decide +kernel, by decide +kernel⟩
theorem st_is_within_bounds (v0 : V) : L2.start N_is_within_bounds [v0] = [some v0, none] := rfl
def spBnd : Sp := fun vs H Q _ => ∃ l, vs = [.str (S l)] ∧ l.length ≤ 1000000 ∧ ∀ H', Same H H' → Q (.bl (bnd l)) H'
theorem in_empty (ps : List (List Nat)) : inV (.str (S [])) (ps.map (fun p => V.str (S p))) = !(ps.all fun p => !p.isEmpty) := by
  induction ps with
  | nil => rfl
  | cons p r ih =>
    unfold inV at ih ⊢
    rw [List.map_cons, List.any_cons, ih, List.all_cons]
    have e : eqV (.str (S p)) (.str (S [])) = p.isEmpty := by
      show (S p == S []) = p.isEmpty
      rw [S_beq]
      cases p <;> rfl
    rw [e]
    cases p.isEmpty <;> simp
theorem flat_strs (ps : List (List Nat)) : (ps.map (fun p => V.str (S p))).all flatV = true := by
  rw [List.all_map, List.all_eq_true]
  intro p _
  rfl
theorem ok_bnd (F : FunAt K mg "is_within_bounds" s_is_within_bounds ["name"]) (g4 : ∃ t, mg "MOST_SEGMENTS" = some (.int 4 t)) (g24 : ∃ t, mg "MOST_SIGNS" = some (.int 24 t)) (z_len : mg "len" = none) : Cal P w K mg base CX0 "is_within_bounds" ["name"] 1 spBnd := by
  obtain ⟨f, fd, F, g, b⟩ := F
  obtain ⟨t4, g_MOST_SEGMENTS⟩ := g4
  obtain ⟨t24, g_MOST_SIGNS⟩ := g24
  refine ⟨f, fd, F.ok sc_is_within_bounds (fun vs H Q E h => ?_) (fun cdv A outer s H vs Q E hr h => ?_), g, F.kp, b⟩
  · obtain ⟨l, rfl, _⟩ := h
    rfl
  · obtain ⟨l, rfl, hl, q⟩ := h
    refine ⟨_, (pss_cons (ps_set (i := 1) sc_is_within_bounds.nd rfl (Or.inl rfl) (pe_split (pv 0) pe_str))
      (pss_one (ps_ret (pe_and (pe_cmpR op_le (pe_callB call_len_seq (by rfl) z_len PySem.boot_len (pa_cons (pv 1) pa_nil)) (pe_glob (v := c_MOST_SEGMENTS) (by rfl) g_MOST_SEGMENTS ⟨_, rfl⟩) (nomark _)) (pe_and (pe_cmpR op_notIn_seq pe_str (pv 1) (by rfl)) (pe_one (pe_cmpR op_le (pe_callB call_len_str (by rfl) z_len PySem.boot_len (pa_cons (pv 0) pa_nil)) (pe_glob (v := c_MOST_SIGNS) (by rfl) g_MOST_SIGNS ⟨_, rfl⟩) (nomark _)))))))), ?_⟩
    refine ⟨_, rfl, ⟨S l, rfl⟩, S l, S [47], rfl, rfl, rfl, by rw [len_S]; exact sz (by omega), fun p hp => ?_⟩
    rw [split_S (by decide), map_VS]
    have hp' : SqL K (upd H p (.lst ((spl [47] 0 [] l).map (fun p => V.str (S p))))) p ((spl [47] 0 [] l).map (fun p => V.str (S p))) := SqL.of upd_same
    have hq := q _ (same_upd (o := .lst ((spl [47] 0 [] l).map (fun p => V.str (S p)))) hp)
    refine ⟨_, rfl, p, _, rfl, .inl hp', _, _, rfl, rfl, _, rfl, ?_⟩
    by_cases c1 : (cuts l).length ≤ 4
    · rw [List.length_map, decide_eq_true (show ((spl [47] 0 [] l).length : Int) ≤ 4 from by have : (spl [47] 0 [] l).length ≤ 4 := c1; omega)]
      refine iteT ⟨_, rfl, p, _, rfl, .inl hp', rfl, flat_strs _, _, rfl, ?_⟩
      have hb : bnd l = ((cuts l).all (fun p => !p.isEmpty) && decide (l.length ≤ 24)) := by
        unfold bnd
        rw [decide_eq_true c1, Bool.true_and]
      rw [hb] at hq
      have e0 : Str.ofString "" = S [] := lit_e
      show if (if true = true then !inV (.str (Str.ofString "")) _ else _) = true then _ else _
      rw [e0, if_pos rfl, in_empty, Bool.not_not]
      cases c2 : (cuts l).all (fun p => !p.isEmpty) with
      | true =>
        rw [c2, Bool.true_and] at hq
        rw [show (spl [47] 0 [] l).all (fun p => !p.isEmpty) = true from c2]
        refine iteT ⟨_, rfl, _, rfl, by rw [len_S]; exact sz (by omega), _, _, rfl, rfl, ?_⟩
        rw [len_S]
        have e : decide ((l.length : Int) ≤ 24) = decide (l.length ≤ 24) := by
          rw [Bool.eq_iff_iff, decide_eq_true_eq, decide_eq_true_eq]
          omega
        show Q (.bl (decide ((l.length : Int) ≤ 24))) _
        rw [e]
        exact hq
      | false =>
        rw [c2, Bool.false_and] at hq
        rw [show (spl [47] 0 [] l).all (fun p => !p.isEmpty) = false from c2]
        exact iteF hq
    · rw [List.length_map, decide_eq_false (show ¬ ((spl [47] 0 [] l).length : Int) ≤ 4 from by have : ¬ (spl [47] 0 [] l).length ≤ 4 := c1; omega)]
      refine iteF ?_
      have hb : bnd l = false := by
        unfold bnd
        rw [decide_eq_false c1, Bool.false_and]
      rw [hb] at hq
      exact hq
end
end Ld

namespace Ld
open PySem PySem.Spec PyProof.Rows L2 TL Nm
section
variable {P : Program} {w : World} {K : PySem.W.Frag} {mg : Str → Option Value} {base : Heap}
abbrev s_name_of : Stmt := topS 8
abbrev N_name_of : List Str := ["thing", "name"]
theorem sc_name_of : FnScope N_name_of ["thing"] (defScope s_name_of) := ⟨rfl, rfl, rfl, by decide +kernel, rfl, by decide +kernel, by decide +kernel⟩
theorem st_name_of (v0 : V) : L2.start N_name_of [v0] = [some v0, none] := rfl
def spName (K : PySem.W.Frag) (C : Addr) : Sp := fun vs H Q E => (∃ l, vs = [.str (S l)] ∧ l.length ≤ 100000 ∧ (∀ d, nameOf l = some d → ∀ H', Same H H' → Q (.str (S d)) H') ∧ (nameOf l = none → ∀ H', Same H H' → E (.ref C) none H')) ∨
  (∃ v, vs = [v] ∧ NoStr K H v ∧ E (.ref C) none H)
theorem ok_name {C : Addr} (F : FunAt K mg "name_of" s_name_of ["thing"]) (x_NoName : ErrAt K mg "NoName" C) (z_isinstance : mg "isinstance" = none) (z_str : mg "str" = none) (C1 : Cal P w K mg base CX0 "has_only_signs" ["text"] 1 spOnly) (C2 : Cal P w K mg base CX0 "come_to" ["writing"] 2 spCome)
    (C3 : Cal P w K mg base CX0 "is_within_bounds" ["name"] 1 spBnd) : Cal P w K mg base (L2.CX P w) "name_of" ["thing"] 3 (spName K C) := by
  obtain ⟨f, fd, F, g, b⟩ := F
  obtain ⟨_, _, G_has_only_signs, g_has_only_signs, k_has_only_signs, b_has_only_signs⟩ := C1
  obtain ⟨_, _, G_come_to, g_come_to, k_come_to, b_come_to⟩ := C2
  obtain ⟨_, _, G_is_within_bounds, g_is_within_bounds, k_is_within_bounds, b_is_within_bounds⟩ := C3
  refine ⟨f, fd, F.okX sc_name_of (fun vs H Q E h => ?_) (fun cdv A outer s H vs Q E hr h => ?_), g, F.kp, b⟩
  · rcases h with ⟨l, rfl, _⟩ | ⟨v, rfl, _⟩ <;> rfl
  · refine ⟨_, (pss_cons (ps_if (PW.pt (pw_or (pt_not (pt_val (pe_callB call_isi (by rfl) z_isinstance (by decide +kernel) (pa_cons (pv 0) (pa_cons (pe_bltn (v := .ty "str") (by rfl) z_str (by decide +kernel) rfl) pa_nil))))) (pw_or1 (pt_not (pt_val (pe_call G_has_only_signs (hr.mono (by decide)) (by rfl) g_has_only_signs k_has_only_signs b_has_only_signs .nil pass0 (pa_cons (pv 0) pa_nil))))))) (pss_one (ps_raise (by rfl) (takes_of rfl rfl rfl rfl) (pmk_own PySem.F.excBase_ValueError x_NoName.x x_NoName.g x_NoName.k (raises_own x_NoName.b x_NoName.t) (by rfl)))) pss_nil)
      (pss_cons (ps_set (i := 1) sc_name_of.nd rfl (Or.inl rfl) (pe_call G_come_to (hr.mono (by decide)) (by rfl) g_come_to k_come_to b_come_to .nil pass0 (pa_cons (pv 0) pa_nil)))
      (pss_cons (ps_if (pt_not (pt_val (pe_call G_is_within_bounds (hr.mono (by decide)) (by rfl) g_is_within_bounds k_is_within_bounds b_is_within_bounds .nil pass0 (pa_cons (pv 1) pa_nil)))) (pss_one (ps_raise (by rfl) (takes_of rfl rfl rfl rfl) (pmk_own PySem.F.excBase_ValueError x_NoName.x x_NoName.g x_NoName.k (raises_own x_NoName.b x_NoName.t) (by rfl)))) pss_nil)
      (pss_one (ps_ret (pv 1)))))), ?_⟩
    rcases h with ⟨l, rfl, hl, q1, q2⟩ | ⟨v, rfl, ⟨t, ht, hk⟩, q⟩
    · refine ⟨_, rfl, _, _, .type "str", .type "str", true, rfl, .ty _, .base (.str _), kit_ty (by decide +kernel), _, rfl, ?_⟩
      simp only [tSeq, tAsg, tIfS, tRet, tRetN, tDrop, tVar, tC, tCons, tNil, tOp, tUn, tTest, tB, tAnd, tOr, tNot, tAndV, tOrV, tNotV, tIf, tNext, tBreak, tCont, gName, gSub, gCons, gNil, rI0, rI, rU, rEq, rNe, rIn, rIxL, rIxS, rSetL, rIsB, rNotB, rCatS, tLst, tTup, tCall, tCallS, tCB, tM0, tM1, rNewStrs, tYes, rSlL, tSl, tNoPart, tPart, WE, List.getElem?_cons_zero, List.getElem?_cons_succ, List.set_cons_zero, List.set_cons_succ, Option.some.injEq, V.int.injEq, V.str.injEq, V.bl.injEq, V.ref.injEq, List.cons.injEq, and_true, true_and, exists_and_left, exists_eq_left', exists_eq_left, exists_eq', exists_eq, exists_eq_right', exists_eq_right, exists_const, List.append_nil, reduceCtorEq, Bool.false_eq_true, if_true, if_false, ↓reduceIte, spOnly, S_eq, st_name_of]
      unfold nameOf nameB at q1 q2
      cases o : l.all okS with
      | false =>
        rw [o] at q2
        simp only [Bool.not_false, ↓reduceIte]
        exact q2 rfl H (Same.refl H)
      | true =>
        rw [o, Bool.true_and] at q1 q2
        simp only [Bool.not_true, Bool.false_eq_true, ↓reduceIte]
        refine ⟨l, rfl, asc_of o, hl, fun H1 s1 => ?_⟩
        have hn := nm_len l
        refine ⟨nm l, rfl, by omega, fun H2 s2 => ?_⟩
        simp only [tSeq, tAsg, tIfS, tRet, tRetN, tDrop, tVar, tC, tCons, tNil, tOp, tUn, tTest, tB, tAnd, tOr, tNot, tAndV, tOrV, tNotV, tIf, tNext, tBreak, tCont, gName, gSub, gCons, gNil, rI0, rI, rU, rEq, rNe, rIn, rIxL, rIxS, rSetL, rIsB, rNotB, rCatS, tLst, tTup, tCall, tCallS, tCB, tM0, tM1, rNewStrs, tYes, rSlL, tSl, tNoPart, tPart, WE, List.getElem?_cons_zero, List.getElem?_cons_succ, List.set_cons_zero, List.set_cons_succ, Option.some.injEq, V.int.injEq, V.str.injEq, V.bl.injEq, V.ref.injEq, List.cons.injEq, and_true, true_and, exists_and_left, exists_eq_left', exists_eq_left, exists_eq', exists_eq, exists_eq_right', exists_eq_right, exists_const, List.append_nil, reduceCtorEq, Bool.false_eq_true, if_true, if_false, ↓reduceIte]
        cases o2 : bnd (nm l) with
        | true =>
          rw [o2, if_pos rfl] at q1
          simp only [Bool.not_true, Bool.false_eq_true, ↓reduceIte]
          exact q1 _ rfl H2 (s1.trans s2)
        | false =>
          rw [o2, if_neg Bool.false_ne_true] at q2
          simp only [Bool.not_false, ↓reduceIte]
          exact q2 rfl H2 (s1.trans s2)
    · refine ⟨_, rfl, _, _, t, .type "str", false, rfl, .ty _, ht, hk, _, rfl, ?_⟩
      simp only [tSeq, tAsg, tIfS, tRet, tRetN, tDrop, tVar, tC, tCons, tNil, tOp, tUn, tTest, tB, tAnd, tOr, tNot, tAndV, tOrV, tNotV, tIf, tNext, tBreak, tCont, gName, gSub, gCons, gNil, rI0, rI, rU, rEq, rNe, rIn, rIxL, rIxS, rSetL, rIsB, rNotB, rCatS, tLst, tTup, tCall, tCallS, tCB, tM0, tM1, rNewStrs, tYes, rSlL, tSl, tNoPart, tPart, WE, List.getElem?_cons_zero, List.getElem?_cons_succ, List.set_cons_zero, List.set_cons_succ, Option.some.injEq, V.int.injEq, V.str.injEq, V.bl.injEq, V.ref.injEq, List.cons.injEq, and_true, true_and, exists_and_left, exists_eq_left', exists_eq_left, exists_eq', exists_eq, exists_eq_right', exists_eq_right, exists_const, List.append_nil, reduceCtorEq, Bool.false_eq_true, if_true, if_false, ↓reduceIte]
      exact q
end
end Ld

namespace Ld
open PySem PySem.Spec PyProof.Rows L2 TL Nm
section
variable {P : Program} {w : World} {K : PySem.W.Frag} {mg : Str → Option Value} {base : Heap}
abbrev s_is_in_family : Stmt := topS 15
abbrev N_is_in_family : List Str := ["name", "stem"]
theorem sc_is_in_family : FnScope N_is_in_family ["name", "stem"] (defScope s_is_in_family) := ⟨rfl, rfl, rfl, by decide +kernel, rfl, by decide +kernel, by decide +kernel⟩
theorem st_is_in_family (v0 v1 : V) : L2.start N_is_in_family [v0, v1] = [some v0, some v1] := rfl
def spFamP : Sp := fun vs H Q _ => ∃ a b, vs = [.str (S a), .str (S b)] ∧ a.length ≤ 100000 ∧ b.length ≤ 100000 ∧ Q (.bl (fam a b)) H
theorem dec_S (a b : List Nat) : decide (V.str (S a) = V.str (S b)) = decide (a = b) := by
  rw [Bool.eq_iff_iff, decide_eq_true_eq, decide_eq_true_eq]
  exact ⟨fun h => S_inj (V.str.inj h), fun h => by rw [h]⟩
theorem ok_famp (F : FunAt K mg "is_in_family" s_is_in_family ["name", "stem"]) : Cal P w K mg base CX0 "is_in_family" ["name", "stem"] 1 spFamP := by
  obtain ⟨f, fd, F, g, b⟩ := F
  refine ⟨f, fd, F.ok sc_is_in_family (fun vs H Q E h => ?_) (fun cdv A outer s H vs Q E hr h => ?_), g, F.kp, b⟩
  · obtain ⟨a, b, rfl, _⟩ := h
    rfl
  · refine ⟨_, (pss_one (ps_ret (pe_or (pe_cmpR op_eq (pv 0) (pv 1) (nomark _)) (pe_one (pe_m1 PySem.F.slot_str_startswith PySem.F.type_str_startswith mt_startswith (pv 0) (pe_op op_add_str (pv 1) pe_str)))))), ?_⟩
    obtain ⟨a, b, rfl, h1, h2, q⟩ := h
    rw [← fam_or] at q
    refine ⟨_, rfl, _, rfl, rfl, _, rfl, ?_⟩
    rw [dec_S]
    cases e : decide (a = b) with
    | true =>
      rw [e, Bool.true_or] at q
      exact iteT q
    | false =>
      rw [e, Bool.false_or] at q
      refine iteF ⟨_, rfl, ⟨_, rfl⟩, _, rfl, _, _, rfl, rfl, ?_, ?_⟩
      · rw [len_S, lit_sl, len_S]
        exact sz (by simp; omega)
      · rw [lit_sl, S_app]
        refine ⟨_, _, rfl, rfl, ?_⟩
        rw [starts_S]
        exact q
abbrev s_is_of : Stmt := topS 9
abbrev N_is_of : List Str := ["name", "stem"]
theorem sc_is_of : FnScope N_is_of ["name", "stem"] (defScope s_is_of) := ⟨rfl, rfl, rfl, by decide +kernel, rfl, by decide +kernel, by decide +kernel⟩
theorem st_is_of (v0 v1 : V) : L2.start N_is_of [v0, v1] = [some v0, some v1] := rfl
def spIsOf (C : Addr) : Sp := fun vs H Q E => ∃ l1 l2, vs = [.str (S l1), .str (S l2)] ∧ l1.length ≤ 100000 ∧ l2.length ≤ 100000 ∧ (∀ a b, nameOf l1 = some a → nameOf l2 = some b → ∀ H', Same H H' → Q (.bl (fam a b)) H') ∧ ((nameOf l1 = none ∨ nameOf l2 = none) → ∀ H', Same H H' → E (.ref C) none H')
theorem ok_isof {C : Addr} (F : FunAt K mg "is_of" s_is_of ["name", "stem"]) (C1 : Cal P w K mg base (L2.CX P w) "name_of" ["thing"] 3 (spName K C)) (C2 : Cal P w K mg base CX0 "is_in_family" ["name", "stem"] 1 spFamP) : Cal P w K mg base (L2.CX P w) "is_of" ["name", "stem"] 4 (spIsOf C) := by
  obtain ⟨f, fd, F, g, b⟩ := F
  obtain ⟨_, _, G_name_of, g_name_of, k_name_of, b_name_of⟩ := C1
  obtain ⟨_, _, G_is_in_family, g_is_in_family, k_is_in_family, b_is_in_family⟩ := C2
  refine ⟨f, fd, F.okX sc_is_of (fun vs H Q E h => ?_) (fun cdv A outer s H vs Q E hr h => ?_), g, F.kp, b⟩
  · obtain ⟨a, b, rfl, _⟩ := h
    rfl
  · refine ⟨_, (pss_one (ps_ret (pe_call G_is_in_family (hr.mono (by decide)) (by rfl) g_is_in_family k_is_in_family b_is_in_family .nil pass0 (pa_cons (pe_call G_name_of (hr.mono (by decide)) (by rfl) g_name_of k_name_of b_name_of .nil (passes_call (takes_of rfl rfl rfl rfl) (fun _ _ _ _ h => h)) (pa_cons (pv 0) pa_nil)) (pa_cons (pe_call G_name_of (hr.mono (by decide)) (by rfl) g_name_of k_name_of b_name_of .nil (passes_call (takes_of rfl rfl rfl rfl) (fun _ _ _ _ h => h)) (pa_cons (pv 1) pa_nil)) pa_nil))))), ?_⟩
    obtain ⟨l1, l2, rfl, h1, h2, q1, q2⟩ := h
    refine ⟨_, rfl, .inl ⟨l1, rfl, h1, fun a ha H1 s1 => ⟨_, rfl, .inl ⟨l2, rfl, h2, fun b hb H2 s2 => ⟨a, b, rfl, ?_, ?_, q1 a b ha hb H2 (s1.trans s2)⟩, fun hb H2 s2 => q2 (.inr hb) H2 (s1.trans s2)⟩⟩, fun ha H1 s1 => q2 (.inl ha) H1 s1⟩⟩
    · have := name_len ha
      omega
    · have := name_len hb
      omega
abbrev s_moved : Stmt := topS 10
abbrev N_moved : List Str := ["name", "stem", "new", "old_name", "old_stem", "new_stem"]
theorem sc_moved : FnScope N_moved ["name", "stem", "new"] (defScope s_moved) := ⟨rfl, rfl, rfl, by decide +kernel, rfl, by decide +kernel, by decide +kernel⟩
theorem st_moved (v0 v1 v2 : V) : L2.start N_moved [v0, v1, v2] = [some v0, some v1, some v2, none, none, none] := rfl
inductive MR where
  | told (d : List Nat)
  | name
  | rule
def movR (l1 l2 l3 : List Nat) : MR := match nameOf l1, nameOf l2, nameOf l3 with
  | some n, some s, some w => if (fam s w || (fam w s || !fam n s)) = true then .rule else match nameOf (w ++ n.drop s.length) with
    | some d => .told d
    | none => .name
  | _, _, _ => .name
def spMoved (CN CR : Addr) : Sp := fun vs H Q E => ∃ l1 l2 l3, vs = [.str (S l1), .str (S l2), .str (S l3)] ∧ l1.length ≤ 100000 ∧ l2.length ≤ 100000 ∧ l3.length ≤ 100000 ∧
  (∀ d, movR l1 l2 l3 = .told d → ∀ H', Same H H' → Q (.str (S d)) H') ∧ (movR l1 l2 l3 = .name → ∀ H', Same H H' → E (.ref CN) none H') ∧ (movR l1 l2 l3 = .rule → ∀ H', Same H H' → E (.ref CR) none H')
theorem ok_moved {C CR : Addr} (F : FunAt K mg "moved" s_moved ["name", "stem", "new"]) (x_NoRule : ErrAt K mg "NoRule" CR) (z_len : mg "len" = none) (C1 : Cal P w K mg base (L2.CX P w) "name_of" ["thing"] 3 (spName K C)) (C2 : Cal P w K mg base CX0 "is_in_family" ["name", "stem"] 1 spFamP) :
    Cal P w K mg base (L2.CX P w) "moved" ["name", "stem", "new"] 4 (spMoved C CR) := by
  obtain ⟨f, fd, F, g, b⟩ := F
  obtain ⟨_, _, G_name_of, g_name_of, k_name_of, b_name_of⟩ := C1
  obtain ⟨_, _, G_is_in_family, g_is_in_family, k_is_in_family, b_is_in_family⟩ := C2
  refine ⟨f, fd, F.okX sc_moved (fun vs H Q E h => ?_) (fun cdv A outer s H vs Q E hr h => ?_), g, F.kp, b⟩
  · obtain ⟨a, b, c, rfl, _⟩ := h
    rfl
  · refine ⟨_, (pss_cons (ps_set (i := 3) sc_moved.nd rfl (Or.inl rfl) (pe_call G_name_of (hr.mono (by decide)) (by rfl) g_name_of k_name_of b_name_of .nil (passes_call (takes_of rfl rfl rfl rfl) (fun _ _ _ _ h => h)) (pa_cons (pv 0) pa_nil)))
      (pss_cons (ps_set (i := 4) sc_moved.nd rfl (Or.inl rfl) (pe_call G_name_of (hr.mono (by decide)) (by rfl) g_name_of k_name_of b_name_of .nil (passes_call (takes_of rfl rfl rfl rfl) (fun _ _ _ _ h => h)) (pa_cons (pv 1) pa_nil)))
      (pss_cons (ps_set (i := 5) sc_moved.nd rfl (Or.inl rfl) (pe_call G_name_of (hr.mono (by decide)) (by rfl) g_name_of k_name_of b_name_of .nil (passes_call (takes_of rfl rfl rfl rfl) (fun _ _ _ _ h => h)) (pa_cons (pv 2) pa_nil)))
      (pss_cons (ps_if (PW.pt (pw_or (pt_val (pe_call G_is_in_family (hr.mono (by decide)) (by rfl) g_is_in_family k_is_in_family b_is_in_family .nil pass0 (pa_cons (pv 4) (pa_cons (pv 5) pa_nil)))) (pw_or1 (pt_val (pe_call G_is_in_family (hr.mono (by decide)) (by rfl) g_is_in_family k_is_in_family b_is_in_family .nil pass0 (pa_cons (pv 5) (pa_cons (pv 4) pa_nil))))))) (pss_one (ps_raise (by rfl) (takes_of rfl rfl rfl rfl) (pmk_own PySem.F.excBase_ValueError x_NoRule.x x_NoRule.g x_NoRule.k (raises_own x_NoRule.b x_NoRule.t) (by rfl)))) pss_nil)
      (pss_cons (ps_if (pt_not (pt_val (pe_call G_is_in_family (hr.mono (by decide)) (by rfl) g_is_in_family k_is_in_family b_is_in_family .nil pass0 (pa_cons (pv 3) (pa_cons (pv 4) pa_nil))))) (pss_one (ps_raise (by rfl) (takes_of rfl rfl rfl rfl) (pmk_own PySem.F.excBase_ValueError x_NoRule.x x_NoRule.g x_NoRule.k (raises_own x_NoRule.b x_NoRule.t) (by rfl)))) pss_nil)
      (pss_one (ps_ret (pe_call G_name_of (hr.mono (by decide)) (by rfl) g_name_of k_name_of b_name_of .nil (passes_call (takes_of rfl rfl rfl rfl) (fun _ _ _ _ h => h)) (pa_cons (pe_op op_add_str (pv 5) (pe_slice sl_str (pv 3) (po_some (pe_callB call_len_str (by rfl) z_len PySem.boot_len (pa_cons (pv 4) pa_nil))) po_none)) pa_nil))))))))), ?_⟩
    obtain ⟨l1, l2, l3, rfl, h1, h2, h3, q1, q2, q3⟩ := h
    unfold movR at q1 q2 q3
    refine ⟨_, rfl, .inl ⟨l1, rfl, h1, fun n hn H1 s1 => ?_, fun hn H1 s1 => ?_⟩⟩
    · rw [hn] at q1 q2 q3
      refine ⟨_, rfl, .inl ⟨l2, rfl, h2, fun st hs H2 s2 => ?_, fun hs H2 s2 => ?_⟩⟩
      · rw [hs] at q1 q2 q3
        refine ⟨_, rfl, .inl ⟨l3, rfl, h3, fun nw hw H3 s3 => ?_, fun hw H3 s3 => ?_⟩⟩
        · rw [hw] at q1 q2 q3
          have sm := (s1.trans s2).trans s3
          have b1 := name_len hn
          have b2 := name_len hs
          have b3 := name_len hw
          simp only at q1 q2 q3
          refine ⟨_, rfl, _, rfl, st, nw, rfl, by omega, by omega, _, rfl, ?_⟩
          cases e1 : fam st nw with
          | true =>
            rw [e1, Bool.true_or, if_pos rfl] at q3
            exact q3 rfl H3 sm
          | false =>
            rw [e1, Bool.false_or] at q1 q2 q3
            refine iteF ⟨_, rfl, _, rfl, nw, st, rfl, by omega, by omega, _, rfl, ?_⟩
            cases e2 : fam nw st with
            | true =>
              rw [e2, Bool.true_or, if_pos rfl] at q3
              exact q3 rfl H3 sm
            | false =>
              rw [e2, Bool.false_or] at q1 q2 q3
              refine iteF ⟨_, rfl, _, rfl, n, st, rfl, by omega, by omega, _, rfl, ?_⟩
              cases e3 : fam n st with
              | false =>
                rw [e3, Bool.not_false, if_pos rfl] at q3
                exact q3 rfl H3 sm
              | true =>
                rw [e3, Bool.not_true, if_neg Bool.false_ne_true] at q1 q2
                refine iteF ⟨_, rfl, _, rfl, _, rfl, S st, rfl, by rw [len_S]; exact sz (by omega), _, rfl, _, rfl, by rw [len_S]; exact sz (by omega), ?_⟩
                rw [len_S, cut_from]
                refine ⟨_, _, rfl, rfl, by rw [len_S, len_S, List.length_drop]; exact sz (by omega), ?_⟩
                rw [S_app]
                refine .inl ⟨nw ++ n.drop st.length, rfl, by rw [List.length_append, List.length_drop]; omega, fun d hd H4 s4 => ?_, fun hd H4 s4 => ?_⟩
                · rw [hd] at q1
                  exact q1 d rfl H4 (sm.trans s4)
                · rw [hd] at q2
                  exact q2 rfl H4 (sm.trans s4)
        · rw [hw] at q2
          exact q2 rfl H3 ((s1.trans s2).trans s3)
      · rw [hs] at q2
        exact q2 rfl H2 (s1.trans s2)
    · rw [hn] at q2
      exact q2 rfl H1 s1
end
end Ld

namespace Ld
open PySem PySem.Spec PyProof.Rows L2 TL Nm
section
variable {P : Program} {w : World} {K : PySem.W.Frag} {mg : Str → Option Value} {base : Heap}
abbrev s_law_state : Stmt := topS 17
abbrev N_law_state : List Str := ["_law_cell"]
theorem sc_law_state : FnScope N_law_state ["_law_cell"] (defScope s_law_state) := ⟨rfl, rfl, rfl, by decide +kernel, rfl, by decide +kernel, by decide +kernel⟩
theorem st_law_state (v0 : V) : L2.start N_law_state [v0] = [some v0] := rfl
def spState : Sp := fun vs H Q _ => ∃ i, vs = [.int i] ∧ ∀ p H', H p = none → Dr H' p → Same H H' → Q (.ref p) H'
theorem ok_state (F : FunAt K mg "_law_state" s_law_state ["_law_cell"]) (z_abs : mg "abs" = none) : Cal P w K mg base CX0 "_law_state" ["_law_cell"] 1 spState := by
  obtain ⟨f, fd, F, g, b⟩ := F
  refine ⟨f, fd, F.ok sc_law_state (fun vs H Q E h => ?_) (fun cdv A outer s H vs Q E hr h => ?_), g, F.kp, b⟩
  · obtain ⟨i, rfl, _⟩ := h
    rfl
  · refine ⟨_, (pss_one (ps_ret (pe_lst (pa_cons (pe_op op_fdiv (pe_callB call_abs (by rfl) z_abs (by decide +kernel) (pa_cons (pv 0) pa_nil)) pe_int) (pa_cons (pe_op op_mod (pe_callB call_abs (by rfl) z_abs (by decide +kernel) (pa_cons (pv 0) pa_nil)) pe_int) (pa_cons (pe_op op_add (pe_op op_mod (pe_callB call_abs (by rfl) z_abs (by decide +kernel) (pa_cons (pv 0) pa_nil)) pe_int) pe_int) pa_nil)))))), ?_⟩
    obtain ⟨i, rfl, q⟩ := h
    simp only [tSeq, tAsg, tIfS, tRet, tRetN, tDrop, tVar, tC, tCons, tNil, tOp, tUn, tTest, tB, tAnd, tOr, tNot, tAndV, tOrV, tNotV, tIf, tNext, tBreak, tCont, gName, gSub, gCons, gNil, rI0, rI, rU, rEq, rNe, rIn, rIxL, rIxS, rSetL, rIsB, rNotB, rCatS, tLst, tTup, tCall, tCallS, tCB, tM0, tM1, rNewStrs, tYes, rSlL, tSl, tNoPart, tPart, WE, List.getElem?_cons_zero, List.getElem?_cons_succ, List.set_cons_zero, List.set_cons_succ, Option.some.injEq, V.int.injEq, V.str.injEq, V.bl.injEq, V.ref.injEq, List.cons.injEq, and_true, true_and, exists_and_left, exists_eq_left', exists_eq_left, exists_eq', exists_eq, exists_eq_right', exists_eq_right, exists_const, List.append_nil, reduceCtorEq, Bool.false_eq_true, if_true, if_false, ↓reduceIte, st_law_state]
    have ha : 0 ≤ (if i < 0 then -i else i) := by split <;> omega
    generalize (if i < 0 then -i else i) = v at ha
    refine ⟨⟨by decide, by decide⟩, by decide, by decide, sz (by simp), fun p hp => ?_⟩
    refine q p _ hp ⟨_, _, _, upd_same, by omega, by omega, by omega, by omega⟩ (same_upd hp)
abbrev s_law_digit : Stmt := topS 18
abbrev N_law_digit : List Str := ["_law_s", "_law_base", "_law_found"]
theorem sc_law_digit : FnScope N_law_digit ["_law_s", "_law_base"] (defScope s_law_digit) := ⟨rfl, rfl, rfl, by decide +kernel, rfl, by decide +kernel, by decide +kernel⟩
theorem st_law_digit (v0 v1 : V) : L2.start N_law_digit [v0, v1] = [some v0, some v1, none] := rfl
def spDigit : Sp := fun vs H Q _ => ∃ a n, vs = [.ref a, .int n] ∧ Dr H a ∧ 0 < n ∧ n < 1000000 ∧ ∀ d H', 0 ≤ d → d < n → Dr H' a → Keep a H H' → Q (.int d) H'
theorem ok_digit (F : FunAt K mg "_law_digit" s_law_digit ["_law_s", "_law_base"]) : Cal P w K mg base CX0 "_law_digit" ["_law_s", "_law_base"] 1 spDigit := by
  obtain ⟨f, fd, F, g, b⟩ := F
  refine ⟨f, fd, F.ok sc_law_digit (fun vs H Q E h => ?_) (fun cdv A outer s H vs Q E hr h => ?_), g, F.kp, b⟩
  · obtain ⟨a, n, rfl, _⟩ := h
    rfl
  · refine ⟨_, (pss_cons (ps_if (PW.pt (pw_and (pt_cmpR op_eq (pe_ix ix_list (pv 0) pe_int (fun _ _ => rfl)) pe_int (nomark _)) (pw_and1 (pt_cmpR op_gt (pe_ix ix_list (pv 0) pe_int (fun _ _ => rfl)) pe_int (nomark _))))) (pss_cons (ps_set (i := 2) sc_law_digit.nd rfl (Or.inl rfl) (pe_op op_mod (pe_ix ix_list (pv 0) pe_int (fun _ _ => rfl)) (pv 1)))
      (pss_cons (ps_asg (pe_op op_fdiv (pe_ix ix_list (pv 0) pe_int (fun _ _ => rfl)) (pv 1)) (pg_sub (pv 0) pe_int set_list))
      (pss_one (ps_ret (pv 2))))) pss_nil)
      (pss_cons (ps_asg (pe_op op_add (pe_op op_mod (pe_op op_add (pe_op op_mul (pe_ix ix_list (pv 0) pe_int (fun _ _ => rfl)) (pe_op op_add (pe_op op_fdiv (pe_ix ix_list (pv 0) pe_int (fun _ _ => rfl)) pe_int) pe_int)) (pe_op op_mod (pe_ix ix_list (pv 0) pe_int (fun _ _ => rfl)) pe_int)) pe_int) pe_int) (pg_sub (pv 0) pe_int set_list))
      (pss_one (ps_ret (pe_op op_mod (pe_op op_fdiv (pe_ix ix_list (pv 0) pe_int (fun _ _ => rfl)) pe_int) (pv 1)))))), ?_⟩
    obtain ⟨a, n, rfl, ⟨x, y, z, e, ok⟩, hn, hn2, q⟩ := h
    simp only [tSeq, tAsg, tIfS, tRet, tRetN, tDrop, tVar, tC, tCons, tNil, tOp, tUn, tTest, tB, tAnd, tOr, tNot, tAndV, tOrV, tNotV, tIf, tNext, tBreak, tCont, gName, gSub, gCons, gNil, rI0, rI, rU, rEq, rNe, rIn, rIxL, rIxS, rSetL, rIsB, rNotB, rCatS, tLst, tTup, tCall, tCallS, tCB, tM0, tM1, rNewStrs, tYes, rSlL, tSl, tNoPart, tPart, WE, List.getElem?_cons_zero, List.getElem?_cons_succ, List.set_cons_zero, List.set_cons_succ, Option.some.injEq, V.int.injEq, V.str.injEq, V.bl.injEq, V.ref.injEq, List.cons.injEq, and_true, true_and, exists_and_left, exists_eq_left', exists_eq_left, exists_eq', exists_eq, exists_eq_right', exists_eq_right, exists_const, List.append_nil, reduceCtorEq, Bool.false_eq_true, if_true, if_false, ↓reduceIte, st_law_digit]
    have hx : 0 ≤ x := ok.1
    have hy : 0 ≤ y := ok.2.1
    have hz : 7 ≤ z := ok.2.2.1
    have hz2 : z < 2147483700 := ok.2.2.2
    have fin : ∀ d u v t : Int, 0 ≤ d → d < n → StOk u v t → Q (.int d) (upd H a (.lst [.int u, .int v, .int t])) := fun d u v t h1 h2 h3 => q d _ h1 h2 ⟨u, v, t, upd_same, h3⟩ keep_upd
    refine ⟨_, SqL.of e, _, rfl, rfl, ?_⟩
    refine ite2 (fun _ => ?_) (fun _ => ?_)
    · refine ⟨_, SqL.of e, _, rfl, _, rfl, ite2 (fun _ => ?_) (fun _ => ?_)⟩
      · refine ⟨_, SqL.of e, _, rfl, _, rfl, hn, _, SqL.of e, _, rfl, _, rfl, ⟨hn, by omega⟩, _, e, _, rfl, ?_⟩
        refine fin _ _ _ _ (Int.emod_nonneg _ (by omega)) (Int.emod_lt_of_pos _ hn) ⟨Int.ediv_nonneg hx (by omega), hy, hz, hz2⟩
      · refine ⟨_, SqL.of e, _, rfl, _, SqL.of e, _, rfl, _, rfl, ⟨by decide, by decide⟩, _, rfl, .inl ⟨by omega, by omega⟩, _, SqL.of e, _, rfl, _, rfl, by decide, by decide, _, e, _, rfl, ?_⟩
        refine ⟨_, SqL.of upd_same, _, rfl, _, rfl, ⟨by decide, by decide⟩, hn, ?_⟩
        refine fin _ _ _ _ (Int.emod_nonneg _ (by omega)) (Int.emod_lt_of_pos _ hn) ⟨hx, hy, by omega, by omega⟩
    · refine ⟨_, SqL.of e, _, rfl, _, SqL.of e, _, rfl, _, rfl, ⟨by decide, by decide⟩, _, rfl, .inl ⟨by omega, by omega⟩, _, SqL.of e, _, rfl, _, rfl, by decide, by decide, _, e, _, rfl, ?_⟩
      refine ⟨_, SqL.of upd_same, _, rfl, _, rfl, ⟨by decide, by decide⟩, hn, ?_⟩
      refine fin _ _ _ _ (Int.emod_nonneg _ (by omega)) (Int.emod_lt_of_pos _ hn) ⟨hx, hy, by omega, by omega⟩
abbrev CDig (P : Program) (w : World) (K : PySem.W.Frag) (mg : Str → Option Value) (base : Heap) : Prop := Cal P w K mg base CX0 "_law_digit" ["_law_s", "_law_base"] 1 spDigit
end
end Ld

namespace Ld
open PySem PySem.Spec PyProof.Rows L2 TL Nm
abbrev sPla : Str := Str.ofString "abcdefghijklmnopqrstuvwxyz0123456789"
theorem pla_at {d : Int} (h0 : 0 ≤ d) (h1 : d < 36) : ∃ c, atI sPla.cps.toList d = some c ∧ isAl c = true := by
  obtain ⟨n, rfl⟩ := Int.eq_ofNat_of_zero_le h0
  have hn : n < 36 := by omega
  have key : ∀ n < 36, ((sPla.cps.toList)[n]?).any isAl = true := by decide +kernel
  have k := key n hn
  cases e : (sPla.cps.toList)[n]? with
  | none =>
    rw [e] at k
    cases k
  | some c =>
    rw [e] at k
    exact ⟨c, atI_nat e, k⟩
theorem al47 {l : List Nat} (h : l.all isAl = true) : 47 ∉ l := fun hm => by
  have := List.all_eq_true.mp h 47 hm
  exact absurd this (by decide)
theorem al_pl {c : Nat} (h : isAl c = true) : isPl c = true := by
  unfold isPl
  rw [h, Bool.true_or]
/-- plain segments, joined -/
theorem join_pl {ls : List (List Nat)} {B : Nat} (hne : ls ≠ []) (h : ∀ l ∈ ls, (l.all isAl = true ∧ l ≠ []) ∧ l.length ≤ B) : (joinL [47] ls).all isPl = true ∧ walk true (joinL [47] ls) = some false ∧ (joinL [47] ls).count 47 + 1 = ls.length ∧ (joinL [47] ls).length ≤ (B + 1) * ls.length ∧ (ls.map List.length).sum ≤ B * ls.length := by
  have e : cuts (joinL [47] ls) = ls := spl_join (S := []) hne fun p hp => al47 (h p hp).1.1
  have f2 := flat_len (B := B) (ls := ls) fun l hl => (h l hl).2
  have f3 := joinL_len [47] ls
  refine ⟨?_, ?_, ?_, ?_, f2⟩
  · rw [joinL_all isPl (by decide), List.all_eq_true]
    exact fun l hl => all_imp (fun c => al_pl) (h l hl).1.1
  · have := walk_cuts (joinL [47] ls)
    rw [e] at this
    have a : (ls.all fun p => !p.isEmpty) = true := by
      rw [List.all_eq_true]
      intro p hp
      have := (h p hp).1.2
      cases p with
      | nil => exact absurd rfl this
      | cons a r => rfl
    rw [a] at this
    exact eq_of_beq this
  · have := cuts_count (joinL [47] ls)
    rw [e] at this
    omega
  · simp only [List.length_cons, List.length_nil] at f3
    have : (B + 1) * ls.length = B * ls.length + ls.length := by rw [Nat.add_mul, Nat.one_mul]
    omega
theorem fit2 {B n m : Nat} (h : n ≤ 4) (hB : B ≤ 10) (hm : m ≤ B * n) : m ≤ 40 := Nat.le_trans hm (Nat.le_trans (Nat.mul_le_mul hB h) (by decide))
section
variable {P : Program} {w : World} {K : PySem.W.Frag} {mg : Str → Option Value} {base : Heap}
abbrev s_law_plain : Stmt := topS 21
abbrev N_law_plain : List Str := ["_law_s", "_law_many", "_law_some", "_law_k"]
theorem sc_law_plain : FnScope N_law_plain ["_law_s", "_law_many"] (defScope s_law_plain) := ⟨rfl, rfl, rfl, by decide +kernel, rfl, by decide +kernel, by decide +kernel⟩
theorem st_law_plain (v0 v1 : V) : L2.start N_law_plain [v0, v1] = [some v0, some v1, none, none] := rfl
def spPlain : Sp := fun vs H Q _ => ∃ a m, vs = [.ref a, .int m] ∧ Dr H a ∧ 0 ≤ m ∧ m ≤ 1000 ∧ ∀ l H', l.length = m.toNat → l.all isAl = true → Dr H' a → Keep a H H' → Q (.str (S l)) H'
theorem ok_plain (F : FunAt K mg "_law_plain" s_law_plain ["_law_s", "_law_many"]) (z_range : mg "range" = none) (C1 : CDig P w K mg base) : Cal P w K mg base CX0 "_law_plain" ["_law_s", "_law_many"] 2 spPlain := by
  obtain ⟨f, fd, F, g, b⟩ := F
  obtain ⟨_, _, G_law_digit, g_law_digit, k_law_digit, b_law_digit⟩ := C1
  refine ⟨f, fd, F.ok sc_law_plain (fun vs H Q E h => ?_) (fun cdv A outer s H vs Q E hr h => ?_), g, F.kp, b⟩
  · obtain ⟨a, m, rfl, _⟩ := h
    rfl
  · refine ⟨_, (pss_cons (ps_set (i := 2) sc_law_plain.nd rfl (Or.inr rfl) pe_str)
      (pss_one (ps_ret (pe_join pe_str (pe_lc (own := [("_law_k", 3)]) (g := gName 3) (tt := tYes) (by rfl) sc_law_plain.nd (pi_range1 (by rfl) z_range (pa_cons (pv 1) pa_nil)) (blkOk_by (N := N_law_plain) (sc := defScope s_law_plain) (by decide +kernel)) (fun _ _ _ _ _ => pg_name (i := 3) sc_law_plain.nd rfl (Or.inl rfl)) (fun _ _ _ _ _ => pts_nil) (fun _ _ _ _ _ => (pe_ix ix_str (pv 2) (pe_call G_law_digit (hr.mono (by decide)) (by rfl) g_law_digit k_law_digit b_law_digit .nil pass0 (pa_cons (pv 0) (pa_cons pe_int pa_nil))) (fun _ _ => rfl)))))))), ?_⟩
    obtain ⟨a, m, rfl, hS, h0, h1, q⟩ := h
    refine ⟨⟨_, rfl⟩, _, rfl, m, rfl, by omega, by omega, fun D hD => lc_draw (fun y => ∃ l, (l.length = 1 ∧ l.all isAl = true) ∧ y = .str (S l)) hS hD (by omega) ?_ ?_⟩
    · intro k H3 Qv hk s3 k3 hQ
      refine ⟨_, rfl, _, rfl, a, 36, rfl, s3, by decide, by decide, fun d H4 d0 d1 s4 k4 => ?_⟩
      obtain ⟨c, hc, ho⟩ := pla_at d0 d1
      exact ⟨_, d, c, rfl, rfl, by decide +kernel, hc, hQ _ _ ⟨[c], ⟨rfl, by simp [ho]⟩, rfl⟩ s4 k4⟩
    · intro ys H' hl hy s' k' e'
      obtain ⟨ls, rfl, hp, hl2⟩ := ys_of hy
      have f1 := flat_one (ls := ls) fun l hl => (hp l hl).1
      have f2 := flat_len (B := 1) (ls := ls) fun l hl => by rw [(hp l hl).1]; exact Nat.le_refl _
      rw [List.length_map] at hl
      refine ⟨S [], D, ls.map S, by rw [lit_e], rfl, .inl (by rw [map_VS]; exact SqL.of e'), ?_, ?_⟩
      · rw [lens_S, List.length_map, len_S]
        simp only [List.length_nil]
        omega
      · rw [join_S, joinL_flat]
        exact q _ H' (by omega) (flat_all fun l hl => (hp l hl).2) s' k'
abbrev CPla (P : Program) (w : World) (K : PySem.W.Frag) (mg : Str → Option Value) (base : Heap) : Prop := Cal P w K mg base CX0 "_law_plain" ["_law_s", "_law_many"] 2 spPlain
theorem ne_of_len {l : List Nat} {n : Nat} (h : l.length = n) (hn : 0 < n) : l ≠ [] := fun z => by
  rw [z] at h
  simp at h
  omega
abbrev s_law_stem : Stmt := topS 22
abbrev N_law_stem : List Str := ["_law_s", "_law_k"]
theorem sc_law_stem : FnScope N_law_stem ["_law_s"] (defScope s_law_stem) := ⟨rfl, rfl, rfl, by decide +kernel, rfl, by decide +kernel, by decide +kernel⟩
theorem st_law_stem (v0 : V) : L2.start N_law_stem [v0] = [some v0, none] := rfl
def spStem : Sp := fun vs H Q _ => ∃ a, vs = [.ref a] ∧ Dr H a ∧ ∀ d H', PN d → Dr H' a → Keep a H H' → Q (.str (S d)) H'
theorem ok_stem (F : FunAt K mg "_law_stem" s_law_stem ["_law_s"]) (z_range : mg "range" = none) (C1 : CDig P w K mg base) (C2 : CPla P w K mg base) : Cal P w K mg base CX0 "_law_stem" ["_law_s"] 3 spStem := by
  obtain ⟨f, fd, F, g, b⟩ := F
  obtain ⟨_, _, G_law_digit, g_law_digit, k_law_digit, b_law_digit⟩ := C1
  obtain ⟨_, _, G_law_plain, g_law_plain, k_law_plain, b_law_plain⟩ := C2
  refine ⟨f, fd, F.ok sc_law_stem (fun vs H Q E h => ?_) (fun cdv A outer s H vs Q E hr h => ?_), g, F.kp, b⟩
  · obtain ⟨a, rfl, _⟩ := h
    rfl
  · refine ⟨_, (pss_one (ps_ret (pe_join pe_str (pe_lc (own := [("_law_k", 1)]) (g := gName 1) (tt := tYes) (by rfl) sc_law_stem.nd (pi_range1 (by rfl) z_range (pa_cons (pe_op op_add pe_int (pe_call G_law_digit (hr.mono (by decide)) (by rfl) g_law_digit k_law_digit b_law_digit .nil pass0 (pa_cons (pv 0) (pa_cons pe_int pa_nil)))) pa_nil)) (blkOk_by (N := N_law_stem) (sc := defScope s_law_stem) (by decide +kernel)) (fun _ _ _ _ _ => pg_name (i := 1) sc_law_stem.nd rfl (Or.inl rfl)) (fun _ _ _ _ _ => pts_nil) (fun _ _ _ _ _ => (pe_call G_law_plain (hr.mono (by decide)) (by rfl) g_law_plain k_law_plain b_law_plain .nil pass0 (pa_cons (pv 0) (pa_cons (pe_op op_add pe_int (pe_call G_law_digit (hr.mono (by decide)) (by rfl) g_law_digit k_law_digit b_law_digit .nil pass0 (pa_cons (pv 0) (pa_cons pe_int pa_nil)))) pa_nil)))))))), ?_⟩
    obtain ⟨a, rfl, hS, q⟩ := h
    refine ⟨⟨_, rfl⟩, _, rfl, a, 2, rfl, hS, by decide, by decide, fun m H1 m0 m1 s1 k1 => ⟨_, _, rfl, rfl, _, rfl, by omega, by omega, fun D hD => lc_draw (fun y => ∃ l, ((l.all isAl = true ∧ l ≠ []) ∧ l.length ≤ 6) ∧ y = .str (S l)) s1 hD (by omega) ?_ ?_⟩⟩
    · intro k H3 Qv hk s3 k3 hQ
      refine ⟨_, rfl, _, rfl, a, 6, rfl, s3, by decide, by decide, fun n H4 n0 n1 s4 k4 => ⟨_, _, rfl, rfl, a, _, rfl, s4, by omega, by omega, fun l H5 hl ho s5 k5 => hQ _ H5 ⟨l, ⟨⟨ho, ne_of_len hl (by omega)⟩, by omega⟩, rfl⟩ s5 (k4.trans k5)⟩⟩
    · intro ys H' hl hy s' k' e'
      obtain ⟨ls, rfl, hp, hl2⟩ := ys_of hy
      rw [List.length_map] at hl
      have hne : ls ≠ [] := fun z => by
        rw [z] at hl
        simp at hl
        omega
      obtain ⟨j1, j2, j3, j4, j5⟩ := join_pl (B := 6) hne hp
      refine ⟨S [47], D, ls.map S, by rw [lit_sl], rfl, .inl (by rw [map_VS]; exact SqL.of e'), ?_, ?_⟩
      · rw [lens_S, List.length_map, len_S]
        simp only [List.length_cons, List.length_nil]
        omega
      · rw [join_S]
        exact q _ H' ⟨j1, j2, by omega, by omega⟩ s' (k1.trans k')
abbrev s_law_otherwise : Stmt := topS 24
abbrev N_law_otherwise : List Str := ["_law_name", "_law_s", "_law_found", "_law_sign"]
theorem sc_law_otherwise : FnScope N_law_otherwise ["_law_name", "_law_s"] (defScope s_law_otherwise) := ⟨rfl, rfl, rfl, by decide +kernel, rfl, by decide +kernel, by decide +kernel⟩
theorem st_law_otherwise (v0 v1 : V) : L2.start N_law_otherwise [v0, v1] = [some v0, some v1, none, none] := rfl
def spOther : Sp := fun vs H Q _ => ∃ a d, vs = [.str (S d), .ref a] ∧ Dr H a ∧ PN d ∧ ∀ l H', nameOf l = some d → l.length ≤ 1000 → Dr H' a → Keep a H H' → Q (.str (S l)) H'
theorem bit {d : Int} (h0 : 0 ≤ d) (h1 : d < 2) : d = 0 ∨ d = 1 := by omega
theorem tri {d : Int} (h0 : 0 ≤ d) (h1 : d < 3) : d = 0 ∨ d = 1 ∨ d = 2 := by omega
theorem lit_us : Str.ofString "_ " = S [95, 32] := by decide +kernel
theorem ok_other (F : FunAt K mg "_law_otherwise" s_law_otherwise ["_law_name", "_law_s"]) (C1 : CDig P w K mg base) : Cal P w K mg base CX0 "_law_otherwise" ["_law_name", "_law_s"] 2 spOther := by
  obtain ⟨f, fd, F, g, b⟩ := F
  obtain ⟨_, _, G_law_digit, g_law_digit, k_law_digit, b_law_digit⟩ := C1
  refine ⟨f, fd, F.ok sc_law_otherwise (fun vs H Q E h => ?_) (fun cdv A outer s H vs Q E hr h => ?_), g, F.kp, b⟩
  · obtain ⟨a, d, rfl, _⟩ := h
    rfl
  · refine ⟨_, (pss_cons (ps_set (i := 2) sc_law_otherwise.nd rfl (Or.inl rfl) (pe_join pe_str (pe_lc (own := [("_law_sign", 3)]) (g := gName 3) (tt := tYes) (by rfl) sc_law_otherwise.nd (pi_str (pv 0)) (blkOk_by (N := N_law_otherwise) (sc := defScope s_law_otherwise) (by decide +kernel)) (fun _ _ _ _ _ => pg_name (i := 3) sc_law_otherwise.nd rfl (Or.inl rfl)) (fun _ _ _ _ _ => pts_nil) (fun _ _ _ _ _ => (pe_ix (ix_listK (K := K)) (pe_lst (pa_cons (pv 3) (pa_cons (pe_upper (pv 3)) pa_nil))) (pe_call G_law_digit (hr.mono (by decide)) (by rfl) g_law_digit k_law_digit b_law_digit .nil pass0 (pa_cons (pv 1) (pa_cons pe_int pa_nil))) (fun _ _ => rfl))))))
      (pss_one (ps_ret (pe_op op_add_str (pe_op op_add_str (pe_ix ix_list (pe_lst (pa_cons pe_str (pa_cons pe_str (pa_cons pe_str pa_nil)))) (pe_call G_law_digit (hr.mono (by decide)) (by rfl) g_law_digit k_law_digit b_law_digit .nil pass0 (pa_cons (pv 1) (pa_cons pe_int pa_nil))) (fun _ _ => rfl)) (pv 2)) (pe_ix ix_list (pe_lst (pa_cons pe_str (pa_cons pe_str pa_nil))) (pe_call G_law_digit (hr.mono (by decide)) (by rfl) g_law_digit k_law_digit b_law_digit .nil pass0 (pa_cons (pv 1) (pa_cons pe_int pa_nil))) (fun _ _ => rfl)))))), ?_⟩
    obtain ⟨a, d, rfl, hS, hP, q⟩ := h
    have hlen := hP.ln
    have hd := hP.name
    have hok := name_ok hd
    refine ⟨⟨_, rfl⟩, _, rfl, S d, rfl, fun D hD => lc_drawT (fun k ws => ws.length = k ∧ nmR ws.flatten = nmR (d.take k) ∧ ws.flatten.all okS = true ∧ (∀ u ∈ ws, u.length ≤ 1)) ⟨rfl, rfl, rfl, by simp⟩ hS hD (by omega) (fun k ws h => h.1) ?_ ?_⟩
    · intro k c ws H3 Qv hc ⟨i1, i2, i3, i4⟩ s3 k3 hQ
      have hcm : c ∈ d := List.mem_of_getElem? hc
      have hcok := List.all_eq_true.mp hok c hcm
      have hcA : c < 128 := ok_asc hcok
      have hpl : isPl c = true := List.all_eq_true.mp hP.pl c hcm
      have n95 : c ≠ 95 := fun z => by
        rw [z] at hpl
        exact absurd hpl (by decide)
      have up : Txt.upper (S [c]) = S [upc c] := upper_S (fun x hx => by rw [List.mem_singleton.mp hx]; exact hcA)
      have go : ∀ wd : List Nat, OneWay c wd → wd.length ≤ 1 → ((ws ++ [wd]).length = k + 1 ∧ nmR (ws ++ [wd]).flatten = nmR (d.take (k + 1)) ∧ (ws ++ [wd]).flatten.all okS = true ∧ (∀ u ∈ ws ++ [wd], u.length ≤ 1)) := fun wd hw h1 => by
        have ef : (ws ++ [wd]).flatten = ws.flatten ++ wd := by simp
        rw [ef]
        refine ⟨by simp [i1], way_step i2 hc hw (name_plain hd c hcm), by rw [List.all_append, i3, way_ok hw hcok]; rfl, fun u hu => ?_⟩
        rcases List.mem_append.mp hu with z | z
        · exact i4 u z
        · rw [List.mem_singleton.mp z]
          exact h1
      refine ⟨_, rfl, _, rfl, ⟨_, rfl⟩, _, rfl, rfl, by rw [len_S]; simp, sz (by simp), fun p hp => ?_⟩
      have hpa : p ≠ a := (s3.ne hp).symm
      refine ⟨_, rfl, a, 2, rfl, s3.upd hp, by decide, by decide, fun n H4 n0 n1 s4 k4 => ?_⟩
      rw [up] at k4
      have hl4 : H4 p = some (.lst [.str (S [c]), .str (S [upc c])]) := k4 _ _ upd_same hpa
      have kk : Keep a H3 H4 := (keep_new hp).trans k4
      rcases bit n0 n1 with rfl | rfl
      · exact ⟨p, _, 0, _, rfl, rfl, SqL.of hl4, rfl, hQ [c] H4 (go [c] (.inr ⟨n95, .inl rfl⟩) (by simp)) s4 kk⟩
      · exact ⟨p, _, 1, _, rfl, rfl, SqL.of hl4, rfl, hQ [upc c] H4 (go [upc c] (.inr ⟨n95, .inr rfl⟩) (by simp)) s4 kk⟩
    · rintro ws Ha ⟨i1, i2, i3, i4⟩ sa ka eD
      rw [take_len] at i2
      have f2 := flat_len (B := 1) (ls := ws) i4
      have fl : ws.flatten.length ≤ 24 := by
        rw [List.length_flatten]
        omega
      refine ⟨S [], D, ws.map S, by rw [lit_e], rfl, .inl (by rw [map_VS]; exact SqL.of eD), by rw [lens_S, List.length_map, len_S]; simp only [List.length_nil]; omega, ?_⟩
      rw [join_S, joinL_flat]
      generalize ws.flatten = bb at i2 i3 fl
      have fin : ∀ pre suf : List Nat, pre.all isGap = true → suf.all isGap = true → pre.length ≤ 2 → suf.length ≤ 2 → ∀ H9, Dr H9 a → Keep a H H9 → Q (.str (S (pre ++ bb ++ suf))) H9 := fun pre suf h1 h2 h3 h4 H9 s9 k9 =>
        q _ H9 (name_way hd i2 i3 h1 h2) (by rw [List.length_append, List.length_append]; omega) s9 k9
      refine ⟨sz (by simp), fun p hp => ?_⟩
      have hpa : p ≠ a := (sa.ne hp).symm
      refine ⟨_, rfl, a, 3, rfl, sa.upd hp, by decide, by decide, fun n H4 n0 n1 s4 k4 => ?_⟩
      rw [lit_e, lit_sp, lit_dash] at k4
      have hl4 : H4 p = some (.lst [.str (S []), .str (S [32]), .str (S [45])]) := k4 _ _ upd_same hpa
      have kk : Keep a H H4 := (ka.trans (keep_new hp)).trans k4
      have second : ∀ pre : List Nat, pre.all isGap = true → pre.length ≤ 2 → tOp (rIxL K) (tLst (tCons (tC (.str (Str.ofString ""))) (tCons (tC (.str (Str.ofString "_ "))) tNil))) (tCall spDigit [] E0 (tCons (tVar 1) (tCons (tC (.int 2)) tNil))) [some (.str (S d)), some (.ref a), some (.str (S bb)), none] H4
          fun z H5 => ∃ i j, V.str (S (pre ++ bb)) = .str i ∧ z = .str j ∧ i.length + j.length ≤ sizeLine ∧ Q (.str (i ++ j)) H5 := fun pre h1 h2 => by
        refine ⟨sz (by simp), fun p2 hp2 => ?_⟩
        have hpa2 : p2 ≠ a := (s4.ne hp2).symm
        refine ⟨_, rfl, a, 2, rfl, s4.upd hp2, by decide, by decide, fun n H5 n0 n1 s5 k5 => ?_⟩
        rw [lit_e, lit_us] at k5
        have hl5 : H5 p2 = some (.lst [.str (S []), .str (S [95, 32])]) := k5 _ _ upd_same hpa2
        have kk5 : Keep a H H5 := (kk.trans (keep_new hp2)).trans k5
        rcases bit n0 n1 with rfl | rfl
        · refine ⟨p2, _, 0, _, rfl, rfl, SqL.of hl5, rfl, _, _, rfl, rfl, by rw [len_S, len_S, List.length_append]; exact sz (by simp; omega), ?_⟩
          rw [S_app]
          exact fin pre [] h1 rfl h2 (by simp) H5 s5 kk5
        · refine ⟨p2, _, 1, _, rfl, rfl, SqL.of hl5, rfl, _, _, rfl, rfl, by rw [len_S, len_S, List.length_append]; exact sz (by simp; omega), ?_⟩
          rw [S_app]
          exact fin pre [95, 32] h1 (by decide) h2 (by simp) H5 s5 kk5
      rcases tri n0 n1 with rfl | rfl | rfl
      · refine ⟨p, _, 0, _, rfl, rfl, SqL.of hl4, rfl, _, rfl, _, _, rfl, rfl, by rw [len_S, len_S]; exact sz (by simp; omega), ?_⟩
        rw [S_app]
        exact second [] rfl (by simp)
      · refine ⟨p, _, 1, _, rfl, rfl, SqL.of hl4, rfl, _, rfl, _, _, rfl, rfl, by rw [len_S, len_S]; exact sz (by simp; omega), ?_⟩
        rw [S_app]
        exact second [32] (by decide) (by simp)
      · refine ⟨p, _, 2, _, rfl, rfl, SqL.of hl4, rfl, _, rfl, _, _, rfl, rfl, by rw [len_S, len_S]; exact sz (by simp; omega), ?_⟩
        rw [S_app]
        exact second [45] (by decide) (by simp)
end
end Ld

namespace Ld
open PySem PySem.Spec PyProof.Rows L2 TL Nm
theorem slash_in (l : List Nat) : (47 ∈ (S l).cps.toList) = (47 ∈ l) := rfl
/-- a longer name, its first four segments, cut to 24 signs -/
theorem cut_pn {d e : List Nat} (hd : PN d) (e1 : e.all isPl = true) (e2 : walk true e = some false) : ∃ g, g = joinL [47] ((cuts (d ++ 47 :: e)).take 4) ∧ g.all isPl = true ∧ (∃ b, walk true (g.take 24) = some b) ∧ g.count 47 ≤ 3 ∧ g ≠ [] := by
  have hf : (d ++ 47 :: e).all isPl = true := by
    rw [List.all_append, hd.pl, List.all_cons, e1]
    decide
  have hw : walk true (d ++ 47 :: e) = some false := by
    rw [walk_app, hd.wk]
    show walk false (47 :: e) = some false
    rw [walk_cons, if_pos rfl, if_neg Bool.false_ne_true]
    exact e2
  have hc := walk_cuts (d ++ 47 :: e)
  rw [hw] at hc
  have hall : ∀ p ∈ (cuts (d ++ 47 :: e)).take 4, p.all isAl = true ∧ p ≠ [] := fun p hp => by
    have hm := List.mem_of_mem_take hp
    refine ⟨pl_cuts hf p hm, fun z => ?_⟩
    have := List.all_eq_true.mp hc.symm p hm
    rw [z] at this
    cases this
  have hne : (cuts (d ++ 47 :: e)).take 4 ≠ [] := fun z => by
    have := congrArg List.length z
    rw [List.length_take, List.length_nil] at this
    have h2 : 0 < (cuts (d ++ 47 :: e)).length := List.length_pos_iff.mpr (cuts_ne _)
    omega
  have hB : ∀ l ∈ (cuts (d ++ 47 :: e)).take 4, (l.all isAl = true ∧ l ≠ []) ∧ l.length ≤ (d ++ 47 :: e).length := fun p hp => ⟨hall p hp, by
    have := spl_mem_len 47 (d ++ 47 :: e) [] p (List.mem_of_mem_take hp)
    simpa using this⟩
  obtain ⟨j1, j2, j3, j4, j5⟩ := join_pl hne hB
  refine ⟨_, rfl, j1, walk_take j2 24, ?_, fun z => ?_⟩
  · have : ((cuts (d ++ 47 :: e)).take 4).length ≤ 4 := by rw [List.length_take]; omega
    omega
  · rw [z] at j2
    cases j2
theorem take_ne {l : List Nat} (h : l ≠ []) : l.take 24 ≠ [] := fun z => by
  cases l with
  | nil => exact h rfl
  | cons a r => cases z
theorem PN.more {d e : List Nat} (h : PN d) (he : e.all isAl = true) : PN ((d ++ e).take 24) := by
  have hl := h.ln
  have et : (d ++ e).take 24 = d ++ e.take (24 - d.length) := by
    rw [List.take_append, List.take_of_length_le hl]
  rw [et]
  have h47 : 47 ∉ e.take (24 - d.length) := fun z => al47 he (List.mem_of_mem_take z)
  refine ⟨?_, ?_, ?_, ?_⟩
  · rw [List.all_append, h.pl, all_take _ (all_imp (fun c => al_pl) he)]
    rfl
  · rw [walk_app, h.wk]
    show walk false _ = _
    rw [walk_plain h47]
    rfl
  · rw [List.count_append, List.count_eq_zero.mpr h47]
    exact h.ct
  · rw [List.length_append, List.length_take]
    omega
section
variable {P : Program} {w : World} {K : PySem.W.Frag} {mg : Str → Option Value} {base : Heap}
abbrev s_law_beside : Stmt := topS 23
abbrev N_law_beside : List Str := ["_law_s", "_law_stem_here", "_law_way", "_law_more", "_law_found", "_law_k"]
theorem sc_law_beside : FnScope N_law_beside ["_law_s", "_law_stem_here"] (defScope s_law_beside) := ⟨rfl, rfl, rfl, by decide +kernel, rfl, by decide +kernel, by decide +kernel⟩
theorem st_law_beside (v0 v1 : V) : L2.start N_law_beside [v0, v1] = [some v0, some v1, none, none, none, none] := rfl
def spBeside : Sp := fun vs H Q _ => ∃ a d, vs = [.ref a, .str (S d)] ∧ Dr H a ∧ PN d ∧ ∀ d' H', PN d' → Dr H' a → Keep a H H' → Q (.str (S d')) H'
theorem ok_beside (F : FunAt K mg "_law_beside" s_law_beside ["_law_s", "_law_stem_here"]) (z_range : mg "range" = none) (C1 : CDig P w K mg base) (C2 : CPla P w K mg base) (C3 : Cal P w K mg base CX0 "_law_stem" ["_law_s"] 3 spStem) : Cal P w K mg base CX0 "_law_beside" ["_law_s", "_law_stem_here"] 4 spBeside := by
  obtain ⟨f, fd, F, g, b⟩ := F
  obtain ⟨_, _, G_law_digit, g_law_digit, k_law_digit, b_law_digit⟩ := C1
  obtain ⟨_, _, G_law_plain, g_law_plain, k_law_plain, b_law_plain⟩ := C2
  obtain ⟨_, _, G_law_stem, g_law_stem, k_law_stem, b_law_stem⟩ := C3
  refine ⟨f, fd, F.ok sc_law_beside (fun vs H Q E h => ?_) (fun cdv A outer s H vs Q E hr h => ?_), g, F.kp, b⟩
  · obtain ⟨a, d, rfl, _⟩ := h
    rfl
  · refine ⟨_, (pss_cons (ps_set (i := 2) sc_law_beside.nd rfl (Or.inl rfl) (pe_call G_law_digit (hr.mono (by decide)) (by rfl) g_law_digit k_law_digit b_law_digit .nil pass0 (pa_cons (pv 0) (pa_cons pe_int pa_nil))))
      (pss_cons (ps_if (pt_cmpR op_lt (pv 2) pe_int (nomark _)) (pss_cons (ps_set (i := 3) sc_law_beside.nd rfl (Or.inl rfl) (pe_join pe_str (pe_lc (own := [("_law_k", 5)]) (g := gName 5) (tt := tYes) (by rfl) sc_law_beside.nd (pi_range1 (by rfl) z_range (pa_cons (pe_op op_add pe_int (pe_call G_law_digit (hr.mono (by decide)) (by rfl) g_law_digit k_law_digit b_law_digit .nil pass0 (pa_cons (pv 0) (pa_cons pe_int pa_nil)))) pa_nil)) (blkOk_by (N := N_law_beside) (sc := defScope s_law_beside) (by decide +kernel)) (fun _ _ _ _ _ => pg_name (i := 5) sc_law_beside.nd rfl (Or.inl rfl)) (fun _ _ _ _ _ => pts_nil) (fun _ _ _ _ _ => (pe_call G_law_plain (hr.mono (by decide)) (by rfl) g_law_plain k_law_plain b_law_plain .nil pass0 (pa_cons (pv 0) (pa_cons (pe_op op_add pe_int (pe_call G_law_digit (hr.mono (by decide)) (by rfl) g_law_digit k_law_digit b_law_digit .nil pass0 (pa_cons (pv 0) (pa_cons pe_int pa_nil)))) pa_nil)))))))
      (pss_cons (ps_set (i := 4) sc_law_beside.nd rfl (Or.inl rfl) (pe_join pe_str (pe_slice sl_list (pe_split (pe_op op_add_str (pe_op op_add_str (pv 1) pe_str) (pv 3)) pe_str) po_none (po_some pe_int))))
      (pss_one (ps_ret (pe_m1 PySem.F.slot_str_rstrip PySem.F.type_str_rstrip mt_rstripChars (pe_slice sl_str (pv 4) po_none (po_some pe_int)) pe_str))))) pss_nil)
      (pss_cons (ps_if (pt_cmpR op_eq (pv 2) pe_int (nomark _)) (pss_one (ps_ret (pv 1))) pss_nil)
      (pss_cons (ps_if (pt_cmpR op_eq (pv 2) pe_int (nomark _)) (pss_one (ps_ret (pe_slice sl_str (pe_op op_add_str (pv 1) (pe_call G_law_plain (hr.mono (by decide)) (by rfl) g_law_plain k_law_plain b_law_plain .nil pass0 (pa_cons (pv 0) (pa_cons pe_int pa_nil)))) po_none (po_some pe_int)))) pss_nil)
      (pss_cons (ps_if (PW.pt (pw_and (pt_cmpR op_eq (pv 2) pe_int (nomark _)) (pw_and1 (pt_cmpR op_in_sign pe_str (pv 1) (by rfl))))) (pss_one (ps_ret (pe_ix ix_tup (pe_m1 PySem.F.slot_str_rpartition PySem.F.type_str_rpartition mt_rpartition (pv 1) pe_str) pe_int (fun _ _ => rfl)))) pss_nil)
      (pss_one (ps_ret (pe_call G_law_stem (hr.mono (by decide)) (by rfl) g_law_stem k_law_stem b_law_stem .nil pass0 (pa_cons (pv 0) pa_nil))))))))), ?_⟩
    obtain ⟨a, d, rfl, hS, hP, q⟩ := h
    have hln := hP.ln
    refine ⟨_, rfl, a, 7, rfl, hS, by decide, by decide, fun wy H1 w0 w1 s1 k1 => ⟨_, rfl, _, _, rfl, rfl, _, rfl, ite2 (fun _ => ?_) (fun _ => ?_)⟩⟩
    · refine ⟨⟨_, rfl⟩, _, rfl, a, 2, rfl, s1, by decide, by decide, fun m H2 m0 m1 s2 k2 => ⟨_, _, rfl, rfl, _, rfl, by omega, by omega, fun D hD => lc_draw (fun y => ∃ l, ((l.all isAl = true ∧ l ≠ []) ∧ l.length ≤ 4) ∧ y = .str (S l)) s2 hD (by omega) ?_ ?_⟩⟩
      · intro k H3 Qv hk s3 k3 hQ
        refine ⟨_, rfl, _, rfl, a, 4, rfl, s3, by decide, by decide, fun n H4 n0 n1 s4 k4 => ⟨_, _, rfl, rfl, a, _, rfl, s4, by omega, by omega, fun l H5 hl ho s5 k5 => hQ _ H5 ⟨l, ⟨⟨ho, ne_of_len hl (by omega)⟩, by omega⟩, rfl⟩ s5 (k4.trans k5)⟩⟩
      · intro ys H' hl hy s' k' e'
        obtain ⟨ls, rfl, hp, hl2⟩ := ys_of hy
        rw [List.length_map] at hl
        have hne : ls ≠ [] := fun z => by
          rw [z] at hl
          simp at hl
          omega
        obtain ⟨j1, j2, j3, j4, j5⟩ := join_pl (B := 4) hne hp
        refine ⟨S [47], D, ls.map S, by first | rfl | rw [lit_sl], rfl, .inl (by rw [map_VS]; exact SqL.of e'), ?_, ?_⟩
        · rw [lens_S, List.length_map, len_S]
          simp only [List.length_cons, List.length_nil]
          omega
        · rw [join_S]
          have hml : (joinL [47] ls).length ≤ 20 := by omega
          generalize joinL [47] ls = mo at j1 j2 hml
          have kk : Keep a H H' := (k1.trans k2).trans k'
          obtain ⟨g0, eg, g1, ⟨b0, g2⟩, g3, g4⟩ := cut_pn hP j1 j2
          -- (stem + '/' + more).split('/')[:4]
          refine ⟨⟨_, rfl⟩, _, rfl, _, _, rfl, rfl, by rw [len_S, lit_sl, len_S]; exact sz (by simp; omega), ?_⟩
          rw [lit_sl, S_app]
          refine ⟨_, rfl, _, _, rfl, rfl, by rw [len_S, len_S, List.length_append]; exact sz (by simp; omega), ?_⟩
          rw [S_app]
          have e5 : d ++ [47] ++ mo = d ++ 47 :: mo := by simp
          rw [e5]
          refine ⟨⟨_, rfl⟩, _, _, rfl, rfl, rfl, by rw [len_S]; exact sz (by simp; omega), fun p1 hp1 => ?_⟩
          rw [split_S (by decide), map_VS]
          refine ⟨4, rfl, p1, _, rfl, SqL.of upd_same, fun p2 hp2 => ?_⟩
          have e6 : cutV ((spl [47] 0 [] (d ++ 47 :: mo)).map (fun p => V.str (S p))) none (some 4) = (((cuts (d ++ 47 :: mo)).take 4).map S).map V.str := by
            rw [show (4 : Int) = ((4 : Nat) : Int) from rfl, cutV_to, map_VS, List.map_take]
            rfl
          rw [e6]
          have ls4 : (((cuts (d ++ 47 :: mo)).take 4).map List.length).sum + 4 ≤ 1000 := by
            have a1 : ∀ l ∈ (cuts (d ++ 47 :: mo)).take 4, l.length ≤ 60 := fun l hl => by
              have := spl_mem_len 47 (d ++ 47 :: mo) [] l (List.mem_of_mem_take hl)
              simp at this
              omega
            have a2 := flat_len (B := 60) a1
            have a3 : ((cuts (d ++ 47 :: mo)).take 4).length ≤ 4 := by rw [List.length_take]; omega
            omega
          refine ⟨S [47], p2, _, by first | rfl | rw [lit_sl], rfl, .inl (SqL.of upd_same), ?_, ?_⟩
          · rw [lens_S, List.length_map, len_S]
            have a3 : ((cuts (d ++ 47 :: mo)).take 4).length ≤ 4 := by rw [List.length_take]; omega
            simp only [List.length_cons, List.length_nil]
            omega
          · rw [join_S, ← eg]
            have gl : g0.length ≤ 2000 := by
              rw [eg]
              have a1 := joinL_len [47] ((cuts (d ++ 47 :: mo)).take 4)
              have a3 : ((cuts (d ++ 47 :: mo)).take 4).length ≤ 4 := by rw [List.length_take]; omega
              simp only [List.length_cons, List.length_nil] at a1
              omega
            -- [:24].rstrip('/')
            refine ⟨_, rfl, 24, rfl, _, rfl, by rw [len_S]; exact sz (by omega), ?_⟩
            rw [show (24 : Int) = ((24 : Nat) : Int) from rfl, cut_to]
            refine ⟨⟨_, rfl⟩, _, _, rfl, by first | rfl | rw [lit_sl], by rw [len_S, List.length_take]; exact sz (by omega), ?_⟩
            obtain ⟨kk2, r1, r2, r3, r4⟩ := rstrip_S (g0.take 24)
            rw [r1]
            have hpn := PN.stripped (all_take 24 g1) g2 (take_ne g4) (Nat.le_trans (count_take g0 24) g3) (by rw [List.length_take]; omega) r2 r3 r4
            refine q _ _ hpn ((s'.upd hp1).upd hp2) ((kk.trans (keep_new hp1)).trans (keep_new hp2))
    · refine ⟨_, rfl, rfl, _, rfl, ite2 (fun _ => ⟨_, rfl, q d H1 hP s1 k1⟩) (fun _ => ?_)⟩
      refine ⟨_, rfl, rfl, _, rfl, ite2 (fun _ => ?_) (fun _ => ?_)⟩
      · refine ⟨_, rfl, _, rfl, a, 2, rfl, s1, by decide, by decide, fun l H2 hl ho s2 k2 => ⟨_, _, rfl, rfl, by rw [len_S, len_S]; exact sz (by simp at hl; omega), 24, rfl, _, rfl, ?_, ?_⟩⟩
        · rw [S_app, len_S, List.length_append]
          exact sz (by simp at hl; omega)
        · rw [S_app, show (24 : Int) = ((24 : Nat) : Int) from rfl, cut_to]
          exact q _ H2 (PN.more hP ho) s2 (k1.trans k2)
      · have last : tRet (tCall spStem [] E0 (tCons (tVar 0) tNil)) { nx := fun _ H' => Q .non H', rt := Q } [some (.ref a), some (.str (S d)), some (.int wy), none, none, none] H1 :=
          ⟨_, rfl, a, rfl, s1, fun d' H2 hd' s2 k2 => q d' H2 hd' s2 (k1.trans k2)⟩
        refine ⟨_, rfl, rfl, _, rfl, ite2 (fun _ => ?_) (fun _ => ?_)⟩
        · refine ⟨_, rfl, 47, S d, by first | rfl | (rw [lit_sl]; rfl), rfl, _, rfl, ite2 (fun h5 => ?_) (fun _ => last)⟩
          have hm : 47 ∈ d := of_decide_eq_true h5
          obtain ⟨i, r1, r2⟩ := rpart_S hm
          refine ⟨_, rfl, ⟨_, rfl⟩, S d, S [47], rfl, by first | rfl | rw [lit_sl], rfl, by rw [len_S]; exact sz (by omega), fun p hp => ?_⟩
          rw [r1]
          refine ⟨p, _, 0, _, rfl, rfl, SqT.of upd_same, rfl, q _ _ (hP.before r2) (s1.upd hp) (k1.trans (keep_new hp))⟩
        · exact last
abbrev s_law_in : Stmt := topS 25
abbrev N_law_in : List Str := ["_law_name", "_law_stem_here"]
theorem sc_law_in : FnScope N_law_in ["_law_name", "_law_stem_here"] (defScope s_law_in) := ⟨rfl, rfl, rfl, by decide +kernel, rfl, by decide +kernel, by decide +kernel⟩
theorem st_law_in (v0 v1 : V) : L2.start N_law_in [v0, v1] = [some v0, some v1] := rfl
def spLIn : Sp := fun vs H Q _ => ∃ a b, vs = [.str (S a), .str (S b)] ∧ a.length ≤ 1000 ∧ b.length ≤ 1000 ∧ Q (.bl (fam a b)) H
theorem ok_lin (F : FunAt K mg "_law_in" s_law_in ["_law_name", "_law_stem_here"]) : Cal P w K mg base CX0 "_law_in" ["_law_name", "_law_stem_here"] 1 spLIn := by
  obtain ⟨f, fd, F, g, b⟩ := F
  refine ⟨f, fd, F.ok sc_law_in (fun vs H Q E h => ?_) (fun cdv A outer s H vs Q E hr h => ?_), g, F.kp, b⟩
  · obtain ⟨a, b, rfl, _⟩ := h
    rfl
  · refine ⟨_, (pss_one (ps_ret (pe_m1 PySem.F.slot_str_startswith PySem.F.type_str_startswith mt_startswith (pe_op op_add_str (pv 0) pe_str) (pe_op op_add_str (pv 1) pe_str)))), ?_⟩
    obtain ⟨a, b, rfl, h1, h2, q⟩ := h
    refine ⟨_, rfl, _, _, rfl, rfl, by rw [len_S, lit_sl, len_S]; exact sz (by simp; omega), ?_⟩
    rw [lit_sl, S_app]
    refine ⟨⟨_, rfl⟩, _, rfl, _, _, rfl, rfl, by rw [len_S, len_S]; exact sz (by simp; omega), ?_⟩
    rw [S_app]
    refine ⟨_, _, rfl, rfl, ?_⟩
    rw [starts_S]
    exact q
abbrev s_law_due : Stmt := topS 26
abbrev N_law_due : List Str := ["_law_name", "_law_stem_here", "_law_new", "_law_found"]
theorem sc_law_due : FnScope N_law_due ["_law_name", "_law_stem_here", "_law_new"] (defScope s_law_due) := ⟨rfl, rfl, rfl, by decide +kernel, rfl, by decide +kernel, by decide +kernel⟩
theorem st_law_due (v0 v1 v2 : V) : L2.start N_law_due [v0, v1, v2] = [some v0, some v1, some v2, none] := rfl
/-- what is due of a moved name -/
def dueV (n st nw : List Nat) : List V := match movR n st nw with
  | .told d => [.str (Str.ofString "told"), .str (S d)]
  | .name => [.str (Str.ofString "refused"), .str (Str.ofString "name")]
  | .rule => [.str (Str.ofString "refused"), .str (Str.ofString "rule")]
theorem due_pn {n st nw : List Nat} (hn : PN n) (hs : PN st) (hw : PN nw) : movR n st nw = if (fam st nw || (fam nw st || !fam n st)) = true then .rule else if (nw ++ n.drop st.length).length > 24 ∨ (nw ++ n.drop st.length).count 47 > 3 then .name else .told (nw ++ n.drop st.length) := by
  unfold movR
  rw [hn.name, hs.name, hw.name]
  simp only
  by_cases c : (fam st nw || (fam nw st || !fam n st)) = true
  · rw [if_pos c, if_pos c]
  · rw [if_neg c, if_neg c]
    have hf : fam n st = true := by
      cases e : fam n st with
      | true => rfl
      | false =>
        rw [e] at c
        simp at c
    obtain ⟨m1, m2⟩ := moved_wk hn hs hw hf
    rw [pl_name m1 m2]
    by_cases c2 : (nw ++ n.drop st.length).length > 24 ∨ (nw ++ n.drop st.length).count 47 > 3
    · rw [if_pos c2, if_neg (by omega)]
    · rw [if_neg c2, if_pos (by omega)]
def spDue : Sp := fun vs H Q _ => ∃ n st nw, vs = [.str (S n), .str (S st), .str (S nw)] ∧ PN n ∧ PN st ∧ PN nw ∧ ∀ p H', H p = none → Same H H' → H' p = some (.tup (dueV n st nw)) → Q (.ref p) H'
theorem ok_due (F : FunAt K mg "_law_due" s_law_due ["_law_name", "_law_stem_here", "_law_new"]) (z_len : mg "len" = none) (C1 : Cal P w K mg base CX0 "_law_in" ["_law_name", "_law_stem_here"] 1 spLIn) : Cal P w K mg base CX0 "_law_due" ["_law_name", "_law_stem_here", "_law_new"] 2 spDue := by
  obtain ⟨f, fd, F, g, b⟩ := F
  obtain ⟨_, _, G_law_in, g_law_in, k_law_in, b_law_in⟩ := C1
  refine ⟨f, fd, F.ok sc_law_due (fun vs H Q E h => ?_) (fun cdv A outer s H vs Q E hr h => ?_), g, F.kp, b⟩
  · obtain ⟨a, b, c, rfl, _⟩ := h
    rfl
  · refine ⟨_, (pss_cons (ps_if (PW.pt (pw_or (pt_val (pe_call G_law_in (hr.mono (by decide)) (by rfl) g_law_in k_law_in b_law_in .nil pass0 (pa_cons (pv 1) (pa_cons (pv 2) pa_nil)))) (pw_or (pt_val (pe_call G_law_in (hr.mono (by decide)) (by rfl) g_law_in k_law_in b_law_in .nil pass0 (pa_cons (pv 2) (pa_cons (pv 1) pa_nil)))) (pw_or1 (pt_not (pt_val (pe_call G_law_in (hr.mono (by decide)) (by rfl) g_law_in k_law_in b_law_in .nil pass0 (pa_cons (pv 0) (pa_cons (pv 1) pa_nil))))))))) (pss_one (ps_ret (pe_tup (pa_cons pe_str (pa_cons pe_str pa_nil))))) pss_nil)
      (pss_cons (ps_set (i := 3) sc_law_due.nd rfl (Or.inl rfl) (pe_op op_add_str (pv 2) (pe_slice sl_str (pv 0) (po_some (pe_callB call_len_str (by rfl) z_len PySem.boot_len (pa_cons (pv 1) pa_nil))) po_none)))
      (pss_cons (ps_if (PW.pt (pw_or (pt_cmpR op_gt (pe_callB call_len_str (by rfl) z_len PySem.boot_len (pa_cons (pv 3) pa_nil)) pe_int (nomark _)) (pw_or1 (pt_cmpR op_gt (pe_m1 PySem.F.slot_str_count PySem.F.type_str_count mt_count (pv 3) pe_str) pe_int (nomark _))))) (pss_one (ps_ret (pe_tup (pa_cons pe_str (pa_cons pe_str pa_nil))))) pss_nil)
      (pss_one (ps_ret (pe_tup (pa_cons pe_str (pa_cons (pv 3) pa_nil)))))))), ?_⟩
    obtain ⟨n, st, nw, rfl, hn, hs, hw, q⟩ := h
    have b1 := hn.ln
    have b2 := hs.ln
    have b3 := hw.ln
    unfold dueV at q
    rw [due_pn hn hs hw] at q
    have tup : ∀ (x y : V), (∀ p H', H p = none → Same H H' → H' p = some (.tup [x, y]) → Q (.ref p) H') → [x, y].length ≤ sizeLine ∧ ∀ p, H p = none → Q (.ref p) (upd H p (.tup [x, y])) := fun x y hq => ⟨sz (by simp), fun p hp => hq p _ hp (same_upd hp) upd_same⟩
    refine ⟨_, rfl, _, rfl, st, nw, rfl, by omega, by omega, _, rfl, ?_⟩
    cases e1 : fam st nw with
    | true =>
      rw [e1, Bool.true_or, if_pos rfl] at q
      exact iteT (tup _ _ q)
    | false =>
      rw [e1, Bool.false_or] at q
      refine iteF ⟨_, rfl, _, rfl, nw, st, rfl, by omega, by omega, _, rfl, ?_⟩
      cases e2 : fam nw st with
      | true =>
        rw [e2, Bool.true_or, if_pos rfl] at q
        exact iteT (tup _ _ q)
      | false =>
        rw [e2, Bool.false_or] at q
        refine iteF ⟨_, rfl, _, rfl, n, st, rfl, by omega, by omega, _, rfl, ?_⟩
        cases e3 : fam n st with
        | false =>
          rw [e3, Bool.not_false, if_pos rfl] at q
          exact iteT (tup _ _ q)
        | true =>
          rw [e3, Bool.not_true, if_neg Bool.false_ne_true] at q
          refine iteF ⟨_, rfl, _, rfl, _, rfl, S st, rfl, by rw [len_S]; exact sz (by omega), _, rfl, _, rfl, by rw [len_S]; exact sz (by omega), ?_⟩
          rw [len_S, cut_from]
          refine ⟨_, _, rfl, rfl, by rw [len_S, len_S, List.length_drop]; exact sz (by omega), ?_⟩
          rw [S_app]
          generalize hm : nw ++ n.drop st.length = mv at q
          have ml : mv.length ≤ 100 := by
            rw [← hm, List.length_append, List.length_drop]
            omega
          refine ⟨_, rfl, S mv, rfl, by rw [len_S]; exact sz (by omega), _, _, rfl, rfl, _, rfl, ?_⟩
          rw [len_S]
          by_cases c1 : mv.length > 24
          · rw [if_pos (.inl c1)] at q
            rw [decide_eq_true (show (24 : Int) < (mv.length : Int) by omega)]
            exact iteT (tup _ _ q)
          · rw [decide_eq_false (show ¬ (24 : Int) < (mv.length : Int) by omega)]
            refine iteF ⟨_, rfl, ⟨_, rfl⟩, _, _, rfl, by first | rfl | rw [lit_sl], ?_⟩
            rw [lit_sl, count_S]
            have ec : (spl [47] 0 [] mv).length - 1 = mv.count 47 := by
              have := cuts_count mv
              unfold cuts at this
              omega
            rw [ec]
            refine ⟨_, _, rfl, rfl, _, rfl, ?_⟩
            by_cases c2 : mv.count 47 > 3
            · rw [if_pos (.inr c2)] at q
              rw [decide_eq_true (show (3 : Int) < (mv.count 47 : Int) by omega)]
              exact iteT (tup _ _ q)
            · rw [if_neg (by omega)] at q
              rw [decide_eq_false (show ¬ (3 : Int) < (mv.count 47 : Int) by omega)]
              exact iteF ⟨_, rfl, sz (by simp), fun p hp => q p _ hp (same_upd hp) upd_same⟩
end
end Ld

namespace Ld
open PySem PySem.Spec PyProof.Rows L2 TL Nm
abbrev s_law_asked : Stmt := topS 27
abbrev N_law_asked : List Str := ["_law_ask", "_law_found", "e"]
theorem sc_law_asked : FnScope N_law_asked ["_law_ask"] (defScope s_law_asked) := ⟨rfl, rfl, rfl, by decide +kernel, rfl, by decide +kernel, by decide +kernel⟩
theorem st_law_asked (v0 : V) : L2.start N_law_asked [v0] = [some v0, none, none] := rfl
/-- what is known of the errors that the asking def tells apart -/
structure AskT (K : PySem.W.Frag) (mg : Str → Option Value) (CS CN CR : Addr) : Prop where
  gS : mg "SignError" = some (.ref CS)
  gN : mg "NoName" = some (.ref CN)
  gR : mg "NoRule" = some (.ref CR)
  eN : PySem.W.exmOne K (.ref CN) (.ref CS) = some true
  eR : PySem.W.exmOne K (.ref CR) (.ref CS) = some true
  cN : ExcC K CN
  cR : ExcC K CR
  kNN : PySem.W.kitOne K (.ref CN) (.ref CN) = some true
  kNR : PySem.W.kitOne K (.ref CN) (.ref CR) = some false
  kRN : PySem.W.kitOne K (.ref CR) (.ref CN) = some false
  kRR : PySem.W.kitOne K (.ref CR) (.ref CR) = some true
  zi : mg "isinstance" = none
  zn : mg "int" = none
/-- a new pair -/
def pairQ (Q : VK) (x y : V) (H : Hp) : Prop := ∀ p H', H p = none → Same H H' → H' p = some (.tup [x, y]) → Q (.ref p) H'
def echo (CN CR : Addr) (Q : VK) : XK := fun cls d H => d = none ∧ ((cls = .ref CN ∧ pairQ Q (.str (Str.ofString "refused")) (.str (Str.ofString "name")) H) ∨ (cls = .ref CR ∧ pairQ Q (.str (Str.ofString "refused")) (.str (Str.ofString "rule")) H))
/-- a pair told, as the asking def hands it back -/
def toldQ (Q : VK) : VK := fun v H2 => [V.str (Str.ofString "told"), v].length ≤ sizeLine ∧ ∀ p, H2 p = none → ∃ v', some (some (V.ref p)) = some (some v') ∧ Q v' (upd H2 p (.tup [.str (Str.ofString "told"), v]))
theorem toldQ_of {Q : VK} {v : V} {H : Hp} (h : pairQ Q (.str (Str.ofString "told")) v H) : toldQ Q v H := ⟨sz (by simp), fun p hp => ⟨_, rfl, h p _ hp (same_upd hp) upd_same⟩⟩
def TAsk (CN CR : Addr) : (XK → Hp → VK → Prop) → Hp → VK → Prop := fun tl H Q => ∀ p0, H p0 = none → tl (echo CN CR Q) (upd H p0 (.tup [.str (Str.ofString "refused"), .str (Str.ofString "other")])) (toldQ Q)
def tIsE (K : PySem.W.Frag) (DD a C : Addr) : TE := tCB (rIsE K DD a) (tCons (tVar 2) (tCons (tC (.ref C)) tNil))
def tSuite (K : PySem.W.Frag) (CN CR DD a : Addr) : TS := tIfS (tTest (tOp rNe (tIsE K DD a CR) (tIsE K DD a CN)))
  (tAsg (tTup (tCons (tC (.str (Str.ofString "refused"))) (tCons (tOp (rIxL K) (tLst (tCons (tC (.str (Str.ofString "name"))) (tCons (tC (.str (Str.ofString "rule"))) tNil))) (tCB rInt1 (tCons (tIsE K DD a CR) tNil))) tNil))) (gName 1)) tNext
theorem three {σ : L2.St} (h : σ.length = 3) : ∃ a b c, σ = [a, b, c] := by
  match σ, h with
  | [a, b, c], _ => exact ⟨a, b, c, rfl⟩
theorem asked_gives {X : Cx} {CS CN CR g : Addr} {cdg : Value} {q : Str} (T : AskT X.K X.mg CS CN CR) : LamX.GivesTo X N_law_asked "_law_asked" (defScope s_law_asked) g cdg (defBody s_law_asked) "_law_ask" q (TAsk CN CR) := by
  intro f c' s H Q tl act hc h
  refine ⟨_, pss_cons (ps_set (i := 1) sc_law_asked.nd rfl (Or.inl rfl) (pe_tup (pa_cons pe_str (pa_cons pe_str pa_nil))))
    (pss_cons (ps_try_as (i := 2) (c := .ref CS) (Wout := fun _ _ _ _ => False)
      (tb := fun W D σ H => ∃ Ech : XK, (∀ cls d σ' H', Ech cls d H' → W cls d σ' H') ∧ tAsg (tTup (tCons (tC (.str (Str.ofString "told"))) (tCons (fun σZ HZ Q => σZ[0]? = some (some (.ref f)) ∧ HZ c' = some (LamX.CodeO c' q) ∧ tl Ech HZ Q) tNil))) (gName 1) D σ H)
      (ts := fun a cls d D σ H => ∃ DD, (cls = .ref DD ∧ d = none ∧ ExcC X.K DD) ∧ (σ.length = 3 → tSuite X.K CN CR DD a D σ H))
      (by rfl) (by rfl) sc_law_asked.nd rfl rfl ⟨by rfl, by decide, .inl T.gS⟩ L2.takes0
      (fun W pn xe tk _ => pss_ex fun Ech hW => pss_one (ps_set (i := 1) sc_law_asked.nd rfl (Or.inl rfl) (pe_tup (pa_cons pe_str (pa_cons (act W pn xe Ech _ _ tk hW) pa_nil)))))
      (fun a oe cls d pn hz hf => pss_ex fun DD hC => ?_))
    (pss_one (ps_ret (pv 1)))), ?_⟩
  · obtain ⟨rfl, rfl, hC⟩ := hC
    have zi := T.zi
    have zn := T.zn
    refine pss_len rfl ?_
    exact pss_one (ps_if (pt_cmpR op_ne (pe_callB (call_isE hC hz hf) (by rfl) zi (by decide +kernel) (pa_cons (pv 2) (pa_cons (pe_glob (v := .ref CR) (by rfl) T.gR rfl) pa_nil)))
        (pe_callB (call_isE hC hz hf) (by rfl) zi (by decide +kernel) (pa_cons (pv 2) (pa_cons (pe_glob (v := .ref CN) (by rfl) T.gN rfl) pa_nil))) (nomark _))
      (pss_one (ps_set (i := 1) sc_law_asked.nd rfl (Or.inl rfl) (pe_tup (pa_cons pe_str (pa_cons (pe_ix ix_list (pe_lst (pa_cons pe_str (pa_cons pe_str pa_nil)))
        (pe_callTy call_int1 (by rfl) zn (by decide +kernel) (pa_cons (pe_callB (call_isE hC hz hf) (by rfl) zi (by decide +kernel) (pa_cons (pv 2) (pa_cons (pe_glob (v := .ref CR) (by rfl) T.gR rfl) pa_nil))) pa_nil)) (fun _ _ => rfl)) pa_nil))))) pss_nil)
  · refine ⟨sz (by simp), fun p0 hp0 => ⟨echo CN CR Q, fun cls d σ' H' he => ?_, rfl, codeO_keep hc hp0, ?_⟩⟩
    · obtain ⟨rfl, he⟩ := he
      rcases he with ⟨rfl, hq⟩ | ⟨rfl, hq⟩
      · refine ⟨true, T.eN, fun _ a ha => ⟨_, ⟨rfl, rfl, T.cN⟩, fun hl => ?_⟩, fun z => nomatch z⟩
        obtain ⟨u0, u1, u2, rfl⟩ := three (by simpa using hl)
        refine ⟨_, rfl, _, _, _, rfl, fun u hu => hu, T.kNR, _, rfl, _, _, _, rfl, fun u hu => hu, T.kNN, rfl, _, rfl, ?_⟩
        refine ⟨sz (by simp), fun p1 hp1 => ⟨_, rfl, _, _, _, rfl, fun u hu => hu, T.kNR, .inr ⟨false, rfl, p1, _, 0, _, rfl, rfl, SqL.of upd_same, rfl, sz (by simp), fun p2 hp2 => ⟨_, rfl, ?_⟩⟩⟩⟩
        exact hq p2 _ ((same_upd hp1).free hp2) ((same_upd hp1).trans (same_upd hp2)) upd_same
      · refine ⟨true, T.eR, fun _ a ha => ⟨_, ⟨rfl, rfl, T.cR⟩, fun hl => ?_⟩, fun z => nomatch z⟩
        obtain ⟨u0, u1, u2, rfl⟩ := three (by simpa using hl)
        refine ⟨_, rfl, _, _, _, rfl, fun u hu => hu, T.kRR, _, rfl, _, _, _, rfl, fun u hu => hu, T.kRN, rfl, _, rfl, ?_⟩
        refine ⟨sz (by simp), fun p1 hp1 => ⟨_, rfl, _, _, _, rfl, fun u hu => hu, T.kRR, .inr ⟨true, rfl, p1, _, 1, _, rfl, rfl, SqL.of upd_same, rfl, sz (by simp), fun p2 hp2 => ⟨_, rfl, ?_⟩⟩⟩⟩
        exact hq p2 _ ((same_upd hp1).free hp2) ((same_upd hp1).trans (same_upd hp2)) upd_same
    · exact h p0 hp0
end Ld

namespace Ld
open PySem PySem.Spec PyProof.Rows L2 TL Nm
def dueD (n st nw : List Nat) : PyData := match movR n st nw with
  | .told d => .tuple [.str (Str.ofString "told"), .str (S d)]
  | .name => .tuple [.str (Str.ofString "refused"), .str (Str.ofString "name")]
  | .rule => .tuple [.str (Str.ofString "refused"), .str (Str.ofString "rule")]
theorem due_dp {K : PySem.W.Frag} {H : Hp} {p : Addr} {n st nw : List Nat} (h : H p = some (.tup (dueV n st nw))) : Dp K H (.ref p) (dueD n st nw) := by
  unfold dueV at h
  unfold dueD
  cases e : movR n st nw with
  | told d =>
    rw [e] at h
    exact .tup (SqT.of h) (.cons (.str _) (.cons (.str _) .nil))
  | name =>
    rw [e] at h
    exact .tup (SqT.of h) (.cons (.str _) (.cons (.str _) .nil))
  | rule =>
    rw [e] at h
    exact .tup (SqT.of h) (.cons (.str _) (.cons (.str _) .nil))
theorem str_ok {l : List Nat} (h : Asc l) : PyData.strOk (S l) = true := by
  unfold PyData.strOk
  rw [Array.all_eq_true_iff_forall_mem]
  intro c hc
  have := h c (by simpa [S] using hc)
  simp
  omega
theorem mov_asc {n st nw d : List Nat} (h : movR n st nw = .told d) : Asc d := by
  unfold movR at h
  split at h
  · split at h
    · cases h
    · split at h
      · rename_i e
        cases h
        exact asc_of (name_ok e)
      · cases h
  · cases h
theorem lay_due (n st nw : List Nat) : (dueD n st nw).canLay0 = true := by
  unfold dueD
  cases e : movR n st nw with
  | told d =>
    simp only [PyData.canLay0, PyData.canLayAll0, Bool.and_true, Bool.and_eq_true]
    exact ⟨by decide +kernel, str_ok (mov_asc e)⟩
  | name =>
    simp only [PyData.canLay0, PyData.canLayAll0, Bool.and_true, Bool.and_eq_true]
    exact ⟨by decide +kernel, by decide +kernel⟩
  | rule =>
    simp only [PyData.canLay0, PyData.canLayAll0, Bool.and_true, Bool.and_eq_true]
    exact ⟨by decide +kernel, by decide +kernel⟩
theorem due_shaped (n st nw : List Nat) : SeqAt.shaped (dueD n st nw) = true := by
  unfold SeqAt.shaped
  rw [lay_due, Bool.true_and]
  unfold dueD
  cases movR n st nw <;> simp [PyData.depth, PyData.depthAll]
theorem mov_same {a b c n st nw : List Nat} (ha : nameOf a = some n) (hb : nameOf b = some st) (hc : nameOf c = some nw) : movR a b c = movR n st nw := by
  unfold movR
  rw [ha, hb, hc, name_self ha, name_self hb, name_self hc]
theorem pick4 {n1 n2 n3 n4 : List Nat} {d : Int} (h0 : 0 ≤ d) (h1 : d < 4) (p1 : PN n1) (p2 : PN n2) (p3 : PN n3) (p4 : PN n4) : ∃ nw, atI [V.str (S n1), .str (S n2), .str (S n3), .str (S n4)] d = some (.str (S nw)) ∧ PN nw := by
  have : d = 0 ∨ d = 1 ∨ d = 2 ∨ d = 3 := by omega
  rcases this with rfl | rfl | rfl | rfl
  · exact ⟨n1, rfl, p1⟩
  · exact ⟨n2, rfl, p2⟩
  · exact ⟨n3, rfl, p3⟩
  · exact ⟨n4, rfl, p4⟩
theorem two_bl {b1 b2 : Bool} : PyData.eqv (.list [.bool b1, .bool b2]) (.list [.bool b1, .bool b2]) = true := SeqAt.eqv_refl _ (by simp [PyData.canLay0, PyData.canLayAll0])
theorem two_sh {b1 b2 : Bool} : SeqAt.shaped (.list [.bool b1, .bool b2]) = true := by simp [SeqAt.shaped, PyData.canLay0, PyData.canLayAll0, PyData.depth, PyData.depthAll]
theorem cut_ints {ns : List Int} {lo hi : Option Int} {x : V} (h : x ∈ cutV (ns.map V.int) lo hi) : ∃ n, x = .int n := by
  unfold cutV at h
  have h2 := List.mem_of_mem_drop (List.mem_of_mem_take h)
  obtain ⟨n, _, rfl⟩ := List.mem_map.mp h2
  exact ⟨n, rfl⟩
/-- the three names, each written otherwise -/
def Wrote (ds : List (List Nat)) (k : Nat) (ws : List V) : Prop := ws.length = k ∧ ∀ (j : Nat) (d : List Nat), j < k → ds[j]? = some d → ∃ l, ws[j]? = some (.str (S l)) ∧ nameOf l = some d ∧ l.length ≤ 1000
theorem Wrote.step {ds : List (List Nat)} {k : Nat} {ws : List V} {d l : List Nat} (h : Wrote ds k ws) (hd : ds[k]? = some d) (hl : nameOf l = some d) (h3 : l.length ≤ 1000) : Wrote ds (k + 1) (ws ++ [.str (S l)]) := by
  refine ⟨by simp [h.1], fun j d' hj hd' => ?_⟩
  by_cases c : j = k
  · subst c
    rw [hd] at hd'
    cases hd'
    exact ⟨l, by rw [← h.1]; simp, hl, h3⟩
  · obtain ⟨l', e1, e2, e3⟩ := h.2 j d' (by omega) hd'
    refine ⟨l', ?_, e2, e3⟩
    rw [List.getElem?_append_left (by have := h.1; omega)]
    exact e1
theorem Wrote.three {a b c : List Nat} {ws : List V} (h : Wrote [a, b, c] 3 ws) : ∃ x y z, ws = [.str (S x), .str (S y), .str (S z)] ∧ (nameOf x = some a ∧ x.length ≤ 1000) ∧ (nameOf y = some b ∧ y.length ≤ 1000) ∧ (nameOf z = some c ∧ z.length ≤ 1000) := by
  obtain ⟨x, x1, x2, x3⟩ := h.2 0 a (by decide) rfl
  obtain ⟨y, y1, y2, y3⟩ := h.2 1 b (by decide) rfl
  obtain ⟨z, z1, z2, z3⟩ := h.2 2 c (by decide) rfl
  refine ⟨x, y, z, ?_, ⟨x2, x3⟩, ⟨y2, y3⟩, ⟨z2, z3⟩⟩
  have hl := h.1
  match ws, hl with
  | [u, v, t], _ =>
    have e1 : u = .str (S x) := Option.some.inj x1
    have e2 : v = .str (S y) := Option.some.inj y1
    have e3 : t = .str (S z) := Option.some.inj z1
    rw [e1, e2, e3]
abbrev s_law : Stmt := topS 28
abbrev N_law : List Str := ["_law_script", "_law_cell", "_law_s", "_law_stem_here", "_law_name", "_law_new", "_law_some", "_law_told", "_law_one"]
theorem sc_law : FnScope N_law ["_law_script"] (defScope s_law) := ⟨rfl, rfl, rfl, by decide +kernel, rfl, by decide +kernel, by decide +kernel⟩
theorem st_law (v0 : V) : L2.start N_law [v0] = [some v0, none, none, none, none, none, none, none, none] := rfl
section
variable {P : Program} {w : World} {K : PySem.W.Frag} {mg : Str → Option Value} {base : Heap}
abbrev lamQ : Str := (("law" : Str) ++ ".<locals>.") ++ "<lambda>"
def spLaw (K : PySem.W.Frag) (PT : Addr) : Sp := fun vs H Q _ => ∃ (a : Addr) (ns : List Int), vs = [.ref a] ∧ SqL K H a (ns.map V.int) ∧ ns.length ≤ 63 ∧ H PT = some (.tbl #[]) ∧ ∀ H', Q (.bl true) H'
theorem ok_law {C CS CR f c PT : Addr} {dV kV dc pm ct oc : Value} {an od : Option Addr} {sl : Array (Option Value)}
    (lk : K.lookup f = some ⟨oc, od, .func (PySem.W.fnOf "law" "law" (defArgs s_law) (defBody s_law) (defScope s_law) dV kV dc pm an (.ref c) ct), sl⟩) (hcd : PySem.W.codeIn K (.ref c) "law" = true) (TB : LamX.TabB base mg c PT)
    (T : AskT K mg CS C CR) (z_bool : mg "bool" = none)
    (C1 : Cal P w K mg base CX0 "_law_state" ["_law_cell"] 1 spState) (C2 : Cal P w K mg base CX0 "_law_stem" ["_law_s"] 3 spStem) (C3 : Cal P w K mg base CX0 "_law_beside" ["_law_s", "_law_stem_here"] 4 spBeside)
    (C4 : CDig P w K mg base) (C5 : Cal P w K mg base CX0 "_law_otherwise" ["_law_name", "_law_s"] 2 spOther) (C6 : Cal P w K mg base (L2.CX P w) "is_of" ["name", "stem"] 4 (spIsOf C))
    (C7 : Cal P w K mg base CX0 "_law_in" ["_law_name", "_law_stem_here"] 1 spLIn) (C8 : Cal P w K mg base CX0 "_law_due" ["_law_name", "_law_stem_here", "_law_new"] 2 spDue) (C9 : Cal P w K mg base (L2.CX P w) "moved" ["name", "stem", "new"] 4 (spMoved C CR))
    (FA : FunAt K mg "_law_asked" s_law_asked ["_law_ask"]) : FnOk P w K mg base CX0 8 f (PySem.W.fnOf "law" "law" (defArgs s_law) (defBody s_law) (defScope s_law) dV kV dc pm an (.ref c) ct) ["_law_script"] (spLaw K PT) := by
  obtain ⟨_, _, G_law_state, g_law_state, k_law_state, b_law_state⟩ := C1
  obtain ⟨_, _, G_law_stem, g_law_stem, k_law_stem, b_law_stem⟩ := C2
  obtain ⟨_, _, G_law_beside, g_law_beside, k_law_beside, b_law_beside⟩ := C3
  obtain ⟨_, _, G_law_digit, g_law_digit, k_law_digit, b_law_digit⟩ := C4
  obtain ⟨_, _, G_law_otherwise, g_law_otherwise, k_law_otherwise, b_law_otherwise⟩ := C5
  obtain ⟨_, _, G_is_of, g_is_of, k_is_of, b_is_of⟩ := C6
  obtain ⟨_, _, G_law_in, g_law_in, k_law_in, b_law_in⟩ := C7
  obtain ⟨_, _, G_law_due, g_law_due, k_law_due, b_law_due⟩ := C8
  obtain ⟨_, _, G_moved, g_moved, k_moved, b_moved⟩ := C9
  obtain ⟨gA, fdA, FA, g_law_asked, b_law_asked⟩ := FA
  have k_law_asked := FA.kp
  obtain ⟨oc2, od2, kV2, doc2, pm2, an2, cdv2, ct2, osl2, rfl, lk_law_asked, cd_law_asked⟩ := FA.ex
  have z_isinstance := T.zi
  refine fn_of lk hcd sc_law (fun vs H Q E h => ?_) (fun A outer s H vs Q E hr h => ?_)
  · obtain ⟨a, ns, rfl, _⟩ := h
    rfl
  · have hG : LamX.GivesTo (cxOf CX0 P w K mg base N_law "law" (defScope s_law) f (.ref c) A outer s H E).nox N_law_asked "_law_asked" (defScope s_law_asked) gA cdv2 (defBody s_law_asked) "_law_ask" lamQ (TAsk C CR) := asked_gives (X := (cxOf CX0 P w K mg base N_law "law" (defScope s_law) f (.ref c) A outer s H E).nox) T
    suffices hs : ∃ t, PSs (cxOf CX0 P w K mg base N_law "law" (defScope s_law) f (.ref c) A outer s H E).nox (defBody s_law) t ∧ t { nx := fun _ H' => Q .non H', rt := Q } (L2.start N_law vs) H by
      obtain ⟨t, h1, h2⟩ := hs
      exact ⟨t, h1.nox, h2⟩
    have hmT : (PT, lamQ) ∈ [(PT, lamQ)] := by simp
    have huT : ∀ p ∈ [(PT, lamQ)], p.1 = PT → p.2 = lamQ := fun p hp _ => by rw [List.mem_singleton.mp hp]
    refine ⟨_, (pss_cons (ps_for PassesOwn.never (by rfl) (pi_list (pe_slice sl_list (pe_op op_catS (pv 0) (pe_lst (pa_cons pe_int pa_nil))) po_none (po_some pe_int))) (pg_name (i := 1) sc_law.nd rfl (Or.inl rfl)) (pss_cons (ps_set (i := 2) sc_law.nd rfl (Or.inr rfl) (pe_call G_law_state (hr.mono (by decide)) (by rfl) g_law_state k_law_state b_law_state .nil pass0 (pa_cons (pv 1) pa_nil)))
      (pss_cons (ps_set (i := 3) sc_law.nd rfl (Or.inl rfl) (pe_call G_law_stem (hr.mono (by decide)) (by rfl) g_law_stem k_law_stem b_law_stem .nil pass0 (pa_cons (pv 2) pa_nil)))
      (pss_cons (ps_set (i := 4) sc_law.nd rfl (Or.inl rfl) (pe_call G_law_beside (hr.mono (by decide)) (by rfl) g_law_beside k_law_beside b_law_beside .nil pass0 (pa_cons (pv 2) (pa_cons (pv 3) pa_nil))))
      (pss_cons (ps_set (i := 5) sc_law.nd rfl (Or.inl rfl) (pe_ix ix_list (pe_lst (pa_cons (pe_call G_law_stem (hr.mono (by decide)) (by rfl) g_law_stem k_law_stem b_law_stem .nil pass0 (pa_cons (pv 2) pa_nil)) (pa_cons (pe_call G_law_stem (hr.mono (by decide)) (by rfl) g_law_stem k_law_stem b_law_stem .nil pass0 (pa_cons (pv 2) pa_nil)) (pa_cons (pe_call G_law_beside (hr.mono (by decide)) (by rfl) g_law_beside k_law_beside b_law_beside .nil pass0 (pa_cons (pv 2) (pa_cons (pv 3) pa_nil))) (pa_cons (pe_call G_law_beside (hr.mono (by decide)) (by rfl) g_law_beside k_law_beside b_law_beside .nil pass0 (pa_cons (pv 2) (pa_cons (pv 4) pa_nil))) pa_nil))))) (pe_call G_law_digit (hr.mono (by decide)) (by rfl) g_law_digit k_law_digit b_law_digit .nil pass0 (pa_cons (pv 2) (pa_cons pe_int pa_nil))) (fun _ _ => rfl)))
      (pss_cons (ps_set (i := 6) sc_law.nd rfl (Or.inr rfl) (pe_lc (own := [("_law_one", 8)]) (g := gName 8) (tt := tYes) (by rfl) sc_law.nd (pi_list (pe_lst (pa_cons (pv 4) (pa_cons (pv 3) (pa_cons (pv 5) pa_nil))))) (blkOk_by (N := N_law) (sc := defScope s_law) (by decide +kernel)) (fun _ _ _ _ _ => pg_name (i := 8) sc_law.nd rfl (Or.inl rfl)) (fun _ _ _ _ _ => pts_nil) (fun _ _ _ _ _ => (pe_call G_law_otherwise (hr.mono (by decide)) (by rfl) g_law_otherwise k_law_otherwise b_law_otherwise .nil pass0 (pa_cons (pv 8) (pa_cons (pv 2) pa_nil))))))
      (pss_cons (ps_set (i := 7) sc_law.nd rfl (Or.inl rfl) (pe_lst (pa_cons (pe_call G_is_of (hr.mono (by decide)) (by rfl) g_is_of k_is_of b_is_of .nil passL (pa_cons (pe_ix ix_list (pv 6) pe_int (fun _ _ => rfl)) (pa_cons (pe_ix ix_list (pv 6) pe_int (fun _ _ => rfl)) pa_nil))) (pa_cons (pe_call G_is_of (hr.mono (by decide)) (by rfl) g_is_of k_is_of b_is_of .nil passL (pa_cons (pe_ix ix_list (pv 6) pe_int (fun _ _ => rfl)) (pa_cons (pe_ix ix_list (pv 6) pe_int (fun _ _ => rfl)) pa_nil))) pa_nil))))
      (pss_cons (ps_if (PW.pt (pw_or (pt_cmpR (op_neD hr.units) (pv 7) (pe_lst (pa_cons (pe_call G_law_in (hr.mono (by decide)) (by rfl) g_law_in k_law_in b_law_in .nil pass0 (pa_cons (pv 4) (pa_cons (pv 3) pa_nil))) (pa_cons (pe_call G_law_in (hr.mono (by decide)) (by rfl) g_law_in k_law_in b_law_in .nil pass0 (pa_cons (pv 5) (pa_cons (pv 4) pa_nil))) pa_nil))) (nomark _)) (pw_or1 (pt_not (pt_val (pe_callB call_isi (by rfl) z_isinstance (by decide +kernel) (pa_cons (pe_ix ix_list (pv 7) pe_int (fun _ _ => rfl)) (pa_cons (pe_bltn (v := .ty "bool") (by rfl) z_bool (by decide +kernel) rfl) pa_nil)))))))) (pss_one (ps_ret pe_bl)) pss_nil)
      (pss_one (ps_if (pt_cmpR (op_neD hr.units) (LamX.pe_lamcall (T := [(PT, lamQ)]) (TT := TAsk C CR) (Ng := N_law_asked) (k := 4) (by rfl) g_law_asked k_law_asked lk_law_asked cd_law_asked b_law_asked sc_law_asked rfl (Or.inl rfl) hG TB rfl hmT huT (hr.mono (by decide)) (LamX.lamS_by (sc := defScope s_law) (by decide +kernel)) rfl (fun _ _ _ _ _ => rfl) (fun A outer s H E f c hr => (pe_call G_moved (hr.mono (by decide)) (by rfl) g_moved k_moved b_moved .nil (passes_call (takes_of rfl rfl rfl rfl) (fun _ _ _ _ h => h)) (pa_cons (pe_ix (ix_listK (K := K)) (pv 6) pe_int (fun _ _ => rfl)) (pa_cons (pe_ix (ix_listK (K := K)) (pv 6) pe_int (fun _ _ => rfl)) (pa_cons (pe_ix (ix_listK (K := K)) (pv 6) pe_int (fun _ _ => rfl)) pa_nil)))))) (pe_call G_law_due (hr.mono (by decide)) (by rfl) g_law_due k_law_due b_law_due .nil pass0 (pa_cons (pv 4) (pa_cons (pv 3) (pa_cons (pv 5) pa_nil)))) (nomark _)) (pss_one (ps_ret pe_bl)) pss_nil))))))))))
      (pss_one (ps_ret pe_bl))), ?_⟩
    obtain ⟨a, ns, rfl, hS, hlen, hPT, q⟩ := h
    refine ⟨_, rfl, sz (by simp), fun p1 hp1 => ⟨a, p1, ns.map V.int, [.int 0], rfl, rfl, (same_upd hp1).seq hS, SqL.of upd_same, ?_, fun p2 hp2 => ?_⟩⟩
    · rw [List.length_map]
      exact sz (by simp; omega)
    have e0 : ns.map V.int ++ [V.int 0] = (ns ++ [0]).map V.int := by simp
    rw [e0]
    refine ⟨14, rfl, p2, _, rfl, SqL.of upd_same, fun p3 hp3 => ⟨p3, rfl, ⟨_, SqL.of upd_same⟩, ?_⟩⟩
    have sm0 : Same H (upd (upd (upd H p1 (.lst [.int 0])) p2 (.lst ((ns ++ [0]).map V.int))) p3 (.lst (cutV ((ns ++ [0]).map V.int) none (some 14)))) := ((same_upd hp1).trans (same_upd hp2)).trans (same_upd hp3)
    have tb0 : LamX.Tabs [(PT, lamQ)] H := fun p hp => by
      rw [List.mem_singleton.mp hp]
      exact LamX.TabS.nil hPT
    refine for_it (walk_list (xs := cutV ((ns ++ [0]).map V.int) none (some 14))) (fun i σ H' => H' p3 = some (.lst (cutV ((ns ++ [0]).map V.int) none (some 14))) ∧ LamX.Tabs [(PT, lamQ)] H' ∧ ∃ y1 y2 y3 y4 y5 y6 y7 y8, σ = [some (.ref a), y1, y2, y3, y4, y5, y6, y7, y8])
      ⟨upd_same, tabs_same tb0 sm0, none, none, none, none, none, none, none, none, rfl⟩ (fun i σ H' _ h => SqL.of h.1) ?_ ?_
    · rintro i x σ Ha Hc hi ⟨hp3c, tbc, y1, y2, y3, y4, y5, y6, y7, y8, rfl⟩ ⟨rfl, hx⟩
      obtain ⟨n, rfl⟩ := cut_ints (List.mem_of_getElem? hx)
      refine ⟨_, rfl, n, rfl, fun ps H1 hps d1 s1 => ⟨_, rfl, ps, rfl, d1, fun st H2 hst d2 k2 => ⟨_, rfl, _, rfl, ps, st, rfl, d2, hst, fun nn H3 hnn d3 k3 => ?_⟩⟩⟩
      refine ⟨_, rfl, ps, rfl, d3, fun n1 H4 h4 d4 k4 => ⟨_, rfl, ps, rfl, d4, fun n2 H5 h5 d5 k5 => ⟨_, rfl, _, rfl, ps, st, rfl, d5, hst, fun n3 H6 h6 d6 k6 => ⟨_, rfl, _, rfl, ps, nn, rfl, d6, hnn, fun n4 H7 h7 d7 k7 => ⟨sz (by simp), fun q1 hq1 => ⟨_, rfl, ps, 4, rfl, d7.upd hq1, by decide, by decide, fun dg H8 g0 g1 d8 k8 => ?_⟩⟩⟩⟩⟩⟩
      have hq1p : q1 ≠ ps := (d7.ne hq1).symm
      have hl8 : H8 q1 = some (.lst [.str (S n1), .str (S n2), .str (S n3), .str (S n4)]) := k8 _ _ upd_same hq1p
      obtain ⟨nw, en, hnw⟩ := pick4 g0 g1 h4 h5 h6 h7
      refine ⟨q1, _, dg, _, rfl, rfl, SqL.of hl8, en, ?_⟩
      have np3 : p3 ≠ ps := ne_of_none hp3c hps
      have k18 : Keep ps H1 H8 := (((((k2.trans k3).trans k4).trans k5).trans k6).trans k7).trans ((keep_new hq1).trans k8)
      have hp38 : H8 p3 = some (.lst (cutV ((ns ++ [0]).map V.int) none (some 14))) := k18 _ _ (s1 _ _ hp3c) np3
      have tb8 : LamX.Tabs [(PT, lamQ)] H8 := tabs_keep (tabs_same tbc s1) d1 k18
      have b1 := hst.ln
      have b2 := hnn.ln
      have b3 := hnw.ln
      -- the three names written otherwise
      refine ⟨_, rfl, _, rfl, _, rfl, sz (by simp), fun q2 hq2 => ⟨q2, rfl, ⟨_, SqL.of upd_same⟩, fun D hD => lc_drawL (Wrote [nn, st, nw]) ⟨rfl, fun j d hj => absurd hj (by omega)⟩ (d8.upd hq2) upd_same hD (d8.ne hq2).symm (by simp) (fun k ws h => h.1) ?_ ?_⟩⟩
      · intro k x ws H9 Qv hxk hI d9 k9 hQ
        have go : ∀ dd : List Nat, PN dd → [nn, st, nw][k]? = some dd → x = .str (S dd) → tCall spOther [] E0 (tCons (tVar 8) (tCons (tVar 2) tNil)) ((wipe [some (V.ref a), some (.int n), some (.ref ps), some (.str (S st)), some (.str (S nn)), some (.str (S nw)), y6, y7, y8] [8]).set 8 (some x)) H9 Qv := fun dd hdd e1 e2 => by
          subst e2
          exact ⟨_, rfl, _, rfl, ps, dd, rfl, d9, hdd, fun l H10 hl1 hl2 d10 k10 => hQ _ H10 (hI.step e1 hl1 hl2) d10 k10⟩
        match k, hxk with
        | 0, h => exact go nn hnn rfl (Option.some.inj h).symm
        | 1, h => exact go st hst rfl (Option.some.inj h).symm
        | 2, h => exact go nw hnw rfl (Option.some.inj h).symm
        | j + 3, h => simp at h
      · intro ws H9 hI d9 k9 eD
        obtain ⟨x, y, z, rfl, ⟨x1, x2⟩, ⟨z1, z2⟩, ⟨w1, w2⟩⟩ := hI.three
        have np2 : p3 ≠ q2 := ne_of_none hp38 hq2
        have k89 : Keep ps H8 H9 := (keep_new hq2).trans k9
        have hp39 := k89 _ _ hp38 np3
        have tb9 : LamX.Tabs [(PT, lamQ)] H9 := tabs_keep tb8 d8 k89
        -- told
        refine ⟨_, rfl, D, _, 0, _, rfl, rfl, SqL.of eD, rfl, _, rfl, D, _, 1, _, rfl, rfl, SqL.of eD, rfl, x, y, rfl, by omega, by omega, fun u v hu hv H10 s10 => ?_, fun h => by rw [x1, z1] at h; rcases h with h | h <;> cases h⟩
        rw [x1] at hu
        rw [z1] at hv
        cases hu
        cases hv
        have eD10 := s10 _ _ eD
        refine ⟨_, rfl, D, _, 2, _, rfl, rfl, SqL.of eD10, rfl, _, rfl, D, _, 0, _, rfl, rfl, SqL.of eD10, rfl, z, x, rfl, by omega, by omega, fun u v hu hv H11 s11 => ?_, fun h => by rw [w1, x1] at h; rcases h with h | h <;> cases h⟩
        rw [w1] at hu
        rw [x1] at hv
        cases hu
        cases hv
        refine ⟨sz (by simp), fun q3 hq3 => ?_⟩
        have s911 := s10.trans s11
        -- told != [..]
        refine ⟨_, rfl, _, rfl, _, rfl, nn, st, rfl, by omega, by omega, _, rfl, _, rfl, nw, nn, rfl, by omega, by omega, sz (by simp), fun q4 hq4 => ?_⟩
        have hq34 : q3 ≠ q4 := fun zz => by
          rw [← zz, upd_same] at hq4
          cases hq4
        have hA : ∀ H12, H12 = upd (upd H11 q3 (.lst [.bl (fam nn st), .bl (fam nw nn)])) q4 (.lst [.bl (fam nn st), .bl (fam nw nn)]) → H12 q3 = some (.lst [.bl (fam nn st), .bl (fam nw nn)]) ∧ H12 q4 = some (.lst [.bl (fam nn st), .bl (fam nw nn)]) ∧ Same H9 H12 := fun H12 e => by
          subst e
          refine ⟨by rw [upd_ne hq34, upd_same], upd_same, ?_⟩
          exact (s911.trans (same_upd hq3)).trans (same_upd hq4)
        generalize hH12 : upd (upd H11 q3 (.lst [.bl (fam nn st), .bl (fam nw nn)])) q4 (.lst [.bl (fam nn st), .bl (fam nw nn)]) = H12
        obtain ⟨t3, t4, s912⟩ := hA H12 hH12.symm
        refine ⟨.list [.bool (fam nn st), .bool (fam nw nn)], .list [.bool (fam nn st), .bool (fam nw nn)], .lst (SqL.of t3) (.cons (.bl _) (.cons (.bl _) .nil)), .lst (SqL.of t4) (.cons (.bl _) (.cons (.bl _) .nil)), two_sh, two_sh, _, rfl, ?_⟩
        rw [two_bl]
        refine iteF ⟨_, rfl, q3, _, 0, _, rfl, rfl, SqL.of t3, rfl, _, _, .type "bool", .type "bool", true, rfl, .ty _, .base (.bl _), kit_ty (by decide +kernel), _, rfl, ?_⟩
        refine iteF ?_
        -- the asking
        have eD12 := s912 _ _ eD
        have hp312 := s912 _ _ hp39
        refine ⟨tabs_same tb9 s912, fun H13 ex13 tb13 p0 hp0 => ?_⟩
        have eD13 := ext_lst ex13 eD12
        have hp313 := ext_lst ex13 hp312
        have eD14 : upd H13 p0 (.tup [.str (Str.ofString "refused"), .str (Str.ofString "other")]) D = some (.lst [.str (S x), .str (S y), .str (S z)]) := by
          rw [upd_ne (ne_of_none eD13 hp0)]
          exact eD13
        have s14 : Same H13 (upd H13 p0 (.tup [.str (Str.ofString "refused"), .str (Str.ofString "other")])) := same_upd hp0
        have hp314 := s14 _ _ hp313
        have tb14 := tabs_same tb13 s14
        refine ⟨_, rfl, D, _, 0, _, rfl, rfl, SqL.of eD14, rfl, _, rfl, D, _, 1, _, rfl, rfl, SqL.of eD14, rfl, _, rfl, D, _, 2, _, rfl, rfl, SqL.of eD14, rfl, ?_⟩
        have em : movR x y z = movR nn st nw := mov_same x1 z1 w1
        -- the end of a turn, whatever was asked
        have fin : ∀ (pr : Addr) (H15 : Hp), Same (upd H13 p0 (.tup [.str (Str.ofString "refused"), .str (Str.ofString "other")])) H15 → H15 pr = some (.tup (dueV nn st nw)) →
            tCall spDue [] E0 (tCons (tVar 4) (tCons (tVar 3) (tCons (tVar 5) tNil))) [some (V.ref a), some (.int n), some (.ref ps), some (.str (S st)), some (.str (S nn)), some (.str (S nw)), some (.ref D), some (.ref q3), y8] H15
              fun yv H16 => rNeD K (.ref pr) yv H16 fun xb H17 => ∃ kb, xb = .bl kb ∧ if kb = true then Q (.bl false) H17 else H17 p3 = some (.lst (cutV ((ns ++ [0]).map V.int) none (some 14))) ∧ LamX.Tabs [(PT, lamQ)] H17 ∧ ∃ y1 y2 y3 y4 y5 y6 y7 y8', [some (V.ref a), some (.int n), some (.ref ps), some (.str (S st)), some (.str (S nn)), some (.str (S nw)), some (.ref D), some (.ref q3), y8] = [some (V.ref a), y1, y2, y3, y4, y5, y6, y7, y8'] := fun pr H15 s15 e15 => by
          refine ⟨_, rfl, _, rfl, _, rfl, nn, st, nw, rfl, hnn, hst, hnw, fun pd H16 hpd s16 e16 => ?_⟩
          refine ⟨dueD nn st nw, dueD nn st nw, due_dp (s16 _ _ e15), due_dp e16, due_shaped _ _ _, due_shaped _ _ _, _, rfl, ?_⟩
          rw [SeqAt.eqv_refl _ (lay_due nn st nw)]
          exact iteF ⟨s16 _ _ (s15 _ _ hp314), tabs_same tb14 (s15.trans s16), _, _, _, _, _, _, _, _, rfl⟩
        refine ⟨x, y, z, rfl, by omega, by omega, by omega, fun dm hdm H15 s15 => toldQ_of fun pr H16 hpr s16 e16 => ?_, fun hdm H15 s15 => ⟨rfl, .inl ⟨rfl, fun pr H16 hpr s16 e16 => ?_⟩⟩, fun hdm H15 s15 => ⟨rfl, .inr ⟨rfl, fun pr H16 hpr s16 e16 => ?_⟩⟩⟩
        · refine fin pr H16 (s15.trans s16) ?_
          unfold dueV
          rw [← em, hdm]
          exact e16
        · refine fin pr H16 (s15.trans s16) ?_
          unfold dueV
          rw [← em, hdm]
          exact e16
        · refine fin pr H16 (s15.trans s16) ?_
          unfold dueV
          rw [← em, hdm]
          exact e16
    · rintro σ Ha ⟨_, _, y1, y2, y3, y4, y5, y6, y7, y8, rfl⟩
      exact q _
end
end Ld

set_option maxHeartbeats 0
namespace Ld
open PySem PySem.Spec PyProof.Rows L2 TL Nm
def fnL : List He.DefD := [dd "name_of" s_name_of, dd "is_of" s_is_of, dd "moved" s_moved, dd "has_only_signs" s_has_only_signs, dd "come_to" s_come_to, dd "segment_come_to" s_segment_come_to, dd "is_within_bounds" s_is_within_bounds, dd "is_in_family" s_is_in_family, dd "_law_state" s_law_state, dd "_law_digit" s_law_digit, dd "_law_plain" s_law_plain, dd "_law_stem" s_law_stem, dd "_law_beside" s_law_beside, dd "_law_otherwise" s_law_otherwise, dd "_law_in" s_law_in, dd "_law_due" s_law_due, dd "_law_asked" s_law_asked, dd "law" s_law]
def faL : List He.Fa := [.glo "name_of", .glo "is_of", .glo "moved", .glo "has_only_signs", .glo "come_to", .glo "segment_come_to", .glo "is_within_bounds", .glo "is_in_family", .glo "_law_state", .glo "_law_digit", .glo "_law_plain", .glo "_law_stem", .glo "_law_beside", .glo "_law_otherwise", .glo "_law_in", .glo "_law_due", .glo "_law_asked", .glo "law", .free "isinstance", .free "str", .free "len", .free "abs", .free "range", .free "int", .free "bool", .str "SIGNS" (Str.ofString "abcdefghijklmnopqrstuvwxyzABCDEFGHIJKLMNOPQRSTUVWXYZ0123456789 _-/"), .int "MOST_SEGMENTS" 4, .int "MOST_SIGNS" 24, .glo "NoName", .exc "NoName", .exm "NoName" "NoName" true, .glo "NoRule", .exc "NoRule", .exm "NoRule" "NoRule" true, .glo "SignError", .exm "NoName" "SignError" true, .exm "NoRule" "SignError" true]
def exL (K : PySem.W.Frag) : Bool := excCB K "NoName" && (excCB K "NoRule" && (Nm.kitB K "NoName" "NoName" true && (Nm.kitB K "NoName" "NoRule" false && (Nm.kitB K "NoRule" "NoName" false && Nm.kitB K "NoRule" "NoRule" true))))
def tfL : List He.Defn := [("law", none)]
abbrev R : PySem.W.OpenRow := PySem.W.OpenLaw.row PySem.Challenge.rw_signsleft_k03_families
abbrev hk : PySem.W.Hook := He.hookX 5 faL fnL [] tfL exL
def ob (s : PySem.W.SharedT) : He.AlX := He.obsX 5 faL fnL [] tfL exL (HandSHeadRun.getT s)
theorem ob_eq (s : PySem.W.SharedT) : ob s = hk.obs s.abs := He.obsX_eq (HandSHeadRun.getT_eq s)
theorem run (w : World) : HandSHeadRun.RunEq R (PySem.W.view R.prog [28]) hk ob 6000 ["SignError", "NoName", "NoRule", "SIGNS", "MOST_SEGMENTS", "MOST_SIGNS", "name_of", "is_of", "moved", "has_only_signs", "come_to", "segment_come_to", "is_within_bounds", "is_in_family", "_law_state", "_law_digit", "_law_letters", "_law_gap", "_law_plain", "_law_stem", "_law_beside", "_law_otherwise", "_law_in", "_law_due", "_law_asked"] w := by
  intro os
  kernel_rfl
theorem facts {l : PySem.W.OpenLaw} {w : World} {K : PySem.W.Frag} {h : Heap} {mg : Str → Option Value} {f : Addr} (X : K.In h) (G : h.Ns mainGlobals mg) (hfa : mg ("law" : Str) = some (.ref f)) (cx : He.SaysX faL fnL [] tfL exL w h K) : LamX.LawAtS l w K CX0 8 63 "_law_script" mg f h := by
  have c : He.SaysD faL fnL K := cx.t.d
  have z_isinstance : mg "isinstance" = none := He.free_ok X G (c.fact 18 (f := .free "isinstance") rfl)
  have z_str : mg "str" = none := He.free_ok X G (c.fact 19 (f := .free "str") rfl)
  have z_len : mg "len" = none := He.free_ok X G (c.fact 20 (f := .free "len") rfl)
  have z_abs : mg "abs" = none := He.free_ok X G (c.fact 21 (f := .free "abs") rfl)
  have z_range : mg "range" = none := He.free_ok X G (c.fact 22 (f := .free "range") rfl)
  have z_int : mg "int" = none := He.free_ok X G (c.fact 23 (f := .free "int") rfl)
  have z_bool : mg "bool" = none := He.free_ok X G (c.fact 24 (f := .free "bool") rfl)
  have g_SIGNS := He.str_ok X G (c.fact 25 (f := .str "SIGNS" (Str.ofString "abcdefghijklmnopqrstuvwxyzABCDEFGHIJKLMNOPQRSTUVWXYZ0123456789 _-/")) rfl)
  have g_MOST_SEGMENTS := He.int_ok X G (c.fact 26 (f := .int "MOST_SEGMENTS" 4) rfl)
  have g_MOST_SIGNS := He.int_ok X G (c.fact 27 (f := .int "MOST_SIGNS" 24) rfl)
  have x_NoName : ErrAt K mg "NoName" (He.ga K "NoName") := Nm.err_at X G c 28 29 30 rfl rfl rfl
  have x_NoRule : ErrAt K mg "NoRule" (He.ga K "NoRule") := Nm.err_at X G c 31 32 33 rfl rfl rfl
  have gg_SignError : mg "SignError" = some (.ref (He.ga K "SignError")) := He.glo_ok X G (c.fact 34 (f := .glo "SignError") rfl)
  have e_NoName_SignError := He.exm_ok (c.fact 35 (f := .exm "NoName" "SignError" true) rfl)
  have e_NoRule_SignError := He.exm_ok (c.fact 36 (f := .exm "NoRule" "SignError" true) rfl)
  have F_name_of : FunAt K mg "name_of" s_name_of ["thing"] := Nm.fun_at X G c 0 0 rfl rfl fun _ _ _ _ _ _ us hl => match us, hl with | [_], _ => rfl
  have F_is_of : FunAt K mg "is_of" s_is_of ["name", "stem"] := Nm.fun_at X G c 1 1 rfl rfl fun _ _ _ _ _ _ us hl => match us, hl with | [_, _], _ => rfl
  have F_moved : FunAt K mg "moved" s_moved ["name", "stem", "new"] := Nm.fun_at X G c 2 2 rfl rfl fun _ _ _ _ _ _ us hl => match us, hl with | [_, _, _], _ => rfl
  have F_has_only_signs : FunAt K mg "has_only_signs" s_has_only_signs ["text"] := Nm.fun_at X G c 3 3 rfl rfl fun _ _ _ _ _ _ us hl => match us, hl with | [_], _ => rfl
  have F_come_to : FunAt K mg "come_to" s_come_to ["writing"] := Nm.fun_at X G c 4 4 rfl rfl fun _ _ _ _ _ _ us hl => match us, hl with | [_], _ => rfl
  have F_segment_come_to : FunAt K mg "segment_come_to" s_segment_come_to ["writing"] := Nm.fun_at X G c 5 5 rfl rfl fun _ _ _ _ _ _ us hl => match us, hl with | [_], _ => rfl
  have F_is_within_bounds : FunAt K mg "is_within_bounds" s_is_within_bounds ["name"] := Nm.fun_at X G c 6 6 rfl rfl fun _ _ _ _ _ _ us hl => match us, hl with | [_], _ => rfl
  have F_is_in_family : FunAt K mg "is_in_family" s_is_in_family ["name", "stem"] := Nm.fun_at X G c 7 7 rfl rfl fun _ _ _ _ _ _ us hl => match us, hl with | [_, _], _ => rfl
  have F_law_state : FunAt K mg "_law_state" s_law_state ["_law_cell"] := Nm.fun_at X G c 8 8 rfl rfl fun _ _ _ _ _ _ us hl => match us, hl with | [_], _ => rfl
  have F_law_digit : FunAt K mg "_law_digit" s_law_digit ["_law_s", "_law_base"] := Nm.fun_at X G c 9 9 rfl rfl fun _ _ _ _ _ _ us hl => match us, hl with | [_, _], _ => rfl
  have F_law_plain : FunAt K mg "_law_plain" s_law_plain ["_law_s", "_law_many"] := Nm.fun_at X G c 10 10 rfl rfl fun _ _ _ _ _ _ us hl => match us, hl with | [_, _], _ => rfl
  have F_law_stem : FunAt K mg "_law_stem" s_law_stem ["_law_s"] := Nm.fun_at X G c 11 11 rfl rfl fun _ _ _ _ _ _ us hl => match us, hl with | [_], _ => rfl
  have F_law_beside : FunAt K mg "_law_beside" s_law_beside ["_law_s", "_law_stem_here"] := Nm.fun_at X G c 12 12 rfl rfl fun _ _ _ _ _ _ us hl => match us, hl with | [_, _], _ => rfl
  have F_law_otherwise : FunAt K mg "_law_otherwise" s_law_otherwise ["_law_name", "_law_s"] := Nm.fun_at X G c 13 13 rfl rfl fun _ _ _ _ _ _ us hl => match us, hl with | [_, _], _ => rfl
  have F_law_in : FunAt K mg "_law_in" s_law_in ["_law_name", "_law_stem_here"] := Nm.fun_at X G c 14 14 rfl rfl fun _ _ _ _ _ _ us hl => match us, hl with | [_, _], _ => rfl
  have F_law_due : FunAt K mg "_law_due" s_law_due ["_law_name", "_law_stem_here", "_law_new"] := Nm.fun_at X G c 15 15 rfl rfl fun _ _ _ _ _ _ us hl => match us, hl with | [_, _, _], _ => rfl
  have F_law_asked : FunAt K mg "_law_asked" s_law_asked ["_law_ask"] := Nm.fun_at X G c 16 16 rfl rfl fun _ _ _ _ _ _ us hl => match us, hl with | [_], _ => rfl
  have hex := cx.more
  unfold exL at hex
  simp only [Bool.and_eq_true] at hex
  obtain ⟨q1, q2, q3, q4, q5, q6⟩ := hex
  have T : AskT K mg (He.ga K "SignError") (He.ga K "NoName") (He.ga K "NoRule") := ⟨gg_SignError, x_NoName.g, x_NoRule.g, e_NoName_SignError, e_NoRule_SignError, excC_of q1, excC_of q2, Nm.kit_of q3, Nm.kit_of q4, Nm.kit_of q5, Nm.kit_of q6, z_isinstance, z_int⟩
  obtain ⟨fd, F⟩ := c.def_ 17 (d := dd "law" s_law) rfl
  have e := hfa.symm.trans (He.glo_ok X G (c.fact 17 (f := .glo "law") rfl))
  cases e
  have b := FunD.bindsA (ps := ["_law_script"]) F fun _ _ _ _ _ _ us hl => match us, hl with | [_], _ => rfl
  obtain ⟨oc, od, dV, kV, dc, pm, an, cdv, ct, osl, rfl, lk, hcd, _, _⟩ := F.ex
  obtain ⟨cc, ec⟩ := He.codeIn_ref hcd
  have ec' : cdv = .ref cc := ec
  subst ec'
  have ecc : He.codeOf K ("law", none) = cc := He.codeOf_eq (p := ("law", none)) lk rfl
  have hm : (("law", none) : He.Defn) ∈ tfL := by simp [tfL]
  have t1 := cx.hd _ hm
  have t2 := cx.out _ hm
  have t3 := cx.empty _ hm
  have ect : He.cT K ("law", none) = (cc, He.tabOf K cc) := by
    show (He.codeOf K ("law", none), He.tabOf K (He.codeOf K ("law", none))) = _
    rw [ecc]
  rw [ect] at t1 t2 t3
  refine ⟨_, [(cc, He.tabOf K cc)], spLaw K (He.tabOf K cc), fun p hp => by rw [List.mem_singleton.mp hp]; exact t3, fun p hp => by rw [List.mem_singleton.mp hp]; exact t2, fun p hp => by rw [List.mem_singleton.mp hp]; exact PySem.W.codeHd_of_K X t1, fun s u => b s [u] rfl,
    fun H a ns hl _ hT hS => ⟨a, ns, rfl, hS, hl, hT (cc, He.tabOf K cc) (by simp), fun _ => rfl⟩, fun base _ _ hTB => ?_⟩
  have cN : Cal l.prog w K mg base (L2.CX l.prog w) "name_of" ["thing"] 3 (spName K (He.ga K "NoName")) := ok_name F_name_of x_NoName z_isinstance z_str (ok_only F_has_only_signs g_SIGNS) (ok_come F_come_to (ok_seg F_segment_come_to)) (ok_bnd F_is_within_bounds g_MOST_SEGMENTS g_MOST_SIGNS z_len)
  have cF : Cal l.prog w K mg base CX0 "is_in_family" ["name", "stem"] 1 spFamP := ok_famp F_is_in_family
  have cD : CDig l.prog w K mg base := ok_digit F_law_digit
  have cP : CPla l.prog w K mg base := ok_plain F_law_plain z_range cD
  have cS : Cal l.prog w K mg base CX0 "_law_stem" ["_law_s"] 3 spStem := ok_stem F_law_stem z_range cD cP
  have cI : Cal l.prog w K mg base CX0 "_law_in" ["_law_name", "_law_stem_here"] 1 spLIn := ok_lin F_law_in
  exact ok_law lk hcd (hTB (cc, He.tabOf K cc) (by simp)) T z_bool (ok_state F_law_state z_abs) cS (ok_beside F_law_beside z_range cD cP cS) cD (ok_other F_law_otherwise cD) (ok_isof F_is_of cN cF) cI (ok_due F_law_due z_len cI) (ok_moved F_moved x_NoRule z_len cN cF) F_law_asked
end Ld
open PySem PySem.W PySem.Calls PyProof.Rows
theorem PySem.Challenge.cw_signsleft_k03_families_holds : PySem.Challenge.rw_signsleft_k03_families.Holds := by
  w_on; o_law
  refine HandSHeadRun.head_any (r := OpenLaw.row PySem.Challenge.rw_signsleft_k03_families) (q := view (OpenLaw.row PySem.Challenge.rw_signsleft_k03_families).prog [28]) (H := Ld.hk) (ob := Ld.ob) (M := 6000) (loose := ["SignError", "NoName", "NoRule", "SIGNS", "MOST_SEGMENTS", "MOST_SIGNS", "name_of", "is_of", "moved", "has_only_signs", "come_to", "segment_come_to", "is_within_bounds", "is_in_family", "_law_state", "_law_digit", "_law_letters", "_law_gap", "_law_plain", "_law_stem", "_law_beside", "_law_otherwise", "_law_in", "_law_due", "_law_asked"]) (d := HandSHeadRun.topDef (OpenLaw.row PySem.Challenge.rw_signsleft_k03_families).prog 28) (kwd := []) Ld.ob_eq
    (by kernel_rfl) (fun s => by kernel_rfl) Ld.run (by kernel_rfl) (by kernel_rfl) (by kernel_rfl) (by rfl) (by first | assumption | decide +kernel) (by decide +kernel) ⟨rfl, rfl, rfl, rfl, rfl, by decide +kernel⟩ ?hw ?hc
  case hw => w_witness2
  case hc =>
    refine LamX.walk_ofTsE (l := PySem.Challenge.rw_signsleft_k03_families) (n := 63) (k := 8) (x := "_law_script") (CX := fun _ => L2.CX0) rfl (by decide) (by kernel_rfl) ⟨rfl, by decide, by decide⟩ ?F (fun _ _ _ _ _ z => z)
    intro w mg fa h Y G hmg0
    obtain ⟨K, KX, c⟩ := Y
    have hmg : mg ("law" : PySem.Str) = some (.ref fa) := by
      have e : (HandSHeadRun.topDef (OpenLaw.row PySem.Challenge.rw_signsleft_k03_families).prog 28).name = ("law" : PySem.Str) := by kernel_rfl
      rw [← e]
      exact hmg0
    exact ⟨K, KX, Ld.facts KX G hmg c⟩

