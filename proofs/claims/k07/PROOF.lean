import PyProof.Rows.All
import Wide.All
import OpenK.AllK
import Wide.FinOn
import HandS.ForMost
import HandS.ForExc
import HandS.Codes
import HandS.Steps
import HandS.Walk
import HandS.IsInst
import HandS.Defaults
import HandS.More
import HandS.Small
import HandS.AnyAll
import HandS.Head0
import HandS.Head1
import HandS.Head2
import HandS.HeadEnd
import HandS.HeadHook1
import HandS.HeadHook2
import HandS.OwnEq
import HandS.OwnIter
import HandS.IterNext
import HandS.IterVal
import HandS.ClsMeth
import HandS.Property
import HandS.Star
import HandS.MapObj
import HandS.ListItems
import HandS.DictComp
import HandS.SetKeys
import KE.KDictList
import HandS.ExcInit
import HandS.ExcField
import HandS.ExcOwn
import HandS.WordsExc
import KE.KExcIs
import HandS.Style
import PySem.Challenge.RW_roundminutes_k07_net_changes_refused
set_option Elab.async false
set_option linter.all false
set_option maxRecDepth 100000
set_option maxHeartbeats 4000000
namespace RM
open PySem PySem.Spec PyProof.Rows L2 C8
/-! ### texts as lists of signs -/
abbrev S (l : List Nat) : Str := ⟨l.toArray⟩
theorem S_tl (x : Str) : S x.cps.toList = x := SX.S_tl x
theorem S_inj {a b : List Nat} (h : S a = S b) : a = b := SX.S_inj h
theorem S_len (a : List Nat) : (S a).length = a.length := SX.S_len a
theorem S_cat (a b : List Nat) : S a ++ S b = S (a ++ b) := SX.S_cat a b
abbrev sv (l : List Nat) : V := .str (S l)
def Z26 : List Nat := [97, 98, 99, 100, 101, 102, 103, 104, 105, 106, 107, 108, 109, 110, 111, 112, 113, 114, 115, 116, 117, 118, 119, 120, 121, 122]
def Z10 : List Nat := [48, 49, 50, 51, 52, 53, 54, 55, 56, 57]
def Z36 : List Nat := [97, 98, 99, 100, 101, 102, 103, 104, 105, 106, 107, 108, 109, 110, 111, 112, 113, 114, 115, 116, 117, 118, 119, 120, 121, 122, 48, 49, 50, 51, 52, 53, 54, 55, 56, 57]
/-- a letter; a letter or a digit -/
def LT (c : Nat) : Prop := 97 ≤ c ∧ c ≤ 122
def LD (c : Nat) : Prop := (97 ≤ c ∧ c ≤ 122) ∨ (48 ≤ c ∧ c ≤ 57)
instance (c : Nat) : Decidable (LT c) := by unfold LT; infer_instance
instance (c : Nat) : Decidable (LD c) := by unfold LD; infer_instance
theorem z26 {c : Nat} : c ∈ Z26 ↔ LT c := by
  constructor
  · intro h
    exact (by decide : ∀ c ∈ Z26, LT c) c h
  · intro ⟨h1, h2⟩
    obtain ⟨k, rfl⟩ : ∃ k, c = 97 + k := ⟨c - 97, by omega⟩
    exact (by decide : ∀ k, k < 26 → 97 + k ∈ Z26) k (by omega)
theorem z10 {c : Nat} : c ∈ Z10 ↔ (48 ≤ c ∧ c ≤ 57) := by
  constructor
  · intro h
    exact (by decide : ∀ c ∈ Z10, 48 ≤ c ∧ c ≤ 57) c h
  · intro ⟨h1, h2⟩
    obtain ⟨k, rfl⟩ : ∃ k, c = 48 + k := ⟨c - 48, by omega⟩
    exact (by decide : ∀ k, k < 10 → 48 + k ∈ Z10) k (by omega)
theorem z36 {c : Nat} : c ∈ Z36 ↔ LD c := by
  have e : Z36 = Z26 ++ Z10 := rfl
  rw [e, List.mem_append, z26, z10]
  rfl
/-- a name -/
def isNm (l : List Nat) : Bool := decide (1 ≤ l.length) && (decide (l.length ≤ 8) && ((match l with | [] => false | c :: _ => decide (LT c)) && l.all fun c => decide (LD c)))
structure Nm (l : List Nat) : Prop where
  len : l.length ≤ 8
  first : ∃ c r, l = c :: r ∧ LT c
  all : ∀ c ∈ l, LD c
theorem Nm.pos {l : List Nat} (h : Nm l) : 1 ≤ l.length := by
  obtain ⟨c, r, rfl, _⟩ := h.first
  simp
theorem nm_iff {l : List Nat} : isNm l = true ↔ Nm l := by
  unfold isNm
  constructor
  · intro h
    simp only [Bool.and_eq_true, decide_eq_true_eq, List.all_eq_true] at h
    obtain ⟨h1, h2, h3, h4⟩ := h
    cases l with
    | nil => simp at h1
    | cons c r => exact ⟨h2, ⟨c, r, rfl, by simpa using h3⟩, h4⟩
  · intro h
    obtain ⟨h2, ⟨c, r, rfl, h3⟩, h4⟩ := h
    simp only [Bool.and_eq_true, decide_eq_true_eq, List.all_eq_true]
    exact ⟨by simp, h2, by simpa using h3, h4⟩
/-- the digits of j as a text -/
def dg (j : Nat) : List Nat := ((toString ((j : Nat) : Int) : String) : Str).cps.toList
def zn (j : Nat) : List Nat := [122] ++ dg j
theorem zn_nm {j : Nat} (h : j < 13) : Nm (zn j) := nm_iff.mp ((by decide +kernel : ∀ j, j < 13 → isNm (zn j) = true) j h)
theorem zn_nodup : ((List.range 13).map zn).Nodup := by decide +kernel
theorem nodup_sub {α : Type} [DecidableEq α] : ∀ {l m : List α}, l.Nodup → (∀ x ∈ l, x ∈ m) → l.length ≤ m.length
  | [], _, _, _ => Nat.zero_le _
  | x :: l, m, hn, hs => by
    have hx := hs x List.mem_cons_self
    obtain ⟨h1, h2⟩ := List.nodup_cons.mp hn
    have ih := nodup_sub (l := l) (m := m.erase x) h2 fun y hy => by
      have ne : y ≠ x := fun e => h1 (e ▸ hy)
      exact (List.mem_erase_of_ne ne).mpr (hs y (List.mem_cons_of_mem _ hy))
    rw [List.length_erase_of_mem hx] at ih
    have : 0 < m.length := List.length_pos_of_mem hx
    rw [List.length_cons]
    omega
theorem zn_out {ns : List (List Nat)} (h : ∀ i, i < 13 → zn i ∈ ns) : 13 ≤ ns.length := by
  have z := nodup_sub zn_nodup (m := ns) fun x hx => by
    obtain ⟨i, hi, rfl⟩ := List.mem_map.mp hx
    exact h i (List.mem_range.mp hi)
  simpa using z
/-- a slice -/
def cutG {α : Type} (xs : List α) (lo hi : Option Int) : List α := (xs.drop (HT.sIx xs.length 0 lo)).take (HT.sIx xs.length xs.length hi - HT.sIx xs.length 0 lo)
theorem six_nat {n d k : Nat} (h : k ≤ n) : HT.sIx n d (some (k : Int)) = k := by
  unfold HT.sIx
  simp only []
  split <;> omega
theorem cutG_to {α : Type} {xs : List α} {k : Nat} (h : k ≤ xs.length) : cutG xs none (some (k : Int)) = xs.take k := by
  unfold cutG
  rw [six_nat h]
  show (xs.drop 0).take (k - 0) = xs.take k
  simp
theorem cutG_from {α : Type} {xs : List α} {k : Nat} (h : k ≤ xs.length) : cutG xs (some (k : Int)) none = xs.drop k := by
  unfold cutG
  rw [six_nat h]
  show (xs.drop k).take (xs.length - k) = xs.drop k
  rw [← List.length_drop, List.take_length]
/-! ### short names of readings -/
def rAddStr : R2 := fun x y H Q => ∃ i j, x = .str i ∧ y = .str j ∧ i.length + j.length ≤ sizeLine ∧ Q (.str (i ++ j)) H
def rLtStr : R2 := fun x y H Q => ∃ i j, x = .str i ∧ y = .str j ∧ Q (.bl (decide (i.cps.toList < j.cps.toList))) H
def rLenStr : List V → Hp → VK → Prop := fun xs H Q => ∃ z, xs = [.str z] ∧ z.length ≤ sizeLine ∧ Q (.int z.length) H
def rLenS (K : PySem.W.Frag) : List V → Hp → VK → Prop := fun xs H Q => ∃ p ys, xs = [.ref p] ∧ (SqL K H p ys ∨ SqT K H p ys) ∧ Q (.int ys.length) H
def rListS (K : PySem.W.Frag) : List V → Hp → VK → Prop := fun xs H Q => ∃ p ys, xs = [.ref p] ∧ (SqL K H p ys ∨ SqT K H p ys) ∧ ∀ l, H l = none → Q (.ref l) (upd H l (.lst ys))
def rInt1 : List V → Hp → VK → Prop := fun xs H Q => (∃ i, xs = [.int i] ∧ Q (.int i) H) ∨ ∃ k, xs = [.bl k] ∧ Q (.int (if k then 1 else 0)) H
def rStrInt : List V → Hp → VK → Prop := fun xs H Q => ∃ i, xs = [.int i] ∧ i.natAbs.log2 < 1920 ∧ Q (.str (toString i)) H
def rMin2 : List V → Hp → VK → Prop := fun xs H Q => ∃ i j, xs = [.int i, .int j] ∧ Q (.int (if j < i then j else i)) H
def rMax2 : List V → Hp → VK → Prop := fun xs H Q => ∃ i j, xs = [.int i, .int j] ∧ Q (.int (if j > i then j else i)) H
def rAbs : List V → Hp → VK → Prop := fun xs H Q => ∃ i, xs = [.int i] ∧ Q (.int (if i < 0 then -i else i)) H
def rFind : V → List V → Hp → VK → Prop := fun x xs H Q => ∃ a b, x = .str a ∧ xs = [.str b] ∧ Q (.int (Txt.find a b)) H

section
variable {X : Cx}
theorem opAddStr : OpR X (binaryOp .Add) rAddStr := op_add_str
theorem opLtStr : OpR X (compareOp .Lt) rLtStr := op_lt_str
theorem callLenStr : CallR X (.builtin "len") rLenStr := call_len_str
theorem callLenSeq : CallR X (.builtin "len") (rLenS X.K) := call_len_seq
theorem callListOf : CallR X (.type "list") (rListS X.K) := call_list_of
theorem callInt1 : CallR X (.type "int") rInt1 := call_int1
theorem callStrInt : CallR X (.type "str") rStrInt := call_str_int
theorem callMin2 (hc : X.calm = true) : CallR X (.builtin "min") rMin2 := call_min2 hc
theorem callMax2 (hc : X.calm = true) : CallR X (.builtin "max") rMax2 := call_max2 hc
theorem callAbs : CallR X (.builtin "abs") rAbs := call_abs
theorem mtFind : MtR X "str.find" rFind := mt_find
end
theorem Same.new {H : Hp} {p : Addr} {o : HO} (h : H p = none) : Same H (upd H p o) := fun a u e => by
  rw [upd_ne (ne_of_none e h)]
  exact e
theorem Same.mut {H H' : Hp} {p : Addr} {o : HO} (e : Same H H') (h : H p = none) : Same H (upd H' p o) := fun a u ha => by
  rw [upd_ne (ne_of_none ha h)]
  exact e a u ha
theorem szl {n : Nat} (h : n ≤ 100000) : n ≤ sizeLine := Nat.le_trans h (by decide)
theorem szlt {n : Nat} (h : n < 100000) : n < sizeLine := Nat.lt_of_lt_of_le h (by decide)
/-! ### readings from the head -/
section
variable {σ : L2.St} {H : Hp} {Q : VK} {i : Nat} {v : V} {ta tb tc : TE} {tl : TA} {t u : TT} {s1 s2 : TS} {D : Ends} {K : PySem.W.Frag} {r r' : R2} {sp : Sp} {E : XK} {QA : List V → Hp → Prop} {QT : Bool → Hp → Prop}
theorem wp_var (h : σ[i]? = some (some v)) (q : Q v H) : tVar i σ H Q := ⟨v, h, q⟩
theorem wp_c (q : Q v H) : tC v σ H Q := q
theorem wp_op (h : ta σ H fun x H1 => tb σ H1 fun y H2 => r x y H2 Q) : tOp r ta tb σ H Q := h
theorem wp_un {r : V → Hp → VK → Prop} (h : ta σ H fun x H1 => r x H1 Q) : tUn r ta σ H Q := h
theorem wp_nil (h : QA [] H) : tNil σ H QA := h
theorem wp_cons (h : ta σ H fun x H1 => tl σ H1 fun xs H2 => QA (x :: xs) H2) : tCons ta tl σ H QA := h
theorem wp_call (h : tl σ H fun vs H1 => sp vs H1 Q E) : tCall sp [] E tl σ H Q := by
  show tl σ H fun vs H1 => sp (vs ++ []) H1 Q E
  simpa only [List.append_nil] using h
theorem wp_cb {r : List V → Hp → VK → Prop} (h : tl σ H fun vs H1 => r vs H1 Q) : tCB r tl σ H Q := h
theorem wp_tup (h : tl σ H fun xs H1 => xs.length ≤ sizeLine ∧ ∀ p, H1 p = none → Q (.ref p) (upd H1 p (.tup xs))) : tTup tl σ H Q := h
theorem wp_lst (h : tl σ H fun xs H1 => xs.length ≤ sizeLine ∧ ∀ p, H1 p = none → Q (.ref p) (upd H1 p (.lst xs))) : tLst tl σ H Q := h
theorem wp_test (h : ta σ H fun x H1 => ∃ k, x = .bl k ∧ QT k H1) : tTest ta σ H QT := h
theorem wp_B (h : ta σ H fun x H1 => ∃ k, x = .bl k ∧ QT k H1) : tB ta σ H QT := h
theorem wp_bl {k : Bool} {R : Bool → Prop} (h : R k) : ∃ k', V.bl k = .bl k' ∧ R k' := ⟨k, rfl, h⟩
theorem wp_not (h : t σ H fun c H1 => QT (!c) H1) : tNot t σ H QT := h
theorem wp_and (h : t σ H fun c H1 => if c = true then u σ H1 QT else QT false H1) : tAnd t u σ H QT := h
theorem wp_or (h : t σ H fun c H1 => if c = true then QT true H1 else u σ H1 QT) : tOr t u σ H QT := h
theorem wp_notV (h : ta σ H fun x H1 => ∃ c, x = .bl c ∧ Q (.bl (!c)) H1) : tNotV ta σ H Q := h
theorem wp_andV (h : ta σ H fun x H1 => ∃ c, x = .bl c ∧ if c = true then tb σ H1 Q else Q (.bl false) H1) : tAndV ta tb σ H Q := h
theorem wp_orV (h : ta σ H fun x H1 => ∃ c, x = .bl c ∧ if c = true then Q (.bl true) H1 else tb σ H1 Q) : tOrV ta tb σ H Q := h
theorem wp_ifE (h : t σ H fun c H1 => if c = true then ta σ H1 Q else tb σ H1 Q) : tIf t ta tb σ H Q := h
theorem wp_chain (h : ta σ H fun x H1 => tb σ H1 fun y H2 => r x y H2 fun z H3 => ∃ k, z = .bl k ∧ (if k = true then tc σ H3 fun w' H4 => r' y w' H4 Q else Q (.bl false) H3)) : tChain r r' ta tb tc σ H Q := h
theorem wp_slice {r : V → Option Int → Option Int → Hp → VK → Prop} {tlo thi : TO} (h : ta σ H fun x H1 => tlo σ H1 fun l H2 => thi σ H2 fun u H3 => r x l u H3 Q) : tSl r ta tlo thi σ H Q := h
theorem wp_noPart {QO : Option Int → Hp → Prop} (h : QO none H) : tNoPart σ H QO := h
theorem wp_part {QO : Option Int → Hp → Prop} (h : ta σ H fun x H1 => ∃ i, x = .int i ∧ QO (some i) H1) : tPart ta σ H QO := h
theorem wp_partI {k : Int} {R : Int → Prop} (h : R k) : ∃ i, V.int k = .int i ∧ R i := ⟨k, rfl, h⟩
theorem wp_bm {T : String} {r : V → List V → Hp → VK → Prop} (h : ta σ H fun x H1 => tyV K T x H1 ∧ tl σ H1 fun xs H2 => r x xs H2 Q) : tBM K T r ta tl σ H Q := h
theorem wp_bm0 {T : String} {r : V → List V → Hp → VK → Prop} (h : ta σ H fun x H1 => tyV K T x H1 ∧ r x [] H1 Q) : tBM0 K T r ta σ H Q := h
/- operations -/
theorem wp_rI0 {g : Int → Int → V} {a b : Int} (h : Q (g a b) H) : rI0 g (.int a) (.int b) H Q := ⟨a, b, rfl, rfl, h⟩
theorem wp_rI {C : Int → Int → Prop} {g : Int → Int → V} {a b : Int} (hc : C a b) (h : Q (g a b) H) : rI C g (.int a) (.int b) H Q := ⟨a, b, rfl, rfl, hc, h⟩
theorem wp_rU {g : Int → V} {a : Int} (h : Q (g a) H) : rU g (.int a) H Q := ⟨a, rfl, h⟩
theorem wp_eqI {a b : Int} (h : Q (.bl (decide (a = b))) H) : rEq (.int a) (.int b) H Q := ⟨rfl, by
  have e : decide (V.int a = V.int b) = decide (a = b) := by simp
  rw [e]; exact h⟩
theorem wp_eqS {a b : Str} (h : Q (.bl (decide (a = b))) H) : rEq (.str a) (.str b) H Q := ⟨rfl, by
  have e : decide (V.str a = V.str b) = decide (a = b) := by simp
  rw [e]; exact h⟩
theorem wp_eqB {a b : Bool} (h : Q (.bl (decide (a = b))) H) : rEq (.bl a) (.bl b) H Q := ⟨rfl, by
  have e : decide (V.bl a = V.bl b) = decide (a = b) := by simp
  rw [e]; exact h⟩
theorem wp_neI {a b : Int} (h : Q (.bl (!decide (a = b))) H) : rNe (.int a) (.int b) H Q := ⟨rfl, by
  have e : decide (V.int a = V.int b) = decide (a = b) := by simp
  rw [e]; exact h⟩
theorem wp_neS {a b : Str} (h : Q (.bl (!decide (a = b))) H) : rNe (.str a) (.str b) H Q := ⟨rfl, by
  have e : decide (V.str a = V.str b) = decide (a = b) := by simp
  rw [e]; exact h⟩
theorem wp_addStr {a b : Str} (hl : a.length + b.length ≤ 100000) (h : Q (.str (a ++ b)) H) : rAddStr (.str a) (.str b) H Q := ⟨a, b, rfl, rfl, Nat.le_trans hl (by decide), h⟩
theorem wp_ixL {a : Addr} {k : Int} {xs : List V} (hx : SqL K H a xs) (ha : atI xs k = some v) (h : Q v H) : rIxL K (.ref a) (.int k) H Q := ⟨a, xs, k, v, rfl, rfl, hx, ha, h⟩
theorem wp_ixT {a : Addr} {k : Int} {xs : List V} (hx : SqT K H a xs) (ha : atI xs k = some v) (h : Q v H) : rIxT K (.ref a) (.int k) H Q := ⟨a, xs, k, v, rfl, rfl, hx, ha, h⟩
theorem wp_ixS {z : Str} {k : Int} {c : Nat} (hz : z.length ≤ 100000) (ha : atI z.cps.toList k = some c) (h : Q (.str ⟨#[c]⟩) H) : rIxS (.str z) (.int k) H Q := ⟨z, k, c, rfl, rfl, Nat.le_trans hz (by decide), ha, h⟩
theorem wp_inS {c : Nat} {z : Str} (h : Q (.bl (decide (c ∈ z.cps.toList))) H) : rInS (.str ⟨#[c]⟩) (.str z) H Q := ⟨c, z, rfl, rfl, h⟩
theorem wp_notInS {c : Nat} {z : Str} (h : Q (.bl (!decide (c ∈ z.cps.toList))) H) : rNotInS (.str ⟨#[c]⟩) (.str z) H Q := ⟨c, z, rfl, rfl, h⟩
theorem wp_inL {a : Addr} {x : V} {xs : List V} (hx : SqL K H a xs) (h1 : flatV x = true) (h2 : xs.all flatV = true) (h : Q (.bl (inV x xs)) H) : rIn K false x (.ref a) H Q := ⟨a, xs, rfl, .inl hx, h1, h2, h⟩
theorem wp_notInL {a : Addr} {x : V} {xs : List V} (hx : SqL K H a xs) (h1 : flatV x = true) (h2 : xs.all flatV = true) (h : Q (.bl (!inV x xs)) H) : rIn K true x (.ref a) H Q := ⟨a, xs, rfl, .inl hx, h1, h2, h⟩
theorem wp_int1 {a : Int} (h : Q (.int a) H) : rInt1 [.int a] H Q := .inl ⟨a, rfl, h⟩
theorem wp_strInt {a : Int} (hl : a.natAbs.log2 < 1920) (h : Q (.str (toString a)) H) : rStrInt [.int a] H Q := ⟨a, rfl, hl, h⟩
theorem wp_lenStr {z : Str} (hz : z.length ≤ 100000) (h : Q (.int z.length) H) : rLenStr [.str z] H Q := ⟨z, rfl, Nat.le_trans hz (by decide), h⟩
theorem wp_lenL {a : Addr} {xs : List V} (hx : SqL K H a xs) (h : Q (.int xs.length) H) : rLenS K [.ref a] H Q := ⟨a, xs, rfl, .inl hx, h⟩
theorem wp_lenT {a : Addr} {xs : List V} (hx : SqT K H a xs) (h : Q (.int xs.length) H) : rLenS K [.ref a] H Q := ⟨a, xs, rfl, .inr hx, h⟩
theorem wp_min2 {a b : Int} (h : Q (.int (if b < a then b else a)) H) : rMin2 [.int a, .int b] H Q := ⟨a, b, rfl, h⟩
theorem wp_max2 {a b : Int} (h : Q (.int (if b > a then b else a)) H) : rMax2 [.int a, .int b] H Q := ⟨a, b, rfl, h⟩
theorem wp_find {a b : Str} (h : Q (.int (Txt.find a b)) H) : rFind (.str a) [.str b] H Q := ⟨a, b, rfl, rfl, h⟩
theorem wp_listL {a : Addr} {xs : List V} (hx : SqL K H a xs) (h : ∀ l, H l = none → Q (.ref l) (upd H l (.lst xs))) : rListS K [.ref a] H Q := ⟨a, xs, rfl, .inl hx, h⟩
theorem wp_append {a : Addr} {x : V} {xs : List V} (hx : H a = some (.lst xs)) (hl : xs.length < 100000) (h : Q .non (upd H a (.lst (xs ++ [x])))) : rAppend (.ref a) [x] H Q := ⟨a, xs, x, rfl, rfl, hx, Nat.lt_of_lt_of_le hl (by decide), h⟩
theorem ty_list {a : Addr} {xs : List V} {R : Prop} (hx : SqL K H a xs) (h : R) : tyV K "list" (.ref a) H ∧ R := ⟨.inl ⟨rfl, xs, hx⟩, h⟩
theorem ty_str {z : Str} {R : Prop} (h : R) : tyV K "str" (.str z) H ∧ R := ⟨rfl, h⟩
theorem wp_isi {x : V} {n : String} {tv : Value} {b : Bool} (ty : TyX K H x tv) (e : PySem.W.kitOne K tv (.type n) = some b) (h : Q (.bl b) H) : rIsi K [x, .ty n] H Q := ⟨x, .ty n, tv, .type n, b, rfl, .ty n, ty, e, h⟩
theorem pe_strS {X : Cx} {x : Str} {j : Nat} {pos : Pos} {l : List Nat} (h : x = S l) : PE X (.Constant (.str x) j pos) (tC (.str (S l))) := by
  rw [h]
  exact pe_str
theorem wp_addS {a b : List Nat} (hl : a.length + b.length ≤ 100000) (h : Q (.str (S (a ++ b))) H) : rAddStr (.str (S a)) (.str (S b)) H Q := by
  refine wp_addStr (by rw [S_len, S_len]; exact hl) ?_
  rw [S_cat]
  exact h
theorem wp_ixSM {z : List Nat} {k : Int} (hz : z.length ≤ 100000) (h0 : 0 ≤ k) (h1 : k < z.length) (h : ∀ c, c ∈ z → z[k.toNat]? = some c → Q (.str (S [c])) H) : rIxS (.str (S z)) (.int k) H Q := by
  have hl : k.toNat < z.length := by omega
  have e : k = ((k.toNat : Nat) : Int) := by omega
  have y := atI_nat (List.getElem?_eq_getElem hl)
  rw [← e] at y
  exact wp_ixS (by rw [S_len]; exact hz) y (h _ (List.getElem_mem hl) (List.getElem?_eq_getElem hl))
theorem wp_lenS {z : List Nat} (hz : z.length ≤ 100000) (h : Q (.int z.length) H) : rLenStr [.str (S z)] H Q := by
  refine wp_lenStr (by rw [S_len]; exact hz) ?_
  rw [S_len]
  exact h
theorem wp_strIntS {j : Nat} (hj : j < 1000000) (h : Q (.str (S (dg j))) H) : rStrInt [.int j] H Q := by
  refine wp_strInt ?_ ?_
  · have e : (j : Int).natAbs = j := Int.natAbs_natCast j
    rw [e]
    have : j.log2 ≤ j := Nat.log2_le_self j
    by_cases hz : j = 0
    · subst hz; decide
    · exact Nat.lt_trans ((Nat.log2_lt hz).mpr (show j < 2 ^ 20 by omega)) (by decide)
  · have e : (S (dg j)) = ((toString ((j : Nat) : Int) : String) : Str) := S_tl _
    rw [e] at h
    exact h
theorem inV_sv {a : List Nat} {ns : List (List Nat)} : inV (sv a) (ns.map sv) = decide (a ∈ ns) := by
  unfold inV
  rw [List.any_map, Bool.eq_iff_iff, List.any_eq_true, decide_eq_true_eq]
  constructor
  · rintro ⟨x, hx, e⟩
    have e2 : (S x == S a) = true := e
    rw [SX.S_beq_eq, decide_eq_true_eq] at e2
    rw [← e2]; exact hx
  · intro h
    refine ⟨a, h, ?_⟩
    show (S a == S a) = true
    exact beq_self_eq_true _
theorem flat_sv {ns : List (List Nat)} : (ns.map sv).all flatV = true := by
  rw [List.all_map, List.all_eq_true]
  intro x _
  rfl
theorem wp_inSv {p : Addr} {a : List Nat} {ns : List (List Nat)} (hx : SqL K H p (ns.map sv)) (h : Q (.bl (decide (a ∈ ns))) H) : rIn K false (.str (S a)) (.ref p) H Q := by
  refine wp_inL hx rfl flat_sv ?_
  show Q (.bl (inV (sv a) (ns.map sv))) H
  rw [inV_sv]; exact h
theorem wp_notInSv {p : Addr} {a : List Nat} {ns : List (List Nat)} (hx : SqL K H p (ns.map sv)) (h : Q (.bl (!decide (a ∈ ns))) H) : rIn K true (.str (S a)) (.ref p) H Q := by
  refine wp_notInL hx rfl flat_sv ?_
  show Q (.bl (!inV (sv a) (ns.map sv))) H
  rw [inV_sv]; exact h
theorem wp_minL {a : Addr} {ns : List Int} (hx : SqL K H a (ns.map V.int)) (h0 : 0 < ns.length) (h : ∀ m, m ∈ ns → (∀ y ∈ ns, m ≤ y) → Q (.int m) H) : rMin K [.ref a] H Q := ⟨a, ns, rfl, hx, h0, h⟩
theorem wp_maxL {a : Addr} {ns : List Int} (hx : SqL K H a (ns.map V.int)) (h0 : 0 < ns.length) (h : ∀ m, m ∈ ns → (∀ y ∈ ns, y ≤ m) → Q (.int m) H) : rMax K [.ref a] H Q := ⟨a, ns, rfl, hx, h0, h⟩
theorem wp_allL {a : Addr} {bs : List Bool} (hx : SqL K H a (bs.map V.bl)) (h : Q (.bl (bs.all id)) H) : rAll K [.ref a] H Q := ⟨a, bs, rfl, hx, h⟩
theorem wp_anyL {a : Addr} {bs : List Bool} (hx : SqL K H a (bs.map V.bl)) (h : Q (.bl (bs.any id)) H) : rAny K [.ref a] H Q := ⟨a, bs, rfl, hx, h⟩
theorem wp_isiB {b : Bool} (h : Q (.bl true) H) : rIsi K [.bl b, .ty "bool"] H Q := wp_isi (.base (.bl b)) (by unfold PySem.W.kitOne; rw [if_pos (by decide)]) h
theorem wp_sliceS {z : List Nat} {lo hi : Option Int} (hz : z.length ≤ 100000) (h : Q (.str (S (cutG z lo hi))) H) : rSlS (.str (S z)) lo hi H Q := by
  refine ⟨S z, rfl, szl (by rw [S_len]; exact hz), ?_⟩
  have e : cutS (S z) lo hi = S (cutG z lo hi) := by
    unfold cutS cutG
    rw [S_len]
  rw [e]
  exact h
/- statements -/
theorem wp_seq (h : s1 { D with nx := s2 D } σ H) : tSeq s1 s2 D σ H := h
theorem wp_next (h : D.nx σ H) : tNext D σ H := h
theorem wp_brk (h : D.bk σ H) : tBreak D σ H := h
theorem wp_cont (h : D.ct σ H) : tCont D σ H := h
theorem wp_ret (h : ta σ H D.rt) : tRet ta D σ H := h
theorem wp_drop (h : ta σ H fun _ H1 => D.nx σ H1) : tDrop ta D σ H := h
theorem wp_asg {g : TG} (h : ta σ H fun x H1 => g x σ H1 D.nx) : tAsg ta g D σ H := h
theorem wp_gname {QS : L2.St → Hp → Prop} (h : QS (σ.set i (some v)) H) : gName i v σ H QS := h
theorem wp_gsub {ts : TSet} {QS : L2.St → Hp → Prop} (h : ta σ H fun o H1 => tb σ H1 fun k H2 => ts o k v H2 fun H3 => QS σ H3) : gSub ta tb ts v σ H QS := h
theorem wp_setL {QH : Hp → Prop} {a : Addr} {k : Int} {j : Nat} {xs : List V} (hx : H a = some (.lst xs)) (hj : ixN xs.length k = some j) (h : QH (upd H a (.lst (xs.set j v)))) : rSetL (.ref a) (.int k) v H QH := ⟨a, xs, k, j, rfl, rfl, hx, hj, h⟩
theorem wp_setL0 {QH : Hp → Prop} {a : Addr} {x : V} {xs : List V} (hx : H a = some (.lst (x :: xs))) (h : QH (upd H a (.lst (v :: xs)))) : rSetL (.ref a) (.int 0) v H QH :=
  ⟨a, x :: xs, 0, 0, rfl, rfl, hx, by unfold ixN; simp only [List.length_cons]; rw [if_pos (by omega), if_pos (by omega)]; rfl, h⟩
theorem wp_setL1 {QH : Hp → Prop} {a : Addr} {x y : V} {xs : List V} (hx : H a = some (.lst (x :: y :: xs))) (h : QH (upd H a (.lst (x :: v :: xs)))) : rSetL (.ref a) (.int 1) v H QH :=
  ⟨a, x :: y :: xs, 1, 1, rfl, rfl, hx, by unfold ixN; simp only [List.length_cons]; rw [if_pos (by omega), if_pos (by omega)]; rfl, h⟩
theorem is_isi {xs : List V} (h : rIsi K xs H Q) : rIsi K xs H Q := h
theorem is_var (h : tVar i σ H Q) : tVar i σ H Q := h
theorem is_gname {QS : L2.St → Hp → Prop} (h : gName i v σ H QS) : gName i v σ H QS := h
theorem wp_ixLM {a : Addr} {k : Int} {xs : List V} (hx : SqL K H a xs) (h0 : 0 ≤ k) (h1 : k < xs.length) (h : ∀ v, v ∈ xs → xs[k.toNat]? = some v → Q v H) : rIxL K (.ref a) (.int k) H Q := by
  have hl : k.toNat < xs.length := by omega
  have e : k = ((k.toNat : Nat) : Int) := by omega
  have z := atI_nat (List.getElem?_eq_getElem hl)
  rw [← e] at z
  exact wp_ixL hx z (h _ (List.getElem_mem hl) (List.getElem?_eq_getElem hl))
theorem wp_ixLI {a : Addr} {k : Int} {cs : List Int} (hx : SqL K H a (cs.map V.int)) (h0 : 0 ≤ k) (h1 : k < (cs.map V.int).length) (h : ∀ c, c ∈ cs → Q (.int c) H) : rIxL K (.ref a) (.int k) H Q :=
  wp_ixLM hx h0 h1 fun v hv _ => by
    obtain ⟨c, hc, rfl⟩ := List.mem_map.mp hv
    exact h c hc
theorem wp_cut {s1 s2 : TS} (Mid : L2.St → Hp → Prop) (h1 : s1 { D with nx := Mid } σ H) (h2 : ∀ σ' H', Mid σ' H' → s2 D σ' H') : C8.tCut s1 s2 D σ H := ⟨Mid, h1, h2⟩
theorem wp_ifS (h : t σ H fun b H1 => if b = true then s1 D σ H1 else s2 D σ H1) : tIfS t s1 s2 D σ H := h
/- loops -/
def ForW (J : It) (g : TG) (tb : TS) (D : Ends) (σ : L2.St) (H : Hp) : Prop := tFor (fun _ H1 R => R J H1) g tb D σ H
theorem wp_for1 {g : TG} {tb : TS} (h : tl σ H fun vs H1 => ∃ j : Int, vs = [.int j] ∧ -(2 ^ 62) ≤ j ∧ j < 2 ^ 62 ∧ ForW (Itr 0 j.toNat) g tb D σ H1) : tFor (iRng1 tl) g tb D σ H := h
theorem wp_for2 {g : TG} {tb : TS} (h : tl σ H fun vs H1 => ∃ i j : Int, vs = [.int i, .int j] ∧ (-(2 ^ 62) ≤ i ∧ i < 2 ^ 62 ∧ -(2 ^ 62) ≤ j ∧ j < 2 ^ 62) ∧ ForW (Itr i (j - i).toNat) g tb D σ H1) : tFor (iRng2 tl) g tb D σ H := h
theorem wp_forL {g : TG} {tb : TS} (h : ta σ H fun x H1 => ∃ a, x = .ref a ∧ (∃ xs, SqL K H1 a xs) ∧ ForW (Itl K a) g tb D σ H1) : tFor (iList K ta) g tb D σ H := h
theorem wp_forT {g : TG} {tb : TS} (h : ta σ H fun x H1 => ∃ a, x = .ref a ∧ (∃ xs, SqT K H1 a xs) ∧ ForW (Itt K a) g tb D σ H1) : tFor (iTup K ta) g tb D σ H := h
theorem wp_forS {g : TG} {tb : TS} (h : ta σ H fun v H1 => ∃ x, v = .str x ∧ ForW (Its x) g tb D σ H1) : tFor (iStr ta) g tb D σ H := h
theorem loop1 {g : TG} {tb : TS} {n : Int} (b : -4611686018427387904 ≤ n ∧ n < 4611686018427387904) (Pv : Nat → L2.St → Hp → Prop) (h0 : Pv 0 σ H)
    (hs : ∀ (i : Nat) σ' H', (i : Int) < n → Pv i σ' H' → g (.int ((i : Nat) : Int)) σ' H' fun σ2 H2 => tb { D with nx := Pv (i + 1), ct := Pv (i + 1), bk := D.nx } σ2 H2) (hd : ∀ σ' H', Pv n.toNat σ' H' → D.nx σ' H') :
    ∃ j : Int, [V.int n] = [V.int j] ∧ -(2 ^ 62) ≤ j ∧ j < 2 ^ 62 ∧ ForW (Itr 0 j.toNat) g tb D σ H := by
  refine ⟨n, rfl, by omega, by omega, for_range Pv h0 (fun i σ' H' hi p => ?_) hd⟩
  have e0 : (0 : Int) + (i : Int) = (i : Int) := Int.zero_add _
  rw [e0]
  exact hs i σ' H' (by omega) p
theorem loop2 {g : TG} {tb : TS} {lo n : Int} (b : -4611686018427387904 ≤ lo ∧ lo < 4611686018427387904 ∧ -4611686018427387904 ≤ n ∧ n < 4611686018427387904) (Pv : Nat → L2.St → Hp → Prop) (h0 : Pv 0 σ H)
    (hs : ∀ (i : Nat) σ' H', lo + (i : Int) < n → Pv i σ' H' → g (.int (lo + ((i : Nat) : Int))) σ' H' fun σ2 H2 => tb { D with nx := Pv (i + 1), ct := Pv (i + 1), bk := D.nx } σ2 H2) (hd : ∀ σ' H', Pv (n - lo).toNat σ' H' → D.nx σ' H') :
    ∃ i j : Int, [V.int lo, V.int n] = [V.int i, V.int j] ∧ (-(2 ^ 62) ≤ i ∧ i < 2 ^ 62 ∧ -(2 ^ 62) ≤ j ∧ j < 2 ^ 62) ∧ ForW (Itr i (j - i).toNat) g tb D σ H :=
  ⟨lo, n, rfl, ⟨by omega, by omega, by omega, by omega⟩, for_range Pv h0 (fun i σ' H' hi p => hs i σ' H' (by omega) p) hd⟩
theorem loopL {g : TG} {tb : TS} {a : Addr} {xs : List V} (hx : SqL K H a xs) (Pv : Nat → L2.St → Hp → Prop) (h0 : Pv 0 σ H) (hl : ∀ i σ' H', i ≤ xs.length → Pv i σ' H' → SqL K H' a xs)
    (hs : ∀ i x σ' H', xs[i]? = some x → Pv i σ' H' → g x σ' H' fun σ2 H2 => tb { D with nx := Pv (i + 1), ct := Pv (i + 1), bk := D.nx } σ2 H2) (hd : ∀ σ' H', Pv xs.length σ' H' → D.nx σ' H') :
    ∃ b, V.ref a = .ref b ∧ (∃ xs, SqL K H b xs) ∧ ForW (Itl K b) g tb D σ H := ⟨a, rfl, ⟨xs, hx⟩, for_list Pv h0 hl hs hd⟩
theorem loopT {g : TG} {tb : TS} {a : Addr} {xs : List V} (hx : SqT K H a xs) (Pv : Nat → L2.St → Hp → Prop) (h0 : Pv 0 σ H) (hl : ∀ i σ' H', i ≤ xs.length → Pv i σ' H' → SqT K H' a xs)
    (hs : ∀ i x σ' H', xs[i]? = some x → Pv i σ' H' → g x σ' H' fun σ2 H2 => tb { D with nx := Pv (i + 1), ct := Pv (i + 1), bk := D.nx } σ2 H2) (hd : ∀ σ' H', Pv xs.length σ' H' → D.nx σ' H') :
    ∃ b, V.ref a = .ref b ∧ (∃ xs, SqT K H b xs) ∧ ForW (Itt K b) g tb D σ H := ⟨a, rfl, ⟨xs, hx⟩, for_tup Pv h0 hl hs hd⟩
theorem loopS {g : TG} {tb : TS} {l : List Nat} (Pv : Nat → L2.St → Hp → Prop) (h0 : Pv 0 σ H)
    (hs : ∀ i c σ' H', l[i]? = some c → Pv i σ' H' → g (.str (S [c])) σ' H' fun σ2 H2 => tb { D with nx := Pv (i + 1), ct := Pv (i + 1), bk := D.nx } σ2 H2) (hd : ∀ σ' H', Pv l.length σ' H' → D.nx σ' H') :
    ∃ x, V.str (S l) = .str x ∧ ForW (Its x) g tb D σ H := by
  refine ⟨S l, rfl, for_it (walk_str (z := S l)) Pv h0 (fun _ _ _ _ _ => trivial) (fun i x σ' H1 H2 hi p y => ?_) (fun σ' H' p => ?_)⟩
  · obtain ⟨rfl, c, hc, rfl⟩ := y
    exact hs i c σ' H2 (by simpa using hc) p
  · exact hd σ' H' (by simpa using p)
/- comprehensions: each item's value, nothing else changed -/
def LcW (J : It) (g : TG) (tt : TT) (te : TE) (vs : List Nat) (σ : L2.St) (H1 : Hp) (Q : VK) : Prop := tLc (fun _ H R => R J H) g tt te vs σ H1 Q
theorem wp_lcL {g : TG} {tt : TT} {te : TE} {vs : List Nat} (h : ta σ H fun x H1 => ∃ a, x = .ref a ∧ (∃ xs, SqL K H1 a xs) ∧ LcW (Itl K a) g tt te vs σ H1 Q) : tLc (iList K ta) g tt te vs σ H Q := h
theorem wp_lcT {g : TG} {tt : TT} {te : TE} {vs : List Nat} (h : ta σ H fun x H1 => ∃ a, x = .ref a ∧ (∃ xs, SqT K H1 a xs) ∧ LcW (Itt K a) g tt te vs σ H1 Q) : tLc (iTup K ta) g tt te vs σ H Q := h
theorem wp_lcS {g : TG} {tt : TT} {te : TE} {vs : List Nat} (h : ta σ H fun v H1 => ∃ x, v = .str x ∧ LcW (Its x) g tt te vs σ H1 Q) : tLc (iStr ta) g tt te vs σ H Q := h
theorem wp_lc1 {g : TG} {tt : TT} {te : TE} {vs : List Nat} (h : tl σ H fun us H1 => ∃ j : Int, us = [.int j] ∧ -(2 ^ 62) ≤ j ∧ j < 2 ^ 62 ∧ LcW (Itr 0 j.toNat) g tt te vs σ H1 Q) : tLc (iRng1 tl) g tt te vs σ H Q := h
/-- a walk by items, an element that changes nothing: the list of their values -/
theorem lcMap {J : It} {n : Nat} {it : Nat → V} {Gd : Hp → Prop} (w : Walk J n Gd (fun i H x H' => H' = H ∧ x = it i)) (hn : n ≤ 100000) {g : TG} {te : TE} {vs : List Nat} (hG : ∀ H', Same H H' → Gd H') (f : Nat → V)
    (he : ∀ i H2, i < n → Same H H2 → ∀ R : VK, (∀ H3, Same H2 H3 → R (f i) H3) → g (it i) (wipe σ vs) H2 fun σ2 H3 => wipe σ2 vs = wipe σ vs ∧ te σ2 H3 R)
    (hq : ∀ D H2, H D = none → Same H H2 → H2 D = some (.lst ((List.range n).map f)) → Q (.ref D) H2) : LcW J g tYes te vs σ H Q := by
  intro D hD
  refine lc_it w (fun i H2 => Same H H2 ∧ H2 D = some (.lst ((List.range i).map f))) ⟨Same.new hD, upd_same⟩ (fun i H2 _ p => hG H2 p.1) (fun i x H2 H3 hi p y => ?_) (fun H2 p => hq D H2 hD p.1 p.2)
  obtain ⟨rfl, rfl⟩ := y
  have z := he i H3 hi p.1 (fun y H4 => ∃ acc, H4 D = some (.lst acc) ∧ acc.length < sizeLine ∧ (Same H (upd H4 D (.lst (acc ++ [y]))) ∧ upd H4 D (.lst (acc ++ [y])) D = some (.lst ((List.range (i + 1)).map f)))) (fun H4 s4 => ?_)
  · exact z
  · refine ⟨_, s4 _ _ p.2, ?_, Same.mut (p.1.trans s4) hD, ?_⟩
    · rw [List.length_map, List.length_range]
      exact szlt (by omega)
    · rw [List.range_succ, List.map_append]
      exact upd_same
theorem lcMapL {a : Addr} {xs : List V} {j : Nat} {te : TE} (hx : SqL K H a xs) (hn : xs.length ≤ 100000) (σx : V → L2.St) (hw : ∀ x, (wipe σ [j]).set j (some x) = σx x ∧ wipe (σx x) [j] = wipe σ [j]) (f : V → V)
    (he : ∀ x H2, x ∈ xs → Same H H2 → ∀ R : VK, (∀ H3, Same H2 H3 → R (f x) H3) → te (σx x) H2 R)
    (hq : ∀ D H2, H D = none → Same H H2 → H2 D = some (.lst (xs.map f)) → Q (.ref D) H2) : ∃ b, V.ref a = .ref b ∧ (∃ ys, SqL K H b ys) ∧ LcW (Itl K b) (gName j) tYes te [j] σ H Q := by
  refine ⟨a, rfl, ⟨xs, hx⟩, ?_⟩
  intro D hD
  refine lc_list (xs := xs) (fun i H2 => Same H H2 ∧ H2 D = some (.lst ((xs.take i).map f))) ⟨Same.new hD, upd_same⟩ (fun i H2 _ p => Same.seq p.1 hx) (fun i x H3 hi p => ?_) (fun H2 p => hq D H2 hD p.1 (by have q := p.2; rw [List.take_length] at q; exact q))
  obtain ⟨hl, ex⟩ := List.getElem?_eq_some_iff.mp hi
  show wipe ((wipe σ [j]).set j (some x)) [j] = wipe σ [j] ∧ te ((wipe σ [j]).set j (some x)) H3 fun y H4 => ∃ acc, H4 D = some (.lst acc) ∧ acc.length < sizeLine ∧ (Same H (upd H4 D (.lst (acc ++ [y]))) ∧ upd H4 D (.lst (acc ++ [y])) D = some (.lst ((xs.take (i + 1)).map f)))
  rw [(hw x).1]
  refine ⟨(hw x).2, he x H3 (ex ▸ List.getElem_mem hl) p.1 _ fun H4 s4 => ⟨_, s4 _ _ p.2, ?_, Same.mut (p.1.trans s4) hD, ?_⟩⟩
  · rw [List.length_map, List.length_take]
    exact szlt (by omega)
  · rw [← List.take_append_getElem hl, List.map_append, ex]
    exact upd_same
theorem lcMapS {l : List Nat} {j : Nat} {te : TE} (hn : l.length ≤ 100000) (σx : V → L2.St) (hw : ∀ x, (wipe σ [j]).set j (some x) = σx x ∧ wipe (σx x) [j] = wipe σ [j]) (f : Nat → V)
    (he : ∀ c H2, c ∈ l → Same H H2 → ∀ R : VK, (∀ H3, Same H2 H3 → R (f c) H3) → te (σx (.str (S [c]))) H2 R)
    (hq : ∀ D H2, H D = none → Same H H2 → H2 D = some (.lst (l.map f)) → Q (.ref D) H2) : ∃ x, V.str (S l) = .str x ∧ LcW (Its x) (gName j) tYes te [j] σ H Q := by
  refine ⟨S l, rfl, ?_⟩
  intro D hD
  have e0 : (S l).cps.size = l.length := by simp
  refine lc_it (walk_str (z := S l)) (fun i H2 => Same H H2 ∧ H2 D = some (.lst ((l.take i).map f))) ⟨Same.new hD, upd_same⟩ (fun _ _ _ _ => trivial) (fun i x H2 H3 hi p y => ?_) (fun H2 p => hq D H2 hD p.1 (by have q := p.2; rw [e0, List.take_length] at q; exact q))
  obtain ⟨rfl, c, hc, rfl⟩ := y
  have hc : l[i]? = some c := by simpa using hc
  obtain ⟨hl, ex⟩ := List.getElem?_eq_some_iff.mp hc
  show wipe ((wipe σ [j]).set j (some (V.str (S [c])))) [j] = wipe σ [j] ∧ te ((wipe σ [j]).set j (some (V.str (S [c])))) H3 fun y H4 => ∃ acc, H4 D = some (.lst acc) ∧ acc.length < sizeLine ∧ (Same H (upd H4 D (.lst (acc ++ [y]))) ∧ upd H4 D (.lst (acc ++ [y])) D = some (.lst ((l.take (i + 1)).map f)))
  rw [(hw _).1]
  refine ⟨(hw _).2, he c H3 (ex ▸ List.getElem_mem hl) p.1 _ fun H4 s4 => ⟨_, s4 _ _ p.2, ?_, Same.mut (p.1.trans s4) hD, ?_⟩⟩
  · rw [List.length_map, List.length_take]
    exact szlt (by omega)
  · rw [← List.take_append_getElem hl, List.map_append, ex]
    exact upd_same
/- ways -/
theorem ite_dec {c A B : Prop} {dc : Decidable c} (h1 : c → A) (h2 : ¬ c → B) : if decide c = true then A else B := by
  by_cases h : c
  · rw [decide_eq_true h]; exact h1 h
  · rw [decide_eq_false h]; exact h2 h
theorem ite_ndec {c A B : Prop} {dc : Decidable c} (h1 : ¬ c → A) (h2 : c → B) : if (!decide c) = true then A else B := by
  by_cases h : c
  · rw [decide_eq_true h]; exact h2 h
  · rw [decide_eq_false h]; exact h1 h
theorem ite_T {c A B : Prop} {dc : Decidable c} (hc : c) (h : A) : if decide c = true then A else B := by
  rw [decide_eq_true hc]; exact h
theorem ite_F {c A B : Prop} {dc : Decidable c} (hc : ¬ c) (h : B) : if decide c = true then A else B := by
  rw [decide_eq_false hc]; exact h
theorem ite_nT {c A B : Prop} {dc : Decidable c} (hc : ¬ c) (h : A) : if (!decide c) = true then A else B := by
  rw [decide_eq_false hc]; exact h
theorem ite_nF {c A B : Prop} {dc : Decidable c} (hc : c) (h : B) : if (!decide c) = true then A else B := by
  rw [decide_eq_true hc]; exact h
theorem ite_t {A B : Prop} (h : A) : if true = true then A else B := by rw [if_pos rfl]; exact h
theorem ite_f {A B : Prop} (h : B) : if false = true then A else B := by rw [if_neg Bool.false_ne_true]; exact h
theorem ite_nt {A B : Prop} (h : B) : if (!true) = true then A else B := by rw [if_neg (by decide)]; exact h
theorem ite_nff {A B : Prop} (h : A) : if (!false) = true then A else B := by rw [if_pos (by decide)]; exact h
theorem ite_b {b : Bool} {A B : Prop} (h1 : b = true → A) (h2 : b = false → B) : if b = true then A else B := by
  cases b
  · exact h2 rfl
  · exact h1 rfl
theorem ite_nb {b : Bool} {A B : Prop} (h1 : b = false → A) (h2 : b = true → B) : if (!b) = true then A else B := by
  cases b
  · exact h1 rfl
  · exact h2 rfl
end
/- slots -/
section
variable {v : V} {H : Hp} {QS : L2.St → Hp → Prop} {r : L2.St}
theorem wp_g0 {a0 : Option V} (h : QS (some v :: r) H) : gName 0 v (a0 :: r) H QS := h
theorem wp_g1 {a0 a1 : Option V} (h : QS (a0 :: some v :: r) H) : gName 1 v (a0 :: a1 :: r) H QS := h
theorem wp_g2 {a0 a1 a2 : Option V} (h : QS (a0 :: a1 :: some v :: r) H) : gName 2 v (a0 :: a1 :: a2 :: r) H QS := h
theorem wp_g3 {a0 a1 a2 a3 : Option V} (h : QS (a0 :: a1 :: a2 :: some v :: r) H) : gName 3 v (a0 :: a1 :: a2 :: a3 :: r) H QS := h
theorem wp_g4 {a0 a1 a2 a3 a4 : Option V} (h : QS (a0 :: a1 :: a2 :: a3 :: some v :: r) H) : gName 4 v (a0 :: a1 :: a2 :: a3 :: a4 :: r) H QS := h
theorem wp_g5 {a0 a1 a2 a3 a4 a5 : Option V} (h : QS (a0 :: a1 :: a2 :: a3 :: a4 :: some v :: r) H) : gName 5 v (a0 :: a1 :: a2 :: a3 :: a4 :: a5 :: r) H QS := h
theorem wp_g6 {a0 a1 a2 a3 a4 a5 a6 : Option V} (h : QS (a0 :: a1 :: a2 :: a3 :: a4 :: a5 :: some v :: r) H) : gName 6 v (a0 :: a1 :: a2 :: a3 :: a4 :: a5 :: a6 :: r) H QS := h
theorem wp_g7 {a0 a1 a2 a3 a4 a5 a6 a7 : Option V} (h : QS (a0 :: a1 :: a2 :: a3 :: a4 :: a5 :: a6 :: some v :: r) H) : gName 7 v (a0 :: a1 :: a2 :: a3 :: a4 :: a5 :: a6 :: a7 :: r) H QS := h
theorem wp_g8 {a0 a1 a2 a3 a4 a5 a6 a7 a8 : Option V} (h : QS (a0 :: a1 :: a2 :: a3 :: a4 :: a5 :: a6 :: a7 :: some v :: r) H) : gName 8 v (a0 :: a1 :: a2 :: a3 :: a4 :: a5 :: a6 :: a7 :: a8 :: r) H QS := h
theorem wp_g9 {a0 a1 a2 a3 a4 a5 a6 a7 a8 a9 : Option V} (h : QS (a0 :: a1 :: a2 :: a3 :: a4 :: a5 :: a6 :: a7 :: a8 :: some v :: r) H) : gName 9 v (a0 :: a1 :: a2 :: a3 :: a4 :: a5 :: a6 :: a7 :: a8 :: a9 :: r) H QS := h
theorem wp_g10 {a0 a1 a2 a3 a4 a5 a6 a7 a8 a9 a10 : Option V} (h : QS (a0 :: a1 :: a2 :: a3 :: a4 :: a5 :: a6 :: a7 :: a8 :: a9 :: some v :: r) H) : gName 10 v (a0 :: a1 :: a2 :: a3 :: a4 :: a5 :: a6 :: a7 :: a8 :: a9 :: a10 :: r) H QS := h
theorem wp_g11 {a0 a1 a2 a3 a4 a5 a6 a7 a8 a9 a10 a11 : Option V} (h : QS (a0 :: a1 :: a2 :: a3 :: a4 :: a5 :: a6 :: a7 :: a8 :: a9 :: a10 :: some v :: r) H) : gName 11 v (a0 :: a1 :: a2 :: a3 :: a4 :: a5 :: a6 :: a7 :: a8 :: a9 :: a10 :: a11 :: r) H QS := h
theorem wp_g12 {a0 a1 a2 a3 a4 a5 a6 a7 a8 a9 a10 a11 a12 : Option V} (h : QS (a0 :: a1 :: a2 :: a3 :: a4 :: a5 :: a6 :: a7 :: a8 :: a9 :: a10 :: a11 :: some v :: r) H) : gName 12 v (a0 :: a1 :: a2 :: a3 :: a4 :: a5 :: a6 :: a7 :: a8 :: a9 :: a10 :: a11 :: a12 :: r) H QS := h
theorem wp_g13 {a0 a1 a2 a3 a4 a5 a6 a7 a8 a9 a10 a11 a12 a13 : Option V} (h : QS (a0 :: a1 :: a2 :: a3 :: a4 :: a5 :: a6 :: a7 :: a8 :: a9 :: a10 :: a11 :: a12 :: some v :: r) H) : gName 13 v (a0 :: a1 :: a2 :: a3 :: a4 :: a5 :: a6 :: a7 :: a8 :: a9 :: a10 :: a11 :: a12 :: a13 :: r) H QS := h
theorem wp_g14 {a0 a1 a2 a3 a4 a5 a6 a7 a8 a9 a10 a11 a12 a13 a14 : Option V} (h : QS (a0 :: a1 :: a2 :: a3 :: a4 :: a5 :: a6 :: a7 :: a8 :: a9 :: a10 :: a11 :: a12 :: a13 :: some v :: r) H) : gName 14 v (a0 :: a1 :: a2 :: a3 :: a4 :: a5 :: a6 :: a7 :: a8 :: a9 :: a10 :: a11 :: a12 :: a13 :: a14 :: r) H QS := h
theorem wp_g15 {a0 a1 a2 a3 a4 a5 a6 a7 a8 a9 a10 a11 a12 a13 a14 a15 : Option V} (h : QS (a0 :: a1 :: a2 :: a3 :: a4 :: a5 :: a6 :: a7 :: a8 :: a9 :: a10 :: a11 :: a12 :: a13 :: a14 :: some v :: r) H) : gName 15 v (a0 :: a1 :: a2 :: a3 :: a4 :: a5 :: a6 :: a7 :: a8 :: a9 :: a10 :: a11 :: a12 :: a13 :: a14 :: a15 :: r) H QS := h
theorem wp_g16 {a0 a1 a2 a3 a4 a5 a6 a7 a8 a9 a10 a11 a12 a13 a14 a15 a16 : Option V} (h : QS (a0 :: a1 :: a2 :: a3 :: a4 :: a5 :: a6 :: a7 :: a8 :: a9 :: a10 :: a11 :: a12 :: a13 :: a14 :: a15 :: some v :: r) H) : gName 16 v (a0 :: a1 :: a2 :: a3 :: a4 :: a5 :: a6 :: a7 :: a8 :: a9 :: a10 :: a11 :: a12 :: a13 :: a14 :: a15 :: a16 :: r) H QS := h
theorem wp_g17 {a0 a1 a2 a3 a4 a5 a6 a7 a8 a9 a10 a11 a12 a13 a14 a15 a16 a17 : Option V} (h : QS (a0 :: a1 :: a2 :: a3 :: a4 :: a5 :: a6 :: a7 :: a8 :: a9 :: a10 :: a11 :: a12 :: a13 :: a14 :: a15 :: a16 :: some v :: r) H) : gName 17 v (a0 :: a1 :: a2 :: a3 :: a4 :: a5 :: a6 :: a7 :: a8 :: a9 :: a10 :: a11 :: a12 :: a13 :: a14 :: a15 :: a16 :: a17 :: r) H QS := h
theorem wp_g18 {a0 a1 a2 a3 a4 a5 a6 a7 a8 a9 a10 a11 a12 a13 a14 a15 a16 a17 a18 : Option V} (h : QS (a0 :: a1 :: a2 :: a3 :: a4 :: a5 :: a6 :: a7 :: a8 :: a9 :: a10 :: a11 :: a12 :: a13 :: a14 :: a15 :: a16 :: a17 :: some v :: r) H) : gName 18 v (a0 :: a1 :: a2 :: a3 :: a4 :: a5 :: a6 :: a7 :: a8 :: a9 :: a10 :: a11 :: a12 :: a13 :: a14 :: a15 :: a16 :: a17 :: a18 :: r) H QS := h
theorem wp_g19 {a0 a1 a2 a3 a4 a5 a6 a7 a8 a9 a10 a11 a12 a13 a14 a15 a16 a17 a18 a19 : Option V} (h : QS (a0 :: a1 :: a2 :: a3 :: a4 :: a5 :: a6 :: a7 :: a8 :: a9 :: a10 :: a11 :: a12 :: a13 :: a14 :: a15 :: a16 :: a17 :: a18 :: some v :: r) H) : gName 19 v (a0 :: a1 :: a2 :: a3 :: a4 :: a5 :: a6 :: a7 :: a8 :: a9 :: a10 :: a11 :: a12 :: a13 :: a14 :: a15 :: a16 :: a17 :: a18 :: a19 :: r) H QS := h
theorem wp_g20 {a0 a1 a2 a3 a4 a5 a6 a7 a8 a9 a10 a11 a12 a13 a14 a15 a16 a17 a18 a19 a20 : Option V} (h : QS (a0 :: a1 :: a2 :: a3 :: a4 :: a5 :: a6 :: a7 :: a8 :: a9 :: a10 :: a11 :: a12 :: a13 :: a14 :: a15 :: a16 :: a17 :: a18 :: a19 :: some v :: r) H) : gName 20 v (a0 :: a1 :: a2 :: a3 :: a4 :: a5 :: a6 :: a7 :: a8 :: a9 :: a10 :: a11 :: a12 :: a13 :: a14 :: a15 :: a16 :: a17 :: a18 :: a19 :: a20 :: r) H QS := h
theorem wp_g21 {a0 a1 a2 a3 a4 a5 a6 a7 a8 a9 a10 a11 a12 a13 a14 a15 a16 a17 a18 a19 a20 a21 : Option V} (h : QS (a0 :: a1 :: a2 :: a3 :: a4 :: a5 :: a6 :: a7 :: a8 :: a9 :: a10 :: a11 :: a12 :: a13 :: a14 :: a15 :: a16 :: a17 :: a18 :: a19 :: a20 :: some v :: r) H) : gName 21 v (a0 :: a1 :: a2 :: a3 :: a4 :: a5 :: a6 :: a7 :: a8 :: a9 :: a10 :: a11 :: a12 :: a13 :: a14 :: a15 :: a16 :: a17 :: a18 :: a19 :: a20 :: a21 :: r) H QS := h
theorem wp_g22 {a0 a1 a2 a3 a4 a5 a6 a7 a8 a9 a10 a11 a12 a13 a14 a15 a16 a17 a18 a19 a20 a21 a22 : Option V} (h : QS (a0 :: a1 :: a2 :: a3 :: a4 :: a5 :: a6 :: a7 :: a8 :: a9 :: a10 :: a11 :: a12 :: a13 :: a14 :: a15 :: a16 :: a17 :: a18 :: a19 :: a20 :: a21 :: some v :: r) H) : gName 22 v (a0 :: a1 :: a2 :: a3 :: a4 :: a5 :: a6 :: a7 :: a8 :: a9 :: a10 :: a11 :: a12 :: a13 :: a14 :: a15 :: a16 :: a17 :: a18 :: a19 :: a20 :: a21 :: a22 :: r) H QS := h
theorem wp_g23 {a0 a1 a2 a3 a4 a5 a6 a7 a8 a9 a10 a11 a12 a13 a14 a15 a16 a17 a18 a19 a20 a21 a22 a23 : Option V} (h : QS (a0 :: a1 :: a2 :: a3 :: a4 :: a5 :: a6 :: a7 :: a8 :: a9 :: a10 :: a11 :: a12 :: a13 :: a14 :: a15 :: a16 :: a17 :: a18 :: a19 :: a20 :: a21 :: a22 :: some v :: r) H) : gName 23 v (a0 :: a1 :: a2 :: a3 :: a4 :: a5 :: a6 :: a7 :: a8 :: a9 :: a10 :: a11 :: a12 :: a13 :: a14 :: a15 :: a16 :: a17 :: a18 :: a19 :: a20 :: a21 :: a22 :: a23 :: r) H QS := h
theorem wp_g24 {a0 a1 a2 a3 a4 a5 a6 a7 a8 a9 a10 a11 a12 a13 a14 a15 a16 a17 a18 a19 a20 a21 a22 a23 a24 : Option V} (h : QS (a0 :: a1 :: a2 :: a3 :: a4 :: a5 :: a6 :: a7 :: a8 :: a9 :: a10 :: a11 :: a12 :: a13 :: a14 :: a15 :: a16 :: a17 :: a18 :: a19 :: a20 :: a21 :: a22 :: a23 :: some v :: r) H) : gName 24 v (a0 :: a1 :: a2 :: a3 :: a4 :: a5 :: a6 :: a7 :: a8 :: a9 :: a10 :: a11 :: a12 :: a13 :: a14 :: a15 :: a16 :: a17 :: a18 :: a19 :: a20 :: a21 :: a22 :: a23 :: a24 :: r) H QS := h
theorem wp_g25 {a0 a1 a2 a3 a4 a5 a6 a7 a8 a9 a10 a11 a12 a13 a14 a15 a16 a17 a18 a19 a20 a21 a22 a23 a24 a25 : Option V} (h : QS (a0 :: a1 :: a2 :: a3 :: a4 :: a5 :: a6 :: a7 :: a8 :: a9 :: a10 :: a11 :: a12 :: a13 :: a14 :: a15 :: a16 :: a17 :: a18 :: a19 :: a20 :: a21 :: a22 :: a23 :: a24 :: some v :: r) H) : gName 25 v (a0 :: a1 :: a2 :: a3 :: a4 :: a5 :: a6 :: a7 :: a8 :: a9 :: a10 :: a11 :: a12 :: a13 :: a14 :: a15 :: a16 :: a17 :: a18 :: a19 :: a20 :: a21 :: a22 :: a23 :: a24 :: a25 :: r) H QS := h
end
section
variable {v : V} {H : Hp} {Q : VK} {r : L2.St}
theorem wp_v0 (q : Q v H) : tVar 0 (some v :: r) H Q := ⟨v, rfl, q⟩
theorem wp_v1 {a0 : Option V} (q : Q v H) : tVar 1 (a0 :: some v :: r) H Q := ⟨v, rfl, q⟩
theorem wp_v2 {a0 a1 : Option V} (q : Q v H) : tVar 2 (a0 :: a1 :: some v :: r) H Q := ⟨v, rfl, q⟩
theorem wp_v3 {a0 a1 a2 : Option V} (q : Q v H) : tVar 3 (a0 :: a1 :: a2 :: some v :: r) H Q := ⟨v, rfl, q⟩
theorem wp_v4 {a0 a1 a2 a3 : Option V} (q : Q v H) : tVar 4 (a0 :: a1 :: a2 :: a3 :: some v :: r) H Q := ⟨v, rfl, q⟩
theorem wp_v5 {a0 a1 a2 a3 a4 : Option V} (q : Q v H) : tVar 5 (a0 :: a1 :: a2 :: a3 :: a4 :: some v :: r) H Q := ⟨v, rfl, q⟩
theorem wp_v6 {a0 a1 a2 a3 a4 a5 : Option V} (q : Q v H) : tVar 6 (a0 :: a1 :: a2 :: a3 :: a4 :: a5 :: some v :: r) H Q := ⟨v, rfl, q⟩
theorem wp_v7 {a0 a1 a2 a3 a4 a5 a6 : Option V} (q : Q v H) : tVar 7 (a0 :: a1 :: a2 :: a3 :: a4 :: a5 :: a6 :: some v :: r) H Q := ⟨v, rfl, q⟩
theorem wp_v8 {a0 a1 a2 a3 a4 a5 a6 a7 : Option V} (q : Q v H) : tVar 8 (a0 :: a1 :: a2 :: a3 :: a4 :: a5 :: a6 :: a7 :: some v :: r) H Q := ⟨v, rfl, q⟩
theorem wp_v9 {a0 a1 a2 a3 a4 a5 a6 a7 a8 : Option V} (q : Q v H) : tVar 9 (a0 :: a1 :: a2 :: a3 :: a4 :: a5 :: a6 :: a7 :: a8 :: some v :: r) H Q := ⟨v, rfl, q⟩
theorem wp_v10 {a0 a1 a2 a3 a4 a5 a6 a7 a8 a9 : Option V} (q : Q v H) : tVar 10 (a0 :: a1 :: a2 :: a3 :: a4 :: a5 :: a6 :: a7 :: a8 :: a9 :: some v :: r) H Q := ⟨v, rfl, q⟩
theorem wp_v11 {a0 a1 a2 a3 a4 a5 a6 a7 a8 a9 a10 : Option V} (q : Q v H) : tVar 11 (a0 :: a1 :: a2 :: a3 :: a4 :: a5 :: a6 :: a7 :: a8 :: a9 :: a10 :: some v :: r) H Q := ⟨v, rfl, q⟩
theorem wp_v12 {a0 a1 a2 a3 a4 a5 a6 a7 a8 a9 a10 a11 : Option V} (q : Q v H) : tVar 12 (a0 :: a1 :: a2 :: a3 :: a4 :: a5 :: a6 :: a7 :: a8 :: a9 :: a10 :: a11 :: some v :: r) H Q := ⟨v, rfl, q⟩
theorem wp_v13 {a0 a1 a2 a3 a4 a5 a6 a7 a8 a9 a10 a11 a12 : Option V} (q : Q v H) : tVar 13 (a0 :: a1 :: a2 :: a3 :: a4 :: a5 :: a6 :: a7 :: a8 :: a9 :: a10 :: a11 :: a12 :: some v :: r) H Q := ⟨v, rfl, q⟩
theorem wp_v14 {a0 a1 a2 a3 a4 a5 a6 a7 a8 a9 a10 a11 a12 a13 : Option V} (q : Q v H) : tVar 14 (a0 :: a1 :: a2 :: a3 :: a4 :: a5 :: a6 :: a7 :: a8 :: a9 :: a10 :: a11 :: a12 :: a13 :: some v :: r) H Q := ⟨v, rfl, q⟩
theorem wp_v15 {a0 a1 a2 a3 a4 a5 a6 a7 a8 a9 a10 a11 a12 a13 a14 : Option V} (q : Q v H) : tVar 15 (a0 :: a1 :: a2 :: a3 :: a4 :: a5 :: a6 :: a7 :: a8 :: a9 :: a10 :: a11 :: a12 :: a13 :: a14 :: some v :: r) H Q := ⟨v, rfl, q⟩
theorem wp_v16 {a0 a1 a2 a3 a4 a5 a6 a7 a8 a9 a10 a11 a12 a13 a14 a15 : Option V} (q : Q v H) : tVar 16 (a0 :: a1 :: a2 :: a3 :: a4 :: a5 :: a6 :: a7 :: a8 :: a9 :: a10 :: a11 :: a12 :: a13 :: a14 :: a15 :: some v :: r) H Q := ⟨v, rfl, q⟩
theorem wp_v17 {a0 a1 a2 a3 a4 a5 a6 a7 a8 a9 a10 a11 a12 a13 a14 a15 a16 : Option V} (q : Q v H) : tVar 17 (a0 :: a1 :: a2 :: a3 :: a4 :: a5 :: a6 :: a7 :: a8 :: a9 :: a10 :: a11 :: a12 :: a13 :: a14 :: a15 :: a16 :: some v :: r) H Q := ⟨v, rfl, q⟩
theorem wp_v18 {a0 a1 a2 a3 a4 a5 a6 a7 a8 a9 a10 a11 a12 a13 a14 a15 a16 a17 : Option V} (q : Q v H) : tVar 18 (a0 :: a1 :: a2 :: a3 :: a4 :: a5 :: a6 :: a7 :: a8 :: a9 :: a10 :: a11 :: a12 :: a13 :: a14 :: a15 :: a16 :: a17 :: some v :: r) H Q := ⟨v, rfl, q⟩
theorem wp_v19 {a0 a1 a2 a3 a4 a5 a6 a7 a8 a9 a10 a11 a12 a13 a14 a15 a16 a17 a18 : Option V} (q : Q v H) : tVar 19 (a0 :: a1 :: a2 :: a3 :: a4 :: a5 :: a6 :: a7 :: a8 :: a9 :: a10 :: a11 :: a12 :: a13 :: a14 :: a15 :: a16 :: a17 :: a18 :: some v :: r) H Q := ⟨v, rfl, q⟩
theorem wp_v20 {a0 a1 a2 a3 a4 a5 a6 a7 a8 a9 a10 a11 a12 a13 a14 a15 a16 a17 a18 a19 : Option V} (q : Q v H) : tVar 20 (a0 :: a1 :: a2 :: a3 :: a4 :: a5 :: a6 :: a7 :: a8 :: a9 :: a10 :: a11 :: a12 :: a13 :: a14 :: a15 :: a16 :: a17 :: a18 :: a19 :: some v :: r) H Q := ⟨v, rfl, q⟩
theorem wp_v21 {a0 a1 a2 a3 a4 a5 a6 a7 a8 a9 a10 a11 a12 a13 a14 a15 a16 a17 a18 a19 a20 : Option V} (q : Q v H) : tVar 21 (a0 :: a1 :: a2 :: a3 :: a4 :: a5 :: a6 :: a7 :: a8 :: a9 :: a10 :: a11 :: a12 :: a13 :: a14 :: a15 :: a16 :: a17 :: a18 :: a19 :: a20 :: some v :: r) H Q := ⟨v, rfl, q⟩
theorem wp_v22 {a0 a1 a2 a3 a4 a5 a6 a7 a8 a9 a10 a11 a12 a13 a14 a15 a16 a17 a18 a19 a20 a21 : Option V} (q : Q v H) : tVar 22 (a0 :: a1 :: a2 :: a3 :: a4 :: a5 :: a6 :: a7 :: a8 :: a9 :: a10 :: a11 :: a12 :: a13 :: a14 :: a15 :: a16 :: a17 :: a18 :: a19 :: a20 :: a21 :: some v :: r) H Q := ⟨v, rfl, q⟩
theorem wp_v23 {a0 a1 a2 a3 a4 a5 a6 a7 a8 a9 a10 a11 a12 a13 a14 a15 a16 a17 a18 a19 a20 a21 a22 : Option V} (q : Q v H) : tVar 23 (a0 :: a1 :: a2 :: a3 :: a4 :: a5 :: a6 :: a7 :: a8 :: a9 :: a10 :: a11 :: a12 :: a13 :: a14 :: a15 :: a16 :: a17 :: a18 :: a19 :: a20 :: a21 :: a22 :: some v :: r) H Q := ⟨v, rfl, q⟩
theorem wp_v24 {a0 a1 a2 a3 a4 a5 a6 a7 a8 a9 a10 a11 a12 a13 a14 a15 a16 a17 a18 a19 a20 a21 a22 a23 : Option V} (q : Q v H) : tVar 24 (a0 :: a1 :: a2 :: a3 :: a4 :: a5 :: a6 :: a7 :: a8 :: a9 :: a10 :: a11 :: a12 :: a13 :: a14 :: a15 :: a16 :: a17 :: a18 :: a19 :: a20 :: a21 :: a22 :: a23 :: some v :: r) H Q := ⟨v, rfl, q⟩
theorem wp_v25 {a0 a1 a2 a3 a4 a5 a6 a7 a8 a9 a10 a11 a12 a13 a14 a15 a16 a17 a18 a19 a20 a21 a22 a23 a24 : Option V} (q : Q v H) : tVar 25 (a0 :: a1 :: a2 :: a3 :: a4 :: a5 :: a6 :: a7 :: a8 :: a9 :: a10 :: a11 :: a12 :: a13 :: a14 :: a15 :: a16 :: a17 :: a18 :: a19 :: a20 :: a21 :: a22 :: a23 :: a24 :: some v :: r) H Q := ⟨v, rfl, q⟩
end
/-! ### small words about heaps -/
theorem sq_of {K : PySem.W.Frag} {H : Hp} {a : Addr} {xs : List V} (h : H a = some (.lst xs)) : SqL K H a xs := SqL.of h
theorem st_of {K : PySem.W.Frag} {H : Hp} {a : Addr} {xs : List V} (h : H a = some (.tup xs)) : SqT K H a xs := SqT.of h
theorem at_in {α : Type} {xs : List α} {i : Int} (h0 : 0 ≤ i) (h1 : i < xs.length) : ∃ v, atI xs i = some v ∧ v ∈ xs ∧ xs[i.toNat]? = some v := by
  have hl : i.toNat < xs.length := by omega
  have e : i = ((i.toNat : Nat) : Int) := by omega
  have h := atI_nat (List.getElem?_eq_getElem hl)
  rw [← e] at h
  exact ⟨_, h, List.getElem_mem hl, List.getElem?_eq_getElem hl⟩
theorem at0 {α : Type} {x : α} {xs : List α} : atI (x :: xs) 0 = some x := atI_nat (j := 0) rfl
theorem at1 {α : Type} {x y : α} {xs : List α} : atI (x :: y :: xs) 1 = some y := atI_nat (j := 1) rfl
/-! ### the pool: what a draw may change -/
structure Pl where
  p : Addr
  l : Addr
  cs : List Int
/-- the pool stands at P.p, its cells at P.l; G: all that is known besides, P.p not among it -/
structure Sees (P : Pl) (G H : Hp) : Prop where
  pool : ∃ (n c : Int), H P.p = some (.lst [.int n, .int c, .ref P.l])
  cell : G P.l = some (.lst (P.cs.map V.int))
  few : P.cs.length ≤ 63
  free : G P.p = none
  sub : Same G H
theorem Sees.more {P : Pl} {G G' H : Hp} (s : Sees P G H) (g : Same G G') (h : Same G' H) (hp : G' P.p = none) : Sees P G' H :=
  ⟨s.pool, g _ _ s.cell, s.few, hp, h⟩
/-- a thing outside of G that stands in H is known too -/
theorem Sees.with {P : Pl} {q : Addr} {o : HO} {G H : Hp} (s : Sees P G H) (hq : G q = none) (hH : H q = some o) (hqp : q ≠ P.p) : Sees P (upd G q o) H := by
  refine s.more (Same.new hq) (fun a u e => ?_) (by rw [upd_ne hqp.symm]; exact s.free)
  by_cases h : a = q
  · subst h; rw [upd_same] at e; cases e; exact hH
  · rw [upd_ne h] at e; exact s.sub _ _ e
/-- .. and may be forgotten behind a call -/
theorem Sees.back {P : Pl} {q : Addr} {o : HO} {G H H' : Hp} (s : Sees P (upd G q o) H') (s0 : Sees P G H) (hq : G q = none) : Sees P G H' ∧ H' q = some o :=
  ⟨⟨s.pool, s0.cell, s.few, s0.free, Same.trans (Same.new hq) s.sub⟩, s.sub _ _ upd_same⟩
theorem Sees.fresh {P : Pl} {q : Addr} {G H : Hp} (s : Sees P G H) (hq : H q = none) : G q = none ∧ q ≠ P.p := by
  refine ⟨s.sub.free hq, fun e => ?_⟩
  obtain ⟨n, c, h⟩ := s.pool
  rw [e, h] at hq
  cases hq
/-- a local object is made, or changed -/
theorem Sees.set {P : Pl} {q : Addr} {o : HO} {G H : Hp} (s : Sees P G H) (hq : G q = none) (hqp : q ≠ P.p) : Sees P G (upd H q o) := by
  obtain ⟨n, c, h⟩ := s.pool
  exact ⟨⟨n, c, by rw [upd_ne hqp.symm]; exact h⟩, s.cell, s.few, s.free, Same.mut s.sub hq⟩
/-- .. and known for good -/
theorem Sees.new {P : Pl} {q : Addr} {o : HO} {G H : Hp} (s : Sees P G H) (hq : H q = none) : Sees P (upd G q o) (upd H q o) := by
  obtain ⟨h1, h2⟩ := s.fresh hq
  exact (s.set h1 h2).with h1 upd_same h2
theorem Sees.drawn {P : Pl} {G H : Hp} (s : Sees P G H) (n c : Int) : Sees P G (upd H P.p (.lst [.int n, .int c, .ref P.l])) :=
  ⟨⟨n, c, upd_same⟩, s.cell, s.few, s.free, Same.mut s.sub s.free⟩
/-- what a call that leaves all as it was leaves -/
theorem Sees.same {P : Pl} {G H H' : Hp} (s : Sees P G H) (h : Same H H') : Sees P G H' := by
  obtain ⟨n, c, e⟩ := s.pool
  exact ⟨⟨n, c, h _ _ e⟩, s.cell, s.few, s.free, s.sub.trans h⟩
end RM
namespace RM
open PySem PySem.Spec PyProof.Rows L2
/-! ### own classes: the operators that the text defines -/
section
variable {X : Cx} {pins : List (Addr × Obj)} {σ : L2.St} {H : Hp} {s : Shared} {n : Nat} {A : Around} {f C : Addr} {fd : FuncData} {ps : List Str} {sp : Sp}
/-- a def run somewhere below the body -/
theorem run_at {E' : Value → Shared → Prop} (sb : Sub X n A) (F : FnOk X.prog X.w X.K X.mg X.base CX0 n f fd ps sp) (hb : Binds X.K fd ps []) (I : Inv X pins σ H s) {us : List Value} {vs : List V} {Q : VK} (r : Vals vs us) (h : sp vs H Q E0) :
    wpAny (model X.prog X.w) A (call (.ref f) us) (EP X pins σ Q) E' s := by
  have e0 : Env0 X.prog X.w X.K X.mg X.base A X.stack s H := by
    have e := I.env0
    exact ⟨by rw [sb.fr]; exact e.frames, e.mod, e.bs, e.bsz, e.funs, e.frf, e.hok, e.bare⟩
  have hl := F.len _ _ _ _ h
  have hl2 : (us ++ ([] : List Value)).length = ps.length := by rw [List.append_nil, ← r.length]; exact hl
  have bt := hb s us I.kIn hl2
  rw [List.append_nil] at bt
  refine wpAny_call (codeAny_mono (F.run A X.stack s H ⟨us, []⟩ us vs Q E0 sb.room e0 bt r h) fun r s' hq => ?_)
  cases r with
  | error e => exact False.elim hq
  | ok fl =>
    cases fl with
    | ret u => exact I.after hq
    | next => exact False.elim hq
    | brk => exact False.elim hq
    | cont => exact False.elim hq
/-- a class's method by a special name -/
structure Spc (P : Program) (w : World) (K : PySem.W.Frag) (mg : Str → Option Value) (base : Heap) (n : Nat) (C : Addr) (nm : Str) (sp : Sp) : Prop where
  ex : ∃ (f : Addr) (fd : FuncData) (ps : List Str), PySem.W.findIn K (.ref C) nm = some (some (.ref f)) ∧ PySem.W.isFn K (.ref f) = true ∧ FnOk P w K mg base CX0 n f fd ps sp ∧ Binds K fd ps []
theorem inst_of {a dx : Addr} {fs : List (Str × V)} (I : Inv X pins σ H s) (ha : H a = some (.ins C dx fs)) : ∃ od, PySem.W.InstAt s.heap a (PySem.W.instObj C dx) C (some od) := by
  obtain ⟨mA, J, _⟩ := ins_get I.hok ha
  obtain ⟨od, J, _⟩ := J.look
  exact ⟨od, J⟩
/-- len(o) -/
def rLenOwn (C : Addr) (sp : Sp) : List V → Hp → VK → Prop := fun xs H Q => ∃ a dx fs, xs = [.ref a] ∧ H a = some (.ins C dx fs) ∧ sp [.ref a] H (fun v H' => ∃ k : Int, v = .int k ∧ 0 ≤ k ∧ k < 100000 ∧ Q (.int k) H') E0
theorem call_lenOwn (S : Spc X.prog X.w X.K X.mg X.base n C "__len__" sp) (hr : Room (n + 1) X.A) : CallR X (.builtin "len") (rLenOwn C sp) := by
  obtain ⟨f, fd, ps, hs, hf, F, hb⟩ := S.ex
  intro pins s σ H xs us Q I r h
  obtain ⟨a, dx, fs, rfl, ha, h⟩ := h
  obtain ⟨u, rfl, ru⟩ := r.one
  cases ru
  obtain ⟨od, J⟩ := inst_of I ha
  obtain ⟨m, hF⟩ := I.fr
  refine PySem.W.len_K hF I.ok.mod.kin J hs hf ?_
  refine wpAny_mono (run_at (us := [.ref a]) (vs := [.ref a]) (Sub.in1 ⟨hr, rfl⟩) F hb I (.cons rfl .nil) h) (fun v s' hv => ?_) fun _ _ e => e
  obtain ⟨x, H', I', rx, k, rfl, h0, h1, q⟩ := hv
  obtain ⟨t, rfl⟩ := rx
  refine ⟨⟨h0, by omega⟩, .int k, H', I'.tok _, ⟨_, rfl⟩, q⟩
/-- x in o, x not in o -/
def rInOwn (C : Addr) (sp : Sp) (neg : Bool) : R2 := fun x y H Q => ∃ a dx fs, y = .ref a ∧ H a = some (.ins C dx fs) ∧ sp [.ref a, x] H (fun v H' => ∃ k : Bool, v = .bl k ∧ Q (.bl (if neg then !k else k)) H') E0
theorem op_inOwn (S : Spc X.prog X.w X.K X.mg X.base n C "__contains__" sp) (hr : Room n X.A) : OpR X (compareOp .In) (rInOwn C sp false) := by
  obtain ⟨f, fd, ps, hs, hf, F, hb⟩ := S.ex
  intro pins s σ H x y v u Q I rx ry h
  obtain ⟨a, dx, fs, rfl, ha, h⟩ := h
  cases ry
  obtain ⟨od, J⟩ := inst_of I ha
  obtain ⟨m, hF⟩ := I.fr
  refine PySem.W.in_K hF I.ok.mod.kin J hs hf ?_
  refine wpAny_mono (run_at (us := [.ref a, v]) (vs := [.ref a, x]) ⟨hr, rfl⟩ F hb I (.cons rfl (.cons rx .nil)) h) (fun v s' hv => ?_) fun _ _ e => e
  obtain ⟨z, H', I', rz, k, rfl, q⟩ := hv
  cases rz
  exact wpAny_truthy_bool ⟨.bl k, H', I', rfl, q⟩
theorem op_notInOwn (S : Spc X.prog X.w X.K X.mg X.base n C "__contains__" sp) (hr : Room n X.A) : OpR X (compareOp .NotIn) (rInOwn C sp true) := by
  obtain ⟨f, fd, ps, hs, hf, F, hb⟩ := S.ex
  intro pins s σ H x y v u Q I rx ry h
  obtain ⟨a, dx, fs, rfl, ha, h⟩ := h
  cases ry
  obtain ⟨od, J⟩ := inst_of I ha
  obtain ⟨m, hF⟩ := I.fr
  refine PySem.W.notIn_K hF I.ok.mod.kin J hs hf ?_
  refine wpAny_mono (run_at (us := [.ref a, v]) (vs := [.ref a, x]) ⟨hr, rfl⟩ F hb I (.cons rfl (.cons rx .nil)) h) (fun v s' hv => ?_) fun _ _ e => e
  obtain ⟨z, H', I', rz, k, rfl, q⟩ := hv
  cases rz
  exact wpAny_truthy_bool ⟨.bl (!k), H', I', rfl, q⟩
/-- o == p, two instances of one class -/
def rEqOwn (C : Addr) (sp : Sp) : R2 := fun x y H Q => ∃ a dx fs b dy gs, x = .ref a ∧ H a = some (.ins C dx fs) ∧ y = .ref b ∧ H b = some (.ins C dy gs) ∧ sp [.ref a, .ref b] H (fun v H' => ∃ k : Bool, v = .bl k ∧ Q (.bl k) H') E0
theorem op_eqOwn (S : Spc X.prog X.w X.K X.mg X.base n C "__eq__" sp) (hr : Room n X.A) : OpR X (compareOp .Eq) (rEqOwn C sp) := by
  obtain ⟨f, fd, ps, hs, hf, F, hb⟩ := S.ex
  intro pins s σ H x y v u Q I rx ry h
  obtain ⟨a, dx, fs, b, dy, gs, rfl, ha, rfl, hb', h⟩ := h
  cases rx
  cases ry
  obtain ⟨od, J⟩ := inst_of I ha
  obtain ⟨od', J'⟩ := inst_of I hb'
  obtain ⟨m, hF⟩ := I.fr
  show wpAny (model X.prog X.w) X.A (richCompare .Eq (.ref a) (.ref b)) (EP X pins σ Q) X.xe s
  refine PySem.W.cmp_K (op := .Eq) (tb := .ref C) hr.units0 hF I.ok.mod.kin J J'.type (by simp [PySem.W.notFirst]) hs hf ?_
  refine wpAny_mono (run_at (us := [.ref a, .ref b]) (vs := [.ref a, .ref b]) ⟨hr, rfl⟩ F hb I (.cons rfl (.cons rfl .nil)) h) (fun v s' hv => ?_) fun _ _ e => e
  obtain ⟨z, H', I', rz, k, rfl, q⟩ := hv
  cases rz
  exact ⟨.bl k, H', I', rfl, q⟩
end
end RM
namespace RM
open PySem PySem.Spec PyProof.Rows L2
/-! ### list(o), o of an own class whose __iter__ hands out a list's iterator and that has a __len__ -/
/-- at it an iterator over the list at l, the next place is i (its object left open) -/
def ItS (l it : Addr) (i : Nat) : HO := .ext fun h => h.IsListIter it l i
section
variable {X : Cx} {pins : List (Addr × Obj)} {σ : L2.St} {H : Hp} {s : Shared} {n : Nat} {A : Around} {f C l it q : Addr} {fd : FuncData} {ps : List Str} {sp : Sp} {i : Nat}
theorem itS_ok {P : Program} {w : World} {h : Heap} (e : h.IsListIter it l i) : ObjOk P w H h it (ItS l it i) := by
  obtain ⟨o, ho, hr⟩ := id e
  refine ⟨e, ⟨o, ho⟩, fun h1 h2 x k => ?_⟩
  obtain ⟨o1, ho1, hr1⟩ := x
  exact ⟨o1, k _ ho1, hr1⟩
theorem itS_get (I : Inv X pins σ H s) (e : H it = some (ItS l it i)) : s.heap.IsListIter it l i := (I.hok it _ e).1
theorem endit {Q : Option Value → Shared → Prop} {items : Array Value} {E : Value → Shared → Prop} {prog : Program} {w : World} (hh : A.handled = none) (hit : s.heap.IsListIter it l i) (hl : s.heap.IsList l items) (hx : items[i]? = none)
    (hQ : ∀ h', (∃ o, h'.get? it = some o) → (∀ b o, b ≠ it → s.heap.get? b = some o → h'.get? b = some o) → Q none { s with heap := h' }) : wpAny (model prog w) A (pyNext (.ref it)) Q E s := by
  obtain ⟨o, ho, hc, hd⟩ := id hit
  obtain ⟨ol, hol, _, nl, hdl⟩ := hl
  unfold pyNext
  refine wpAny_bind (wpAny_attempt (wpAny_callSpecial?_slot (name := Str.ofString "__next__") hit.typeIs slot_listiter_next
    (wpAny_call_entry slot_listiter_next hit.typeIs entry_listiter_next ?_ (args_listiter_next _))))
  show wpAny _ _ (field (.ref it) 0 >>= _) _ _ s
  refine wpAny_bind (wpAny_field ho hd (x := .ref l) rfl ?_)
  show wpAny _ _ (if (Value.ref l == Value.none) = true then _ else _) _ _ s
  rw [if_neg (show ¬ ((Value.ref l == Value.none) = true) from Bool.false_ne_true)]
  show wpAny _ _ (field (.ref it) 1 >>= _) _ _ s
  refine wpAny_bind (wpAny_field ho hd (x := .int i 0) rfl ?_)
  show wpAny _ _ (seqItems? (.ref l) >>= _) _ _ s
  refine wpAny_bind (wpAny_seqItems hol hdl ?_)
  simp only [Int.toNat_natCast, hx]
  refine wpAny_bind (wpAny_rule (wpAny_bind (wpAny_setField ho hd (by simp) ?_)))
  show wpAny _ _ (newExc (.type "StopIteration") [] >>= _) _ _ _
  refine wpAny_bind ?_
  simp only [newExc, newTuple]
  refine wpAny_bind (wpAny_newObj_type ?_ (by size_fits))
  refine wpAny_bind (m := firstArgMember _ _) (wpAny_of_eq (a := Value.none) (by first | rfl | (simp only [firstArgMember]; rfl)) ?_)
  refine wpAny_newObj_type ?_ (by size_fits)
  simp only [raiseNew]
  refine wpAny_bind (wpAny_handled ?_)
  rw [show A.in1.handled = none from hh]
  refine wpAny_bind (wpAny_pure (wpAny_throw ?_))
  refine wpAny_bind (wpAny_isInstance (T := "StopIteration") (b := true) ⟨_, Heap.get?_push_size _ rfl, rfl⟩ isSubtype_stop ?_)
  have nf : (Obj.mapFields (fun x => x.setIfInBounds 0 Value.none) o).isFreed = false := by
    obtain ⟨oc, od, dt, sl⟩ := o
    simp only at hc hd
    subst hc hd
    rfl
  refine wpAny_pure (hQ _ ⟨_, Heap.get?_push_of_some _ (Heap.get?_push_of_some _ (Heap.get?_update_self _ ho nf))⟩ fun b o hb e => Heap.get?_push_of_some _ (Heap.get?_push_of_some _ ?_))
  exact (Heap.get?_update_other _ _ (Ne.symm hb)).trans e
/-- the loop that fills the list at q from the iterator at it -/
theorem it_loop {zs : List V} {Rs : Result → Shared → Prop} (hh : A.in1.handled = none) (hz : zs.length < 100000) (hlq : l ≠ q) (hli : l ≠ it) (hiq : it ≠ q)
    (hdone : ∀ H' s', Inv X pins σ H' s' → (∀ b o, b ≠ it → b ≠ q → H b = some o → H' b = some o) → H' q = some (.lst zs) → Rs (.ok (.ret .none)) s') :
    ∀ (m i : Nat) (H' : Hp) (s : Shared), zs.length - i = m → i ≤ zs.length → Inv X pins σ H' s → (∀ b o, b ≠ it → b ≠ q → H b = some o → H' b = some o) → SqL X.K H' l zs → H' it = some (ItS l it i) → H' q = some (.lst (zs.take i)) →
      codeAny (model X.prog X.w) A (.builtin "list.extend.loop" ⟨[.ref q, .ref it, .none], []⟩) Rs s := by
  intro m
  induction m with
  | zero =>
    intro i H' s hm hi I hk hl hI hq
    have ei : i = zs.length := by omega
    refine codeAny_builtin PySem.F.entry_extend_loop ?_
    rw [Around.under_plainId PySem.F.plain_extend_loop _]
    show wpAny _ A.in1 (pyNext (.ref it) >>= _) _ _ s
    obtain ⟨its, rv, pl, _⟩ := I.list hl
    refine wpAny_bind (endit hh (itS_get I hI) pl.isList (by rw [List.getElem?_toArray]; exact List.getElem?_eq_none (by rw [← rv.length]; omega)) fun h' he hk' => ?_)
    refine wpAny_pure ?_
    obtain ⟨oe, heo⟩ := he
    have mu : Mut (H' it) := by rw [hI]; exact True.intro
    have ok2 : ObjOk X.prog X.w (upd H' it (.ext fun h => ∃ o, h.get? it = some o)) h' it (.ext fun h => ∃ o, h.get? it = some o) := ⟨⟨oe, heo⟩, ⟨oe, heo⟩, fun h1 h2 ⟨o, x⟩ k => ⟨o, k _ x⟩⟩
    have I2 := I.write (x := it) (e := it) (t' := s.toks) mu (.inl rfl) (fun b u hb e => hk' b u hb e) ⟨oe, heo⟩ ok2
    refine hdone _ _ I2 (fun b o h1 h2 e => by rw [upd_ne h1]; exact hk b o h1 h2 e) ?_
    rw [upd_ne (Ne.symm hiq), hq, ei, List.take_length]
  | succ m ih =>
    intro i H' s hm hi I hk hl hI hq
    have hlt : i < zs.length := by omega
    refine codeAny_builtin PySem.F.entry_extend_loop ?_
    rw [Around.under_plainId PySem.F.plain_extend_loop _]
    show wpAny _ A.in1 (pyNext (.ref it) >>= _) _ _ s
    obtain ⟨its, rv, pl, _⟩ := I.list hl
    obtain ⟨u, hu, ru⟩ := rv.get (List.getElem?_eq_getElem hlt)
    refine wpAny_bind (wpAny_pyNext_list_item (itS_get I hI) pl.isList (x := u) (by rw [List.getElem?_toArray]; exact hu) fun h' st sb => ?_)
    have mu : Mut (H' it) := by rw [hI]; exact True.intro
    obtain ⟨oe, heo, hoe⟩ := id st
    have I2 := I.write (x := it) (e := it) (t' := s.toks) mu (.inl rfl) (fun b o hb e => (sb.2 b hb).trans e) ⟨oe, heo⟩ (itS_ok (H := upd H' it (ItS l it (i + 1))) (P := X.prog) (w := X.w) st)
    have hq2 : upd H' it (ItS l it (i + 1)) q = some (.lst (zs.take i)) := by rw [upd_ne (Ne.symm hiq)]; exact hq
    show wpAny _ A.in1 (updateSeq q (·.push u) >>= _) _ _ _
    obtain ⟨z, its2, k2, r2, hl2, e2⟩ := I2.lstM hq2
    have hz2 : its2.length = i := by rw [← hl2, List.length_take]; omega
    refine wpAny_bind (wpAny_updateSeq e2 rfl (wpAny_pure ⟨plainId_quiet PySem.F.plain_extend_loop _, ?_⟩) (by rw [List.size_toArray, hz2]; exact Nat.le_trans (Nat.le_of_lt hlt) (szl (by omega))) (by show (its2.toArray.push u).size ≤ sizeLine + 1; rw [Array.size_push, List.size_toArray, hz2]; exact Nat.succ_le_succ (szl (by omega))))
    have I3 := I2.lset (f := (·.push u)) (its' := its2 ++ [u]) (ys := zs.take i ++ [zs[i]]) (t' := s.toks) hq2 e2 (by simp) (r2.append (.cons ru .nil)) (by rw [List.length_append, List.length_take]; exact szl (by show _ + 1 ≤ _; omega))
    refine ih (i + 1) _ _ (by omega) hlt I3 (fun b o h1 h2 e => by rw [upd_ne h2, upd_ne h1]; exact hk b o h1 h2 e) ?_ ?_ ?_
    · have e1 : upd (upd H' it (ItS l it (i + 1))) q (.lst (zs.take i ++ [zs[i]])) l = H' l := by rw [upd_ne hlq, upd_ne hli]
      unfold SqL Rd at hl ⊢
      simp only [e1]
      exact hl
    · rw [upd_ne hiq]; exact upd_same
    · rw [List.take_append_getElem]; exact upd_same
/-- list(o) -/
def rListOwn (K : PySem.W.Frag) (C : Addr) (spI spL : Sp) : List V → Hp → VK → Prop := fun xs H Q => ∃ a dx fs, xs = [.ref a] ∧ H a = some (.ins C dx fs) ∧ ∀ q, H q = none →
  spI [.ref a] (upd H q (.lst [])) (fun v H1 => ∃ it l zs, v = .ref it ∧ H1 it = some (ItO l it 0) ∧ SqL K H1 l zs ∧ zs.length < 100000 ∧ l ≠ q ∧ l ≠ it ∧ it ≠ q ∧ H1 q = some (.lst []) ∧ H1 a = some (.ins C dx fs) ∧
    spL [.ref a] H1 (fun v2 H2 => ∃ k : Int, v2 = .int k ∧ 0 ≤ k ∧ k < 100000 ∧ H2 = H1 ∧ ∀ H3, (∀ b o, b ≠ it → b ≠ q → H1 b = some o → H3 b = some o) → H3 q = some (.lst zs) → Q (.ref q) H3) E0) E0
theorem call_listIt {spI spL : Sp} (SI : Spc X.prog X.w X.K X.mg X.base n C "__iter__" spI) (SL : Spc X.prog X.w X.K X.mg X.base n C "__len__" spL) (hr : Room (n + 3) X.A) : CallR X (.type "list") (rListOwn X.K C spI spL) := by
  obtain ⟨fI, fdI, psI, hsI, hfI, FI, bI⟩ := SI.ex
  obtain ⟨fL, fdL, psL, hsL, hfL, FL, bL⟩ := SL.ex
  intro pins s σ H xs us Q I rv h
  obtain ⟨a, dx, fs, rfl, ha, h⟩ := h
  obtain ⟨u, rfl, ru⟩ := rv.one
  cases ru
  have sb : Sub X (n + 1) X.A.in1.in1 := Sub.in1 (Sub.in1 (⟨hr, rfl⟩ : Sub X (n + 3) X.A))
  refine callType_codes (Q₁ := fun obj s₁ => obj = .ref s.heap.objs.size ∧ s₁ = { s with heap := s.heap.push { cls := .type "list", data := .seq #[] } }) PySem.F.called_list (PySem.F.typeCall_list_1 _) PySem.F.entry_list_init
    (code_list_new _ ⟨rfl, rfl⟩) fun obj s₁ h₁ => ?_
  obtain ⟨rfl, rfl⟩ := h₁
  have hS : (s.heap.push { cls := .type "list", data := .seq #[] }).get? s.heap.objs.size = some { cls := .type "list", data := .seq #[] } := Heap.get?_push_size _ rfl
  refine ⟨⟨_, hS, rfl⟩, PySem.F.args_list_init_2 _ _, ?_⟩
  have fr : H s.heap.objs.size = none := I.hok.fresh (Nat.le_refl _)
  have h := h _ fr
  generalize hqe : s.heap.objs.size = q at *
  have I1 : Inv X pins σ (upd H q (.lst [])) { s with heap := s.heap.push { cls := .type "list", data := .seq #[] } } := by
    have z := I.lnew (its := []) (ys := []) (t' := s.toks) .nil (Nat.zero_le _)
    rw [hqe] at z
    exact z
  show wpAny _ _ (do let old ← Builtin.List.listItems (.ref q); Builtin.List.listUpdate (.ref q) (fun _ => #[]); letGo old.toList.reverse; Builtin.List.listExtendWith (.ref q) (.ref a) .none) _ _ _
  refine wpAny_bind ?_
  unfold Builtin.List.listItems
  refine wpAny_bind (wpAny_seqItems hS rfl (wpAny_pure ?_))
  show wpAny _ _ (updateSeq q (fun _ => #[]) >>= fun _ => letGo (#[] : Array Value).toList.reverse >>= fun _ => Builtin.List.listExtendWith (.ref q) (.ref a) .none) _ _ _
  refine wpAny_bind (wpAny_updateSeq hS rfl ?_)
  have I2 := I1.lset (f := fun _ => #[]) (its := []) (its' := []) (ys := []) (t' := s.toks) upd_same hS rfl .nil (Nat.zero_le _)
  rw [upd_upd] at I2
  refine wpAny_bind (wpAny_letGo ?_)
  have ha2 : upd H q (.lst []) a = some (.ins C dx fs) := by rw [upd_ne (ne_of_none ha fr)]; exact ha
  have hne : q ≠ a := ne_of (H := upd H q (.lst [])) upd_same ha2 (fun z => nomatch z)
  obtain ⟨od, J⟩ := inst_of I2 ha2
  obtain ⟨m0, hF⟩ := I2.fr
  show wpAny _ X.A.in1.in1 (Builtin.List.listExtendWith (.ref q) (.ref a) .none) _ _ _
  unfold Builtin.List.listExtendWith
  refine wpAny_bind (J.type.here ?_)
  have h1 : Builtin.List.listSameRef (.ref q) (.ref a) = false := by simp [Builtin.List.listSameRef, hne]
  have h2 : (Value.ref C == Value.type "list") = false := rfl
  have h3 : (Value.ref C == Value.type "tuple") = false := rfl
  simp only [h1, h2, h3, Bool.or_false, Bool.false_eq_true, if_false]
  refine wpAny_bind (PySem.W.owit_iter hF I2.ok.mod.kin J hsI hfI ?_)
  refine wpAny_mono (run_at (us := [.ref a]) (vs := [.ref a]) (sb.mono (Nat.le_succ _)) FI bI I2 (.cons rfl .nil) h) (fun u s' hu => ?_) (fun _ _ e => e)
  obtain ⟨v, H1, I3, rv3, it, l, zs, rfl, hit, hlz, hz, n1, n2, n3, hq1, ha3, hL⟩ := hu
  cases rv3
  have ito := itO_get I3 hit
  have hT : s'.TypeIs (.ref it) "list_iterator" := ⟨_, ito, rfl⟩
  unfold PySem.W.OwitIt
  show wpAny _ _ (typeOf (.ref it) >>= fun t => typeLookup t "__next__") _ _ _
  refine wpAny_bind (wpAny_typeOf hT (wpAny_of_eq slot_listiter_next.lookup ?_))
  show wpAny _ _ _ _ _ _
  obtain ⟨od', J'⟩ := inst_of I3 ha3
  obtain ⟨m1, hF'⟩ := I3.fr
  refine wpAny_bind (wpAny_holding ?_)
  unfold Builtin.List.listLengthHint
  refine wpAny_bind (wpAny_bind (J'.type.here ((PySem.W.looks_findIn I3.kIn hsL).here ?_)))
  refine PySem.W.KFB.if_not rfl ?_
  refine PySem.W.KFB.if_so rfl ?_
  refine wpAny_bind (wpAny_rule (wpAny_bind (wpAny_attempt ?_)))
  refine PySem.W.len_K hF' I3.ok.mod.kin J' hsL hfL ?_
  refine wpAny_mono (run_at (E' := fun _ _ => False) (us := [.ref a]) (vs := [.ref a]) sb.in1 FL bL I3 (.cons rfl .nil) hL) (fun u s2 hu => ?_) fun _ _ e => e.elim
  obtain ⟨v2, H2, I4, rv4, k, rfl, k0, k1, e2, hend⟩ := hu
  obtain ⟨tk, rfl⟩ := rv4
  subst e2
  refine ⟨⟨k0, by omega⟩, ?_⟩
  have I5 := I4.tok (s2.toks + 1)
  refine wpAny_bind (wpAny_of_eq (a := some k) rfl ?_)
  refine PySem.W.KFB.if_not (notLongL (szl (by omega))) ?_
  refine wpAny_pure ?_
  have st := itS_ok (H := upd H2 it (ItS l it 0)) (P := X.prog) (w := X.w) (i := 0) (⟨_, itO_get I5 hit, rfl, rfl⟩ : Heap.IsListIter _ it l 0)
  have mu : Mut (H2 it) := by rw [hit]; exact True.intro
  have I6 := I5.write (x := it) (e := it) (t' := s2.toks + 1) mu (.inl rfl) (fun _ _ _ e => e) ⟨_, itO_get I5 hit⟩ st
  have fin : ∀ (t' : Nat) (s3 : Shared), Inv X pins σ (upd H2 it (ItS l it 0)) s3 → codeAny (model X.prog X.w) X.A.in1 (.builtin "list.extend.loop" ⟨[.ref q, .ref it, .none], []⟩) (wants (fun r s₂ => r = .none ∧ EP X pins σ Q (.ref q) s₂) X.xe) s3 := fun t' s3 I7 => by
    have kk : ∀ b o, b ≠ it → b ≠ q → H2 b = some o → upd H2 it (ItS l it 0) b = some o := fun b o h1 _ e => by rw [upd_ne h1]; exact e
    refine it_loop (A := X.A.in1) (H := H2) (zs := zs) (hr.hd) hz n1 n2 n3 (fun H3 s4 I8 hk3 hq3 => ⟨rfl, .ref q, H3, I8, rfl, hend H3 hk3 hq3⟩) zs.length 0 _ s3 rfl (Nat.zero_le _) I7 kk ?_ upd_same ?_
    · have e1 : upd H2 it (ItS l it 0) l = H2 l := upd_ne n2
      unfold SqL Rd at hlz ⊢
      simp only [e1]
      exact hlz
    · rw [upd_ne (Ne.symm n3)]; exact hq1
  refine wpAny_ite_split (fun _ => ?_) (fun _ => wpAny_pure ⟨plainId_quiet PySem.F.plain_extend_loop _, fin 0 _ I6⟩)
  have hq6 : upd H2 it (ItS l it 0) q = some (.lst []) := by rw [upd_ne (Ne.symm n3)]; exact hq1
  obtain ⟨z, its, k3, r3, hl3, e3⟩ := I6.lstM hq6
  cases r3
  refine wpAny_bind (wpAny_rule ?_)
  refine wpAny_bind ?_
  show wpAny _ _ (updateSeq q (·.push .none) >>= fun _ => updateSeq q (·.pop)) _ _ _
  refine wpAny_bind (wpAny_updateSeq e3 rfl ?_)
  have I7 := I6.lset (f := (·.push Value.none)) (its' := [Value.none]) (ys := [.non]) (t' := s2.toks + 1) hq6 e3 (by simp) (.cons rfl .nil) (by rw [List.length_singleton, sizeLine_eq]; decide)
  obtain ⟨z4, its4, k4, r4, hl4, e4⟩ := I7.lstM upd_same
  obtain ⟨u4, rfl, ru4⟩ := r4.one
  refine wpAny_updateSeq e4 rfl ?_ (by show 1 ≤ sizeLine; rw [sizeLine_eq]; decide) (by show 0 ≤ sizeLine + 1; exact Nat.zero_le _)
  refine wpAny_pure ⟨plainId_quiet PySem.F.plain_extend_loop _, fin 0 _ ?_⟩
  have I8 := I7.lset (f := (·.pop)) (its := [u4]) (its' := []) (ys := []) (t' := s2.toks + 1) upd_same e4 (by rfl) .nil (Nat.zero_le _)
  rw [upd_upd] at I8
  have hH : upd (upd H2 it (ItS l it 0)) q (.lst []) = upd H2 it (ItS l it 0) := by
    funext b
    by_cases hb : b = q
    · rw [hb, upd_same, hq6]
    · rw [upd_ne hb]
  rw [hH] at I8
  exact I8
end
end RM
namespace RM
open PySem PySem.Spec PyProof.Rows L2
/-! ### attributes, properties, class values: readings that ask nothing of the written part -/
section
variable {X : Cx} {C : Addr} {o e value : Expr} {f : Str} {pos pos' : Pos} {ta tv : TE}
theorem pe_imp {t t' : TE} (h : PE X e t) (k : ∀ σ H Q, t' σ H Q → t σ H Q) : PE X e t' := ⟨fun pins s σ H Q I q => h.run pins s σ H Q I (k σ H Q q)⟩
def tFldC (C : Addr) (ta : TE) (f : Str) : TE := fun σ H Q => ta σ H fun x H1 => ∃ a dx fs v, x = .ref a ∧ H1 a = some (.ins C dx fs) ∧ fs.lookup f = some v ∧ Q v H1
def sFldC (C : Addr) (ta tv : TE) (f : Str) : TS := fun D σ H => tv σ H fun y H1 => ta σ H1 fun x H2 => ∃ a dx fs, x = .ref a ∧ H2 a = some (.ins C dx fs) ∧ fs.length < 1000 ∧ D.nx σ (upd H2 a (.ins C dx (putF f y fs)))
theorem pe_fldC (c : Cls X.K C) (n : NoAttr X.K C f) (he : PE X e ta) (hb : attributeBase e f X.env (eval e X.env) = eval e X.env := by rfl) : PE X (.Attribute e f pos) (tFldC C ta f) := by
  refine ⟨fun pins s σ H Q I h => ?_⟩
  refine attr_of hb (thn (he.run pins s σ H _ I h) fun u s1 hu => ?_)
  obtain ⟨x, H1, I1, rx, a, dx, fs, v, ex, ea, l, q⟩ := hu
  subst ex
  obtain rfl : u = Value.ref a := rx
  exact getattr_ok I1 ea c n l fun u' s2 I2 ru => ⟨v, H1, I2, ru, q⟩
theorem ps_fldC (c : Cls X.K C) (n : NoAttr X.K C f) (ha : PE X o ta) (hv : PE X value tv) (hs : swapsWith value (some (.Attribute o f pos')) pos.line X.env = pure false := by rfl) : PS X (.Assign [.Attribute o f pos'] value pos) (sFldC C ta tv f) := by
  refine ⟨fun pins s σ H D I h => ?_⟩
  refine plainObj_wpAny_Assign_Attribute (thn (hv.run pins s σ H _ I h) fun u s1 hu => ?_) hs
  obtain ⟨y, H1, I1, ry, q⟩ := hu
  refine thn (ha.run pins s1 σ H1 _ I1 q) fun ov s2 ho => ?_
  obtain ⟨x, H2, I2, rx, a, dx, fs, ex, ea, l, q2⟩ := ho
  subst ex
  obtain rfl : ov = Value.ref a := rx
  exact setattr_ok I2 ea c n l ry fun s3 I3 => ⟨σ, _, I3, q2⟩
/-- a class's name as a value; an int that stands in the class -/
theorem pe_clsv {x : Str} (hg : Gl X x) (hm : X.mg x = some (.ref C)) (hd : (x == ("__debug__" : Str)) = false := by decide) : PE X (.Name x pos) (tC (.ref C)) := pe_glob hg hm rfl hd
theorem pe_cint {x : Str} {i : Int} {p : Pos} (hg : Gl X x) (hm : X.mg x = some (.ref C)) (r : ClX.CRead X.K C (.type "type")) (k : ∃ u, ClX.CVal X.K C (.type "type") f (.int i) u) (hd : (x == ("__debug__" : Str)) = false := by decide)
    (hb : attributeBase (.Name x p) f X.env (eval (.Name x p) X.env) = eval (.Name x p) X.env := by rfl) : PE X (.Attribute (.Name x p) f pos) (tC (.int i)) :=
  pe_imp (ClX.pe_cval (pe_clsv hg hm hd) hb) fun σ H Q q => by
    obtain ⟨u, k⟩ := k
    exact ⟨C, .type "type", .int i, u, rfl, r, k, q⟩
/-- a property of the class, read -/
structure Prp (P : Program) (w : World) (K : PySem.W.Frag) (mg : Str → Option Value) (base : Heap) (k : Nat) (C : Addr) (f : Str) (sp : Sp) : Prop where
  ex : ∃ (p g : Addr) (fd : FuncData) (ps : List Str), PropOf K C f p g ∧ FnOk P w K mg base CX0 k g fd ps sp ∧ Binds K fd ps []
theorem pe_prp {k j : Nat} {sp : Sp} (c : Cls X.K C) (p : Prp X.prog X.w X.K X.mg X.base k C f sp) (hr : Room j X.A) (hk : k + 1 ≤ j) (he : PE X e ta) (hab : attributeBase e f X.env (eval e X.env) = eval e X.env := by rfl) :
    PE X (.Attribute e f pos) (tProp C sp [] E0 ta) := by
  obtain ⟨pa, g, fd, ps, hp, F, hb⟩ := p.ex
  exact pe_prop he c hp F (hr.mono hk) hb .nil (fun _ _ _ _ _ _ _ h => h.elim) hab
end
/-! ### isinstance against built-in types and one own class -/
section
variable {X : Cx} {K : PySem.W.Frag} {H : Hp} {Q : VK}
def rIsC (C : Addr) : List V → Hp → VK → Prop := fun xs H Q => ∃ a dx fs, xs = [.ref a, .ref C] ∧ H a = some (.ins C dx fs) ∧ Q (.bl true) H
theorem callIsC {C : Addr} (c : C8.InsC X.K C) : CallR X (.builtin "isinstance") (rIsC C) := C8.call_isC c
theorem isi_of {x : V} {a b : String} {r : Bool} (ty : TyOf K H x (.type a)) (h : kitB a b = some r) (q : Q (.bl r) H) : rIsi K [x, .ty b] H Q := wp_isi (.base ty) (kit_ty h) q
theorem is_non_int (q : Q (.bl false) H) : rIsi K [.non, .ty "int"] H Q := isi_of (.non) (by decide +kernel) q
theorem is_non_bool (q : Q (.bl false) H) : rIsi K [.non, .ty "bool"] H Q := isi_of (.non) (by decide +kernel) q
theorem is_non_str (q : Q (.bl false) H) : rIsi K [.non, .ty "str"] H Q := isi_of (.non) (by decide +kernel) q
theorem is_non_dict (q : Q (.bl false) H) : rIsi K [.non, .ty "dict"] H Q := isi_of (.non) (by decide +kernel) q
theorem is_non_list (q : Q (.bl false) H) : rIsi K [.non, .ty "list"] H Q := isi_of (.non) (by decide +kernel) q
theorem is_non_tuple (q : Q (.bl false) H) : rIsi K [.non, .ty "tuple"] H Q := isi_of (.non) (by decide +kernel) q
theorem is_bl_int {b : Bool} (q : Q (.bl true) H) : rIsi K [.bl b, .ty "int"] H Q := isi_of (.bl b) (by decide +kernel) q
theorem is_bl_bool {b : Bool} (q : Q (.bl true) H) : rIsi K [.bl b, .ty "bool"] H Q := isi_of (.bl b) (by decide +kernel) q
theorem is_bl_str {b : Bool} (q : Q (.bl false) H) : rIsi K [.bl b, .ty "str"] H Q := isi_of (.bl b) (by decide +kernel) q
theorem is_bl_dict {b : Bool} (q : Q (.bl false) H) : rIsi K [.bl b, .ty "dict"] H Q := isi_of (.bl b) (by decide +kernel) q
theorem is_bl_list {b : Bool} (q : Q (.bl false) H) : rIsi K [.bl b, .ty "list"] H Q := isi_of (.bl b) (by decide +kernel) q
theorem is_bl_tuple {b : Bool} (q : Q (.bl false) H) : rIsi K [.bl b, .ty "tuple"] H Q := isi_of (.bl b) (by decide +kernel) q
theorem is_int_int {i : Int} (q : Q (.bl true) H) : rIsi K [.int i, .ty "int"] H Q := isi_of (.int i) (by decide +kernel) q
theorem is_int_bool {i : Int} (q : Q (.bl false) H) : rIsi K [.int i, .ty "bool"] H Q := isi_of (.int i) (by decide +kernel) q
theorem is_int_str {i : Int} (q : Q (.bl false) H) : rIsi K [.int i, .ty "str"] H Q := isi_of (.int i) (by decide +kernel) q
theorem is_int_dict {i : Int} (q : Q (.bl false) H) : rIsi K [.int i, .ty "dict"] H Q := isi_of (.int i) (by decide +kernel) q
theorem is_int_list {i : Int} (q : Q (.bl false) H) : rIsi K [.int i, .ty "list"] H Q := isi_of (.int i) (by decide +kernel) q
theorem is_int_tuple {i : Int} (q : Q (.bl false) H) : rIsi K [.int i, .ty "tuple"] H Q := isi_of (.int i) (by decide +kernel) q
theorem is_str_int {z : Str} (q : Q (.bl false) H) : rIsi K [.str z, .ty "int"] H Q := isi_of (.str z) (by decide +kernel) q
theorem is_str_bool {z : Str} (q : Q (.bl false) H) : rIsi K [.str z, .ty "bool"] H Q := isi_of (.str z) (by decide +kernel) q
theorem is_str_str {z : Str} (q : Q (.bl true) H) : rIsi K [.str z, .ty "str"] H Q := isi_of (.str z) (by decide +kernel) q
theorem is_str_dict {z : Str} (q : Q (.bl false) H) : rIsi K [.str z, .ty "dict"] H Q := isi_of (.str z) (by decide +kernel) q
theorem is_str_list {z : Str} (q : Q (.bl false) H) : rIsi K [.str z, .ty "list"] H Q := isi_of (.str z) (by decide +kernel) q
theorem is_str_tuple {z : Str} (q : Q (.bl false) H) : rIsi K [.str z, .ty "tuple"] H Q := isi_of (.str z) (by decide +kernel) q
theorem is_lst_int {a : Addr} {xs : List V} (e : H a = some (.lst xs)) (q : Q (.bl false) H) : rIsi K [.ref a, .ty "int"] H Q := isi_of (.lst e) (by decide +kernel) q
theorem is_lst_bool {a : Addr} {xs : List V} (e : H a = some (.lst xs)) (q : Q (.bl false) H) : rIsi K [.ref a, .ty "bool"] H Q := isi_of (.lst e) (by decide +kernel) q
theorem is_lst_str {a : Addr} {xs : List V} (e : H a = some (.lst xs)) (q : Q (.bl false) H) : rIsi K [.ref a, .ty "str"] H Q := isi_of (.lst e) (by decide +kernel) q
theorem is_lst_dict {a : Addr} {xs : List V} (e : H a = some (.lst xs)) (q : Q (.bl false) H) : rIsi K [.ref a, .ty "dict"] H Q := isi_of (.lst e) (by decide +kernel) q
theorem is_lst_list {a : Addr} {xs : List V} (e : H a = some (.lst xs)) (q : Q (.bl true) H) : rIsi K [.ref a, .ty "list"] H Q := isi_of (.lst e) (by decide +kernel) q
theorem is_lst_tuple {a : Addr} {xs : List V} (e : H a = some (.lst xs)) (q : Q (.bl false) H) : rIsi K [.ref a, .ty "tuple"] H Q := isi_of (.lst e) (by decide +kernel) q
theorem is_tup_int {a : Addr} {xs : List V} (e : H a = some (.tup xs)) (q : Q (.bl false) H) : rIsi K [.ref a, .ty "int"] H Q := isi_of (.tup e) (by decide +kernel) q
theorem is_tup_bool {a : Addr} {xs : List V} (e : H a = some (.tup xs)) (q : Q (.bl false) H) : rIsi K [.ref a, .ty "bool"] H Q := isi_of (.tup e) (by decide +kernel) q
theorem is_tup_str {a : Addr} {xs : List V} (e : H a = some (.tup xs)) (q : Q (.bl false) H) : rIsi K [.ref a, .ty "str"] H Q := isi_of (.tup e) (by decide +kernel) q
theorem is_tup_dict {a : Addr} {xs : List V} (e : H a = some (.tup xs)) (q : Q (.bl false) H) : rIsi K [.ref a, .ty "dict"] H Q := isi_of (.tup e) (by decide +kernel) q
theorem is_tup_list {a : Addr} {xs : List V} (e : H a = some (.tup xs)) (q : Q (.bl false) H) : rIsi K [.ref a, .ty "list"] H Q := isi_of (.tup e) (by decide +kernel) q
theorem is_tup_tuple {a : Addr} {xs : List V} (e : H a = some (.tup xs)) (q : Q (.bl true) H) : rIsi K [.ref a, .ty "tuple"] H Q := isi_of (.tup e) (by decide +kernel) q
theorem is_dK_int {a : Addr} {kvs : List (Key × V)} (e : H a = some (.dK kvs)) (q : Q (.bl false) H) : rIsi K [.ref a, .ty "int"] H Q := isi_of (.dK e) (by decide +kernel) q
theorem is_dK_bool {a : Addr} {kvs : List (Key × V)} (e : H a = some (.dK kvs)) (q : Q (.bl false) H) : rIsi K [.ref a, .ty "bool"] H Q := isi_of (.dK e) (by decide +kernel) q
theorem is_dK_str {a : Addr} {kvs : List (Key × V)} (e : H a = some (.dK kvs)) (q : Q (.bl false) H) : rIsi K [.ref a, .ty "str"] H Q := isi_of (.dK e) (by decide +kernel) q
theorem is_dK_dict {a : Addr} {kvs : List (Key × V)} (e : H a = some (.dK kvs)) (q : Q (.bl true) H) : rIsi K [.ref a, .ty "dict"] H Q := isi_of (.dK e) (by decide +kernel) q
theorem is_dK_list {a : Addr} {kvs : List (Key × V)} (e : H a = some (.dK kvs)) (q : Q (.bl false) H) : rIsi K [.ref a, .ty "list"] H Q := isi_of (.dK e) (by decide +kernel) q
theorem is_dK_tuple {a : Addr} {kvs : List (Key × V)} (e : H a = some (.dK kvs)) (q : Q (.bl false) H) : rIsi K [.ref a, .ty "tuple"] H Q := isi_of (.dK e) (by decide +kernel) q
end
/-! ### what the head tells, by Bools -/
section
open PySem.W
def gAd (K : Frag) (C : Addr) (f : Str) : Addr := match recIn K (He.ma K C f) "property" with
  | some (.ref g :: _) => g
  | _ => 0
def bProp (x f : Str) (K : Frag) : Bool :=
  He.eqO (findIn K (.ref (He.ga K x)) f) (some (some (.ref (He.ma K (He.ga K x) f)))) && (He.eqO (specialIn K (.ref (He.ma K (He.ga K x) f)) "__get__") (some (some (.builtin "property.__get__"))) &&
    (decide (takesIn K (.ref (He.ma K (He.ga K x) f)) = some true) && (match recIn K (He.ma K (He.ga K x) f) "property" with
      | some (.ref _ :: _) => true
      | _ => false)))
theorem bProp_ok {x f : Str} {K : Frag} (h : bProp x f K = true) : PropOf K (He.ga K x) f (He.ma K (He.ga K x) f) (gAd K (He.ga K x) f) := by
  obtain ⟨h1, h⟩ := He.ba h
  obtain ⟨h2, h⟩ := He.ba h
  obtain ⟨h3, h4⟩ := He.ba h
  refine ⟨He.eqO_ok h1, He.eqO_ok h2, of_decide_eq_true h3, ?_⟩
  unfold gAd
  cases e : recIn K (He.ma K (He.ga K x) f) "property" with
  | none => rw [e] at h4; cases h4
  | some l =>
    rw [e] at h4
    cases l with
    | nil => cases h4
    | cons v r =>
      cases v with
      | ref g => exact ⟨r, rfl⟩
      | _ => cases h4
def bRead (x : Str) (K : Frag) : Bool := readsIn K (He.ga K x) (.type "type") && He.eqO (specialIn K (.ref (He.ga K x)) "__getattribute__") (some (some (.builtin "type.__getattribute__")))
theorem bRead_ok {x : Str} {K : Frag} (h : bRead x K = true) : ClX.CRead K (He.ga K x) (.type "type") := by
  obtain ⟨h1, h2⟩ := He.ba h
  exact ⟨h1, He.eqO_ok h2⟩
def bCval (x f : Str) (i : Int) (K : Frag) : Bool := match findCls K (.ref (He.ga K x)) (.type "type") f with
  | some (.val (.int j _)) => decide (j = i)
  | _ => false
theorem bCval_ok {x f : Str} {i : Int} {K : Frag} (h : bCval x f i K = true) : ∃ u, ClX.CVal K (He.ga K x) (.type "type") f (.int i) u := by
  unfold bCval at h
  cases e : findCls K (.ref (He.ga K x)) (.type "type") f with
  | none => rw [e] at h; cases h
  | some c =>
    rw [e] at h
    cases c with
    | val u =>
      cases u with
      | int j t =>
        have ej : j = i := of_decide_eq_true h
        subst ej
        exact ⟨_, e, ⟨t, rfl⟩⟩
      | _ => cases h
    | _ => cases h
def bIns (x : Str) (K : Frag) : Bool := He.eqO (findIn K (.ref (He.ga K x)) "__class__") (some (some (.builtin "object.__class__"))) && (He.eqO (specialIn K (.builtin "object.__class__") "__get__") (some (some (.builtin "getset_descriptor.__get__"))) &&
  (decide (takesIn K (.builtin "object.__class__") = some true) && decide (mroIn K (He.ga K x) (.type "object") = some true)))
theorem bIns_ok {x : Str} {K : Frag} (c : Cls K (He.ga K x)) (h : bIns x K = true) : C8.InsC K (He.ga K x) := by
  obtain ⟨h1, h⟩ := He.ba h
  obtain ⟨h2, h⟩ := He.ba h
  obtain ⟨h3, h4⟩ := He.ba h
  exact ⟨c, He.eqO_ok h1, He.eqO_ok h2, of_decide_eq_true h3, of_decide_eq_true h4, by unfold kitOne; rw [if_pos (by simp)]⟩
/-- a def of the text, by a way to its address -/
structure DX where
  at_ : Frag → Addr
  name : Str
  qual : Str
  params : Arguments
  body : List Stmt
  scope : Scope
  dfl : List He.Dv := []
  kwd : List (Str × He.Dv) := []
def fnX (K : Frag) (a : Addr) : He.FnW := match K.lookup a with
  | some ⟨_, _, .func fd, _⟩ => some (fd.name, fd.qualname, fd.params, fd.body, fd.scope, fd.globals, fd.closure, fd.builtins)
  | _ => none
def DX.val (d : DX) : He.FnW := some (d.name, d.qual, d.params, .stmts d.body, d.scope, mainGlobals, [], builtinsNs)
def DX.ok (K : Frag) (d : DX) : Bool := keepIn K (.ref (d.at_ K)) && (match K.lookup (d.at_ K) with
  | some ⟨_, _, .func fd, _⟩ => codeIn K fd.code d.qual && (He.dflB K fd.defaults (d.dfl.map (He.Dv.v K)) && He.kwdB K fd.kwdefaults (d.kwd.map fun q => (q.1, q.2.v K)))
  | _ => false)
theorem DX.funD {K : Frag} {d : DX} (e : fnX K (d.at_ K) = d.val) (c : d.ok K = true) : ∃ fd, FunD K d.name d.qual d.params d.body d.scope (d.dfl.map (He.Dv.v K)) (d.kwd.map fun q => (q.1, q.2.v K)) (d.at_ K) fd := by
  obtain ⟨kp, c2⟩ := He.ba c
  unfold fnX at e
  split at e
  · rename_i oc od fd osl q
    rw [q] at c2
    obtain ⟨k1, k2⟩ := He.ba c2
    obtain ⟨k3, k4⟩ := He.ba k2
    obtain ⟨n1, n2, n3, n4, n5, n6, n7, n8, n9, n10, n11, n12, n13, n14, n15⟩ := fd
    unfold DX.val at e
    simp only [Option.some.injEq, Prod.mk.injEq] at e
    obtain ⟨h1, h2, h3, h4, h5, h6, h7, h8⟩ := e
    subst h1 h2 h3 h4 h5 h6 h7 h8
    exact ⟨_, ⟨oc, od, n8, n9, n10, n11, n12, n13, n14, osl, rfl, q, k1, He.dflB_ok k3, He.kwdB_ok k4⟩, kp⟩
  · cases e
abbrev AlX : Type := Bool × List He.FnW
def obsX (bs : List (Frag → Bool)) (fa : List He.Fa) (fn : List DX) (K : Frag) : AlX := ((bs.all fun b => b K) && ((fa.all fun f => f.ok K) && fn.all fun d => d.ok K), fn.map fun d => fnX K (d.at_ K))
def valX (fn : List DX) : AlX := (true, fn.map DX.val)
def SaysX (bs : List (Frag → Bool)) (fa : List He.Fa) (fn : List DX) (K : Frag) : Prop := obsX bs fa fn K = valX fn
def obsXG (n : Nat) (bs : List (Frag → Bool)) (fa : List He.Fa) (fn : List DX) (g : Addr → Option Obj) : AlX := obsX bs fa fn (He.frG g (cStatics :: He.asD g n))
def hookX (n : Nat) (bs : List (Frag → Bool)) (fa : List He.Fa) (fn : List DX) : Hook where
  α := AlX
  obs := fun s => obsXG n bs fa fn s.heap.get?
  val := fun _ => valX fn
  says := fun _ h => ∃ K : Frag, K.In h ∧ SaysX bs fa fn K
  of := fun _ _ e => ⟨_, He.frG_in, e⟩
  keeps := fun _ _ _ ⟨K, hK, c⟩ k => ⟨K, Frag.In.keeps hK k, c⟩
theorem obsXG_eq {n : Nat} {bs : List (Frag → Bool)} {fa : List He.Fa} {fn : List DX} {g : Addr → Option Obj} {s : Shared} (h : ∀ a, g a = s.heap.get? a) : obsXG n bs fa fn g = (hookX n bs fa fn).obs s := by
  have e : g = s.heap.get? := funext h
  rw [e] <;> rfl
variable {bs : List (Frag → Bool)} {fa : List He.Fa} {fn : List DX} {K : Frag}
theorem SaysX.b (c : SaysX bs fa fn K) (i : Nat) {f : Frag → Bool} (h : bs[i]? = some f := by rfl) : f K = true :=
  List.all_eq_true.mp (He.ba (show ((bs.all fun b => b K) && ((fa.all fun f => f.ok K) && fn.all fun d => d.ok K)) = true from congrArg (fun z : AlX => z.1) c)).1 f (List.mem_of_getElem? h)
theorem SaysX.fact (c : SaysX bs fa fn K) (i : Nat) {f : He.Fa} (h : fa[i]? = some f := by rfl) : f.ok K = true :=
  List.all_eq_true.mp (He.ba (He.ba (show ((bs.all fun b => b K) && ((fa.all fun f => f.ok K) && fn.all fun d => d.ok K)) = true from congrArg (fun z : AlX => z.1) c)).2).1 f (List.mem_of_getElem? h)
theorem SaysX.def_ (c : SaysX bs fa fn K) (i : Nat) {d : DX} (h : fn[i]? = some d := by rfl) : ∃ fd, FunD K d.name d.qual d.params d.body d.scope (d.dfl.map (He.Dv.v K)) (d.kwd.map fun q => (q.1, q.2.v K)) (d.at_ K) fd := by
  have c2 := (He.ba (He.ba (show ((bs.all fun b => b K) && ((fa.all fun f => f.ok K) && fn.all fun d => d.ok K)) = true from congrArg (fun z : AlX => z.1) c)).2).2
  have e : fn.map (fun d => fnX K (d.at_ K)) = fn.map DX.val := congrArg (fun z : AlX => z.2) c
  have e2 : (fn.map fun d => fnX K (d.at_ K))[i]? = (fn.map DX.val)[i]? := by rw [e]
  rw [List.getElem?_map, List.getElem?_map, h] at e2
  exact DX.funD (Option.some.inj e2) (List.all_eq_true.mp c2 d (List.mem_of_getElem? h))
end
end RM
namespace RM
open PySem PySem.Spec PyProof.Rows L2
/-! ### readings of classes, tuples, lists -/
section
variable {σ : L2.St} {H : Hp} {Q : VK} {v : V} {ta tb tc : TE} {tl : TA} {t u : TT} {D : Ends} {K : PySem.W.Frag} {sp : Sp} {E : XK} {QA : List V → Hp → Prop} {C : Addr} {f m : Str}
theorem wp_fldC (h : ta σ H fun x H1 => ∃ a dx fs v, x = .ref a ∧ H1 a = some (.ins C dx fs) ∧ fs.lookup f = some v ∧ Q v H1) : tFldC C ta f σ H Q := h
theorem fld_at {a dx : Addr} {fs : List (Str × V)} {R : V → Prop} (ha : H a = some (.ins C dx fs)) (hl : fs.lookup f = some v) (q : R v) : ∃ a' dx fs v, V.ref a = .ref a' ∧ H a' = some (.ins C dx fs) ∧ fs.lookup f = some v ∧ R v := ⟨a, dx, fs, v, rfl, ha, hl, q⟩
theorem wp_sfldC {v : TE} (h : v σ H fun y H1 => ta σ H1 fun x H2 => ∃ a dx fs, x = .ref a ∧ H2 a = some (.ins C dx fs) ∧ fs.length < 1000 ∧ D.nx σ (upd H2 a (.ins C dx (putF f y fs)))) : sFldC C ta v f D σ H := h
theorem sfld_at {a dx : Addr} {fs gs : List (Str × V)} {R : Hp → Prop} (ha : H a = some (.ins C dx fs)) (hl : fs.length < 1000) (e : putF f v fs = gs) (q : R (upd H a (.ins C dx gs))) : ∃ a' dx fs, V.ref a = .ref a' ∧ H a' = some (.ins C dx fs) ∧ fs.length < 1000 ∧ R (upd H a' (.ins C dx (putF f v fs))) := ⟨a, dx, fs, rfl, ha, hl, by rw [e]; exact q⟩
theorem wp_prop (h : ta σ H fun x H1 => ∃ a dx fs, x = .ref a ∧ H1 a = some (.ins C dx fs) ∧ sp [.ref a] H1 Q E) : tProp C sp [] E ta σ H Q := h
theorem own_at {a dx : Addr} {fs : List (Str × V)} {R : Addr → Prop} (ha : H a = some (.ins C dx fs)) (q : R a) : ∃ a' dx fs, V.ref a = .ref a' ∧ H a' = some (.ins C dx fs) ∧ R a' := ⟨a, dx, fs, rfl, ha, q⟩
def MetW (C : Addr) (m : Str) (sp : Sp) (E : XK) (t : TA) (σ : L2.St) (Q : VK) (x : V) (H1 : Hp) : Prop := ∃ a dx fs, x = .ref a ∧ H1 a = some (.ins C dx fs) ∧ fs.lookup m = none ∧ t σ H1 fun vs H2 => sp (x :: (vs ++ [])) H2 Q E
theorem wp_meth (h : ta σ H fun x H1 => MetW C m sp E tl σ Q x H1) : tMeth C m sp [] E ta tl σ H Q := h
theorem met_at {a dx : Addr} {fs : List (Str × V)} (ha : H a = some (.ins C dx fs)) (hl : fs.lookup m = none) (q : tl σ H fun vs H2 => sp (.ref a :: vs) H2 Q E) : MetW C m sp E tl σ Q (.ref a) H := ⟨a, dx, fs, rfl, ha, hl, by simpa only [List.append_nil] using q⟩
def MkW (C : Addr) (sp : Sp) (E : XK) (Q : VK) (vs : List V) (H1 : Hp) : Prop := ∀ x dx, H1 x = none → H1 dx = none → dx ≠ x → sp (.ref x :: vs) (upd (upd H1 dx (.own x)) x (.ins C dx [])) (fun v H2 => v = .non ∧ Q (.ref x) H2) E
theorem wp_make (h : tl σ H fun vs H1 => MkW C sp E Q vs H1) : tMake C sp [] E tl σ H Q := by
  show tl σ H fun vs H1 => ∀ x dx, H1 x = none → H1 dx = none → dx ≠ x → sp (.ref x :: (vs ++ [])) (upd (upd H1 dx (.own x)) x (.ins C dx [])) (fun v H2 => v = .non ∧ Q (.ref x) H2) E
  simp only [List.append_nil]
  exact h
theorem wp_gtup {n : Nat} {a : Addr} {xs : List V} {gs : TGs} {QS : L2.St → Hp → Prop} (hx : SqT K H a xs) (hn : xs.length = n) (h : gs xs σ H QS) : gTup K n gs (.ref a) σ H QS := ⟨a, xs, rfl, hx, hn, h⟩
theorem wp_gcons {g : TG} {gs : TGs} {r : List V} {QS : L2.St → Hp → Prop} (h : g v σ H fun σ' H' => gs r σ' H' QS) : gCons g gs (v :: r) σ H QS := ⟨v, r, rfl, h⟩
theorem wp_gnil {QS : L2.St → Hp → Prop} (h : QS σ H) : gNil [] σ H QS := ⟨rfl, h⟩
theorem wp_enum {g : TG} {tb : TS} (h : tl σ H fun vs H1 => ∃ a xs, vs = [.ref a] ∧ SqL K H1 a xs ∧ ForW (Ite K a) g tb D σ H1) : tFor (iEnum K tl) g tb D σ H := h
theorem loopE {g : TG} {tb : TS} {a : Addr} {xs : List V} (hx : SqL K H a xs) (Pv : Nat → L2.St → Hp → Prop) (h0 : Pv 0 σ H) (hl : ∀ i σ' H', i ≤ xs.length → Pv i σ' H' → SqL K H' a xs)
    (hs : ∀ i x T σ' H', xs[i]? = some x → Pv i σ' H' → H' T = none → g (.ref T) σ' (upd H' T (.tup [.int (i : Nat), x])) fun σ2 H2 => tb { D with nx := Pv (i + 1), ct := Pv (i + 1), bk := D.nx } σ2 H2) (hd : ∀ σ' H', Pv xs.length σ' H' → D.nx σ' H') :
    ∃ b ys, [V.ref a] = [.ref b] ∧ SqL K H b ys ∧ ForW (Ite K b) g tb D σ H := by
  refine ⟨a, xs, rfl, hx, for_it walk_enum Pv h0 hl (fun i v σ' H1 H2 hi p y => ?_) hd⟩
  obtain ⟨T, x, y', h1, h2, h3, h4, h5⟩ := y
  subst h1
  cases h4
  rw [h3]
  exact hs i y' T σ' H1 h5 p h2
theorem wp_cat {l b : Addr} {xs zs : List V} (h1 : H l = some (.lst xs)) (h2 : H b = some (.lst zs)) (hl : xs.length + zs.length ≤ 100000) (k : ∀ p, H p = none → Q (.ref p) (upd H p (.lst (xs ++ zs)))) : rCat (.ref l) (.ref b) H Q := ⟨l, b, xs, zs, rfl, rfl, h1, h2, szl hl, k⟩
theorem wp_sliceL {a : Addr} {xs : List V} {lo hi : Option Int} (hx : SqL K H a xs) (k : ∀ p, H p = none → Q (.ref p) (upd H p (.lst (cutG xs lo hi)))) : rSlL K (.ref a) lo hi H Q := ⟨a, xs, rfl, hx, k⟩
theorem wp_rixL {a : Addr} {k : Int} {xs : List V} (hx : SqL K H a xs) (ha : atI xs k = some v) (h : Q v H) : rIx K (.ref a) (.int k) H Q := .inl ⟨a, xs, k, v, rfl, rfl, hx, ha, h⟩
theorem wp_rixT {a : Addr} {k : Int} {xs : List V} (hx : SqT K H a xs) (ha : atI xs k = some v) (h : Q v H) : rIx K (.ref a) (.int k) H Q := .inr (.inl ⟨a, xs, k, v, rfl, rfl, hx, ha, h⟩)
theorem wp_isN {x : V} (h : Q (.bl (decide (x = .non))) H) : rIsN x .non H Q := ⟨rfl, h⟩
theorem wp_isC {a dx : Addr} {fs : List (Str × V)} (ha : H a = some (.ins C dx fs)) (h : Q (.bl true) H) : rIsC C [.ref a, .ref C] H Q := ⟨a, dx, fs, rfl, ha, h⟩
theorem wp_iterL {l : Addr} {zs : List V} (hx : SqL K H l zs) (h : ∀ it, H it = none → Q (.ref it) (upd H it (ItO l it 0))) : rIter K [.ref l] H Q := ⟨l, zs, rfl, hx, h⟩
theorem at_nth {α : Type} {xs : List α} {i : Nat} {x : α} (h : xs[i]? = some x) : atI xs (i : Int) = some x := atI_nat h
end
/-! ### the same data, told by the law -/
def Sc (v : V) : Prop := v = .non ∨ (∃ b, v = .bl b) ∨ (∃ i, v = .int i) ∨ ∃ z, v = .str z
def Sm (H : Hp) : Nat → V → V → Prop
  | 0, _, _ => False
  | n + 1, u, v => (u = v ∧ Sc u) ∨ ∃ (a b : Addr) (xs ys : List V), u = .ref a ∧ v = .ref b ∧ ((H a = some (.lst xs) ∧ H b = some (.lst ys)) ∨ (H a = some (.tup xs) ∧ H b = some (.tup ys))) ∧
      xs.length = ys.length ∧ ys.length ≤ 1000 ∧ ∀ (i : Nat) (x y : V), xs[i]? = some x → ys[i]? = some y → Sm H n x y
theorem Sm.mono {H H' : Hp} (e : Same H H') : ∀ {n : Nat} {u v : V}, Sm H n u v → Sm H' n u v
  | 0, _, _, h => h.elim
  | n + 1, u, v, h => by
    rcases h with h | ⟨a, b, xs, ys, h1, h2, h3, h4, h5, h6⟩
    · exact .inl h
    · refine .inr ⟨a, b, xs, ys, h1, h2, ?_, h4, h5, fun i x y hx hy => Sm.mono e (h6 i x y hx hy)⟩
      rcases h3 with ⟨p, q⟩ | ⟨p, q⟩
      · exact .inl ⟨e _ _ p, e _ _ q⟩
      · exact .inr ⟨e _ _ p, e _ _ q⟩
section
variable {H : Hp} {n : Nat}
theorem sm_int {i : Int} : Sm H (n + 1) (.int i) (.int i) := .inl ⟨rfl, .inr (.inr (.inl ⟨i, rfl⟩))⟩
theorem sm_str {z : Str} : Sm H (n + 1) (.str z) (.str z) := .inl ⟨rfl, .inr (.inr (.inr ⟨z, rfl⟩))⟩
theorem sm_bl {b : Bool} : Sm H (n + 1) (.bl b) (.bl b) := .inl ⟨rfl, .inr (.inl ⟨b, rfl⟩)⟩
theorem sm_non : Sm H (n + 1) .non .non := .inl ⟨rfl, .inl rfl⟩
theorem sm_lst {a b : Addr} {xs : List V} (h1 : H a = some (.lst xs)) (h2 : H b = some (.lst xs)) (hl : xs.length ≤ 1000) (h : ∀ x ∈ xs, Sm H n x x) : Sm H (n + 1) (.ref a) (.ref b) :=
  .inr ⟨a, b, xs, xs, rfl, rfl, .inl ⟨h1, h2⟩, rfl, hl, fun i x y hx hy => by
    rw [hx] at hy
    cases hy
    exact h x (List.mem_of_getElem? hx)⟩
theorem sm_tup {a b : Addr} {xs : List V} (h1 : H a = some (.tup xs)) (h2 : H b = some (.tup xs)) (hl : xs.length ≤ 1000) (h : ∀ x ∈ xs, Sm H n x x) : Sm H (n + 1) (.ref a) (.ref b) :=
  .inr ⟨a, b, xs, xs, rfl, rfl, .inr ⟨h1, h2⟩, rfl, hl, fun i x y hx hy => by
    rw [hx] at hy
    cases hy
    exact h x (List.mem_of_getElem? hx)⟩
theorem sm_names {a b : Addr} {ns : List (List Nat)} (h1 : H a = some (.lst (ns.map sv))) (h2 : H b = some (.lst (ns.map sv))) (hl : ns.length ≤ 1000) : Sm H (n + 2) (.ref a) (.ref b) :=
  sm_lst h1 h2 (by simpa using hl) fun x hx => by
    obtain ⟨l, _, rfl⟩ := List.mem_map.mp hx
    exact sm_str
end
/-! ### rows: the spans -/
structure Row where
  u : List Nat
  v : List Nat
  lo : Int
  hi : Int
  w : Int
deriving DecidableEq
def rowV (r : Row) : List V := [sv r.u, sv r.v, .int r.lo, .int r.hi, .int r.w]
structure OkR (T : Int) (ns : List (List Nat)) (r : Row) : Prop where
  u : r.u ∈ ns
  v : r.v ∈ ns
  ne : r.u ≠ r.v
  l0 : 0 ≤ r.lo
  l1 : r.lo ≤ T - 1
  h0 : r.lo ≤ r.hi
  h1 : r.hi ≤ r.lo + T - 3
  w0 : 0 ≤ r.w
  w1 : r.w ≤ 99
def IsRow (H : Hp) (x : V) (r : Row) : Prop := ∃ p, x = .ref p ∧ H p = some (.tup (rowV r))
def IsSp (H : Hp) (T : Int) (ns : List (List Nat)) (x : V) : Prop := ∃ r, IsRow H x r ∧ OkR T ns r
theorem IsRow.mono {H H' : Hp} (e : Same H H') {x : V} {r : Row} (h : IsRow H x r) : IsRow H' x r := by
  obtain ⟨p, h1, h2⟩ := h
  exact ⟨p, h1, e _ _ h2⟩
theorem IsSp.mono {H H' : Hp} (e : Same H H') {T : Int} {ns : List (List Nat)} {x : V} (h : IsSp H T ns x) : IsSp H' T ns x := by
  obtain ⟨r, h1, h2⟩ := h
  exact ⟨r, h1.mono e, h2⟩
theorem sm_row {H : Hp} {n : Nat} {x : V} {r : Row} (h : IsRow H x r) : Sm H (n + 2) x x := by
  obtain ⟨p, rfl, h⟩ := h
  refine sm_tup h h (by simp [rowV]) fun y hy => ?_
  simp only [rowV, List.mem_cons, List.not_mem_nil, or_false] at hy
  rcases hy with rfl | rfl | rfl | rfl | rfl
  · exact sm_str
  · exact sm_str
  · exact sm_int
  · exact sm_int
  · exact sm_int
theorem sm_spans {H : Hp} {n : Nat} {a b : Addr} {T : Int} {ns : List (List Nat)} {ss : List V} (h1 : H a = some (.lst ss)) (h2 : H b = some (.lst ss)) (hl : ss.length ≤ 1000) (h : ∀ x ∈ ss, IsSp H T ns x) : Sm H (n + 3) (.ref a) (.ref b) :=
  sm_lst h1 h2 hl fun x hx => by
    obtain ⟨r, h, _⟩ := h x hx
    exact sm_row h
/-- what a net may be made of -/
structure OkNs (T : Int) (ns : List (List Nat)) : Prop where
  t0 : 3 ≤ T
  t1 : T ≤ 120
  few : ns.length ≤ 12
  nodup : ns.Nodup
  nm : ∀ l ∈ ns, Nm l
structure OkSp (H : Hp) (T : Int) (ns : List (List Nat)) (ss : List V) : Prop where
  few : ss.length ≤ 24
  sp : ∀ x ∈ ss, IsSp H T ns x
theorem OkSp.mono {H H' : Hp} (e : Same H H') {T : Int} {ns : List (List Nat)} {ss : List V} (h : OkSp H T ns ss) : OkSp H' T ns ss := ⟨h.few, fun x hx => (h.sp x hx).mono e⟩
/-! ### == of names and rows -/
def nD (ns : List (List Nat)) : List PyData := ns.map fun l => .str (S l)
def rD (r : Row) : PyData := .tuple [.str (S r.u), .str (S r.v), .int r.lo, .int r.hi, .int r.w]
theorem S_beq (a b : List Nat) : (S a == S b) = decide (a = b) := SX.S_beq_eq ..
theorem eqv_names : ∀ {a b : List (List Nat)}, PyData.eqvAll (nD a) (nD b) = decide (a = b)
  | [], [] => rfl
  | [], _ :: _ => rfl
  | _ :: _, [] => rfl
  | x :: a, y :: b => by
    show ((S x == S y) && PyData.eqvAll (nD a) (nD b)) = _
    rw [eqv_names, S_beq, ← Bool.decide_and]
    exact decide_eq_decide.mpr (by simp)
theorem eqv_row {a b : Row} : PyData.eqv (rD a) (rD b) = decide (a = b) := by
  show ((S a.u == S b.u) && ((S a.v == S b.v) && ((a.lo == b.lo) && ((a.hi == b.hi) && ((a.w == b.w) && true))))) = _
  rw [S_beq, S_beq, Bool.eq_iff_iff]
  obtain ⟨u, v, l, h, w⟩ := a
  obtain ⟨u', v', l', h', w'⟩ := b
  simp
theorem eqv_rows : ∀ {a b : List Row}, PyData.eqvAll (a.map rD) (b.map rD) = decide (a = b)
  | [], [] => rfl
  | [], _ :: _ => rfl
  | _ :: _, [] => rfl
  | x :: a, y :: b => by
    show (PyData.eqv (rD x) (rD y) && PyData.eqvAll (a.map rD) (b.map rD)) = _
    rw [eqv_rows, eqv_row, ← Bool.decide_and]
    exact decide_eq_decide.mpr (by simp)
inductive Rws (H : Hp) : List V → List Row → Prop
  | nil : Rws H [] []
  | cons {x : V} {r : Row} {xs : List V} {rs : List Row} : IsRow H x r → Rws H xs rs → Rws H (x :: xs) (r :: rs)
theorem rws_ex {H : Hp} {T : Int} {ns : List (List Nat)} : ∀ {ss : List V}, (∀ x ∈ ss, IsSp H T ns x) → ∃ rs, Rws H ss rs
  | [], _ => ⟨[], .nil⟩
  | x :: ss, h => by
    obtain ⟨rs, h2⟩ := rws_ex fun y hy => h y (List.mem_cons_of_mem _ hy)
    obtain ⟨r, h1, _⟩ := h x List.mem_cons_self
    exact ⟨r :: rs, .cons h1 h2⟩
theorem Rws.mono {H H' : Hp} (e : Same H H') : ∀ {ss : List V} {rs : List Row}, Rws H ss rs → Rws H' ss rs
  | _, _, .nil => .nil
  | _, _, .cons h t => .cons (h.mono e) (t.mono e)
theorem Rws.len {H : Hp} : ∀ {ss : List V} {rs : List Row}, Rws H ss rs → ss.length = rs.length
  | _, _, .nil => rfl
  | _, _, .cons _ t => by rw [List.length_cons, List.length_cons, t.len]
theorem Rws.at {H : Hp} : ∀ {ss : List V} {rs : List Row} {i : Nat} {x : V}, Rws H ss rs → ss[i]? = some x → ∃ r, rs[i]? = some r ∧ IsRow H x r
  | _, _, 0, x, .cons h _, e => by
    cases e
    exact ⟨_, rfl, h⟩
  | _, _, i + 1, x, .cons _ t, e => Rws.at (i := i) t e
theorem IsRow.inj {H : Hp} {x : V} {a b : Row} (h : IsRow H x a) (k : IsRow H x b) : a = b := by
  obtain ⟨p, rfl, h⟩ := h
  obtain ⟨q, e, k⟩ := k
  cases e
  rw [h] at k
  obtain ⟨u, v, l, h, w⟩ := a
  obtain ⟨u', v', l', h', w'⟩ := b
  simp only [rowV, Option.some.injEq, HO.tup.injEq, List.cons.injEq, V.str.injEq, V.int.injEq, and_true] at k
  obtain ⟨k1, k2, k3, k4, k5⟩ := k
  rw [S_inj k1, S_inj k2, k3, k4, k5]
section
variable {K : PySem.W.Frag} {H : Hp}
theorem dp_names : ∀ ns : List (List Nat), DpAll K H (ns.map sv) (nD ns)
  | [] => .nil
  | l :: ns => .cons (.str _) (dp_names ns)
theorem dp_row {x : V} {r : Row} (h : IsRow H x r) : Dp K H x (rD r) := by
  obtain ⟨p, rfl, h⟩ := h
  exact .tup (st_of h) (.cons (.str _) (.cons (.str _) (.cons (.int _) (.cons (.int _) (.cons (.int _) .nil)))))
theorem dp_rows : ∀ {ss : List V} {rs : List Row}, Rws H ss rs → DpAll K H ss (rs.map rD)
  | _, _, .nil => .nil
  | _, _, .cons h t => .cons (dp_row h) (dp_rows t)
end
def Asc (l : List Nat) : Prop := ∀ c ∈ l, c < 127
theorem nm_asc {l : List Nat} (h : Nm l) : Asc l := fun c hc => by rcases h.all c hc with h | h <;> omega
theorem asc_ok {l : List Nat} (h : Asc l) : PyData.strOk (S l) = true := by
  unfold PyData.strOk
  rw [show (S l).cps = l.toArray from rfl, List.all_toArray, List.all_eq_true]
  intro c hc
  have := h c hc
  exact decide_eq_true (by omega)
theorem lay_names : ∀ {ns : List (List Nat)}, (∀ l ∈ ns, Asc l) → PyData.canLayAll0 (nD ns) = true ∧ PyData.depthAll (nD ns) = 0
  | [], _ => ⟨rfl, rfl⟩
  | l :: ns, h => by
    obtain ⟨h1, h2⟩ := lay_names (ns := ns) fun x hx => h x (List.mem_cons_of_mem _ hx)
    refine ⟨?_, ?_⟩
    · show (PyData.strOk (S l) && PyData.canLayAll0 (nD ns)) = true
      rw [asc_ok (h l List.mem_cons_self), h1]
      rfl
    · show max 0 (PyData.depthAll (nD ns)) = 0
      rw [h2]
      rfl
theorem sh_names {ns : List (List Nat)} (h : ∀ l ∈ ns, Asc l) : SeqAt.shaped (.list (nD ns)) = true := by
  obtain ⟨h1, h2⟩ := lay_names h
  show (PyData.canLayAll0 (nD ns) && decide (PyData.depthAll (nD ns) + 1 ≤ 64)) = true
  rw [h1, h2]
  rfl
structure AscR (r : Row) : Prop where
  u : Asc r.u
  v : Asc r.v
theorem lay_row {r : Row} (h : AscR r) : PyData.canLay0 (rD r) = true ∧ PyData.depth (rD r) = 1 := by
  refine ⟨?_, rfl⟩
  show (PyData.strOk (S r.u) && (PyData.strOk (S r.v) && _)) = true
  rw [asc_ok h.u, asc_ok h.v]
  rfl
theorem sh_row {r : Row} (h : AscR r) : SeqAt.shaped (rD r) = true := by
  obtain ⟨h1, h2⟩ := lay_row h
  show (PyData.canLay0 (rD r) && decide (PyData.depth (rD r) ≤ 64)) = true
  rw [h1, h2]
  rfl
theorem lay_rows : ∀ {rs : List Row}, (∀ r ∈ rs, AscR r) → PyData.canLayAll0 (rs.map rD) = true ∧ PyData.depthAll (rs.map rD) ≤ 1
  | [], _ => ⟨rfl, Nat.zero_le _⟩
  | l :: ns, h => by
    obtain ⟨h1, h2⟩ := lay_rows (rs := ns) fun x hx => h x (List.mem_cons_of_mem _ hx)
    obtain ⟨h3, h4⟩ := lay_row (h l List.mem_cons_self)
    refine ⟨?_, ?_⟩
    · show (PyData.canLay0 (rD l) && PyData.canLayAll0 (ns.map rD)) = true
      rw [h3, h1]
      rfl
    · show max (PyData.depth (rD l)) (PyData.depthAll (ns.map rD)) ≤ 1
      omega
theorem sh_rows {rs : List Row} (h : ∀ r ∈ rs, AscR r) : SeqAt.shaped (.list (rs.map rD)) = true := by
  obtain ⟨h1, h2⟩ := lay_rows h
  show (PyData.canLayAll0 (rs.map rD) && decide (PyData.depthAll (rs.map rD) + 1 ≤ 64)) = true
  rw [h1]
  exact decide_eq_true (by omega)
theorem Rws.all {H : Hp} {T : Int} {ns : List (List Nat)} (hn : ∀ l ∈ ns, Nm l) {ss : List V} {rs : List Row} (h : ∀ x ∈ ss, IsSp H T ns x) (t : Rws H ss rs) : ∀ r ∈ rs, OkR T ns r ∧ AscR r := by
  induction t with
  | nil => simp
  | @cons x r xs rs h1 t ih =>
    intro q hq
    rcases List.mem_cons.mp hq with rfl | hq
    · obtain ⟨r', k1, k2⟩ := h x List.mem_cons_self
      have e := k1.inj h1
      subst e
      exact ⟨k2, nm_asc (hn _ k2.u), nm_asc (hn _ k2.v)⟩
    · exact ih (fun y hy => h y (List.mem_cons_of_mem _ hy)) q hq
section
variable {K : PySem.W.Frag} {H : Hp} {Q : VK} {a b : Addr}
theorem wp_eqN {ns ms : List (List Nat)} (h1 : H a = some (.lst (ns.map sv))) (h2 : H b = some (.lst (ms.map sv))) (k1 : ∀ l ∈ ns, Asc l) (k2 : ∀ l ∈ ms, Asc l) (q : Q (.bl (decide (ns = ms))) H) : rEqD K (.ref a) (.ref b) H Q := by
  refine ⟨.list (nD ns), .list (nD ms), .lst (sq_of h1) (dp_names _), .lst (sq_of h2) (dp_names _), sh_names k1, sh_names k2, ?_⟩
  show Q (.bl (PyData.eqvAll (nD ns) (nD ms))) H
  rw [eqv_names]
  exact q
theorem wp_neN {ns ms : List (List Nat)} (h1 : H a = some (.lst (ns.map sv))) (h2 : H b = some (.lst (ms.map sv))) (k1 : ∀ l ∈ ns, Asc l) (k2 : ∀ l ∈ ms, Asc l) (q : Q (.bl (!decide (ns = ms))) H) : rNeD K (.ref a) (.ref b) H Q := by
  refine ⟨.list (nD ns), .list (nD ms), .lst (sq_of h1) (dp_names _), .lst (sq_of h2) (dp_names _), sh_names k1, sh_names k2, ?_⟩
  show Q (.bl (!PyData.eqvAll (nD ns) (nD ms))) H
  rw [eqv_names]
  exact q
theorem wp_eqR {ss ts : List V} {rs qs : List Row} (h1 : H a = some (.lst ss)) (h2 : H b = some (.lst ts)) (r1 : Rws H ss rs) (r2 : Rws H ts qs) (k1 : ∀ r ∈ rs, AscR r) (k2 : ∀ r ∈ qs, AscR r) (q : Q (.bl (decide (rs = qs))) H) : rEqD K (.ref a) (.ref b) H Q := by
  refine ⟨.list (rs.map rD), .list (qs.map rD), .lst (sq_of h1) (dp_rows r1), .lst (sq_of h2) (dp_rows r2), sh_rows k1, sh_rows k2, ?_⟩
  show Q (.bl (PyData.eqvAll (rs.map rD) (qs.map rD))) H
  rw [eqv_rows]
  exact q
theorem wp_neR {ss ts : List V} {rs qs : List Row} (h1 : H a = some (.lst ss)) (h2 : H b = some (.lst ts)) (r1 : Rws H ss rs) (r2 : Rws H ts qs) (k1 : ∀ r ∈ rs, AscR r) (k2 : ∀ r ∈ qs, AscR r) (q : Q (.bl (!decide (rs = qs))) H) : rNeD K (.ref a) (.ref b) H Q := by
  refine ⟨.list (rs.map rD), .list (qs.map rD), .lst (sq_of h1) (dp_rows r1), .lst (sq_of h2) (dp_rows r2), sh_rows k1, sh_rows k2, ?_⟩
  show Q (.bl (!PyData.eqvAll (rs.map rD) (qs.map rD))) H
  rw [eqv_rows]
  exact q
theorem wp_neRow {x y : V} {r s : Row} (h1 : IsRow H x r) (h2 : IsRow H y s) (k1 : AscR r) (k2 : AscR s) (q : Q (.bl (!decide (r = s))) H) : rNeD K x y H Q := by
  refine ⟨rD r, rD s, dp_row h1, dp_row h2, sh_row k1, sh_row k2, ?_⟩
  rw [eqv_row]
  exact q
end
/-! ### nets -/
abbrev netF (T : Int) (le ls : Addr) : List (Str × V) := [("_round_length", .int T), ("_events", .ref le), ("_spans", .ref ls)]
def IsNet (C : Addr) (H : Hp) (a : Addr) (T : Int) (ns : List (List Nat)) (ss : List V) : Prop := ∃ dx le ls, H a = some (.ins C dx (netF T le ls)) ∧ H le = some (.lst (ns.map sv)) ∧ H ls = some (.lst ss)
theorem IsNet.mono {C : Addr} {H H' : Hp} (e : Same H H') {a : Addr} {T : Int} {ns : List (List Nat)} {ss : List V} (h : IsNet C H a T ns ss) : IsNet C H' a T ns ss := by
  obtain ⟨dx, le, ls, h1, h2, h3⟩ := h
  exact ⟨dx, le, ls, e _ _ h1, e _ _ h2, e _ _ h3⟩
theorem lk_T {T : Int} {le ls : Addr} : (netF T le ls).lookup ("_round_length" : Str) = some (.int T) := rfl
theorem lk_e {T : Int} {le ls : Addr} : (netF T le ls).lookup ("_events" : Str) = some (.ref le) := rfl
theorem lk_s {T : Int} {le ls : Addr} : (netF T le ls).lookup ("_spans" : Str) = some (.ref ls) := rfl
abbrev netF1 (T : Int) : List (Str × V) := [("_round_length", .int T)]
abbrev netF2 (T : Int) (le : Addr) : List (Str × V) := [("_round_length", .int T), ("_events", .ref le)]
theorem pt_1 {T : Int} : putF "_round_length" (.int T) [] = netF1 T := rfl
theorem pt_2 {T : Int} {le : Addr} : putF "_events" (.ref le) (netF1 T) = netF2 T le := by
  unfold putF
  rw [if_neg (by decide)]
  rfl
theorem pt_3 {T : Int} {le ls : Addr} : putF "_spans" (.ref ls) (netF2 T le) = netF T le ls := by
  unfold putF
  rw [if_neg (by decide)]
  unfold putF
  rw [if_neg (by decide)]
  rfl
/-- all but one thing -/
def rmv (G : Hp) (q : Addr) : Hp := fun a => if a = q then none else G a
theorem rmv_same {G : Hp} {q : Addr} : rmv G q q = none := by unfold rmv; rw [if_pos rfl]
theorem rmv_ne {G : Hp} {q a : Addr} (h : a ≠ q) : rmv G q a = G a := by unfold rmv; rw [if_neg h]
theorem rmv_sub {G : Hp} {q : Addr} : Same (rmv G q) G := fun a o h => by
  by_cases e : a = q
  · rw [e, rmv_same] at h; cases h
  · rw [rmv_ne e] at h; exact h
theorem Same.rmv {G G' : Hp} {q : Addr} (s : Same G G') (h : G q = none) : Same G (rmv G' q) := fun a o ha => by
  rw [rmv_ne (ne_of_none ha h)]
  exact s _ _ ha
theorem Sees.less {P : Pl} {G H : Hp} {q : Addr} {ys : List V} (s : Sees P G H) (hq : G q = some (.lst ys)) (hc : q ≠ P.l) : Sees P (rmv G q) H :=
  ⟨s.pool, by rw [rmv_ne hc.symm]; exact s.cell, s.few, by
    by_cases e : P.p = q
    · rw [e]; exact rmv_same
    · rw [rmv_ne e]; exact s.free, Same.trans rmv_sub s.sub⟩
theorem IsRow.rmv {G : Hp} {q : Addr} {ys : List V} {x : V} {r : Row} (hq : G q = some (.lst ys)) (h : IsRow G x r) : IsRow (rmv G q) x r := by
  obtain ⟨p, rfl, hp⟩ := h
  exact ⟨p, rfl, by rw [rmv_ne (fun e => by rw [e, hq] at hp; cases hp)]; exact hp⟩
theorem IsSp.rmv {G : Hp} {q : Addr} {ys : List V} {T : Int} {ns : List (List Nat)} {x : V} (hq : G q = some (.lst ys)) (h : IsSp G T ns x) : IsSp (rmv G q) T ns x := by
  obtain ⟨r, h1, h2⟩ := h
  exact ⟨r, h1.rmv hq, h2⟩
/-- a list of one's own that is changed: outside of G -/
structure Lcl (P : Pl) (L : Addr) (xs : List V) (G H : Hp) : Prop where
  s : Sees P G H
  h : H L = some (.lst xs)
  g : G L = none
  ne : L ≠ P.p
theorem Lcl.new {P : Pl} {L q : Addr} {xs : List V} {G H : Hp} {o : HO} (l : Lcl P L xs G H) (hq : H q = none) : Lcl P L xs (upd G q o) (upd H q o) :=
  have e : L ≠ q := ne_of_none l.h hq
  ⟨l.s.new hq, by rw [upd_ne e]; exact l.h, by rw [upd_ne e]; exact l.g, l.ne⟩
theorem Lcl.put {P : Pl} {L : Addr} {xs ys : List V} {G H : Hp} (l : Lcl P L xs G H) : Lcl P L ys G (upd H L (.lst ys)) := ⟨l.s.set l.g l.ne, upd_same, l.g, l.ne⟩
theorem Lcl.in_ {P : Pl} {L : Addr} {xs : List V} {G H : Hp} (l : Lcl P L xs G H) : Sees P (upd G L (.lst xs)) H := l.s.with l.g l.h l.ne
theorem Lcl.out {P : Pl} {L : Addr} {xs : List V} {G H H' : Hp} (l : Lcl P L xs G H) (s : Sees P (upd G L (.lst xs)) H') : Lcl P L xs G H' :=
  have z := s.back l.s l.g
  ⟨z.1, z.2, l.g, l.ne⟩
/-! ### rows in parts of lists -/
theorem Rws.app {H : Hp} : ∀ {a : List V} {ra : List Row} {b : List V} {rb : List Row}, Rws H a ra → Rws H b rb → Rws H (a ++ b) (ra ++ rb)
  | _, _, _, _, .nil, k => k
  | _, _, _, _, .cons h t, k => .cons h (t.app k)
theorem Rws.take {H : Hp} : ∀ {a : List V} {ra : List Row} (n : Nat), Rws H a ra → Rws H (a.take n) (ra.take n)
  | _, _, 0, _ => .nil
  | _, _, _ + 1, .nil => .nil
  | _, _, n + 1, .cons h t => .cons h (t.take n)
theorem Rws.drop {H : Hp} : ∀ {a : List V} {ra : List Row} (n : Nat), Rws H a ra → Rws H (a.drop n) (ra.drop n)
  | _, _, 0, h => h
  | _, _, _ + 1, .nil => .nil
  | _, _, n + 1, .cons _ t => t.drop n
theorem IsSp.up {H : Hp} {T T' : Int} {ns ns' : List (List Nat)} {x : V} (h : IsSp H T ns x) (e : T ≤ T') (m : ∀ l ∈ ns, l ∈ ns') : IsSp H T' ns' x := by
  obtain ⟨r, h1, h2⟩ := h
  exact ⟨r, h1, m _ h2.u, m _ h2.v, h2.ne, h2.l0, by have := h2.l1; omega, h2.h0, by have := h2.h1; omega, h2.w0, h2.w1⟩
theorem six_neg {n d : Nat} (h : 0 < n) : HT.sIx n d (some (-1)) = n - 1 := by
  unfold HT.sIx
  simp only []
  split <;> omega
theorem cutG_last {α : Type} {xs : List α} (h : 0 < xs.length) : cutG xs none (some (-1)) = xs.take (xs.length - 1) := by
  unfold cutG
  rw [six_neg h]
  show (xs.drop 0).take (xs.length - 1 - 0) = _
  simp
theorem cutG_to1 {α : Type} {xs : List α} {k : Int} (h0 : 0 ≤ k) (h : k ≤ xs.length) : cutG xs none (some k) = xs.take k.toNat := by
  obtain ⟨j, rfl⟩ : ∃ j : Nat, k = j := ⟨k.toNat, by omega⟩
  rw [cutG_to (by omega), Int.toNat_natCast]
theorem cutG_from1 {α : Type} {xs : List α} {k : Int} (h0 : 0 ≤ k) (h : k ≤ xs.length) : cutG xs (some k) none = xs.drop k.toNat := by
  obtain ⟨j, rfl⟩ : ∃ j : Nat, k = j := ⟨k.toNat, by omega⟩
  rw [cutG_from (by omega), Int.toNat_natCast]
theorem cut_set {α : Type} {xs : List α} {k : Nat} {y : α} (h : k < xs.length) : (xs.take k ++ [y] ++ xs.drop (k + 1))[k]? = some y := by
  have : (xs.take k).length = k := by rw [List.length_take]; omega
  rw [List.append_assoc, List.getElem?_append_right (by omega), this]
  simp
theorem at2 {α : Type} {a b c : α} {xs : List α} : atI (a :: b :: c :: xs) 2 = some c := atI_nat (j := 2) rfl
theorem at3 {α : Type} {a b c d : α} {xs : List α} : atI (a :: b :: c :: d :: xs) 3 = some d := atI_nat (j := 3) rfl
theorem at4 {α : Type} {a b c d e : α} {xs : List α} : atI (a :: b :: c :: d :: e :: xs) 4 = some e := atI_nat (j := 4) rfl
theorem mem_cut {α : Type} {xs : List α} {k m : Nat} {ys : List α} {x : α} (h : x ∈ xs.take k ++ ys ++ xs.drop m) : x ∈ xs ∨ x ∈ ys := by
  rcases List.mem_append.mp h with h | h
  · rcases List.mem_append.mp h with h | h
    · exact .inl (List.mem_of_mem_take h)
    · exact .inr h
  · exact .inl (List.mem_of_mem_drop h)
theorem cut_set2 {α : Type} {xs ys : List α} {k m : Nat} {y : α} (h : k < xs.length) : (xs.take k ++ (y :: ys) ++ xs.drop m)[k]? = some y := by
  have : (xs.take k).length = k := by rw [List.length_take]; omega
  rw [List.append_assoc, List.getElem?_append_right (by omega), this]
  simp
/-! ### comprehensions with tests and tuple targets -/
section
variable {σ : L2.St} {H : Hp} {Q : VK} {K : PySem.W.Frag} {g : TG} {tt : TT} {te : TE} {vs : List Nat}
theorem lcGen {J : It} {n : Nat} {Gd : Hp → Prop} {Y : Nat → Hp → V → Hp → Prop} (w : Walk J n Gd Y) (hn : n ≤ 100000) (hG : ∀ H', Same H H' → Gd H') (hY : ∀ i H2 x H3, Y i H2 x H3 → Same H2 H3) (accs : Nat → List V) (h0 : accs 0 = []) (hlen : ∀ i, (accs i).length ≤ i)
    (hs : ∀ i x H2 H3 (R : VK) (R0 : Hp → Prop), i < n → Same H H2 → Y i H2 x H3 → (∀ y H6, Same H3 H6 → accs (i + 1) = accs i ++ [y] → R y H6) → (∀ H5, Same H3 H5 → accs (i + 1) = accs i → R0 H5) → g x (wipe σ vs) H3 fun σ2 H4 => wipe σ2 vs = wipe σ vs ∧ tt σ2 H4 fun b H5 => if b = true then te σ2 H5 R else R0 H5)
    (hq : ∀ D H2, H D = none → Same H H2 → H2 D = some (.lst (accs n)) → Q (.ref D) H2) : LcW J g tt te vs σ H Q := by
  intro D hD
  refine lc_it w (fun i H2 => Same H H2 ∧ H2 D = some (.lst (accs i))) ⟨Same.new hD, by rw [h0]; exact upd_same⟩ (fun i H2 _ p => hG H2 p.1) (fun i x H2 H3 hi p y => ?_) (fun H2 p => hq D H2 hD p.1 p.2)
  have s3 := hY i H2 x H3 y
  exact hs i x H2 H3 (fun y H4 => ∃ acc, H4 D = some (.lst acc) ∧ acc.length < sizeLine ∧ (Same H (upd H4 D (.lst (acc ++ [y]))) ∧ upd H4 D (.lst (acc ++ [y])) D = some (.lst (accs (i + 1))))) (fun H' => Same H H' ∧ H' D = some (.lst (accs (i + 1)))) hi p.1 y
    (fun y H6 s6 e => ⟨accs i, s6 _ _ (s3 _ _ p.2), szlt (by have := hlen i; omega), Same.mut (p.1.trans (s3.trans s6)) hD, by rw [e]; exact upd_same⟩)
    (fun H5 s5 e => ⟨p.1.trans (s3.trans s5), by rw [e]; exact s5 _ _ (s3 _ _ p.2)⟩)
theorem lcGL {a : Addr} {xs : List V} (hx : SqL K H a xs) (hn : xs.length ≤ 100000) (accs : Nat → List V) (h0 : accs 0 = []) (hlen : ∀ i, (accs i).length ≤ i)
    (hs : ∀ i x H2 (R : VK) (R0 : Hp → Prop), xs[i]? = some x → Same H H2 → (∀ y H6, Same H2 H6 → accs (i + 1) = accs i ++ [y] → R y H6) → (∀ H5, Same H2 H5 → accs (i + 1) = accs i → R0 H5) → g x (wipe σ vs) H2 fun σ2 H4 => wipe σ2 vs = wipe σ vs ∧ tt σ2 H4 fun b H5 => if b = true then te σ2 H5 R else R0 H5)
    (hq : ∀ D H2, H D = none → Same H H2 → H2 D = some (.lst (accs xs.length)) → Q (.ref D) H2) : ∃ b, V.ref a = .ref b ∧ (∃ ys, SqL K H b ys) ∧ LcW (Itl K b) g tt te vs σ H Q :=
  ⟨a, rfl, ⟨xs, hx⟩, lcGen walk_list hn (fun H' s => Same.seq s hx) (fun i H2 x H3 y => by rw [y.1]; exact Same.refl _) accs h0 hlen (fun i x H2 H3 R R0 _ s2 y k1 k0 => by
    obtain ⟨e, hi⟩ := y
    subst e
    exact hs i x _ R R0 hi s2 k1 k0) hq⟩
theorem lcGE {a : Addr} {xs : List V} (hx : SqL K H a xs) (hn : xs.length ≤ 100000) (accs : Nat → List V) (h0 : accs 0 = []) (hlen : ∀ i, (accs i).length ≤ i)
    (hs : ∀ i x T H2 (R : VK) (R0 : Hp → Prop), xs[i]? = some x → Same H H2 → H2 T = some (.tup [.int (i : Nat), x]) → (∀ y H6, Same H2 H6 → accs (i + 1) = accs i ++ [y] → R y H6) → (∀ H5, Same H2 H5 → accs (i + 1) = accs i → R0 H5) → g (.ref T) (wipe σ vs) H2 fun σ2 H4 => wipe σ2 vs = wipe σ vs ∧ tt σ2 H4 fun b H5 => if b = true then te σ2 H5 R else R0 H5)
    (hq : ∀ D H2, H D = none → Same H H2 → H2 D = some (.lst (accs xs.length)) → Q (.ref D) H2) : ∃ b ys, [V.ref a] = [.ref b] ∧ SqL K H b ys ∧ LcW (Ite K b) g tt te vs σ H Q :=
  ⟨a, xs, rfl, hx, lcGen walk_enum hn (fun H' s => Same.seq s hx) (fun i H2 x H3 y => by
    obtain ⟨T, x', y', _, hT, e, _⟩ := y
    rw [e]; exact Same.new hT) accs h0 hlen (fun i x H2 H3 R R0 _ s2 y k1 k0 => by
    obtain ⟨T, x', y', rfl, hT, e, h4, h5⟩ := y
    cases h4
    subst e
    exact hs i y' T _ R R0 h5 (s2.trans (Same.new hT)) upd_same k1 k0) hq⟩
theorem lcGR {n : Nat} (hn : n ≤ 100000) (accs : Nat → List V) (h0 : accs 0 = []) (hlen : ∀ i, (accs i).length ≤ i)
    (hs : ∀ i H2 (R : VK) (R0 : Hp → Prop), i < n → Same H H2 → (∀ y H6, Same H2 H6 → accs (i + 1) = accs i ++ [y] → R y H6) → (∀ H5, Same H2 H5 → accs (i + 1) = accs i → R0 H5) → g (.int (i : Nat)) (wipe σ vs) H2 fun σ2 H4 => wipe σ2 vs = wipe σ vs ∧ tt σ2 H4 fun b H5 => if b = true then te σ2 H5 R else R0 H5)
    (hq : ∀ D H2, H D = none → Same H H2 → H2 D = some (.lst (accs n)) → Q (.ref D) H2) : ∃ j : Int, [V.int n] = [V.int j] ∧ -(2 ^ 62) ≤ j ∧ j < 2 ^ 62 ∧ LcW (Itr 0 j.toNat) g tt te vs σ H Q :=
  ⟨n, rfl, by omega, by omega, lcGen (n := ((n : Int)).toNat) walk_range (by omega) (fun _ _ => trivial) (fun i H2 x H3 y => by rw [y.1]; exact Same.refl _) accs h0 hlen (fun i x H2 H3 R R0 hi s2 y k1 k0 => by
    obtain ⟨e, e2⟩ := y
    subst e
    have e3 : x = .int (i : Nat) := by rw [e2]; exact congrArg V.int (Int.zero_add _)
    subst e3
    exact hs i _ R R0 (by omega) s2 k1 k0) (by rw [Int.toNat_natCast]; exact hq)⟩
theorem wp_lcE {tl : TA} (h : tl σ H fun us H1 => ∃ b ys, us = [.ref b] ∧ SqL K H1 b ys ∧ LcW (Ite K b) g tt te vs σ H1 Q) : tLc (iEnum K tl) g tt te vs σ H Q := h
theorem inV_int {k : Int} {is : List Int} : inV (.int k) (is.map V.int) = decide (k ∈ is) := by
  unfold inV
  rw [List.any_map, Bool.eq_iff_iff, List.any_eq_true, decide_eq_true_eq]
  constructor
  · rintro ⟨x, hx, e⟩
    have e2 : (x == k) = true := e
    rw [beq_iff_eq] at e2
    rw [← e2]; exact hx
  · intro h
    refine ⟨k, h, ?_⟩
    show (k == k) = true
    exact beq_self_eq_true _
theorem wp_notInI {p : Addr} {k : Int} {is : List Int} (hx : SqL K H p (is.map V.int) ∨ SqT K H p (is.map V.int)) (h : Q (.bl (!decide (k ∈ is))) H) : rIn K true (.int k) (.ref p) H Q := by
  refine ⟨p, is.map V.int, rfl, hx, rfl, by rw [List.all_map, List.all_eq_true]; intro x _; rfl, ?_⟩
  show Q (.bl (!inV (.int k) (is.map V.int))) H
  rw [inV_int]; exact h
end
/-- what stays of a list without these places -/
def keepG {α : Type} (is : List Int) (xs : List α) : Nat → List α
  | 0 => []
  | i + 1 => if (i : Int) ∈ is then keepG is xs i else keepG is xs i ++ (xs[i]?).toList
theorem keepG_len {α : Type} {is : List Int} {xs : List α} : ∀ i, (keepG is xs i).length ≤ i
  | 0 => Nat.le_refl _
  | i + 1 => by
    unfold keepG
    have := keepG_len (is := is) (xs := xs) i
    split
    · omega
    · rw [List.length_append]
      cases xs[i]? <;> simp <;> omega
theorem keepG_mem {α : Type} {is : List Int} {xs : List α} {y : α} : ∀ {i}, y ∈ keepG is xs i → y ∈ xs
  | 0, h => absurd h (by simp [keepG])
  | i + 1, h => by
    unfold keepG at h
    split at h
    · exact keepG_mem h
    · rcases List.mem_append.mp h with h | h
      · exact keepG_mem h
      · cases e : xs[i]? with
        | none => rw [e] at h; simp at h
        | some z =>
          rw [e] at h
          simp at h
          rw [h]
          exact List.mem_of_getElem? e
theorem Rws.keep {H : Hp} {ss : List V} {rs : List Row} (h : Rws H ss rs) (is : List Int) : ∀ n, Rws H (keepG is ss n) (keepG is rs n)
  | 0 => .nil
  | n + 1 => by
    unfold keepG
    split
    · exact h.keep is n
    · refine (h.keep is n).app ?_
      cases e : ss[n]? with
      | none =>
        have : rs[n]? = none := by
          rw [List.getElem?_eq_none_iff] at e ⊢
          rw [← h.len]; exact e
        rw [this]
        exact .nil
      | some x =>
        obtain ⟨r, e1, e2⟩ := h.at e
        rw [e1]
        exact .cons e2 .nil
def flipR (r : Row) : Row := ⟨r.v, r.u, r.lo, r.hi, r.w⟩
theorem OkR.flip {T : Int} {ns : List (List Nat)} {r : Row} (k : OkR T ns r) : OkR T ns (flipR r) := ⟨k.v, k.u, k.ne.symm, k.l0, k.l1, k.h0, k.h1, k.w0, k.w1⟩
/-- rows that are good make good spans -/
theorem Rws.sp {H : Hp} {T : Int} {ns : List (List Nat)} {ss : List V} {rs : List Row} (h : Rws H ss rs) (k : ∀ r ∈ rs, OkR T ns r) : ∀ x ∈ ss, IsSp H T ns x := by
  induction h with
  | nil => simp
  | @cons x r xs rs h1 t ih =>
    intro z hz
    rcases List.mem_cons.mp hz with rfl | hz
    · exact ⟨r, h1, k r List.mem_cons_self⟩
    · exact ih (fun y hy => k y (List.mem_cons_of_mem _ hy)) z hz
theorem Rws.okr {H : Hp} {T : Int} {ns : List (List Nat)} {ss : List V} {rs : List Row} (h : Rws H ss rs) (k : ∀ x ∈ ss, IsSp H T ns x) : ∀ r ∈ rs, OkR T ns r := by
  induction h with
  | nil => simp
  | @cons x r xs rs h1 t ih =>
    intro z hz
    rcases List.mem_cons.mp hz with rfl | hz
    · obtain ⟨r', k1, k2⟩ := k x List.mem_cons_self
      rw [h1.inj k1]
      exact k2
    · exact ih (fun y hy => k y (List.mem_cons_of_mem _ hy)) z hz
theorem sm_rows {H : Hp} {n : Nat} {x y : V} {r : Row} (h : IsRow H x r) (k : IsRow H y r) : Sm H (n + 2) x y := by
  obtain ⟨p, rfl, h⟩ := h
  obtain ⟨q, rfl, k⟩ := k
  refine sm_tup h k (by simp [rowV]) fun y hy => ?_
  simp only [rowV, List.mem_cons, List.not_mem_nil, or_false] at hy
  rcases hy with rfl | rfl | rfl | rfl | rfl
  · exact sm_str
  · exact sm_str
  · exact sm_int
  · exact sm_int
  · exact sm_int
theorem sm_rws {H : Hp} {n : Nat} {a b : Addr} {xs ys : List V} {rs : List Row} (ha : H a = some (.lst xs)) (hb : H b = some (.lst ys)) (h : Rws H xs rs) (k : Rws H ys rs) (hl : rs.length ≤ 1000) : Sm H (n + 3) (.ref a) (.ref b) :=
  .inr ⟨a, b, xs, ys, rfl, rfl, .inl ⟨ha, hb⟩, by rw [h.len, k.len], by rw [k.len]; exact hl, fun i x y hx hy => by
    obtain ⟨r, e1, e2⟩ := h.at hx
    obtain ⟨s, e3, e4⟩ := k.at hy
    rw [e1] at e3
    cases e3
    exact sm_rows e2 e4⟩
section
variable {σ : L2.St} {H : Hp} {Q : VK} {K : PySem.W.Frag} {g : TG} {te : TE} {vs : List Nat}
/-- a comprehension that makes new things: I speaks of what is known (G), the list itself aside -/
theorem lcInvL {a : Addr} {xs : List V} (hx : SqL K H a xs) (hn : xs.length ≤ 100000) (I : Nat → List V → Hp → Prop) (h0 : I 0 [] H)
    (hs : ∀ i x acc G H2 (R : VK), xs[i]? = some x → Same H G → Same G H2 → I i acc G → (∀ y G' H6, Same G G' → Same G' H6 → Same H2 H6 → (∀ q o, H2 q = some o → G q = none → G' q = none) → I (i + 1) (acc ++ [y]) G' → R y H6) → g x (wipe σ vs) H2 fun σ2 H4 => wipe σ2 vs = wipe σ vs ∧ te σ2 H4 R)
    (hq : ∀ D acc G H2, H D = none → Same H G → Same G H2 → H2 D = some (.lst acc) → acc.length ≤ xs.length → I xs.length acc G → G D = none → Q (.ref D) H2) : ∃ b, V.ref a = .ref b ∧ (∃ ys, SqL K H b ys) ∧ LcW (Itl K b) g tYes te vs σ H Q := by
  refine ⟨a, rfl, ⟨xs, hx⟩, ?_⟩
  intro D hD
  refine lc_it (walk_list (xs := xs)) (fun i H2 => ∃ acc G, Same H G ∧ Same G H2 ∧ G D = none ∧ H2 D = some (.lst acc) ∧ acc.length ≤ i ∧ I i acc G) ⟨[], H, Same.refl _, Same.new hD, hD, upd_same, Nat.le_refl _, h0⟩ (fun i H2 _ p => ?_) (fun i x H2 H3 hi p y => ?_) (fun H2 p => ?_)
  · obtain ⟨acc, G, s1, s2, _⟩ := p
    exact Same.seq (s1.trans s2) hx
  · obtain ⟨e, hi2⟩ := y
    subst e
    obtain ⟨acc, G, s1, s2, gD, hD2, hl, hI⟩ := p
    have z := hs i x acc G _ (fun y H4 => ∃ acc', H4 D = some (.lst acc') ∧ acc'.length < sizeLine ∧ ∃ acc2 G2, Same H G2 ∧ Same G2 (upd H4 D (.lst (acc' ++ [y]))) ∧ G2 D = none ∧ upd H4 D (.lst (acc' ++ [y])) D = some (.lst acc2) ∧ acc2.length ≤ i + 1 ∧ I (i + 1) acc2 G2) hi2 s1 s2 hI
      (fun y G' H6 t1 t2 t3 t4 hI2 => ⟨acc, t3 _ _ hD2, szlt (by omega), acc ++ [y], G', s1.trans t1, Same.mut t2 (t4 _ _ hD2 gD), t4 _ _ hD2 gD, upd_same, by rw [List.length_append]; simp; omega, hI2⟩)
    exact z
  · obtain ⟨acc, G, s1, s2, gD, hD2, hl, hI⟩ := p
    exact hq D acc G H2 hD s1 s2 hD2 hl hI gD
end
theorem wp_star {σ : L2.St} {H : Hp} {K : PySem.W.Frag} {tl : TA} {QA : List V → Hp → Prop} {p : Addr} {xs : List V} (hx : SqT K H p xs ∨ SqL K H p xs) (h : tl σ H fun ys H2 => QA (xs ++ ys) H2) : ∃ p' xs, V.ref p = V.ref p' ∧ (SqT K H p' xs ∨ SqL K H p' xs) ∧ tl σ H fun ys H2 => QA (xs ++ ys) H2 := ⟨p, xs, rfl, hx, h⟩
theorem wp_starT {σ : L2.St} {H : Hp} {K : PySem.W.Frag} {te : TE} {tl : TA} {QA : List V → Hp → Prop} (h : te σ H fun x H1 => ∃ p xs, x = V.ref p ∧ (SqT K H1 p xs ∨ SqL K H1 p xs) ∧ tl σ H1 fun ys H2 => QA (xs ++ ys) H2) : StX.tStar K te tl σ H QA := h
theorem Rws.set {H : Hp} {x : V} {r : Row} (hx : IsRow H x r) : ∀ {ss : List V} {rs : List Row} (i : Nat), Rws H ss rs → Rws H (ss.set i x) (rs.set i r)
  | _, _, _, .nil => .nil
  | _, _, 0, .cons _ t => .cons hx t
  | _, _, i + 1, .cons h t => .cons h (t.set hx i)
section
variable {σ : L2.St} {H : Hp} {Q : VK} {ta : TE} {tl tk : TA} {K : PySem.W.Frag} {sp : Sp} {E : XK} {C : Addr} {m : Str}
def MetWD (C : Addr) (m : Str) (sp : Sp) (dvs : List V) (E : XK) (t : TA) (σ : L2.St) (Q : VK) (x : V) (H1 : Hp) : Prop := ∃ a dx fs, x = .ref a ∧ H1 a = some (.ins C dx fs) ∧ fs.lookup m = none ∧ t σ H1 fun vs H2 => sp (x :: (vs ++ dvs)) H2 Q E
theorem wp_methD {d : V} (h : ta σ H fun x H1 => MetWD C m sp [d] E tl σ Q x H1) : tMeth C m sp [d] E ta tl σ H Q := h
theorem met_atD {a dx : Addr} {fs : List (Str × V)} {dvs : List V} (ha : H a = some (.ins C dx fs)) (hl : fs.lookup m = none) (q : tl σ H fun vs H2 => sp (.ref a :: (vs ++ dvs)) H2 Q E) : MetWD C m sp dvs E tl σ Q (.ref a) H := ⟨a, dx, fs, rfl, ha, hl, q⟩
def MetWR (C : Addr) (m : Str) (sp : Sp) (E : XK) (t : TA) (σ : L2.St) (Q : VK) (x : V) (H1 : Hp) : Prop := ∃ a dx fs, x = .ref a ∧ H1 a = some (.ins C dx fs) ∧ fs.lookup m = none ∧ t σ H1 fun vs H2 => sp (x :: vs) H2 Q E
theorem wp_methR (h : ta σ H fun x H1 => MetWR C m sp E tl σ Q x H1) : tMethR C m sp E ta tl σ H Q := h
theorem met_atR {a dx : Addr} {fs : List (Str × V)} (ha : H a = some (.ins C dx fs)) (hl : fs.lookup m = none) (q : tl σ H fun vs H2 => sp (.ref a :: vs) H2 Q E) : MetWR C m sp E tl σ Q (.ref a) H := ⟨a, dx, fs, rfl, ha, hl, q⟩
end
theorem wp_yes {σ : L2.St} {H : Hp} {QT : Bool → Hp → Prop} (h : QT true H) : tYes σ H QT := h
theorem Sees.new' {P : Pl} {q : Addr} {G H : Hp} (o : HO) (s : Sees P G H) (hq : H q = none) : ∃ G', Sees P G' (upd H q o) ∧ Same G G' ∧ G' q = some o := ⟨_, s.new hq, Same.new (s.sub.free hq), upd_same⟩
theorem net_at {C : Addr} {H : Hp} {a : Addr} {T : Int} {ns : List (List Nat)} {ss : List V} (h : IsNet C H a T ns ss) : ∃ dx le ls, H a = some (.ins C dx (netF T le ls)) := by
  obtain ⟨dx, le, ls, h, _⟩ := h
  exact ⟨dx, le, ls, h⟩
theorem keepG_nil {α : Type} {xs : List α} : ∀ n, keepG [] xs n = xs.take n
  | 0 => rfl
  | n + 1 => by
    show (if (n : Int) ∈ ([] : List Int) then _ else keepG [] xs n ++ (xs[n]?).toList) = _
    rw [if_neg (by simp), keepG_nil n, List.take_succ]
theorem keepG_none {α : Type} {xs : List α} : keepG [] xs xs.length = xs := by rw [keepG_nil, List.take_length]
theorem flip_flip (rs : List Row) : (rs.map flipR).map flipR = rs := by
  rw [List.map_map]
  exact List.map_id rs
end RM
namespace RM
open PySem PySem.Spec PyProof.Rows L2
/-! ### methods with a star parameter, with keywords -/
section
variable {X : Cx} {k j : Nat} {C : Addr} {m : Str} {sp : Sp} {apos pos : Pos} {e o : Expr} {es : List Expr} {ta : TE} {t tk : TA}
theorem cxUp0 : StX.CXUp CX0 := fun _ _ _ _ _ _ _ _ _ _ _ z => z
theorem fun_star {P : Program} {w : World} {K : PySem.W.Frag} {mg : Str → Option Value} {base : Heap} {x qual pv : Str} {params : Arguments} {body : List Stmt} {scope : Scope} {f : Addr} {fd : FuncData} {N ps : List Str}
    (F : FunD K x qual params body scope [] [] f fd) (S : FnScope N (ps ++ [pv]) scope)
    (hb : ∀ (kV doc pm : Value) (an : Option Addr) (cdv ct : Value) (us rest : List Value), us.length = ps.length → bindArgs (PySem.W.fnOf x qual params body scope .none kV doc pm an cdv ct) ⟨us ++ rest, []⟩ = (newTuple rest >>= fun t => pure (ps.zip us ++ [(pv, t)])))
    (hbody : ∀ (cdv : Value) (A : Around) (outer : List Env) (s : Shared) (H : Hp) (vs : List V) (Q : VK) (E : XK), Room k (A.deeper (envOfC qual scope s.heap.objs.size f cdv)) → sp vs H Q E →
      ∃ t, PSs (cxOf CX0 P w K mg base N qual scope f cdv A outer s H E) body t ∧ t { nx := fun _ H' => Q .non H', rt := Q } (L2.start N vs) H) :
    FnR P w K mg base CX0 (k + 1) f (fun vs H Q E => ∃ ws rest, vs = ws ++ rest ∧ ws.length = ps.length ∧ rest.length ≤ sizeLine ∧ ∀ p, H p = none → sp (ws ++ [V.ref p]) (upd H p (.tup rest)) Q E) := by
  obtain ⟨oc, od, dV, kV, doc, pm, an, cdv, ct, osl, rfl, lk, hcd, hD, _⟩ := F.ex
  rcases hD with ⟨_, rfl⟩ | ⟨e, _⟩
  · exact StX.fn_star lk hcd S cxUp0 (hb kV doc pm an cdv ct) fun A outer s H vs Q E hr h => hbody cdv A outer s H vs Q E hr h
  · exact absurd rfl e
/-- what is handed to a star parameter: a new tuple -/
def StarW (sp : Sp) : Sp := fun vs H Q E => ∃ x rest, vs = x :: rest ∧ rest.length ≤ 1000 ∧ ∀ p, H p = none → sp [x, V.ref p] (upd H p (.tup rest)) Q E
/-- a method def m(self, *v) -/
structure MetS (P : Program) (w : World) (K : PySem.W.Frag) (mg : Str → Option Value) (base : Heap) (k : Nat) (C : Addr) (m : Str) (sp : Sp) : Prop where
  ex : ∃ f : Addr, Cls K C ∧ Meth K C m f ∧ FnR P w K mg base CX0 k f (StarW sp)
theorem MetS.of {P : Program} {w : World} {K : PySem.W.Frag} {mg : Str → Option Value} {base : Heap} {f : Addr} {p0 : Str} (c : Cls K C) (hm : Meth K C m f)
    (F : FnR P w K mg base CX0 k f (fun vs H Q E => ∃ ws rest, vs = ws ++ rest ∧ ws.length = [p0].length ∧ rest.length ≤ sizeLine ∧ ∀ p, H p = none → sp (ws ++ [V.ref p]) (upd H p (.tup rest)) Q E)) : MetS P w K mg base k C m sp :=
  ⟨f, c, hm, F.imp fun vs H Q E ⟨x, rest, e, hl, q⟩ => ⟨[x], rest, e, rfl, szl (by omega), q⟩⟩
/-- o.m(es, kws) as it is run -/
def MC (X : Cx) (o : Expr) (m : Str) (apos pos : Pos) (es : List Expr) (kws : List Keyword) (pl : Sem Bool) : Prop :=
  eval (.Call (.Attribute o m apos) es kws pos) X.env = (eval o X.env >>= fun ov => standAt apos.atName >>= fun _ => holding [ov] (getMethod ov m pl) >>= fun q =>
    callWith pos q.1 q.2 (backTo pos (starEach es X.env)) (backToKw pos (keywordEach kws X.env)))
def NoStar (X : Cx) (pos : Pos) (e : Expr) (es : List Expr) : Prop := starEach (e :: es) X.env = (false, eval e X.env) :: starEach es X.env ∧ (backTo pos (starEach es X.env)).any (·.1) = false
theorem pe_mtS {pl : Sem Bool} (c : MetS X.prog X.w X.K X.mg X.base k C m sp) (hr : Room j X.A) (hk : k ≤ j) (he : PE X o ta) (ha : PA X (e :: es) t) (hst : NoStar X pos e es := by exact ⟨rfl, rfl⟩) (ht : MC X o m apos pos (e :: es) [] pl := by exact rfl) :
    PE X (.Call (.Attribute o m apos) (e :: es) [] pos) (tMethR C m (StarW sp) E0 ta t) := by
  obtain ⟨f, hc, hm, F⟩ := c.ex
  exact pe_methR (pl := pl) he hc hm F (hr.mono hk) C8.pass0 ha hst.1 hst.2 ht
theorem pe_mtS0 {pl : Sem Bool} (c : MetS X.prog X.w X.K X.mg X.base k C m sp) (hr : Room j X.A) (hk : k ≤ j) (he : PE X o ta) (ht : MC X o m apos pos [] [] pl := by exact rfl) :
    PE X (.Call (.Attribute o m apos) [] [] pos) (tMethR C m (StarW sp) E0 ta tNil) := by
  obtain ⟨f, hc, hm, F⟩ := c.ex
  refine ⟨fun pins s σ H Q I h => PySem.W.methodCall_KW (pl := pl) (thn (he.run pins s σ H _ I h) fun u s1 hu => ?_) ht⟩
  obtain ⟨x, H1, I1, rx, a, dx, fs, rfl, ea, l, q⟩ := hu
  cases rx
  refine getmeth_ok I1 ea hc hm l (PySem.W.callWith_K0 (first := [.ref a]) I1.kIn hm.kp ?_)
  exact wpAny_call (run_fnR (us := [.ref a]) (vs := [.ref a]) F (hr.mono hk) C8.pass0 I1 (.cons rfl .nil) q)
/-- a method called with keywords: n the number of positional values, self among them -/
structure MetK (P : Program) (w : World) (K : PySem.W.Frag) (mg : Str → Option Value) (base : Heap) (k : Nat) (C : Addr) (m : Str) (sp : Sp) (n : Nat) (ks : List Str) : Prop where
  ex : ∃ (f : Addr) (fd : FuncData) (ps : List Str), Cls K C ∧ Meth K C m f ∧ FnOk P w K mg base CX0 k f fd ps sp ∧ KBn K fd ps n ks (fun us ws => us ++ ws) (fun us ws => us ++ ws)
def tMethK (C : Addr) (m : Str) (n r : Nat) (sp : Sp) (ta : TE) (t tk : TA) : TE := fun σ H Q => ta σ H fun x H1 => ∃ a dx fs, x = .ref a ∧ H1 a = some (.ins C dx fs) ∧ fs.lookup m = none ∧ t σ H1 fun vs H2 => tk σ H2 fun zs H3 => (x :: vs).length = n ∧ zs.length = r ∧ sp (x :: (vs ++ zs)) H3 Q E0
def KwOk (X : Cx) (pos : Pos) (e : Expr) (es : List Expr) (kws : List Keyword) (ks : List Str) : Prop :=
  (backToKw pos (keywordEach kws X.env)).all (·.1.isSome) = true ∧ (backToKw pos (keywordEach kws X.env)).filterMap (·.1) = ks ∧ starEach (e :: es) X.env = (false, eval e X.env) :: starEach es X.env ∧
    ((backTo pos (starEach (e :: es) X.env)).any (·.1) || (backToKw pos (keywordEach kws X.env)).any (·.1.isNone)) = false
theorem pe_mtK {pl : Sem Bool} {n r : Nat} {ks : List Str} {kws : List Keyword} (c : MetK X.prog X.w X.K X.mg X.base k C m sp n ks) (hr : Room j X.A) (hk : k ≤ j) (he : PE X o ta) (ha : PA X (e :: es) t) (hkw : PK X kws tk)
    (hq : KwOk X pos e es kws ks := by exact ⟨rfl, rfl, rfl, rfl⟩) (ht : MC X o m apos pos (e :: es) kws pl := by exact rfl) (hl : ks.length = r := by rfl) : PE X (.Call (.Attribute o m apos) (e :: es) kws pos) (tMethK C m n r sp ta t tk) := by
  subst hl
  obtain ⟨f, fd, ps, hc, hm, F, hb⟩ := c.ex
  refine ⟨fun pins s σ H Q I h => PySem.W.methodCall_KW (pl := pl) (thn (he.run pins s σ H _ I h) fun u s1 hu => ?_) ht⟩
  obtain ⟨x, H1, I1, rx, a, dx, fs, rfl, ea, l, q⟩ := hu
  cases rx
  refine getmeth_ok I1 ea hc hm l (PySem.W.callWith_KW (first := [.ref a]) (h₀ := X.base) I.ok.mod.kin hm.kp hq.1 (thn (ha.run pos pins s1 σ H1 _ I1 q) fun us s2 hu => ?_) hq.2.2.2 hq.2.2.1)
  obtain ⟨vs, H2, I2, r, q2⟩ := hu
  refine thn (hkw.run pos pins s2 σ H2 _ I2 q2) fun ws s3 hw => ?_
  obtain ⟨zs, H3, I3, rz, l1, l2, q3⟩ := hw
  refine ⟨I3.kIn, ?_⟩
  rw [hq.2.1]
  exact run_fnN (us := .ref a :: us) (vs := .ref a :: vs) F (hr.mono hk) hb C8.pass0 I3 (.cons rfl r) rz l1 l2 q3
/-- keyword-only parameters, all given in their order; no positional defaults -/
theorem kbn_all {K : PySem.W.Frag} {x qual : Str} {params : Arguments} {body : List Stmt} {scope : Scope} {kws : List (Str × V)} {f : Addr} {fd : FuncData} {ps : List Str} (F : FunD K x qual params body scope [] kws f fd) (n : Nat) (ks : List Str)
    (h : ∀ (kV doc pm : Value) (an : Option Addr) (cdv ct : Value) (us ws : List Value), us.length = n → ws.length = ks.length → bindArgs (PySem.W.fnOf x qual params body scope .none kV doc pm an cdv ct) ⟨us, ks.zip ws⟩ = pure (ps.zip (us ++ ws))) : KBn K fd ps n ks (fun us ws => us ++ ws) (fun us ws => us ++ ws) := by
  obtain ⟨oc, od, dV, kV, doc, pm, an, cdv, ct, osl, rfl, lk, hcd, hD, _⟩ := F.ex
  rcases hD with ⟨_, rfl⟩ | ⟨e, _⟩
  · exact ⟨fun s us ws _ l1 l2 => .of_eq (h kV doc pm an cdv ct us ws l1 l2), fun r1 r2 => r1.append r2⟩
  · exact absurd rfl e
end
end RM
namespace RM
open PySem PySem.Spec PyProof.Rows L2
section
variable {σ : L2.St} {H : Hp} {Q : VK} {ta : TE} {tl tk : TA} {sp : Sp} {C : Addr} {m : Str}
def MetWK (C : Addr) (m : Str) (n r : Nat) (sp : Sp) (t tk : TA) (σ : L2.St) (Q : VK) (x : V) (H1 : Hp) : Prop := ∃ a dx fs, x = .ref a ∧ H1 a = some (.ins C dx fs) ∧ fs.lookup m = none ∧ t σ H1 fun vs H2 => tk σ H2 fun zs H3 => (x :: vs).length = n ∧ zs.length = r ∧ sp (x :: (vs ++ zs)) H3 Q E0
theorem wp_methK {n r : Nat} (h : ta σ H fun x H1 => MetWK C m n r sp tl tk σ Q x H1) : tMethK C m n r sp ta tl tk σ H Q := h
theorem met_atK {a dx : Addr} {fs : List (Str × V)} {n r : Nat} (ha : H a = some (.ins C dx fs)) (hl : fs.lookup m = none) (q : tl σ H fun vs H2 => tk σ H2 fun zs H3 => (V.ref a :: vs).length = n ∧ zs.length = r ∧ sp (.ref a :: (vs ++ zs)) H3 Q E0) : MetWK C m n r sp tl tk σ Q (.ref a) H := ⟨a, dx, fs, rfl, ha, hl, q⟩
end
end RM
namespace RM
open PySem PySem.Spec PyProof.Rows L2
/-! ### defs that raise -/
section
variable {P : Program} {w : World} {K : PySem.W.Frag} {mg : Str → Option Value} {base : Heap} {N : List Str} {qual : Str} {scope : Scope} {f : Addr} {cd : Value} {A : Around} {outer : List Env} {s : Shared} {H : Hp} {E : XK}
/-- the wish about exceptions inside a def -/
theorem tkOf : Takes (cxOf (L2.CX P w) P w K mg base N qual scope f cd A outer s H E) (fun cls d _ H => E cls d H) := takes_of rfl rfl rfl rfl
theorem pxOf : Passes (L2.CX P w) (cxOf (L2.CX P w) P w K mg base N qual scope f cd A outer s H E) E := passes_call tkOf fun _ _ _ _ h => h
theorem poOf : PassesOwn (model P w) (A.deeper (envOfC qual scope s.heap.objs.size f cd)) (envOfC qual scope s.heap.objs.size f cd) (cxOf (L2.CX P w) P w K mg base N qual scope f cd A outer s H E).xe := passes_of rfl
end
/-! ### an exception with fields -/
/-- it was raised: class C, these fields, all else as it was -/
def Rzd (C : Addr) (fs : List (Str × V)) (E : XK) (H : Hp) : Prop := ∀ (d : Addr) (H' : Hp), Same H H' → H d = none → H' d = some (.xd fs) → E (.ref C) (some d) H'
theorem Rzd.mono {C : Addr} {fs : List (Str × V)} {E : XK} {H H2 : Hp} (h : Rzd C fs E H) (s : Same H H2) : Rzd C fs E H2 := fun d H' s2 hd hx => h d H' (s.trans s2) (s.free hd) hx
/-- what an exception class must say -/
structure ExK (K : PySem.W.Frag) (C fI : Addr) : Prop where
  o : OexC K C
  i : PySem.W.findIn K (.ref C) "__init__" = some (some (.ref fI))
  t : PySem.W.typeIn K (.ref fI) = some (.type "function")
/-- an exception class that may be made: sp is its __init__ -/
structure XMk (P : Program) (w : World) (K : PySem.W.Frag) (mg : Str → Option Value) (base : Heap) (k : Nat) (x : Str) (C : Addr) (sp : Sp) : Prop where
  ex : ∃ (fI : Addr) (fd : FuncData) (ps : List Str), ExK K C fI ∧ FnOk P w K mg base CX0 k fI fd ps sp ∧ Binds K fd ps [] ∧ mg x = some (.ref C)
/-- the promise of an __init__ that stores its arguments -/
def spX (C : Addr) (fs : List Str) : Sp := fun vs H Q _ => ∃ (a : Addr) (ws : List V), vs = .ref a :: ws ∧ ws.length = fs.length ∧ H a = some (exo a C none) ∧
  ∀ (dx : Addr) (H' : Hp), H dx = none → dx ≠ a → (∀ b o, b ≠ a → b ≠ dx → H b = some o → H' b = some o) → H' a = some (exo a C (some dx)) → H' dx = some (exd dx (fs.zip ws).reverse) → Q .non H'
theorem len_spX {C : Addr} {fs : List Str} {vs : List V} {H : Hp} {Q : VK} {E : XK} (h : spX C fs vs H Q E) : vs.length = fs.length + 1 := by
  obtain ⟨a, ws, rfl, hl, _⟩ := h
  rw [List.length_cons, hl]
section
variable {K : PySem.W.Frag} {C : Addr} {f g p0 p1 p2 : Str} {vs : List V} {H : Hp} {Q : VK} {E : XK}
theorem ini1 (o : OexC K C) (n : PySem.W.findIn K (.ref C) f = some none) (h : spX C [f] vs H Q E) : tOst K f (tVar 0) (tVar 1) { nx := fun _ H' => Q .non H', rt := Q } (L2.start [p0, p1] vs) H := by
  obtain ⟨a, ws, rfl, hl, ha, k⟩ := h
  match ws, hl with
  | [v], _ =>
    refine ⟨v, rfl, .ref a, rfl, a, C, rfl, o, n, .inl ⟨ha, fun dx hdx nd => k dx _ hdx nd (fun b u h1 h2 hb => ?_) upd_same (by rw [upd_ne nd]; exact upd_same)⟩⟩
    rw [upd_ne h1, upd_ne h2]; exact hb
theorem ini2 (o : OexC K C) (n : PySem.W.findIn K (.ref C) f = some none) (n2 : PySem.W.findIn K (.ref C) g = some none) (h : spX C [f, g] vs H Q E) :
    tSeq (tOst K f (tVar 0) (tVar 1)) (tOst K g (tVar 0) (tVar 2)) { nx := fun _ H' => Q .non H', rt := Q } (L2.start [p0, p1, p2] vs) H := by
  obtain ⟨a, ws, rfl, hl, ha, k⟩ := h
  match ws, hl with
  | [v, z], _ =>
    refine ⟨v, rfl, .ref a, rfl, a, C, rfl, o, n, .inl ⟨ha, fun dx hdx nd => ?_⟩⟩
    refine ⟨z, rfl, .ref a, rfl, a, C, rfl, o, n2, .inr ⟨dx, _, upd_same, by rw [upd_ne nd]; exact upd_same, by simp, ?_⟩⟩
    refine k dx _ hdx nd (fun b u h1 h2 hb => ?_) (by rw [upd_ne nd.symm]; exact upd_same) upd_same
    rw [upd_ne h2, upd_ne h1, upd_ne h2]; exact hb
end
/-- raise C(..): the made exception flies -/
def RsW (C : Addr) (fs : List Str) (E : XK) (vs : List V) (H1 : Hp) : Prop := vs.length ≤ 1000 ∧ ∀ a, H1 a = none → spX C fs (.ref a :: (vs ++ [])) (upd H1 a (exo a C none))
  (fun v H2 => v = .non ∧ ∃ (d : Addr) (gs : List (Str × V)), H2 a = some (exo a C (some d)) ∧ H2 d = some (exd d gs) ∧ H1 d = none ∧ E (.ref C) (some d) (upd (L2.del H2 a) d (.xd gs))) (fun _ _ _ => False)
def tRs (C : Addr) (fs : List Str) (E : XK) (ta : TA) : TS := fun _ σ H => ta σ H fun vs H1 => RsW C fs E vs H1
theorem rs_of {C : Addr} {fs : List Str} {E : XK} {vs : List V} {H1 : Hp} (hl : vs.length = fs.length) (hf : fs.length ≤ 1000) (h : Rzd C (fs.zip vs).reverse E H1) : RsW C fs E vs H1 := by
  refine ⟨by omega, fun a ha => ⟨a, vs, by rw [List.append_nil], hl, upd_same, fun dx H' hdx nd hk h1 h2 => ⟨rfl, dx, _, h1, h2, ?_, ?_⟩⟩⟩
  · rw [upd_ne nd] at hdx; exact hdx
  · rw [upd_ne nd] at hdx
    refine h dx _ (fun b o hb => ?_) hdx upd_same
    have nb : b ≠ a := ne_of_none hb ha
    have nd2 : b ≠ dx := ne_of_none hb hdx
    rw [upd_ne nd2, L2.del_ne nb]
    exact hk b o nb nd2 (by rw [upd_ne nb]; exact hb)
section
variable {X : Cx} {k j : Nat} {x : Str} {C : Addr} {fs : List Str} {e : Expr} {es : List Expr} {p pos pos' : Pos} {ta : TA} {t : TA} {E : XK} {W : WX} {sp : Sp} {dvs : List V}
theorem ps_rs (c : XMk X.prog X.w X.K X.mg X.base k x C (spX C fs)) (hr : Room j X.A) (hk : k + 1 ≤ j) (calm : X.calm = true) (tk : Takes X (fun cls d _ H => E cls d H)) (hg : Gl X x) (ha : PA X (e :: es) ta)
    (hdb : (x == ("__debug__" : Str)) = false := by decide) (he : starEach (e :: es) X.env = (false, eval e X.env) :: starEach es X.env := by rfl) (hpl : (backTo pos (starEach es X.env)).any (·.1) = false := by rfl) :
    PS X (.Raise (some (.Call (.Name x p) (e :: es) [] pos)) none pos') (tRs C fs E ta) := by
  obtain ⟨fI, fd, ps, q, F, hb, hm⟩ := c.ex
  have mk := pmk_oex (p := p) (pos := pos) (dvs := []) (ds := []) q.o q.i q.t F (hr.mono hk) hb .nil C8.pass0 hg hm ha hdb he hpl
  exact ps_raise (pos := pos') calm tk mk
/-! ### calls of what may raise -/
structure CalX (P : Program) (w : World) (K : PySem.W.Frag) (mg : Str → Option Value) (base : Heap) (k : Nat) (x : Str) (sp : Sp) (dvs : List V) : Prop where
  ex : ∃ (f : Addr) (fd : FuncData) (ps : List Str) (ds : List Value), FnOk P w K mg base (L2.CX P w) k f fd ps sp ∧ mg x = some (.ref f) ∧ PySem.W.keepIn K (.ref f) = true ∧ Binds K fd ps ds ∧ Vals dvs ds
structure MakX (P : Program) (w : World) (K : PySem.W.Frag) (mg : Str → Option Value) (base : Heap) (k : Nat) (x : Str) (C : Addr) (sp : Sp) (dvs : List V) : Prop where
  ex : ∃ (f : Addr) (fd : FuncData) (ps : List Str) (ds : List Value), Mk K C f ∧ FnOk P w K mg base (L2.CX P w) k f fd ps sp ∧ mg x = some (.ref C) ∧ Binds K fd ps ds ∧ Vals dvs ds
theorem pe_cX (c : CalX X.prog X.w X.K X.mg X.base k x sp dvs) (hr : Room j X.A) (hk : k ≤ j) (hg : Gl X x) (hx : Passes (L2.CX X.prog X.w) X E) (ha : PA X (e :: es) t)
    (hdb : (x == ("__debug__" : Str)) = false := by decide) (he : starEach (e :: es) X.env = (false, eval e X.env) :: starEach es X.env := by rfl) (hpl : (backTo pos (starEach es X.env)).any (·.1) = false := by rfl) :
    PE X (.Call (.Name x p) (e :: es) [] pos) (tCall sp dvs E t) := by
  obtain ⟨f, fd, ps, ds, F, hm, kp, b, d⟩ := c.ex
  exact pe_call F (hr.mono hk) hg hm kp b d hx ha hdb he hpl
theorem pe_mkX (c : MakX X.prog X.w X.K X.mg X.base k x C sp dvs) (hr : Room j X.A) (hk : k + 1 ≤ j) (hg : Gl X x) (hx : Passes (L2.CX X.prog X.w) X E) (ha : PA X (e :: es) t)
    (hdb : (x == ("__debug__" : Str)) = false := by decide) (he : starEach (e :: es) X.env = (false, eval e X.env) :: starEach es X.env := by rfl) (hpl : (backTo pos (starEach es X.env)).any (·.1) = false := by rfl) :
    PE X (.Call (.Name x p) (e :: es) [] pos) (tMake C sp dvs E t) := by
  obtain ⟨f, fd, ps, ds, M, F, hm, b, d⟩ := c.ex
  exact pe_make M F (hr.mono hk) hg hm b d hx ha hdb he hpl
/-! ### the same inside a try: the wish may speak of the slots -/
theorem pe_cS (c : CalX X.prog X.w X.K X.mg X.base k x sp []) (hr : Room j X.A) (hk : k ≤ j) (hg : Gl X x) (tk : Takes X W) (ha : PA X (e :: es) t)
    (hdb : (x == ("__debug__" : Str)) = false := by decide) (he : starEach (e :: es) X.env = (false, eval e X.env) :: starEach es X.env := by rfl) (hpl : (backTo pos (starEach es X.env)).any (·.1) = false := by rfl) :
    PE X (.Call (.Name x p) (e :: es) [] pos) (tCallS sp (WE W) t) := by
  obtain ⟨f, fd, ps, ds, F, hm, kp, b, d⟩ := c.ex
  cases d
  exact pe_callS F (hr.mono hk) hg hm kp b (passAt tk) ha hdb he hpl
def tMakeS (C : Addr) (sp : Sp) (E : L2.St → XK) (t : TA) : TE := fun σ H Q => t σ H fun vs H1 => ∀ x dx, H1 x = none → H1 dx = none → dx ≠ x → sp (.ref x :: vs) (upd (upd H1 dx (.own x)) x (.ins C dx [])) (fun v H2 => v = .non ∧ Q (.ref x) H2) (E σ)
theorem run_mkS {pins : List (Addr × Obj)} {σ : L2.St} {H : Hp} {s : Shared} {Q : VK} {us : List Value} {vs : List V} {f : Addr} {fd : FuncData} {ps : List Str} (M : Mk X.K C f) (F : FnOk X.prog X.w X.K X.mg X.base (L2.CX X.prog X.w) k f fd ps sp) (hr : Room (k + 1) X.A) (hb : Binds X.K fd ps []) (tk : Takes X W)
    (I : Inv X pins σ H s) (r : Vals vs us) (h : ∀ x dx, H x = none → H dx = none → dx ≠ x → sp (.ref x :: vs) (upd (upd H dx (.own x)) x (.ins C dx [])) (fun v H2 => v = .non ∧ Q (.ref x) H2) (WE W σ)) :
    wpAny (model X.prog X.w) X.A (call (.ref C) us) (EP X pins σ Q) X.xe s := by
  have want := h (s.heap.objs.size + 1) s.heap.objs.size (I.hok.fresh (Nat.le_succ _)) (I.hok.fresh (Nat.le_refl _)) (Nat.ne_of_lt (Nat.lt_succ_self _))
  have J := Inv.made (C := C) I
  have rel : Vals (V.ref (s.heap.objs.size + 1) :: vs) (Value.ref (s.heap.objs.size + 1) :: us) := .cons rfl r
  have cnt : (Value.ref (s.heap.objs.size + 1) :: us ++ ([] : List Value)).length = ps.length := by
    rw [List.append_nil, ← rel.length]
    exact F.len _ _ _ _ want
  have bnd := hb _ (Value.ref (s.heap.objs.size + 1) :: us) J.kIn cnt
  rw [List.append_nil] at bnd
  refine wpAny_call (make_map (f := f) I.kIn M.makes M.init (beq_iff_eq.mp M.fn) (codeAny_mono (F.run _ X.stack _ _ ⟨_, []⟩ _ _ _ _ (hr.make C us []) (J.env0.make C us []) bnd rel want) fun r s' z => ?_))
  match r with
  | .error e => exact passAt tk σ pins _ _ e s' J z
  | .ok (.ret u) =>
    obtain ⟨v, H', I3, rv, ev, q3⟩ := J.after z
    subst ev
    exact ⟨rv, V.ref (s.heap.objs.size + 1), H', I3, rfl, q3⟩
  | .ok .next => exact z.elim
  | .ok .brk => exact z.elim
  | .ok .cont => exact z.elim
theorem pe_mkS (c : MakX X.prog X.w X.K X.mg X.base k x C sp []) (hr : Room j X.A) (hk : k + 1 ≤ j) (hg : Gl X x) (tk : Takes X W) (ha : PA X (e :: es) t)
    (hdb : (x == ("__debug__" : Str)) = false := by decide) (he : starEach (e :: es) X.env = (false, eval e X.env) :: starEach es X.env := by rfl) (hpl : (backTo pos (starEach es X.env)).any (·.1) = false := by rfl) :
    PE X (.Call (.Name x p) (e :: es) [] pos) (tMakeS C sp (WE W) t) := by
  obtain ⟨f, fd, ps, ds, M, F, hm, b, d⟩ := c.ex
  cases d
  refine ⟨fun pins s σ H Q I h => wpAny_Call_Name_kw (ld_glob I hg hm ?_ hdb)⟩
  refine PySem.W.callWith_K (h₀ := X.base) I.ok.mod.kin M.kp (thn (ha.run pos pins s σ H _ I h) fun us s1 ⟨vs, H1, I1, r, q⟩ => ⟨I1.kIn, ?_⟩) he hpl
  exact run_mkS M F (hr.mono hk) b tk I1 r q
end
/-! ### try: body, some clauses 'except x as n' with one name n -/
abbrev Sui := Addr → Value → Option Addr → TS
def wAsM (K : PySem.W.Frag) (i : Nat) (Wout : WX) (D : Ends) : List (Value × Sui) → WX
  | [] => Wout
  | (c, ts) :: r => fun cls d σ H => ∃ b, PySem.W.exmOne K cls c = some b ∧
      (b = true → ∀ a, H a = none → ts a cls d { nx := fun σ' H' => D.nx (σ'.set i none) H', rt := D.rt, bk := fun σ' H' => D.bk (σ'.set i none) H', ct := fun σ' H' => D.ct (σ'.set i none) H' } (σ.set i (some (.ref a))) H) ∧ (b = false → wAsM K i Wout D r cls d σ H)
def tTry (K : PySem.W.Frag) (i : Nat) (tb : WX → TS) (l : List (Value × Sui)) : TS := fun D σ H => tb (wAsM K i (fun _ _ _ _ => False) D l) D σ H
inductive HdA (X : Cx) (n : Str) : List ExceptHandler → List (Value × Sui) → Prop
  | nil : HdA X n [] []
  | cons {x : Str} {c : Value} {ts : Sui} {b0 : Stmt} {more : List Stmt} {np hp : Pos} {hds : List ExceptHandler} {l : List (Value × Sui)} (nm : Names X x c)
      (su : ∀ (a : Addr) (oe : Obj) (cls : Value) (d : Option Addr) (pn : List (Addr × Obj)), Zc cls d oe → (∃ vs, oe.data = .fields vs) → PSs (X.suite a ((a, oe) :: pn)) (b0 :: more) (ts a cls d)) (r : HdA X n hds l) :
      HdA X n (.ExceptHandler (some (.Name x np)) (some n) (b0 :: more) hp :: hds) ((c, ts) :: l)
section
variable {X : Cx} {body : List Stmt} {h0 : ExceptHandler} {hds : List ExceptHandler} {l : List (Value × Sui)} {pos : Pos} {tb : WX → TS} {n : Str} {i : Nat}
theorem ps_try_asm (stk : X.stack = X.env :: X.outer) (frm : X.env.frame = some X.env.locals) (nod : X.N.Nodup) (at_ : X.N[i]? = some n) (loc : X.env.kindOf n = some .local)
    (hb : ∀ (W : WX) (pn : List (Addr × Obj)) (xe : Value → Shared → Prop), Takes (X.tr pn xe) W → PassesOwn (model X.prog X.w) X.A X.env xe → PSs (X.tr pn xe) body (tb W))
    (hh : HdA X n (h0 :: hds) l) : PS X (.Try body (h0 :: hds) [] [] pos) (tTry X.K i tb l) := by
  refine ⟨fun pins s σ H D I h => ?_⟩
  have ok := I.ok
  have frs' : X.A.frames = some (X.env :: X.outer) := by rw [ok.frames, stk]
  refine wpAny_Try_except ?_
  have runs := (hb (wAsM X.K i (fun _ _ _ _ => False) D l) (X.pn ++ pins) (fun e s₁ => wpAny (model X.prog X.w) X.A (noteFrame e X.env) (fun _ s₂ => wpAny (model X.prog X.w) X.A (setFlight e none) (fun _ s₃ =>
    wpAny (model X.prog X.w) X.A (handleBy e X.env (h0 :: hds)) (SP X pins D) X.xe s₃) X.xe s₂) X.xe s₁) ?_ PassesOwn.looking).run [] s σ H D (I.toTry _) h
  · refine wpAny_mono runs (fun f s1 z => ?_) fun _ _ z => z
    match f with
    | .next => exact z.elim fun σ' z => z.elim fun H' z => wpAny_execs_nil ⟨σ', H', z.1.ofTry ok, z.2⟩
    | .brk => exact z.elim fun σ' z => z.elim fun H' z => ⟨σ', H', z.1.ofTry ok, z.2⟩
    | .cont => exact z.elim fun σ' z => z.elim fun H' z => ⟨σ', H', z.1.ofTry ok, z.2⟩
    | .ret u => exact z.elim fun v z => z.elim fun σ' z => z.elim fun H' z => ⟨v, σ', H', z.1.ofTry ok, z.2.1, z.2.2⟩
  · rintro u s' ⟨a, B, sI, pins', σ', H', cls, d, rfl, J0, nb, up, sky, na, os, ag, wish⟩
    have J : Inv X pins σ' H' sI := J0.ofTry ok
    rw [show (X.tr (X.pn ++ pins) _).stack = X.env :: X.outer from stk] at sky
    show wpAny (model X.prog X.w) X.A (noteFrame (.ref a) X.env) _ _ _
    refine Sky.land Zc.steady frs' frm sky fun h3 fl3 up3 => ?_
    have J3 : Inv X pins σ' H' { s' with heap := h3 } := J.landed nb fl3.1 (up.trans up3) os ag
    obtain ⟨oe3, vs3, he3, hz3, hd3⟩ := fl3.there
    have out : a ∉ frs (X.env :: X.outer) := fun hm => by
      obtain ⟨_, o', e', no⟩ := fl3.2.2.1.mem hm
      rw [he3] at e'
      cases e'
      exact no _ hd3
    have nL : a ≠ X.env.locals := fun z => out (List.mem_filterMap.mpr ⟨X.env, List.mem_cons_self, by rw [frm, z]⟩)
    have nF : a ∉ X.fs := fun hm => (List.mem_filterMap.mp hm).elim fun e z => out (List.mem_filterMap.mpr ⟨e, List.mem_cons_of_mem _ z.1, z.2⟩)
    have S3 := J3.suite he3 hd3 na nL nF
    have go : ∀ {hs' : List ExceptHandler} {l' : List (Value × Sui)}, HdA X n hs' l' → wAsM X.K i (fun _ _ _ _ => False) D l' cls d σ' H' →
        wpAny (model X.prog X.w) X.A (handleBy (.ref a) X.env hs') (SP X pins D) X.xe { s' with heap := h3 } := by
      intro hs' l' hk
      induction hk with
      | nil => exact fun z => z.elim
      | @cons x c ts b0 more np hp hds2 l2 nm su r ih =>
        rintro ⟨b, hb1, yes, no⟩
        refine wpAny_handleBy_cons (codeAny_handlers_test ?_) (by intro q; cases q)
        have lt : PySem.W.Looks (model X.prog X.w) h3 (typeOf (.ref a)) cls := fun A Q E s k q => wpAny_typeOf_ref (k _ _ he3) (by rw [hz3.1]; exact q)
        have lm := PySem.W.exm_one (M := model X.prog X.w) J3.kIn lt hb1
        have nam : ∀ {Q : Value → Shared → Prop} {E : Value → Shared → Prop}, Q c { s' with heap := h3 } → wpAny (model X.prog X.w) (X.A.mark (some (.ref a))) (eval (.Name x np) X.env) Q E { s' with heap := h3 } := fun {Q E} q => by
          rcases nm with ⟨n1, n2, n3 | ⟨n3, n4, n5⟩⟩
          · exact ld_glob (X := X.suite a ((a, oe3) :: (X.pn ++ pins))) S3 n1 n3 q n2
          · exact ld_blt (X := X.suite a ((a, oe3) :: (X.pn ++ pins))) S3 n1 n3 n4 q n5 n2
        refine nam (lm.here ?_)
        match b, yes, no with
        | false, _, no => exact ih (no rfl)
        | true, yes, _ =>
          refine codeAny_handlers_suite_as ?_
          refine HandSPX.lands_againZ fl3 fun h4 fl4 up4 => ?_
          have J4 : Inv X pins σ' H' { s' with heap := h4 } := J.landed nb fl4.1 ((up.trans up3).trans up4) os ag
          obtain ⟨oe4, vs4, he4, hz4, hd4⟩ := fl4.there
          refine store_ok (X := X.suite a ((a, oe4) :: (X.pn ++ pins))) (v := .ref a) (J4.suite he4 hd4 na nL nF) nod at_ (.inl loc) rfl (fun s5 S5 => ?_) (.inr loc)
          refine wpAny_mono ((su a oe4 cls d (X.pn ++ pins) hz4 ⟨_, hd4⟩).run [] s5 _ H' _ S5 (yes rfl a na)) (fun f s6 z => ?_) (fun _ _ z => z.elim)
          have over : ∀ {σ6 : L2.St} {H6 : Hp} {Q : Shared → Prop}, Inv (X.suite a ((a, oe4) :: (X.pn ++ pins))) [] σ6 H6 s6 → (∀ s7, Inv X pins (σ6.set i none) H6 s7 → Q s7) →
              wpAny (model X.prog X.w) X.A (do bindName X.env n .none; unbindBehindTheSuite X.env n hp) (fun _ s7 => Q s7) X.xe s6 := fun S6 hq => gone_ok (S6.unsuite ok) nod at_ loc hq
          match f with
          | .next => exact z.elim fun σ6 z => z.elim fun H6 z => over z.1 fun s7 J7 => ⟨_, _, J7, z.2⟩
          | .brk => exact z.elim fun σ6 z => z.elim fun H6 z => over z.1 fun s7 J7 => ⟨_, _, J7, z.2⟩
          | .cont => exact z.elim fun σ6 z => z.elim fun H6 z => over z.1 fun s7 J7 => ⟨_, _, J7, z.2⟩
          | .ret u => exact z.elim fun v z => z.elim fun σ6 z => z.elim fun H6 z => over z.1 fun s7 J7 => ⟨_, _, _, J7, z.2.1, z.2.2⟩
    exact go hh wish
end
/-! ### isinstance(e, T) in an except suite -/
structure ExI (K : PySem.W.Frag) (D : Addr) : Prop where
  cl : (PySem.W.clsIn K D).isSome = true
  hg : PySem.W.findIn K (.ref D) "__getattribute__" = some (some (.builtin "BaseException.__getattribute__"))
  hk : PySem.W.findIn K (.ref D) "__getattr__" = some none
  hs : PySem.W.subIn K (.ref D) (.type "BaseException") = some true
  ha : PySem.W.findIn K (.ref D) "__class__" = some (some (.builtin "object.__class__"))
  hn : PySem.W.specialIn K (.builtin "object.__class__") "__get__" = some (some (.builtin "getset_descriptor.__get__"))
  ht : PySem.W.takesIn K (.builtin "object.__class__") = some true
  hm : PySem.W.mroIn K D (.type "object") = some true
def rIsX (K : PySem.W.Frag) (a : Addr) (cls : Value) (d : Option Addr) : List V → Hp → VK → Prop := fun xs H Q => ∃ (D dd : Addr) (fs : List (Str × V)) (c : V) (cv : Value) (b : Bool), xs = [.ref a, c] ∧ cls = .ref D ∧ d = some dd ∧ ExI K D ∧ H dd = some (.xd fs) ∧ (∀ u, RelV c u → u = cv) ∧ PySem.W.kitOne K (.ref D) cv = some b ∧ Q (.bl b) H
theorem call_isX {X : Cx} {a : Addr} {oe : Obj} {cls : Value} {d : Option Addr} {pn : List (Addr × Obj)} (hz : Zc cls d oe) (hf : ∃ vs, oe.data = .fields vs) : CallR (X.suite a ((a, oe) :: pn)) (.builtin "isinstance") (rIsX X.K a cls d) := by
  intro pins s σ H xs us Q I r h
  obtain ⟨D, dd, fs, c, cv, b, rfl, rfl, rfl, C, hdd, hcv, e, q⟩ := h
  obtain ⟨u, z, rfl, ru, rz⟩ := vals2 r
  cases ru
  have ez := hcv _ rz
  subst ez
  obtain ⟨hget, _⟩ := I.pin (a, oe) (List.mem_append.mpr (.inl List.mem_cons_self))
  obtain ⟨vs, hv⟩ := hf
  have hx : ObjOk X.prog X.w H s.heap dd (.xd fs) := I.hok dd _ hdd
  obtain ⟨mA, hns, _⟩ := hx
  obtain ⟨od, ho, _⟩ := lookIn_ns hns
  have J : PySem.W.InstAt s.heap a oe D (some od) := ⟨hget, hz.1, by unfold PySem.W.notCls; rw [hv] <;> rfl, by rw [hz.2]; exact ho⟩
  exact PySem.W.kia_one (PySem.W.kitx_exc C.cl C.hg C.hk C.hs C.ha C.hn C.ht C.hm) I.kIn J e (fun z => nomatch z) fun tk => ⟨.bl b, H, I.kept (t' := tk) fun _ _ z => z, rfl, q⟩
/-! ### what the head tells of exception classes -/
section
open PySem.W
def mroVE (C : Addr) : List Value → Bool
  | .ref a :: bm => decide (a = C) && HandSPX.refsVE bm
  | _ => false
theorem mroVE_ok {C : Addr} {l : List Value} (h : mroVE C l = true) : ∃ bm, l = .ref C :: bm ∧ HandSPX.refsVE bm = true := by
  cases l with
  | nil => exact absurd h Bool.false_ne_true
  | cons v bm =>
    cases v with
    | ref a =>
      obtain ⟨z1, z2⟩ := He.ba h
      exact ⟨bm, by rw [of_decide_eq_true z1], z2⟩
    | _ => exact absurd h Bool.false_ne_true
def sixVE : List (Option Value) → Bool
  | [_, _, _, _, k4, _] => decide (k4 = some (.builtin "ValueError.__new__"))
  | _ => false
theorem sixVE_ok : ∀ {l : List (Option Value)}, sixVE l = true → ∃ k0 k1 k2 k3 k5, l = [k0, k1, k2, k3, some (.builtin "ValueError.__new__"), k5]
  | [k0, k1, k2, k3, k4, k5], h => ⟨k0, k1, k2, k3, k5, by rw [show k4 = some (.builtin "ValueError.__new__") from of_decide_eq_true h]⟩
def clsVE (C : Addr) : Option Obj → Bool
  | some ⟨c, _, .cls cd, sl⟩ => decide (c = .type "type") && (cd.hasDict && (!cd.hasDel && (mroVE C cd.mro && sixVE sl.toList)))
  | _ => false
theorem clsVE_ok {C : Addr} {o : Option Obj} (h : clsVE C o = true) : ∃ nm q N bs bm sn sub ab col dd k0 k1 k2 k3 k5, o = some (excClassObj nm q C N bs bm true sn sub ab col dd k0 k1 k2 k3 k5 "ValueError.__new__") ∧ HandSPX.refsVE bm = true := by
  cases o with
  | none => exact absurd h Bool.false_ne_true
  | some ob =>
    obtain ⟨c, dd, da, sl⟩ := ob
    cases da with
    | cls cd =>
      obtain ⟨nm, bs, mro, N, qn, hd, sn, sb, ab, co, del⟩ := cd
      obtain ⟨q1, h⟩ := He.ba h
      obtain ⟨q2, h⟩ := He.ba h
      obtain ⟨q3, h⟩ := He.ba h
      obtain ⟨q4, q5⟩ := He.ba h
      have q2 : hd = true := q2
      have q3 : (!del) = true := q3
      have q4 : mroVE C mro = true := q4
      obtain ⟨bm, e4, r4⟩ := mroVE_ok q4
      obtain ⟨k0, k1, k2, k3, k5, e5⟩ := sixVE_ok q5
      have e1 : c = .type "type" := of_decide_eq_true q1
      have e3 : del = false := by
        cases del
        · rfl
        · cases q3
      have esl : sl = #[k0, k1, k2, k3, some (.builtin "ValueError.__new__"), k5] := by
        rw [← Array.toArray_toList (xs := sl), e5]
      rw [e1, q2, e3, e4, esl]
      exact ⟨nm, qn, N, bs, bm, sn, sb, ab, co, dd, k0, k1, k2, k3, k5, rfl, r4⟩
    | _ => exact absurd h Bool.false_ne_true
def bOex (x : Str) (K : Frag) : Bool := clsVE (He.ga K x) (K.lookup (He.ga K x)) && (He.eqO (findIn K (.ref (He.ga K x)) "__setattr__") (some (some (.builtin "object.__setattr__"))) && (decide (subIn K (.ref (He.ga K x)) (.type "BaseException") = some true) && (decide (typeIn K (.ref (He.ga K x)) = some (.type "type")) && keepIn K (.ref (He.ga K x)))))
theorem bOex_ok {x : Str} {K : Frag} (h : bOex x K = true) : OexC K (He.ga K x) := by
  obtain ⟨h1, h⟩ := He.ba h
  obtain ⟨h2, h⟩ := He.ba h
  obtain ⟨h3, h⟩ := He.ba h
  obtain ⟨h4, h5⟩ := He.ba h
  exact ⟨clsVE_ok h1, He.eqO_ok h2, of_decide_eq_true h3, of_decide_eq_true h4, h5⟩
def bExi (x : Str) (K : Frag) : Bool := (clsIn K (He.ga K x)).isSome && (He.eqO (findIn K (.ref (He.ga K x)) "__getattribute__") (some (some (.builtin "BaseException.__getattribute__"))) && (He.eqO (findIn K (.ref (He.ga K x)) "__getattr__") (some none) &&
  (decide (subIn K (.ref (He.ga K x)) (.type "BaseException") = some true) && (He.eqO (findIn K (.ref (He.ga K x)) "__class__") (some (some (.builtin "object.__class__"))) && (He.eqO (specialIn K (.builtin "object.__class__") "__get__") (some (some (.builtin "getset_descriptor.__get__"))) &&
  (decide (takesIn K (.builtin "object.__class__") = some true) && decide (mroIn K (He.ga K x) (.type "object") = some true)))))))
theorem bExi_ok {x : Str} {K : Frag} (h : bExi x K = true) : ExI K (He.ga K x) := by
  obtain ⟨h1, h⟩ := He.ba h
  obtain ⟨h2, h⟩ := He.ba h
  obtain ⟨h3, h⟩ := He.ba h
  obtain ⟨h4, h⟩ := He.ba h
  obtain ⟨h5, h⟩ := He.ba h
  obtain ⟨h6, h⟩ := He.ba h
  obtain ⟨h7, h8⟩ := He.ba h
  exact ⟨h1, He.eqO_ok h2, He.eqO_ok h3, of_decide_eq_true h4, He.eqO_ok h5, He.eqO_ok h6, of_decide_eq_true h7, of_decide_eq_true h8⟩
/-- what is asked of the exception classes ns -/
structure XFacts (K : Frag) (ns : List Str) : Prop where
  i : ∀ x ∈ ns, ExI K (He.ga K x)
  v : ∀ x ∈ ns, kitOne K (.ref (He.ga K x)) (.type "ValueError") = some true
  b : ∀ x ∈ ns, exmOne K (.ref (He.ga K x)) (.ref (He.ga K "MinuteError")) = some true
  m : ∀ x ∈ ns, ∀ y ∈ ns, exmOne K (.ref (He.ga K x)) (.ref (He.ga K y)) = some (decide (x = y))
  k : ∀ x ∈ ns, ∀ y ∈ ns, kitOne K (.ref (He.ga K x)) (.ref (He.ga K y)) = some (decide (x = y))
def bXall (ns : List Str) (K : Frag) : Bool := ns.all fun x => bExi x K && (decide (kitOne K (.ref (He.ga K x)) (.type "ValueError") = some true) && (decide (exmOne K (.ref (He.ga K x)) (.ref (He.ga K "MinuteError")) = some true) &&
  ns.all fun y => decide (exmOne K (.ref (He.ga K x)) (.ref (He.ga K y)) = some (decide (x = y))) && decide (kitOne K (.ref (He.ga K x)) (.ref (He.ga K y)) = some (decide (x = y)))))
theorem bXall_ok {ns : List Str} {K : Frag} (h : bXall ns K = true) : XFacts K ns := by
  have h2 := List.all_eq_true.mp h
  have p : ∀ x ∈ ns, bExi x K = true ∧ kitOne K (.ref (He.ga K x)) (.type "ValueError") = some true ∧ exmOne K (.ref (He.ga K x)) (.ref (He.ga K "MinuteError")) = some true ∧
      ∀ y ∈ ns, exmOne K (.ref (He.ga K x)) (.ref (He.ga K y)) = some (decide (x = y)) ∧ kitOne K (.ref (He.ga K x)) (.ref (He.ga K y)) = some (decide (x = y)) := fun x hx => by
    obtain ⟨a1, a⟩ := He.ba (h2 x hx)
    obtain ⟨a2, a⟩ := He.ba a
    obtain ⟨a3, a4⟩ := He.ba a
    refine ⟨a1, of_decide_eq_true a2, of_decide_eq_true a3, fun y hy => ?_⟩
    obtain ⟨b1, b2⟩ := He.ba (List.all_eq_true.mp a4 y hy)
    exact ⟨of_decide_eq_true b1, of_decide_eq_true b2⟩
  exact ⟨fun x hx => bExi_ok (p x hx).1, fun x hx => (p x hx).2.1, fun x hx => (p x hx).2.2.1, fun x hx y hy => ((p x hx).2.2.2 y hy).1, fun x hx y hy => ((p x hx).2.2.2 y hy).2⟩
def bXf (x : Str) (K : Frag) : Bool := xfB K (He.ga K x)
theorem bXf_ok {x : Str} {K : Frag} (h : bXf x K = true) : XfC K (He.ga K x) := xfB_ok h
end
end RM
namespace RM
open PySem PySem.Spec PyProof.Rows L2
/-! ### comprehensions that draw from the pool -/
section
variable {K : PySem.W.Frag} {σ : L2.St} {H : Hp} {g : TG} {te : TE} {vs : List Nat} {Q : VK}
theorem lcP {J : It} {n : Nat} {Gd : Hp → Prop} {Y : Nat → Hp → V → Hp → Prop} (w : Walk J n Gd Y) (hn : n ≤ 100000) {P : Pl} {G : Hp} (hs : Sees P G H) (hG : ∀ H', Sees P G H' → Gd H') (hY : ∀ i H2 x H3, Y i H2 x H3 → H3 = H2) (I : Nat → List V → Prop) (h0 : I 0 [])
    (st : ∀ i x acc G2 H2 (R : VK), i < n → Y i H2 x H2 → Same G G2 → Sees P G2 H2 → acc.length ≤ i → I i acc → (∀ y H3, Sees P G2 H3 → I (i + 1) (acc ++ [y]) → R y H3) → g x (wipe σ vs) H2 fun σ2 H4 => wipe σ2 vs = wipe σ vs ∧ te σ2 H4 R)
    (hq : ∀ D acc H2, H D = none → Sees P G H2 → H2 D = some (.lst acc) → acc.length ≤ n → I n acc → Q (.ref D) H2) : LcW J g tYes te vs σ H Q := by
  intro D hD
  obtain ⟨gD, nD⟩ := hs.fresh hD
  refine lc_it w (fun i H2 => ∃ acc, Sees P G H2 ∧ H2 D = some (.lst acc) ∧ acc.length ≤ i ∧ I i acc) ⟨[], hs.set gD nD, upd_same, Nat.le_refl _, h0⟩ (fun i H2 _ p => ?_) (fun i x H2 H3 hi p y => ?_) (fun H2 p => ?_)
  · obtain ⟨acc, s, _⟩ := p
    exact hG _ s
  · obtain ⟨acc, s, d, l, hI⟩ := p
    have e := hY _ _ _ _ y
    rw [e] at y ⊢
    have z := st i x acc (upd G D (.lst acc)) H2 (fun y H4 => ∃ acc', H4 D = some (.lst acc') ∧ acc'.length < sizeLine ∧ ∃ acc2, Sees P G (upd H4 D (.lst (acc' ++ [y]))) ∧ upd H4 D (.lst (acc' ++ [y])) D = some (.lst acc2) ∧ acc2.length ≤ i + 1 ∧ I (i + 1) acc2) hi y (Same.new gD) (s.with gD d nD) l hI
      (fun y H3 s3 hI2 => ⟨acc, s3.sub _ _ upd_same, szlt (by omega), acc ++ [y], (s3.back s gD).1.set gD nD, upd_same, by simp; omega, hI2⟩)
    exact z
  · obtain ⟨acc, s, d, l, hI⟩ := p
    exact hq D acc H2 hD s d l hI
theorem lcPR {n : Int} (n0 : 0 ≤ n) (hn : n ≤ 100000) {P : Pl} {G : Hp} (hs : Sees P G H) (I : Nat → List V → Prop) (h0 : I 0 [])
    (st : ∀ (i : Nat) acc G2 H2 (R : VK), (i : Int) < n → Same G G2 → Sees P G2 H2 → acc.length ≤ i → I i acc → (∀ y H3, Sees P G2 H3 → I (i + 1) (acc ++ [y]) → R y H3) → g (.int (i : Nat)) (wipe σ vs) H2 fun σ2 H4 => wipe σ2 vs = wipe σ vs ∧ te σ2 H4 R)
    (hq : ∀ D acc H2, H D = none → Sees P G H2 → H2 D = some (.lst acc) → (acc.length : Int) ≤ n → I n.toNat acc → Q (.ref D) H2) : ∃ j : Int, [V.int n] = [V.int j] ∧ -(2 ^ 62) ≤ j ∧ j < 2 ^ 62 ∧ LcW (Itr 0 j.toNat) g tYes te vs σ H Q :=
  ⟨n, rfl, by omega, by omega, lcP walk_range (by omega) hs (fun _ _ => trivial) (fun i H2 x H3 y => y.1) I h0 (fun i x acc G2 H2 R hi y s1 s2 l hI k => by
    have e3 : x = .int (i : Nat) := by rw [y.2]; exact congrArg V.int (Int.zero_add _)
    subst e3
    exact st i acc G2 H2 R (by omega) s1 s2 l hI k) (fun D acc H2 hD s d l hI => hq D acc H2 hD s d (by omega) hI)⟩
theorem lcPL {a : Addr} {xs : List V} (hn : xs.length ≤ 100000) {P : Pl} {G : Hp} (hs : Sees P G H) (hx : SqL K H a xs) (hx2 : ∀ H', Sees P G H' → SqL K H' a xs) (I : Nat → List V → Prop) (h0 : I 0 [])
    (st : ∀ (i : Nat) x acc G2 H2 (R : VK), xs[i]? = some x → Same G G2 → Sees P G2 H2 → acc.length ≤ i → I i acc → (∀ y H3, Sees P G2 H3 → I (i + 1) (acc ++ [y]) → R y H3) → g x (wipe σ vs) H2 fun σ2 H4 => wipe σ2 vs = wipe σ vs ∧ te σ2 H4 R)
    (hq : ∀ D acc H2, H D = none → Sees P G H2 → H2 D = some (.lst acc) → acc.length ≤ xs.length → I xs.length acc → Q (.ref D) H2) : ∃ b, V.ref a = .ref b ∧ (∃ ys, SqL K H b ys) ∧ LcW (Itl K b) g tYes te vs σ H Q :=
  ⟨a, rfl, ⟨xs, hx⟩, lcP walk_list hn hs hx2 (fun i H2 x H3 y => y.1) I h0 (fun i x acc G2 H2 R hi y s1 s2 l hI k => st i x acc G2 H2 R y.2 s1 s2 l hI k) hq⟩
end
/-! ### ''.join(list) -/
def rJoin (K : PySem.W.Frag) : V → List V → Hp → VK → Prop := fun x xs H Q => ∃ a p, ∃ ys : List Str, x = .str a ∧ xs = [.ref p] ∧ (SqL K H p (ys.map V.str) ∨ SqT K H p (ys.map V.str)) ∧
  (ys.map (·.length)).sum + ys.length * a.length ≤ 16777216 ∧ Q (.str (Txt.join a ys)) H
theorem joinL_nil : ∀ cs : List Nat, TL.joinL [] (cs.map fun c => [c]) = cs
  | [] => rfl
  | [_] => rfl
  | a :: b :: r => by
    show [a] ++ ([] ++ TL.joinL [] ((b :: r).map fun c => [c])) = a :: b :: r
    rw [joinL_nil (b :: r)]
    rfl
theorem join_S (cs : List Nat) : Txt.join (S []) (cs.map fun c => S [c]) = S cs := by
  have h : TL.tl (Txt.join (S []) (cs.map fun c => S [c])) = cs := by
    rw [TL.join_eq, TL.tl_join, List.map_map]
    exact joinL_nil cs
  generalize Txt.join (S []) (cs.map fun c => S [c]) = z at h
  obtain ⟨⟨l⟩⟩ := z
  have h2 : l = cs := h
  rw [h2]
theorem wp_join1 {K : PySem.W.Frag} {H : Hp} {Q : VK} {p : Addr} {cs : List Nat} (hp : H p = some (.lst (cs.map fun c => V.str (S [c])))) (hn : cs.length ≤ 1000) (h : Q (.str (S cs)) H) : rJoin K (.str (S [])) [.ref p] H Q := by
  refine ⟨S [], p, cs.map fun c => S [c], rfl, rfl, .inl (sq_of (by rw [List.map_map]; exact hp)), ?_, by rw [join_S]; exact h⟩
  have e : ((cs.map fun c => S [c]).map (·.length)).sum = cs.length := by
    clear hp hn h
    induction cs with
    | nil => rfl
    | cons c r ih =>
      rw [List.map_cons, List.map_cons, List.sum_cons, ih, List.length_cons]
      show 1 + r.length = _
      omega
  have e2 : (S []).length = 0 := rfl
  rw [e, e2, Nat.mul_zero]
  omega
/-! ### defs with try -/
theorem wp_m1 {r : V → List V → Hp → VK → Prop} {to te : TE} {σ : L2.St} {H : Hp} {Q : VK} (h : to σ H fun x H1 => (∃ a, x = .str a) ∧ te σ H1 fun y H2 => r x [y] H2 Q) : tM1 r to te σ H Q := h
end RM
namespace RM
open PySem PySem.Spec PyProof.Rows L2
/-! ### C.m(x, *rest), a classmethod that may raise; cls(..) -/
/-- what is handed to the star parameter behind two others: a new tuple -/
def StarW2 (sp : Sp) : Sp := fun vs H Q E => ∃ x y rest, vs = x :: y :: rest ∧ rest.length ≤ 1000 ∧ ∀ p, H p = none → sp [x, y, V.ref p] (upd H p (.tup rest)) Q E
theorem fun_starX {P : Program} {w : World} {K : PySem.W.Frag} {mg : Str → Option Value} {base : Heap} {x qual pv : Str} {params : Arguments} {body : List Stmt} {scope : Scope} {f : Addr} {fd : FuncData} {N ps : List Str} {k : Nat} {sp : Sp}
    (F : FunD K x qual params body scope [] [] f fd) (S : FnScope N (ps ++ [pv]) scope)
    (hb : ∀ (kV doc pm : Value) (an : Option Addr) (cdv ct : Value) (us rest : List Value), us.length = ps.length → bindArgs (PySem.W.fnOf x qual params body scope .none kV doc pm an cdv ct) ⟨us ++ rest, []⟩ = (newTuple rest >>= fun t => pure (ps.zip us ++ [(pv, t)])))
    (hbody : ∀ (cdv : Value) (A : Around) (outer : List Env) (s : Shared) (H : Hp) (vs : List V) (Q : VK) (E : XK), Room k (A.deeper (envOfC qual scope s.heap.objs.size f cdv)) → sp vs H Q E →
      ∃ t, PSs (cxOf (L2.CX P w) P w K mg base N qual scope f cdv A outer s H E) body t ∧ t { nx := fun _ H' => Q .non H', rt := Q } (L2.start N vs) H) :
    FnR P w K mg base (L2.CX P w) (k + 1) f (fun vs H Q E => ∃ ws rest, vs = ws ++ rest ∧ ws.length = ps.length ∧ rest.length ≤ sizeLine ∧ ∀ p, H p = none → sp (ws ++ [V.ref p]) (upd H p (.tup rest)) Q E) := by
  obtain ⟨oc, od, dV, kV, doc, pm, an, cdv, ct, osl, rfl, lk, hcd, hD, _⟩ := F.ex
  rcases hD with ⟨_, rfl⟩ | ⟨e, _⟩
  · exact StX.fn_star lk hcd S StX.cxUp (hb kV doc pm an cdv ct) fun A outer s H vs Q E hr h => hbody cdv A outer s H vs Q E hr h
  · exact absurd rfl e
/-- the record of a classmethod, its def -/
def cmP (K : PySem.W.Frag) (C : Addr) (m : Str) : Addr := match PySem.W.findCls K (.ref C) (.type "type") m with
  | some (.get _ (.ref p) _ _) => p
  | _ => 0
def cmG (K : PySem.W.Frag) (C : Addr) (m : Str) : Addr := match PySem.W.recIn K (cmP K C m) "classmethod" with
  | some (.ref g :: _) => g
  | _ => 0
def isCM (K : PySem.W.Frag) (C : Addr) (m : Str) : Bool := match PySem.W.findCls K (.ref C) (.type "type") m with
  | some (.get (.builtin z) (.ref _) .none (.ref C')) => decide (z = "classmethod.__get__") && decide (C' = C)
  | _ => false
def isCG (K : PySem.W.Frag) (C : Addr) (m : Str) : Bool := match PySem.W.recIn K (cmP K C m) "classmethod" with
  | some (.ref _ :: _) => true
  | _ => false
def bCMet (x m : Str) (K : PySem.W.Frag) : Bool := isCM K (He.ga K x) m && (isCG K (He.ga K x) m && PySem.W.fnIn K (cmG K (He.ga K x) m))
theorem bCMet_ok {x m : Str} {K : PySem.W.Frag} (h : bCMet x m K = true) : ClX.CMet K (He.ga K x) (.type "type") m (cmP K (He.ga K x) m) (cmG K (He.ga K x) m) := by
  obtain ⟨h1, h⟩ := He.ba h
  obtain ⟨h2, h3⟩ := He.ba h
  refine ⟨?_, ?_, h3⟩
  · unfold isCM at h1
    unfold cmP
    split at h1
    · rename_i z p C' e
      obtain ⟨q1, q2⟩ := He.ba h1
      rw [e, of_decide_eq_true q1, of_decide_eq_true q2]
    · exact absurd h1 Bool.false_ne_true
  · unfold isCG at h2
    unfold cmG
    split at h2
    · rename_i g r e
      rw [e]
      exact ⟨r, rfl⟩
    · exact absurd h2 Bool.false_ne_true
structure CMS (P : Program) (w : World) (K : PySem.W.Frag) (mg : Str → Option Value) (base : Heap) (k : Nat) (x : Str) (C : Addr) (m : Str) (sp : Sp) : Prop where
  ex : ∃ p g : Addr, mg x = some (.ref C) ∧ ClX.CRead K C (.type "type") ∧ ClX.CMet K C (.type "type") m p g ∧ FnR P w K mg base (L2.CX P w) k g (StarW2 sp)
theorem CMS.of {P : Program} {w : World} {K : PySem.W.Frag} {mg : Str → Option Value} {base : Heap} {k : Nat} {x m : Str} {C p g : Addr} {sp : Sp} {p0 p1 : Str} (hm : mg x = some (.ref C)) (r : ClX.CRead K C (.type "type")) (c : ClX.CMet K C (.type "type") m p g)
    (F : FnR P w K mg base (L2.CX P w) k g (fun vs H Q E => ∃ ws rest, vs = ws ++ rest ∧ ws.length = [p0, p1].length ∧ rest.length ≤ sizeLine ∧ ∀ p, H p = none → sp (ws ++ [V.ref p]) (upd H p (.tup rest)) Q E)) : CMS P w K mg base k x C m sp :=
  ⟨p, g, hm, r, c, F.imp fun vs H Q E ⟨x, y, rest, e, hl, q⟩ => ⟨[x, y], rest, e, rfl, szl (by omega), q⟩⟩
section
variable {X : Cx} {k j i : Nat} {x m : Str} {C : Addr} {sp : Sp} {E : XK} {e : Expr} {es : List Expr} {p0 pos apos p : Pos} {t : TA} {pl : Sem Bool}
theorem pe_cmS (c : CMS X.prog X.w X.K X.mg X.base k x C m sp) (hr : Room j X.A) (hk : k ≤ j) (hg : Gl X x) (hx : Passes (L2.CX X.prog X.w) X E) (ha : PA X (e :: es) t) (hdb : (x == ("__debug__" : Str)) = false := by decide)
    (hst : starEach (e :: es) X.env = (false, eval e X.env) :: starEach es X.env := by rfl) (hpl : (backTo pos (starEach es X.env)).any (·.1) = false := by rfl)
    (ht : eval (.Call (.Attribute (.Name x p0) m apos) (e :: es) [] pos) X.env = (do
      let ov ← eval (.Name x p0) X.env
      standAt apos.atName
      let (f, first) ← holding [ov] (getMethod ov m pl)
      callWith pos f first (backTo pos (starEach (e :: es) X.env)) (backToKw pos (keywordEach [] X.env))) := by rfl) :
    PE X (.Call (.Attribute (.Name x p0) m apos) (e :: es) [] pos) (ClX.tCMeth C (StarW2 sp) E (tC (.ref C)) t) := by
  obtain ⟨q, g, hm, r, cm, F⟩ := c.ex
  exact ClX.pe_cmeth (pl := pl) (pe_clsv hg hm hdb) r cm F (hr.mono hk) hx ha hst hpl ht
def tMakeV (C : Addr) (i : Nat) (sp : Sp) (E : XK) (t : TA) : TE := fun σ H Q => σ[i]? = some (some (.ref C)) ∧ t σ H fun vs H1 => MkW C sp E Q vs H1
theorem pe_mkV {y : Str} (c : MakX X.prog X.w X.K X.mg X.base k y C sp []) (hr : Room j X.A) (hk : k + 1 ≤ j) (hN : X.N[i]? = some x) (hv : Vis X.env.scope x) (hx : Passes (L2.CX X.prog X.w) X E) (ha : PA X (e :: es) t)
    (hd : (x == ("__debug__" : Str)) = false := by decide) (hcd : (x == ("__classdict__" : Str)) = false := by decide)
    (he : starEach (e :: es) X.env = (false, eval e X.env) :: starEach es X.env := by rfl) (hpl : (backTo pos (starEach es X.env)).any (·.1) = false := by rfl) :
    PE X (.Call (.Name x p) (e :: es) [] pos) (tMakeV C i sp E t) := by
  obtain ⟨f, fd, ps, ds, M, F, _, b, d⟩ := c.ex
  refine ⟨fun pins s σ H Q I h => ?_⟩
  obtain ⟨hs, h⟩ := h
  refine wpAny_Call_Name_kw (thn ((pe_var (pos := p) hN hv hd hcd).run pins s σ H (fun v H1 => v = .ref C ∧ H1 = H) I ⟨.ref C, hs, rfl, rfl⟩) fun u s1 ⟨v, H1, I1, r1, q1⟩ => ?_)
  obtain ⟨rfl, rfl⟩ := q1
  cases r1
  refine PySem.W.callWith_K (h₀ := X.base) I.ok.mod.kin M.kp (thn (ha.run pos pins s1 σ _ _ I1 h) fun us s2 ⟨vs, H2, I2, r, q⟩ => ⟨I2.kIn, ?_⟩) he hpl
  exact run_make M F (hr.mono hk) b d hx I2 r (fun y dx h1 h2 h3 => by rw [List.append_nil]; exact q y dx h1 h2 h3)
end
end RM
namespace RM
open PySem PySem.Spec PyProof.Rows L2
/-! ### methods that may raise -/
structure MetX (P : Program) (w : World) (K : PySem.W.Frag) (mg : Str → Option Value) (base : Heap) (k : Nat) (C : Addr) (m : Str) (sp : Sp) (dvs : List V) : Prop where
  ex : ∃ (f : Addr) (fd : FuncData) (ps : List Str) (ds : List Value), Cls K C ∧ Meth K C m f ∧ FnOk P w K mg base (L2.CX P w) k f fd ps sp ∧ Binds K fd ps ds ∧ Vals dvs ds
structure MetSX (P : Program) (w : World) (K : PySem.W.Frag) (mg : Str → Option Value) (base : Heap) (k : Nat) (C : Addr) (m : Str) (sp : Sp) : Prop where
  ex : ∃ f : Addr, Cls K C ∧ Meth K C m f ∧ FnR P w K mg base (L2.CX P w) k f (StarW sp)
theorem MetSX.of {P : Program} {w : World} {K : PySem.W.Frag} {mg : Str → Option Value} {base : Heap} {f : Addr} {p0 : Str} {k : Nat} {C : Addr} {m : Str} {sp : Sp} (c : Cls K C) (hm : Meth K C m f)
    (F : FnR P w K mg base (L2.CX P w) k f (fun vs H Q E => ∃ ws rest, vs = ws ++ rest ∧ ws.length = [p0].length ∧ rest.length ≤ sizeLine ∧ ∀ p, H p = none → sp (ws ++ [V.ref p]) (upd H p (.tup rest)) Q E)) : MetSX P w K mg base k C m sp :=
  ⟨f, c, hm, F.imp fun vs H Q E ⟨x, rest, e, hl, q⟩ => ⟨[x], rest, e, rfl, szl (by omega), q⟩⟩
structure MetKX (P : Program) (w : World) (K : PySem.W.Frag) (mg : Str → Option Value) (base : Heap) (k : Nat) (C : Addr) (m : Str) (sp : Sp) (n : Nat) (ks : List Str) : Prop where
  ex : ∃ (f : Addr) (fd : FuncData) (ps : List Str), Cls K C ∧ Meth K C m f ∧ FnOk P w K mg base (L2.CX P w) k f fd ps sp ∧ KBn K fd ps n ks (fun us ws => us ++ ws) (fun us ws => us ++ ws)
section
variable {X : Cx} {k j : Nat} {C : Addr} {m : Str} {sp : Sp} {apos pos : Pos} {e o : Expr} {es : List Expr} {ta : TE} {t tk : TA} {dvs : List V} {E : XK}
theorem pe_mtX {pl : Sem Bool} (c : MetX X.prog X.w X.K X.mg X.base k C m sp dvs) (hr : Room j X.A) (hk : k ≤ j) (hx : Passes (L2.CX X.prog X.w) X E) (he : PE X o ta) (ha : PA X (e :: es) t)
    (hst : NoStar X pos e es := by exact ⟨rfl, rfl⟩) (ht : MC X o m apos pos (e :: es) [] pl := by exact rfl) : PE X (.Call (.Attribute o m apos) (e :: es) [] pos) (tMeth C m sp dvs E ta t) := by
  obtain ⟨f, fd, ps, ds, hc, hm, F, b, d⟩ := c.ex
  exact pe_meth (pl := pl) he hc hm F (hr.mono hk) b d hx ha hst.1 hst.2 ht
theorem pe_mtSX {pl : Sem Bool} (c : MetSX X.prog X.w X.K X.mg X.base k C m sp) (hr : Room j X.A) (hk : k ≤ j) (hx : Passes (L2.CX X.prog X.w) X E) (he : PE X o ta) (ha : PA X (e :: es) t)
    (hst : NoStar X pos e es := by exact ⟨rfl, rfl⟩) (ht : MC X o m apos pos (e :: es) [] pl := by exact rfl) : PE X (.Call (.Attribute o m apos) (e :: es) [] pos) (tMethR C m (StarW sp) E ta t) := by
  obtain ⟨f, hc, hm, F⟩ := c.ex
  exact pe_methR (pl := pl) he hc hm F (hr.mono hk) hx ha hst.1 hst.2 ht
def tMethKX (C : Addr) (m : Str) (n r : Nat) (sp : Sp) (E : XK) (ta : TE) (t tk : TA) : TE := fun σ H Q => ta σ H fun x H1 => ∃ a dx fs, x = .ref a ∧ H1 a = some (.ins C dx fs) ∧ fs.lookup m = none ∧ t σ H1 fun vs H2 => tk σ H2 fun zs H3 => (x :: vs).length = n ∧ zs.length = r ∧ sp (x :: (vs ++ zs)) H3 Q E
theorem pe_mtKX {pl : Sem Bool} {n r : Nat} {ks : List Str} {kws : List Keyword} (c : MetKX X.prog X.w X.K X.mg X.base k C m sp n ks) (hr : Room j X.A) (hk : k ≤ j) (hx : Passes (L2.CX X.prog X.w) X E) (he : PE X o ta) (ha : PA X (e :: es) t) (hkw : PK X kws tk)
    (hq : KwOk X pos e es kws ks := by exact ⟨rfl, rfl, rfl, rfl⟩) (ht : MC X o m apos pos (e :: es) kws pl := by exact rfl) (hl : ks.length = r := by rfl) : PE X (.Call (.Attribute o m apos) (e :: es) kws pos) (tMethKX C m n r sp E ta t tk) := by
  subst hl
  obtain ⟨f, fd, ps, hc, hm, F, hb⟩ := c.ex
  refine ⟨fun pins s σ H Q I h => PySem.W.methodCall_KW (pl := pl) (thn (he.run pins s σ H _ I h) fun u s1 hu => ?_) ht⟩
  obtain ⟨x, H1, I1, rx, a, dx, fs, rfl, ea, l, q⟩ := hu
  cases rx
  refine getmeth_ok I1 ea hc hm l (PySem.W.callWith_KW (first := [.ref a]) (h₀ := X.base) I.ok.mod.kin hm.kp hq.1 (thn (ha.run pos pins s1 σ H1 _ I1 q) fun us s2 hu => ?_) hq.2.2.2 hq.2.2.1)
  obtain ⟨vs, H2, I2, r, q2⟩ := hu
  refine thn (hkw.run pos pins s2 σ H2 _ I2 q2) fun ws s3 hw => ?_
  obtain ⟨zs, H3, I3, rz, l1, l2, q3⟩ := hw
  refine ⟨I3.kIn, ?_⟩
  rw [hq.2.1]
  exact run_fnN (us := .ref a :: us) (vs := .ref a :: vs) F (hr.mono hk) hb hx I3 (.cons rfl r) rz l1 l2 q3
end
section
variable {σ : L2.St} {H : Hp} {Q : VK} {ta : TE} {tl tk : TA} {sp : Sp} {C : Addr} {m : Str} {E : XK}
def MetWKX (C : Addr) (m : Str) (n r : Nat) (sp : Sp) (E : XK) (t tk : TA) (σ : L2.St) (Q : VK) (x : V) (H1 : Hp) : Prop := ∃ a dx fs, x = .ref a ∧ H1 a = some (.ins C dx fs) ∧ fs.lookup m = none ∧ t σ H1 fun vs H2 => tk σ H2 fun zs H3 => (x :: vs).length = n ∧ zs.length = r ∧ sp (x :: (vs ++ zs)) H3 Q E
theorem wp_methKX {n r : Nat} (h : ta σ H fun x H1 => MetWKX C m n r sp E tl tk σ Q x H1) : tMethKX C m n r sp E ta tl tk σ H Q := h
theorem met_atKX {a dx : Addr} {fs : List (Str × V)} {n r : Nat} (ha : H a = some (.ins C dx fs)) (hl : fs.lookup m = none) (q : tl σ H fun vs H2 => tk σ H2 fun zs H3 => (V.ref a :: vs).length = n ∧ zs.length = r ∧ sp (.ref a :: (vs ++ zs)) H3 Q E) : MetWKX C m n r sp E tl tk σ Q (.ref a) H := ⟨a, dx, fs, rfl, ha, hl, q⟩
end
end RM
namespace RM
open PySem PySem.Spec PyProof.Rows L2
local macro_rules | `(tactic| walk_at "vn") => `(tactic| (first
  | with_reducible refine wp_v0 ?_
  | with_reducible refine wp_v1 ?_
  | with_reducible refine wp_v2 ?_
  | with_reducible refine wp_v3 ?_
  | with_reducible refine wp_v4 ?_
  | with_reducible refine wp_v5 ?_
  | with_reducible refine wp_v6 ?_
  | with_reducible refine wp_v7 ?_
  | with_reducible refine wp_v8 ?_
  | with_reducible refine wp_v9 ?_
  | with_reducible refine wp_v10 ?_
  | with_reducible refine wp_v11 ?_
  | with_reducible refine wp_v12 ?_
  | with_reducible refine wp_v13 ?_
  | with_reducible refine wp_v14 ?_
  | with_reducible refine wp_v15 ?_
  | with_reducible refine wp_v16 ?_
  | with_reducible refine wp_v17 ?_
  | with_reducible refine wp_v18 ?_
  | with_reducible refine wp_v19 ?_
  | with_reducible refine wp_v20 ?_
  | with_reducible refine wp_v21 ?_
  | with_reducible refine wp_v22 ?_
  | with_reducible refine wp_v23 ?_
  | with_reducible refine wp_v24 ?_
  | with_reducible refine wp_v25 ?_))
local macro_rules | `(tactic| walk_at "gn") => `(tactic| (first
  | with_reducible refine wp_g0 ?_
  | with_reducible refine wp_g1 ?_
  | with_reducible refine wp_g2 ?_
  | with_reducible refine wp_g3 ?_
  | with_reducible refine wp_g4 ?_
  | with_reducible refine wp_g5 ?_
  | with_reducible refine wp_g6 ?_
  | with_reducible refine wp_g7 ?_
  | with_reducible refine wp_g8 ?_
  | with_reducible refine wp_g9 ?_
  | with_reducible refine wp_g10 ?_
  | with_reducible refine wp_g11 ?_
  | with_reducible refine wp_g12 ?_
  | with_reducible refine wp_g13 ?_
  | with_reducible refine wp_g14 ?_
  | with_reducible refine wp_g15 ?_
  | with_reducible refine wp_g16 ?_
  | with_reducible refine wp_g17 ?_
  | with_reducible refine wp_g18 ?_
  | with_reducible refine wp_g19 ?_
  | with_reducible refine wp_g20 ?_
  | with_reducible refine wp_g21 ?_
  | with_reducible refine wp_g22 ?_
  | with_reducible refine wp_g23 ?_
  | with_reducible refine wp_g24 ?_
  | with_reducible refine wp_g25 ?_))
local macro_rules | `(tactic| walk_at "h") => `(tactic| (first
  | assumption
  | exact upd_same
  | exact (Sees.sub (by assumption) _ _ (by assumption))
  | exact (Sees.sub (by assumption) _ _ upd_same)
  | exact (Sees.sub (by assumption) _ _ (Eq.trans (upd_ne (by first | assumption | exact Ne.symm (by assumption))) (by assumption)))
  | exact (Sees.cell (by assumption))
  | exact (Sees.sub (by assumption) _ _ (Sees.cell (by assumption))) | fail "h"))
local macro_rules | `(tactic| walk_at "sq") => `(tactic| (first | assumption | exact sq_of (by walk_at "h") | fail "sq"))
local macro_rules | `(tactic| walk_at "tq") => `(tactic| (first | assumption | exact st_of (by walk_at "h") | fail "tq"))
local macro_rules | `(tactic| walk_at "isi") => `(tactic| (first
  | with_reducible refine is_non_int ?_
  | with_reducible refine is_non_bool ?_
  | with_reducible refine is_non_str ?_
  | with_reducible refine is_non_dict ?_
  | with_reducible refine is_non_list ?_
  | with_reducible refine is_non_tuple ?_
  | with_reducible refine is_bl_int ?_
  | with_reducible refine is_bl_bool ?_
  | with_reducible refine is_bl_str ?_
  | with_reducible refine is_bl_dict ?_
  | with_reducible refine is_bl_list ?_
  | with_reducible refine is_bl_tuple ?_
  | with_reducible refine is_int_int ?_
  | with_reducible refine is_int_bool ?_
  | with_reducible refine is_int_str ?_
  | with_reducible refine is_int_dict ?_
  | with_reducible refine is_int_list ?_
  | with_reducible refine is_int_tuple ?_
  | with_reducible refine is_str_int ?_
  | with_reducible refine is_str_bool ?_
  | with_reducible refine is_str_str ?_
  | with_reducible refine is_str_dict ?_
  | with_reducible refine is_str_list ?_
  | with_reducible refine is_str_tuple ?_
  | ((with_reducible refine' is_lst_int ?k1 ?_); (case k1 => walk_at "h"))
  | ((with_reducible refine' is_lst_bool ?k1 ?_); (case k1 => walk_at "h"))
  | ((with_reducible refine' is_lst_str ?k1 ?_); (case k1 => walk_at "h"))
  | ((with_reducible refine' is_lst_dict ?k1 ?_); (case k1 => walk_at "h"))
  | ((with_reducible refine' is_lst_list ?k1 ?_); (case k1 => walk_at "h"))
  | ((with_reducible refine' is_lst_tuple ?k1 ?_); (case k1 => walk_at "h"))
  | ((with_reducible refine' is_tup_int ?k1 ?_); (case k1 => walk_at "h"))
  | ((with_reducible refine' is_tup_bool ?k1 ?_); (case k1 => walk_at "h"))
  | ((with_reducible refine' is_tup_str ?k1 ?_); (case k1 => walk_at "h"))
  | ((with_reducible refine' is_tup_dict ?k1 ?_); (case k1 => walk_at "h"))
  | ((with_reducible refine' is_tup_list ?k1 ?_); (case k1 => walk_at "h"))
  | ((with_reducible refine' is_tup_tuple ?k1 ?_); (case k1 => walk_at "h"))
  | ((with_reducible refine' is_dK_int ?k1 ?_); (case k1 => walk_at "h"))
  | ((with_reducible refine' is_dK_bool ?k1 ?_); (case k1 => walk_at "h"))
  | ((with_reducible refine' is_dK_str ?k1 ?_); (case k1 => walk_at "h"))
  | ((with_reducible refine' is_dK_dict ?k1 ?_); (case k1 => walk_at "h"))
  | ((with_reducible refine' is_dK_list ?k1 ?_); (case k1 => walk_at "h"))
  | ((with_reducible refine' is_dK_tuple ?k1 ?_); (case k1 => walk_at "h"))
  | fail "isi"))
local macro_rules | `(tactic| walk_at "len") => `(tactic| (first | assumption | omega | (simp only [List.length_map, List.length_append, List.length_cons, List.length_nil] <;> omega) | decide | fail "len"))
local macro_rules | `(tactic| walk_at "at") => `(tactic| (first | exact at0 | exact at1 | exact at2 | exact at3 | exact at4 | rfl | assumption | fail "at"))
local macro_rules | `(tactic| walk_at "one") => `(tactic| (first
  | with_reducible refine wp_seq ?_
  | with_reducible refine wp_asg ?_
  | ((with_reducible refine is_var ?_); walk_at "vn")
  | ((with_reducible refine is_gname ?_); walk_at "gn")
  | with_reducible refine wp_c ?_
  | with_reducible refine wp_op ?_
  | with_reducible refine wp_cb ?_
  | with_reducible refine wp_cons ?_
  | with_reducible refine wp_nil ?_
  | with_reducible refine wp_call ?_
  | with_reducible refine wp_ret ?_
  | with_reducible refine wp_dgetE ?_
  | with_reducible refine wp_forItems ?_
  | with_reducible refine wp_forOwnL ?_
  | with_reducible refine wp_forOwnK ?_
  | with_reducible refine wp_subOwn ?_
  | with_reducible refine wp_din ?_
  | with_reducible refine wp_next ?_
  | with_reducible refine wp_rI0 ?_
  | with_reducible refine wp_int1 ?_
  | with_reducible refine wp_test ?_
  | with_reducible refine wp_bl ?_
  | with_reducible refine wp_ifS ?_
  | with_reducible refine wp_drop ?_
  | with_reducible refine wp_eqI ?_
  | with_reducible refine wp_eqS ?_
  | with_reducible refine wp_eqB ?_
  | with_reducible refine wp_neI ?_
  | with_reducible refine wp_neS ?_
  | with_reducible refine wp_min2 ?_
  | with_reducible refine wp_max2 ?_
  | with_reducible refine wp_find ?_
  | with_reducible refine wp_B ?_
  | with_reducible refine wp_not ?_
  | with_reducible refine wp_and ?_
  | with_reducible refine wp_or ?_
  | with_reducible refine wp_notV ?_
  | with_reducible refine wp_andV ?_
  | with_reducible refine wp_orV ?_
  | with_reducible refine wp_ifE ?_
  | with_reducible refine wp_chain ?_
  | with_reducible refine wp_slice ?_
  | with_reducible refine wp_noPart ?_
  | with_reducible refine wp_part ?_
  | with_reducible refine wp_partI ?_
  | with_reducible refine wp_for1 ?_
  | with_reducible refine wp_for2 ?_
  | with_reducible refine wp_forL ?_
  | with_reducible refine wp_forT ?_
  | with_reducible refine wp_forS ?_
  | with_reducible refine wp_lcL ?_
  | with_reducible refine wp_lcT ?_
  | with_reducible refine wp_lcS ?_
  | with_reducible refine wp_lc1 ?_
  | with_reducible refine wp_lcE ?_
  | with_reducible refine wp_starT ?_
  | with_reducible refine wp_brk ?_
  | with_reducible refine wp_cont ?_
  | with_reducible refine wp_bm ?_
  | with_reducible refine wp_bm0 ?_
  | with_reducible refine wp_gsub ?_
  | with_reducible refine wp_inS ?_
  | with_reducible refine wp_notInS ?_
  | with_reducible refine wp_un ?_
  | with_reducible refine wp_rU ?_
  | with_reducible refine wp_tup ?_
  | with_reducible refine wp_lst ?_
  | with_reducible refine ty_str ?_
  | with_reducible refine ite_t ?_
  | with_reducible refine ite_f ?_
  | with_reducible refine ite_nt ?_
  | with_reducible refine ite_nff ?_
  | ((with_reducible refine' ite_T ?k1 ?_); (case k1 => omega))
  | ((with_reducible refine' ite_F ?k1 ?_); (case k1 => omega))
  | ((with_reducible refine' ite_nT ?k1 ?_); (case k1 => omega))
  | ((with_reducible refine' ite_nF ?k1 ?_); (case k1 => omega))
  | ((with_reducible refine' wp_rI ?k1 ?_); (case k1 => (first | omega | exact ⟨by omega, by omega⟩ | exact .inr ⟨by decide, by decide⟩ | exact .inl ⟨by omega, by omega⟩ | exact .inl ⟨by decide, by decide⟩ | exact ⟨by decide, by decide, by decide⟩)))
  | ((with_reducible refine' wp_ixL ?k1 ?k2 ?_); (case k1 => walk_at "sq"); (case k2 => walk_at "at"))
  | ((with_reducible refine' wp_setL0 ?k1 ?_); (case k1 => walk_at "h"))
  | ((with_reducible refine' wp_setL1 ?k1 ?_); (case k1 => walk_at "h"))
  | ((with_reducible refine' wp_setL ?k1 ?k2 ?_); (case k1 => walk_at "h"); (case k2 => walk_at "at"))
  | ((with_reducible refine' wp_ixT ?k1 ?k2 ?_); (case k1 => walk_at "tq"); (case k2 => walk_at "at"))
  | ((with_reducible refine' wp_lenL ?k1 ?_); (case k1 => walk_at "sq"))
  | ((with_reducible refine' wp_lenT ?k1 ?_); (case k1 => walk_at "tq"))
  | ((with_reducible refine' wp_sliceS ?k1 ?_); (case k1 => walk_at "len"))
  | ((with_reducible refine is_isi ?_); walk_at "isi")
  | ((with_reducible refine' wp_lenS ?k1 ?_); (case k1 => walk_at "len"))
  | ((with_reducible refine' wp_addS ?k1 ?_); (case k1 => walk_at "len"))
  | ((with_reducible refine' wp_lenStr ?k1 ?_); (case k1 => walk_at "len"))
  | ((with_reducible refine' ty_list ?k1 ?_); (case k1 => walk_at "sq"))
  | ((with_reducible refine' wp_addStr ?k1 ?_); (case k1 => walk_at "len"))
  | with_reducible refine wp_fldC ?_
  | with_reducible refine wp_sfldC ?_
  | with_reducible refine wp_prop ?_
  | with_reducible refine wp_meth ?_
  | with_reducible refine wp_methD ?_
  | with_reducible refine wp_methK ?_
  | with_reducible refine wp_yes ?_
  | with_reducible refine wp_methR ?_
  | with_reducible refine wp_make ?_
  | with_reducible refine wp_isN ?_
  | with_reducible refine wp_enum ?_
  | with_reducible refine wp_gcons ?_
  | with_reducible refine wp_gnil ?_
  | ((with_reducible refine' wp_gtup ?k1 ?k2 ?_); (case k1 => walk_at "tq"); (case k2 => first | rfl | fail "gtup"))
  | ((with_reducible refine' fld_at ?k1 lk_T ?_); (case k1 => walk_at "h"))
  | ((with_reducible refine' fld_at ?k1 lk_e ?_); (case k1 => walk_at "h"))
  | ((with_reducible refine' fld_at ?k1 lk_mT ?_); (case k1 => walk_at "h"))
  | ((with_reducible refine' fld_at ?k1 lk_md ?_); (case k1 => walk_at "h"))
  | ((with_reducible refine' fld_at ?k1 lk_s ?_); (case k1 => walk_at "h"))
  | ((with_reducible refine' wp_isC ?k1 ?_); (case k1 => walk_at "h"))
  | fail "no step"))
local macro_rules | `(tactic| walk_at "st") => `(tactic| (repeat' walk_at "one"))
def Y_span : List Nat := [115, 112, 97, 110]
def Y_without : List Nat := [119, 105, 116, 104, 111, 117, 116]
def Y_changed : List Nat := [99, 104, 97, 110, 103, 101, 100]
def Y_with : List Nat := [119, 105, 116, 104]
def Y_UnknownSpan : List Nat := [85, 110, 107, 110, 111, 119, 110, 83, 112, 97, 110]
def Y_UnknownEvent : List Nat := [85, 110, 107, 110, 111, 119, 110, 69, 118, 101, 110, 116]
def Y_TooMany : List Nat := [84, 111, 111, 77, 97, 110, 121]
def Y_SameEvent : List Nat := [83, 97, 109, 101, 69, 118, 101, 110, 116]
def Y_DoubleEvent : List Nat := [68, 111, 117, 98, 108, 101, 69, 118, 101, 110, 116]
def Y_BrokenSpan : List Nat := [66, 114, 111, 107, 101, 110, 83, 112, 97, 110]
def Y_BadNumber : List Nat := [66, 97, 100, 78, 117, 109, 98, 101, 114]
def Y_WrongNames : List Nat := [87, 114, 111, 110, 103, 78, 97, 109, 101, 115]
abbrev C_MinuteError (K : PySem.W.Frag) : Addr := He.ga K "MinuteError"
abbrev C_BadName (K : PySem.W.Frag) : Addr := He.ga K "BadName"
abbrev C_BadNumber (K : PySem.W.Frag) : Addr := He.ga K "BadNumber"
abbrev C_UnknownEvent (K : PySem.W.Frag) : Addr := He.ga K "UnknownEvent"
abbrev C_DoubleEvent (K : PySem.W.Frag) : Addr := He.ga K "DoubleEvent"
abbrev C_SameEvent (K : PySem.W.Frag) : Addr := He.ga K "SameEvent"
abbrev C_WrongNames (K : PySem.W.Frag) : Addr := He.ga K "WrongNames"
abbrev C_UnknownSpan (K : PySem.W.Frag) : Addr := He.ga K "UnknownSpan"
abbrev C_BrokenSpan (K : PySem.W.Frag) : Addr := He.ga K "BrokenSpan"
abbrev C_TooMany (K : PySem.W.Frag) : Addr := He.ga K "TooMany"
abbrev C_Net (K : PySem.W.Frag) : Addr := He.ga K "Net"
def exs : List Str := ["BadName", "BadNumber", "UnknownEvent", "DoubleEvent", "SameEvent", "WrongNames", "UnknownSpan", "BrokenSpan", "TooMany"]
def top (i : Nat) : Stmt := PySem.Challenge.pw_roundminutes_k07_net_changes_refused.main.body.getD i (.Pass ⟨0, 0, 0, 0⟩)
def inClass (st : Stmt) (j : Nat) : Stmt := (C8.clsBody st).getD j (.Pass ⟨0, 0, 0, 0⟩)
abbrev s_check_range : Stmt := top 19
abbrev s_check_round_length : Stmt := top 20
abbrev s_check_count : Stmt := top 21
abbrev s_is_name : Stmt := top 16
abbrev s_check_name : Stmt := top 17
abbrev s_check_event : Stmt := top 22
abbrev s_check_known : Stmt := top 23
abbrev s_check_span : Stmt := top 24
abbrev s_check_net : Stmt := top 25
abbrev s_Net_init : Stmt := inClass (top 26) 5
abbrev s_Net_spans : Stmt := inClass (top 26) 9
abbrev s_l_pool : Stmt := top 28
abbrev s_l_draw : Stmt := top 29
abbrev s_l_word : Stmt := top 31
abbrev s_l_names : Stmt := top 32
abbrev s_l_stranger : Stmt := top 33
abbrev s_l_length : Stmt := top 34
abbrev s_l_size : Stmt := top 36
abbrev s_l_some : Stmt := top 30
abbrev s_l_weight : Stmt := top 35
abbrev s_l_span : Stmt := top 37
abbrev s_l_spans : Stmt := top 38
abbrev s_l_is_int : Stmt := top 39
abbrev s_l_same : Stmt := top 40
abbrev s_l_filled : Stmt := top 41
abbrev s_l_number : Stmt := top 42
abbrev s_l_bounds : Stmt := top 43
abbrev s_Net_round_length : Stmt := inClass (top 26) 7
abbrev s_Net_events : Stmt := inClass (top 26) 8
abbrev s_l_tests : Stmt := top 44
abbrev s_l_due : Stmt := top 45
abbrev s_Netcheck_number : Stmt := inClass (top 26) 15
abbrev s_Net_span : Stmt := inClass (top 26) 16
abbrev s_Net_with_span : Stmt := inClass (top 26) 17
abbrev s_Net_without : Stmt := inClass (top 26) 18
abbrev s_Net_changed : Stmt := inClass (top 26) 19
abbrev s_l_do : Stmt := top 46
abbrev s_l_flags : Stmt := top 47
abbrev s_l_told : Stmt := top 48
abbrev s_l_outcome : Stmt := top 49
abbrev s_l_holds : Stmt := top 50
abbrev s_law : Stmt := top 51
abbrev s_BadName_init : Stmt := inClass (top 3) 0
abbrev s_BadNumber_init : Stmt := inClass (top 4) 0
abbrev s_DoubleEvent_init : Stmt := inClass (top 6) 0
abbrev s_SameEvent_init : Stmt := inClass (top 7) 0
abbrev s_TooMany_init : Stmt := inClass (top 11) 0
abbrev s_UnknownEvent_init : Stmt := inClass (top 5) 0
abbrev s_UnknownSpan_init : Stmt := inClass (top 9) 0
def d_check_range : DX := ⟨fun K => He.ga K "check_range", "check_range", "check_range", defArgs s_check_range, defBody s_check_range, defScope s_check_range, [], []⟩
def d_check_round_length : DX := ⟨fun K => He.ga K "check_round_length", "check_round_length", "check_round_length", defArgs s_check_round_length, defBody s_check_round_length, defScope s_check_round_length, [], []⟩
def d_check_count : DX := ⟨fun K => He.ga K "check_count", "check_count", "check_count", defArgs s_check_count, defBody s_check_count, defScope s_check_count, [], []⟩
def d_is_name : DX := ⟨fun K => He.ga K "is_name", "is_name", "is_name", defArgs s_is_name, defBody s_is_name, defScope s_is_name, [], []⟩
def d_check_name : DX := ⟨fun K => He.ga K "check_name", "check_name", "check_name", defArgs s_check_name, defBody s_check_name, defScope s_check_name, [], []⟩
def d_check_event : DX := ⟨fun K => He.ga K "check_event", "check_event", "check_event", defArgs s_check_event, defBody s_check_event, defScope s_check_event, [], []⟩
def d_check_known : DX := ⟨fun K => He.ga K "check_known", "check_known", "check_known", defArgs s_check_known, defBody s_check_known, defScope s_check_known, [], []⟩
def d_check_span : DX := ⟨fun K => He.ga K "check_span", "check_span", "check_span", defArgs s_check_span, defBody s_check_span, defScope s_check_span, [], []⟩
def d_check_net : DX := ⟨fun K => He.ga K "check_net", "check_net", "check_net", defArgs s_check_net, defBody s_check_net, defScope s_check_net, [], []⟩
def d_Net_init : DX := ⟨fun K => He.ma K (He.ga K "Net") "__init__", "__init__", "Net.__init__", defArgs s_Net_init, defBody s_Net_init, defScope s_Net_init, [], []⟩
def d_Net_spans : DX := ⟨fun K => gAd K (He.ga K "Net") "spans", "spans", "Net.spans", defArgs s_Net_spans, defBody s_Net_spans, defScope s_Net_spans, [], []⟩
def d_l_pool : DX := ⟨fun K => He.ga K "_law_pool", "_law_pool", "_law_pool", defArgs s_l_pool, defBody s_l_pool, defScope s_l_pool, [], []⟩
def d_l_draw : DX := ⟨fun K => He.ga K "_law_draw", "_law_draw", "_law_draw", defArgs s_l_draw, defBody s_l_draw, defScope s_l_draw, [], []⟩
def d_l_word : DX := ⟨fun K => He.ga K "_law_word", "_law_word", "_law_word", defArgs s_l_word, defBody s_l_word, defScope s_l_word, [], []⟩
def d_l_names : DX := ⟨fun K => He.ga K "_law_names", "_law_names", "_law_names", defArgs s_l_names, defBody s_l_names, defScope s_l_names, [], []⟩
def d_l_stranger : DX := ⟨fun K => He.ga K "_law_stranger", "_law_stranger", "_law_stranger", defArgs s_l_stranger, defBody s_l_stranger, defScope s_l_stranger, [], []⟩
def d_l_length : DX := ⟨fun K => He.ga K "_law_length", "_law_length", "_law_length", defArgs s_l_length, defBody s_l_length, defScope s_l_length, [], []⟩
def d_l_size : DX := ⟨fun K => He.ga K "_law_size", "_law_size", "_law_size", defArgs s_l_size, defBody s_l_size, defScope s_l_size, [], []⟩
def d_l_some : DX := ⟨fun K => He.ga K "_law_some", "_law_some", "_law_some", defArgs s_l_some, defBody s_l_some, defScope s_l_some, [], []⟩
def d_l_weight : DX := ⟨fun K => He.ga K "_law_weight", "_law_weight", "_law_weight", defArgs s_l_weight, defBody s_l_weight, defScope s_l_weight, [], []⟩
def d_l_span : DX := ⟨fun K => He.ga K "_law_span", "_law_span", "_law_span", defArgs s_l_span, defBody s_l_span, defScope s_l_span, [], []⟩
def d_l_spans : DX := ⟨fun K => He.ga K "_law_spans", "_law_spans", "_law_spans", defArgs s_l_spans, defBody s_l_spans, defScope s_l_spans, [], []⟩
def d_l_is_int : DX := ⟨fun K => He.ga K "_law_is_int", "_law_is_int", "_law_is_int", defArgs s_l_is_int, defBody s_l_is_int, defScope s_l_is_int, [], []⟩
def d_l_same : DX := ⟨fun K => He.ga K "_law_same", "_law_same", "_law_same", defArgs s_l_same, defBody s_l_same, defScope s_l_same, [], []⟩
def d_l_filled : DX := ⟨fun K => He.ga K "_law_filled", "_law_filled", "_law_filled", defArgs s_l_filled, defBody s_l_filled, defScope s_l_filled, [], []⟩
def d_l_number : DX := ⟨fun K => He.ga K "_law_number", "_law_number", "_law_number", defArgs s_l_number, defBody s_l_number, defScope s_l_number, [], []⟩
def d_l_bounds : DX := ⟨fun K => He.ga K "_law_bounds", "_law_bounds", "_law_bounds", defArgs s_l_bounds, defBody s_l_bounds, defScope s_l_bounds, [], []⟩
def d_Net_round_length : DX := ⟨fun K => gAd K (He.ga K "Net") "round_length", "round_length", "Net.round_length", defArgs s_Net_round_length, defBody s_Net_round_length, defScope s_Net_round_length, [], []⟩
def d_Net_events : DX := ⟨fun K => gAd K (He.ga K "Net") "events", "events", "Net.events", defArgs s_Net_events, defBody s_Net_events, defScope s_Net_events, [], []⟩
def d_l_tests : DX := ⟨fun K => He.ga K "_law_tests", "_law_tests", "_law_tests", defArgs s_l_tests, defBody s_l_tests, defScope s_l_tests, [], []⟩
def d_l_due : DX := ⟨fun K => He.ga K "_law_due", "_law_due", "_law_due", defArgs s_l_due, defBody s_l_due, defScope s_l_due, [], []⟩
def d_Netcheck_number : DX := ⟨fun K => He.ma K (He.ga K "Net") "_check_number", "_check_number", "Net._check_number", defArgs s_Netcheck_number, defBody s_Netcheck_number, defScope s_Netcheck_number, [], []⟩
def d_Net_span : DX := ⟨fun K => He.ma K (He.ga K "Net") "span", "span", "Net.span", defArgs s_Net_span, defBody s_Net_span, defScope s_Net_span, [], []⟩
def d_Net_with_span : DX := ⟨fun K => He.ma K (He.ga K "Net") "with_span", "with_span", "Net.with_span", defArgs s_Net_with_span, defBody s_Net_with_span, defScope s_Net_with_span, [], [("weight", .int 1)]⟩
def d_Net_without : DX := ⟨fun K => He.ma K (He.ga K "Net") "without", "without", "Net.without", defArgs s_Net_without, defBody s_Net_without, defScope s_Net_without, [], []⟩
def d_Net_changed : DX := ⟨fun K => He.ma K (He.ga K "Net") "changed", "changed", "Net.changed", defArgs s_Net_changed, defBody s_Net_changed, defScope s_Net_changed, [], []⟩
def d_l_do : DX := ⟨fun K => He.ga K "_law_do", "_law_do", "_law_do", defArgs s_l_do, defBody s_l_do, defScope s_l_do, [], []⟩
def d_l_flags : DX := ⟨fun K => He.ga K "_law_flags", "_law_flags", "_law_flags", defArgs s_l_flags, defBody s_l_flags, defScope s_l_flags, [], []⟩
def d_l_told : DX := ⟨fun K => He.ga K "_law_told", "_law_told", "_law_told", defArgs s_l_told, defBody s_l_told, defScope s_l_told, [], []⟩
def d_l_outcome : DX := ⟨fun K => He.ga K "_law_outcome", "_law_outcome", "_law_outcome", defArgs s_l_outcome, defBody s_l_outcome, defScope s_l_outcome, [], []⟩
def d_l_holds : DX := ⟨fun K => He.ga K "_law_holds", "_law_holds", "_law_holds", defArgs s_l_holds, defBody s_l_holds, defScope s_l_holds, [], []⟩
def d_law : DX := ⟨fun K => He.ga K "law", "law", "law", defArgs s_law, defBody s_law, defScope s_law, [], []⟩
def d_BadName_init : DX := ⟨fun K => He.ma K (He.ga K "BadName") "__init__", "__init__", "BadName.__init__", defArgs s_BadName_init, defBody s_BadName_init, defScope s_BadName_init, [], []⟩
def d_BadNumber_init : DX := ⟨fun K => He.ma K (He.ga K "BadNumber") "__init__", "__init__", "BadNumber.__init__", defArgs s_BadNumber_init, defBody s_BadNumber_init, defScope s_BadNumber_init, [], []⟩
def d_DoubleEvent_init : DX := ⟨fun K => He.ma K (He.ga K "DoubleEvent") "__init__", "__init__", "DoubleEvent.__init__", defArgs s_DoubleEvent_init, defBody s_DoubleEvent_init, defScope s_DoubleEvent_init, [], []⟩
def d_SameEvent_init : DX := ⟨fun K => He.ma K (He.ga K "SameEvent") "__init__", "__init__", "SameEvent.__init__", defArgs s_SameEvent_init, defBody s_SameEvent_init, defScope s_SameEvent_init, [], []⟩
def d_TooMany_init : DX := ⟨fun K => He.ma K (He.ga K "TooMany") "__init__", "__init__", "TooMany.__init__", defArgs s_TooMany_init, defBody s_TooMany_init, defScope s_TooMany_init, [], []⟩
def d_UnknownEvent_init : DX := ⟨fun K => He.ma K (He.ga K "UnknownEvent") "__init__", "__init__", "UnknownEvent.__init__", defArgs s_UnknownEvent_init, defBody s_UnknownEvent_init, defScope s_UnknownEvent_init, [], []⟩
def d_UnknownSpan_init : DX := ⟨fun K => He.ma K (He.ga K "UnknownSpan") "__init__", "__init__", "UnknownSpan.__init__", defArgs s_UnknownSpan_init, defBody s_UnknownSpan_init, defScope s_UnknownSpan_init, [], []⟩
def fns : List DX := [d_check_range, d_check_round_length, d_check_count, d_is_name, d_check_name, d_check_event, d_check_known, d_check_span, d_check_net, d_Net_init, d_Net_spans, d_l_pool, d_l_draw, d_l_word, d_l_names, d_l_stranger, d_l_length, d_l_size, d_l_some, d_l_weight, d_l_span, d_l_spans, d_l_is_int, d_l_same, d_l_filled, d_l_number, d_l_bounds, d_Net_round_length, d_Net_events, d_l_tests, d_l_due, d_Netcheck_number, d_Net_span, d_Net_with_span, d_Net_without, d_Net_changed, d_l_do, d_l_flags, d_l_told, d_l_outcome, d_l_holds, d_law, d_BadName_init, d_BadNumber_init, d_DoubleEvent_init, d_SameEvent_init, d_TooMany_init, d_UnknownEvent_init, d_UnknownSpan_init]
def bs : List (PySem.W.Frag → Bool) := [bRead "Net", bCval "Net" "EVENTS" 12, bCval "Net" "SPANS" 24, bCval "Net" "LONGEST" 120, bCval "Net" "SHORTEST" 3, bOex "BadNumber", bOex "TooMany", bOex "DoubleEvent", bOex "BadName", bOex "SameEvent", bCval "Net" "HEAVIEST" 99, bOex "UnknownEvent", bOex "UnknownSpan", bXf "BadNumber", bXf "SameEvent", bXf "TooMany", bXf "UnknownEvent", bXf "UnknownSpan", bXall exs, bProp "Net" "spans", bProp "Net" "round_length", bProp "Net" "events"]
def fas : List He.Fa := [.glo "check_range", .glo "check_round_length", .glo "check_count", .glo "is_name", .glo "check_name", .glo "check_event", .glo "check_known", .glo "check_span", .glo "check_net", .mkr "Net", .glo "_law_pool", .glo "_law_draw", .glo "_law_word", .glo "_law_names", .glo "_law_stranger", .glo "_law_length", .glo "_law_size", .glo "_law_some", .glo "_law_weight", .glo "_law_span", .glo "_law_spans", .glo "_law_is_int", .glo "_law_same", .glo "_law_filled", .glo "_law_number", .glo "_law_bounds", .glo "_law_tests", .glo "_law_due", .meth "Net" "_check_number", .meth "Net" "span", .meth "Net" "with_span", .meth "Net" "without", .meth "Net" "changed", .glo "_law_do", .glo "_law_flags", .glo "_law_told", .glo "_law_outcome", .glo "_law_holds", .glo "law", .meth "BadName" "__init__", .meth "BadNumber" "__init__", .meth "DoubleEvent" "__init__", .meth "SameEvent" "__init__", .meth "TooMany" "__init__", .meth "UnknownEvent" "__init__", .meth "UnknownSpan" "__init__", .free "len", .free "list", .cls "Net", .noat "Net" "_round_length", .noat "Net" "_events", .noat "Net" "_spans", .glo "Net", .free "enumerate", .glo "BadNumber", .noat "BadNumber" "number", .glo "TooMany", .noat "TooMany" "count", .noat "TooMany" "limit", .glo "DoubleEvent", .noat "DoubleEvent" "name", .glo "BadName", .noat "BadName" "name", .int "LONGEST_NAME" (8), .str "LETTERS" "abcdefghijklmnopqrstuvwxyz", .str "DIGITS" "0123456789", .free "all", .glo "SameEvent", .noat "SameEvent" "name", .glo "UnknownEvent", .noat "UnknownEvent" "name", .free "int", .free "range", .free "str", .free "min", .free "max", .free "bool", .free "isinstance", .free "dict", .free "tuple", .glo "UnknownSpan", .noat "UnknownSpan" "number", .glo "MinuteError", .glo "WrongNames", .glo "BrokenSpan", .free "ValueError"]
abbrev Rw : PySem.W.OpenRow := PySem.W.OpenLaw.row PySem.Challenge.rw_roundminutes_k07_net_changes_refused
abbrev hk : PySem.W.Hook := hookX 5 bs fas fns
def ob (s : PySem.W.SharedT) : AlX := obsXG 5 bs fas fns (HandSHeadRun.getT s)
theorem ob_ok (s : PySem.W.SharedT) : ob s = hk.obs s.abs := obsXG_eq (HandSHeadRun.getT_eq s)
def loose : List Str := [("_wall" : Str), ("MinuteError" : Str), ("BadName" : Str), ("BadNumber" : Str), ("UnknownEvent" : Str), ("DoubleEvent" : Str), ("SameEvent" : Str), ("WrongNames" : Str), ("UnknownSpan" : Str), ("BrokenSpan" : Str), ("TooMany" : Str), ("LETTERS" : Str), ("DIGITS" : Str), ("LONGEST_NAME" : Str), ("is_name" : Str), ("check_name" : Str), ("check_range" : Str), ("check_round_length" : Str), ("check_count" : Str), ("check_event" : Str), ("check_known" : Str), ("check_span" : Str), ("check_net" : Str), ("Net" : Str), ("_law_pool" : Str), ("_law_draw" : Str), ("_law_some" : Str), ("_law_word" : Str), ("_law_names" : Str), ("_law_stranger" : Str), ("_law_length" : Str), ("_law_weight" : Str), ("_law_size" : Str), ("_law_span" : Str), ("_law_spans" : Str), ("_law_is_int" : Str), ("_law_same" : Str), ("_law_filled" : Str), ("_law_number" : Str), ("_law_bounds" : Str), ("_law_tests" : Str), ("_law_due" : Str), ("_law_do" : Str), ("_law_flags" : Str), ("_law_told" : Str), ("_law_outcome" : Str), ("_law_holds" : Str)]
theorem run (w : World) : HandSHeadRun.RunEq Rw (PySem.W.view Rw.prog [51]) hk ob 8000 loose w := by
  intro os
  kernel_rfl
/-- an error that is due: its class and its fields -/
structure Er where
  c : Str
  fs : List (Str × V)
def eN (n : Int) : Er := ⟨"BadNumber", [("number", .int n)]⟩
def eS (c : Str) (l : List Nat) : Er := ⟨c, [("name", sv l)]⟩
def eU (n : Int) : Er := ⟨"UnknownSpan", [("number", .int n)]⟩
def eT (a b : Int) : Er := ⟨"TooMany", [("limit", .int b), ("count", .int a)]⟩
/-- what a check says: nothing, or that error -/
def Ck (K : PySem.W.Frag) (r : Option Er) (E : XK) (H : Hp) (Q : VK) : Prop := ∀ H', Same H H' → (r = none → Q .non H') ∧ ∀ e, r = some e → Rzd (He.ga K e.c) e.fs E H'
theorem Ck.non {K : PySem.W.Frag} {r : Option Er} {E : XK} {H : Hp} {Q : VK} (h : Ck K r E H Q) (e : r = none) : Q .non H := (h H (Same.refl _)).1 e
theorem Ck.rz {K : PySem.W.Frag} {r : Option Er} {e : Er} {E : XK} {H : Hp} {Q : VK} (h : Ck K r E H Q) (q : r = some e) : Rzd (He.ga K e.c) e.fs E H := (h H (Same.refl _)).2 e q
theorem Ck.mono {K : PySem.W.Frag} {r : Option Er} {E : XK} {H H2 : Hp} {Q : VK} (h : Ck K r E H Q) (s : Same H H2) : Ck K r E H2 Q := fun H' s2 => h H' (s.trans s2)
theorem Ck.seq {K : PySem.W.Frag} {a b : Option Er} {E : XK} {H : Hp} {Q Q' : VK} (h : Ck K (a.or b) E H Q) (k : ∀ H', Same H H' → a = none → Ck K b E H' Q → Q' .non H') : Ck K a E H Q' := by
  intro H' s
  cases a with
  | none =>
      refine ⟨fun _ => k H' s rfl fun H2 s2 => ?_, fun e q => nomatch q⟩
      have z := h H2 (s.trans s2)
      rw [Option.none_or] at z
      exact z
  | some e =>
      exact ⟨(fun q => nomatch q), fun e' q => (h H' s).2 e' (by rw [← q]; rfl)⟩
theorem Ck.fst {K : PySem.W.Frag} {a b : Option Er} {E : XK} {H : Hp} {Q : VK} (h : Ck K (a.or b) E H Q) (e : a = none) : Ck K b E H Q := by rw [e, Option.none_or] at h; exact h
theorem wp_rs {C : Addr} {fs : List Str} {E : XK} {ta : TA} {D : Ends} {σ : L2.St} {H : Hp} (h : ta σ H fun vs H1 => RsW C fs E vs H1) : tRs C fs E ta D σ H := h
def cRng (n lo hi : Int) : Option Er := if lo ≤ n ∧ n ≤ hi then none else some (eN n)
def sp_check_range (K : PySem.W.Frag) : Sp := fun vs H Q E => ∃ (n lo hi : Int), vs = [.int n, .int lo, .int hi] ∧ Ck K (cRng n lo hi) E H Q
abbrev N_check_range : List Str := ["number", "low", "high"]
theorem st_check_range {a0 a1 a2 : V} : L2.start N_check_range [a0, a1, a2] = [some a0, some a1, some a2] := rfl
def t_check_range (K : PySem.W.Frag) (E : XK) : TS :=
  (tIfS ((tNot ((tTest (tChain (rI0 fun i j => .bl (decide (i ≤ j))) (rI0 fun i j => .bl (decide (i ≤ j))) (tVar 1) (tVar 0) (tVar 2)))))) ((tRs (C_BadNumber K) ["number"] E ((tCons (tVar 0) (tNil))))) (tNext))

theorem pure_check_range (K : PySem.W.Frag) (vs : List V) (H : Hp) (Q : VK) (E : XK) (h : sp_check_range K vs H Q E) : t_check_range K E { nx := fun _ H' => Q .non H', rt := Q } (L2.start N_check_range vs) H := by
  obtain ⟨n, lo, hi, rfl, k⟩ := h
  rw [st_check_range]
  unfold t_check_range
  by_cases c : lo ≤ n ∧ n ≤ hi
  · obtain ⟨h1, h2⟩ := c
    walk_at "st"
    exact k.non (if_pos ⟨h1, h2⟩)
  · have z := k.rz (e := eN n) (if_neg c)
    walk_at "st"
    refine ite_dec (fun h1 => ?_) (fun h1 => ?_)
    · walk_at "st"
      refine wp_rs ?_
      walk_at "st"
      exact rs_of rfl (by decide) z
    · walk_at "st"
      refine wp_rs ?_
      walk_at "st"
      exact rs_of rfl (by decide) z
theorem len_check_range (K : PySem.W.Frag) (vs : List V) (H : Hp) (Q : VK) (E : XK) (h : sp_check_range K vs H Q E) : vs.length = 3 := by
  obtain ⟨n, lo, hi, rfl, _⟩ := h
  rfl
theorem c_check_range {K : PySem.W.Frag} {n lo hi : Int} {H : Hp} {Q : VK} {E : XK} (k : Ck K (cRng n lo hi) E H Q) : sp_check_range K [.int n, .int lo, .int hi] H Q E := ⟨n, lo, hi, rfl, k⟩
def sp_check_round_length (K : PySem.W.Frag) : Sp := fun vs H Q E => ∃ (n : Int), vs = [.int n] ∧ Ck K (cRng n 3 120) E H Q
abbrev N_check_round_length : List Str := ["round_length"]
theorem st_check_round_length {a0 : V} : L2.start N_check_round_length [a0] = [some a0] := rfl
def t_check_round_length (K : PySem.W.Frag) (E : XK) : TS :=
  (tDrop ((tCall (sp_check_range K) [] E ((tCons (tVar 0) ((tCons (tC (.int 3)) ((tCons (tC (.int 120)) (tNil))))))))))

theorem pure_check_round_length (K : PySem.W.Frag) (vs : List V) (H : Hp) (Q : VK) (E : XK) (h : sp_check_round_length K vs H Q E) : t_check_round_length K E { nx := fun _ H' => Q .non H', rt := Q } (L2.start N_check_round_length vs) H := by
  obtain ⟨n, rfl, k⟩ := h
  rw [st_check_round_length]
  unfold t_check_round_length
  walk_at "st"
  exact c_check_range k
theorem len_check_round_length (K : PySem.W.Frag) (vs : List V) (H : Hp) (Q : VK) (E : XK) (h : sp_check_round_length K vs H Q E) : vs.length = 1 := by
  obtain ⟨n, rfl, _⟩ := h
  rfl
theorem c_check_round_length {K : PySem.W.Frag} {n : Int} {H : Hp} {Q : VK} {E : XK} (k : Ck K (cRng n 3 120) E H Q) : sp_check_round_length K [.int n] H Q E := ⟨n, rfl, k⟩
def cCnt (n m : Int) : Option Er := if n ≤ m then none else some (eT n m)
def sp_check_count (K : PySem.W.Frag) : Sp := fun vs H Q E => ∃ (n m : Int), vs = [.int n, .int m] ∧ Ck K (cCnt n m) E H Q
abbrev N_check_count : List Str := ["count", "limit"]
theorem st_check_count {a0 a1 : V} : L2.start N_check_count [a0, a1] = [some a0, some a1] := rfl
def t_check_count (K : PySem.W.Frag) (E : XK) : TS :=
  (tIfS ((tTest (tOp (rI0 fun i j => .bl (decide (j < i))) (tVar 0) (tVar 1)))) ((tRs (C_TooMany K) ["count", "limit"] E ((tCons (tVar 0) ((tCons (tVar 1) (tNil))))))) (tNext))

theorem pure_check_count (K : PySem.W.Frag) (vs : List V) (H : Hp) (Q : VK) (E : XK) (h : sp_check_count K vs H Q E) : t_check_count K E { nx := fun _ H' => Q .non H', rt := Q } (L2.start N_check_count vs) H := by
  obtain ⟨n, m, rfl, k⟩ := h
  rw [st_check_count]
  unfold t_check_count
  walk_at "st"
  refine ite_dec (fun h1 => ?_) (fun h1 => ?_)
  · refine wp_rs ?_
    walk_at "st"
    exact rs_of rfl (by decide) (k.rz (e := eT n m) (if_neg (by omega)))
  · exact k.non (if_pos (by omega))
theorem len_check_count (K : PySem.W.Frag) (vs : List V) (H : Hp) (Q : VK) (E : XK) (h : sp_check_count K vs H Q E) : vs.length = 2 := by
  obtain ⟨n, m, rfl, _⟩ := h
  rfl
theorem c_check_count {K : PySem.W.Frag} {n m : Int} {H : Hp} {Q : VK} {E : XK} (k : Ck K (cCnt n m) E H Q) : sp_check_count K [.int n, .int m] H Q E := ⟨n, m, rfl, k⟩
def sp_is_name (K : PySem.W.Frag) : Sp := fun vs H Q _ => ∃ (l : List Nat), vs = [.str (S l)] ∧ l.length ≤ 1000 ∧ ∀ H', Same H H' → Q (.bl (isNm l)) H'
abbrev N_is_name : List Str := ["text", "sign"]
theorem st_is_name {a0 : V} : L2.start N_is_name [a0] = [some a0, none] := rfl
def t_is_name (K : PySem.W.Frag) : TS :=
  (tSeq ((tIfS ((tNot ((tTest (tChain (rI0 fun i j => .bl (decide (i ≤ j))) (rI0 fun i j => .bl (decide (i ≤ j))) (tC (.int 1)) ((tCB rLenStr ((tCons (tVar 0) (tNil))))) (tC (.int 8))))))) ((tRet (tC (.bl false)))) (tNext)))
    ((tRet ((tAndV ((tOp rInS ((tOp rIxS (tVar 0) (tC (.int 0)))) (tC (.str (S Z26))))) ((tCB (rAll K) ((tCons ((tLc ((iStr (tVar 0))) ((gName 1)) (tYes) ((tOrV ((tOp rInS (tVar 1) (tC (.str (S Z26))))) ((tOp rInS (tVar 1) (tC (.str (S Z10))))))) [1])) (tNil))))))))))

theorem pure_is_name (K : PySem.W.Frag) (vs : List V) (H : Hp) (Q : VK) (E : XK) (h : sp_is_name K vs H Q E) : t_is_name K { nx := fun _ H' => Q .non H', rt := Q } (L2.start N_is_name vs) H := by
  obtain ⟨l, rfl, hl, k⟩ := h
  rw [st_is_name]
  unfold t_is_name
  walk_at "st"
  have no : isNm l = false → Q (.bl false) H := fun e => by
    have z := k H (Same.refl H)
    rw [e] at z
    exact z
  refine ite_dec (fun h => ?_) (fun h => ?_)
  · walk_at "st"
    refine ite_ndec (fun h2 => ?_) (fun h2 => ?_)
    · walk_at "st"
      refine no ?_
      unfold isNm
      rw [decide_eq_false (by omega : ¬ l.length ≤ 8), Bool.false_and, Bool.and_false]
    · walk_at "st"
      cases l with
      | nil => exact absurd h (by simp)
      | cons c r =>
        refine wp_ixS (by rw [S_len]; omega) (c := c) at0 ?_
        walk_at "st"
        have hlen : decide (1 ≤ (c :: r).length) = true := by simp
        have hlen2 : decide ((c :: r).length ≤ 8) = true := by rw [decide_eq_true_eq]; omega
        refine ite_dec (fun h3 => ?_) (fun h3 => ?_)
        · walk_at "st"
          refine lcMapS (by omega) (fun x => [some (.str (S (c :: r))), some x]) (fun x => ⟨rfl, rfl⟩) (fun c => .bl (decide (LD c))) (fun c H2 hxm _ R hR => ?_) (fun D H2 hD s2 hD2 => ?_)
          · walk_at "st"
            have e : decide (LD c) = (decide (c ∈ Z26) || decide (c ∈ Z10)) := by
              rw [← Bool.decide_or, decide_eq_decide, z26, z10]
              rfl
            have z := hR H2 (Same.refl _)
            rw [e] at z
            refine ite_b (fun q => ?_) (fun q => ?_)
            · have q2 : decide (c ∈ Z26) = true := q
              rw [q2] at z
              exact z
            · have q2 : decide (c ∈ Z26) = false := q
              rw [q2] at z
              walk_at "st"
              exact z
          walk_at "st"
          refine wp_allL (bs := (c :: r).map fun c => decide (LD c)) (sq_of (by rw [List.map_map]; exact hD2)) ?_
          have e : ((c :: r).map fun c => decide (LD c)).all id = isNm (c :: r) := by
            unfold isNm
            have hc : decide (LT c) = true := decide_eq_true (z26.mp h3)
            rw [hlen, hlen2]
            show _ = (true && (true && (decide (LT c) && _)))
            rw [hc, List.all_map]
            rfl
          rw [e]
          exact k H2 s2
        · walk_at "st"
          refine no ?_
          rw [Bool.eq_false_iff]
          intro q
          obtain ⟨x, y, e, hx⟩ := (nm_iff.mp q).first
          cases e
          exact h3 (z26.mpr hx)
  · walk_at "st"
    refine no ?_
    unfold isNm
    rw [decide_eq_false (by omega : ¬ 1 ≤ l.length)]
    rfl
theorem len_is_name (K : PySem.W.Frag) (vs : List V) (H : Hp) (Q : VK) (E : XK) (h : sp_is_name K vs H Q E) : vs.length = 1 := by
  obtain ⟨l, rfl, _⟩ := h
  rfl
theorem c_is_name {K : PySem.W.Frag} {l : List Nat} {H : Hp} {Q : VK} {E : XK} (hl : l.length ≤ 1000) (k : ∀ H', Same H H' → Q (.bl (isNm l)) H') : sp_is_name K [.str (S l)] H Q E := ⟨l, rfl, hl, k⟩

def cName (l : List Nat) : Option Er := if isNm l = true then none else some (eS "BadName" l)
def sp_check_name (K : PySem.W.Frag) : Sp := fun vs H Q E => ∃ (l : List Nat), vs = [.str (S l)] ∧ l.length ≤ 1000 ∧ Ck K (cName l) E H Q
abbrev N_check_name : List Str := ["text"]
theorem st_check_name {a0 : V} : L2.start N_check_name [a0] = [some a0] := rfl
def t_check_name (K : PySem.W.Frag) (E : XK) : TS :=
  (tIfS ((tNot ((tB ((tCall (sp_is_name K) [] E0 ((tCons (tVar 0) (tNil))))))))) ((tRs (C_BadName K) ["name"] E ((tCons (tVar 0) (tNil))))) (tNext))

theorem pure_check_name (K : PySem.W.Frag) (vs : List V) (H : Hp) (Q : VK) (E : XK) (h : sp_check_name K vs H Q E) : t_check_name K E { nx := fun _ H' => Q .non H', rt := Q } (L2.start N_check_name vs) H := by
  obtain ⟨l, rfl, hn, k⟩ := h
  rw [st_check_name]
  unfold t_check_name
  walk_at "st"
  refine c_is_name (by omega) fun H2 s2 => ?_
  walk_at "st"
  have k2 := k.mono s2
  by_cases c : isNm l = true
  · rw [c]
    walk_at "st"
    exact k2.non (if_pos c)
  · rw [Bool.not_eq_true] at c
    rw [c]
    walk_at "st"
    refine wp_rs ?_
    walk_at "st"
    exact rs_of rfl (by decide) (k2.rz (e := eS "BadName" l) (if_neg (by rw [c]; decide)))
theorem len_check_name (K : PySem.W.Frag) (vs : List V) (H : Hp) (Q : VK) (E : XK) (h : sp_check_name K vs H Q E) : vs.length = 1 := by
  obtain ⟨n, rfl, _⟩ := h
  rfl
theorem c_check_name {K : PySem.W.Frag} {l : List Nat} {H : Hp} {Q : VK} {E : XK} (hn : l.length ≤ 1000) (k : Ck K (cName l) E H Q) : sp_check_name K [.str (S l)] H Q E := ⟨l, rfl, hn, k⟩
def cEv (l : List Nat) (ms : List (List Nat)) : Option Er := (cName l).or (if l ∈ ms then some (eS "DoubleEvent" l) else none)
def sp_check_event (K : PySem.W.Frag) : Sp := fun vs H Q E => ∃ (l : List Nat) (b : Addr) (ms : List (List Nat)), vs = [.str (S l), .ref b] ∧ H b = some (.lst (ms.map sv)) ∧ l.length ≤ 1000 ∧ Ck K (cEv l ms) E H Q
abbrev N_check_event : List Str := ["name", "before"]
theorem st_check_event {a0 a1 : V} : L2.start N_check_event [a0, a1] = [some a0, some a1] := rfl
def t_check_event (K : PySem.W.Frag) (E : XK) : TS :=
  (tSeq ((tDrop ((tCall (sp_check_name K) [] E ((tCons (tVar 0) (tNil)))))))
    ((tIfS ((tTest (tOp (rIn K false) (tVar 0) (tVar 1)))) ((tRs (C_DoubleEvent K) ["name"] E ((tCons (tVar 0) (tNil))))) (tNext))))

theorem pure_check_event (K : PySem.W.Frag) (vs : List V) (H : Hp) (Q : VK) (E : XK) (h : sp_check_event K vs H Q E) : t_check_event K E { nx := fun _ H' => Q .non H', rt := Q } (L2.start N_check_event vs) H := by
  obtain ⟨l, b, ms, rfl, hb, hn, k⟩ := h
  rw [st_check_event]
  unfold t_check_event
  walk_at "st"
  refine c_check_name hn (Ck.seq k fun H2 s2 _ k2 => ?_)
  walk_at "st"
  refine wp_inSv (sq_of (s2 _ _ hb)) ?_
  by_cases c : l ∈ ms
  · rw [decide_eq_true c]
    walk_at "st"
    refine wp_rs ?_
    walk_at "st"
    exact rs_of rfl (by decide) (k2.rz (e := eS "DoubleEvent" l) (if_pos c))
  · rw [decide_eq_false c]
    walk_at "st"
    exact k2.non (if_neg c)
theorem len_check_event (K : PySem.W.Frag) (vs : List V) (H : Hp) (Q : VK) (E : XK) (h : sp_check_event K vs H Q E) : vs.length = 2 := by
  obtain ⟨n, m, ms, rfl, _⟩ := h
  rfl
theorem c_check_event {K : PySem.W.Frag} {l : List Nat} {b : Addr} {ms : List (List Nat)} {H : Hp} {Q : VK} {E : XK} (hb : H b = some (.lst (ms.map sv))) (hn : l.length ≤ 1000) (k : Ck K (cEv l ms) E H Q) : sp_check_event K [.str (S l), .ref b] H Q E := ⟨l, b, ms, rfl, hb, hn, k⟩
def cK1 (ms : List (List Nat)) (l : List Nat) : Option Er := if l ∈ ms then none else some (eS "UnknownEvent" l)
def cFold {α : Type} (f : α → Option Er) : List α → Option Er
  | [] => none
  | x :: r => (f x).or (cFold f r)
theorem cFold_drop {α : Type} {f : α → Option Er} {xs : List α} {i : Nat} {x : α} (h : xs[i]? = some x) : cFold f (xs.drop i) = (f x).or (cFold f (xs.drop (i + 1))) := by
  obtain ⟨hl, e⟩ := List.getElem?_eq_some_iff.mp h
  rw [List.drop_eq_getElem_cons hl, e]
  rfl
def sp_check_known (K : PySem.W.Frag) : Sp := fun vs H Q E => ∃ (a b : Addr) (ls ms : List (List Nat)), vs = [.ref a, .ref b] ∧ H a = some (.lst (ls.map sv)) ∧ H b = some (.lst (ms.map sv)) ∧ Ck K (cFold (cK1 ms) ls) E H Q
abbrev N_check_known : List Str := ["names", "known", "name"]
theorem st_check_known {a0 a1 : V} : L2.start N_check_known [a0, a1] = [some a0, some a1, none] := rfl
def t_check_known (K : PySem.W.Frag) (E : XK) : TS :=
  (tFor ((iList K (tVar 0))) (gName 2) ((tIfS ((tTest (tOp (rIn K true) (tVar 2) (tVar 1)))) ((tRs (C_UnknownEvent K) ["name"] E ((tCons (tVar 2) (tNil))))) (tNext))))

theorem pure_check_known (K : PySem.W.Frag) (vs : List V) (H : Hp) (Q : VK) (E : XK) (h : sp_check_known K vs H Q E) : t_check_known K E { nx := fun _ H' => Q .non H', rt := Q } (L2.start N_check_known vs) H := by
  obtain ⟨a, b, ls, ms, rfl, ha, hb, k⟩ := h
  rw [st_check_known]
  unfold t_check_known
  walk_at "st"
  refine loopL (sq_of ha) (fun i σ' H' => ∃ x, σ' = [some (.ref a), some (.ref b), x] ∧ H' = H ∧ Ck K (cFold (cK1 ms) (ls.drop i)) E H Q) ⟨_, rfl, rfl, k⟩ ?_ ?_ ?_
  · rintro i σ' H' _ ⟨x, rfl, rfl, _⟩
    exact sq_of ha
  · rintro i x σ' H' hx ⟨y, rfl, rfl, k2⟩
    rw [List.getElem?_map] at hx
    obtain ⟨l, hl, rfl⟩ := Option.map_eq_some_iff.mp hx
    rw [cFold_drop hl] at k2
    walk_at "st"
    refine wp_notInSv (sq_of hb) ?_
    by_cases c : l ∈ ms
    · rw [decide_eq_true c]
      walk_at "st"
      exact ⟨_, rfl, rfl, k2.fst (if_pos c)⟩
    · rw [decide_eq_false c]
      walk_at "st"
      refine wp_rs ?_
      walk_at "st"
      exact rs_of rfl (by decide) (k2.rz (e := eS "UnknownEvent" l) (by unfold cK1; rw [if_neg c]; rfl))
  · rintro σ' H' ⟨x, rfl, rfl, k2⟩
    refine k2.non ?_
    rw [List.length_map, List.drop_length]
    rfl
theorem len_check_known (K : PySem.W.Frag) (vs : List V) (H : Hp) (Q : VK) (E : XK) (h : sp_check_known K vs H Q E) : vs.length = 2 := by
  obtain ⟨n, m, ls, ms, rfl, _⟩ := h
  rfl
theorem c_check_known {K : PySem.W.Frag} {a b : Addr} {ls ms : List (List Nat)} {H : Hp} {Q : VK} {E : XK} (ha : H a = some (.lst (ls.map sv))) (hb : H b = some (.lst (ms.map sv))) (k : Ck K (cFold (cK1 ms) ls) E H Q) : sp_check_known K [.ref a, .ref b] H Q E := ⟨a, b, ls, ms, rfl, ha, hb, k⟩
def cSp (T : Int) (ns : List (List Nat)) (r : Row) : Option Er :=
  (cFold (cK1 ns) [r.u, r.v]).or ((if r.u = r.v then some (eS "SameEvent" r.u) else none).or ((cRng r.lo 0 (T - 1)).or ((cRng r.hi r.lo (r.lo + T - 3)).or (cRng r.w 0 99))))
def sp_check_span (K : PySem.W.Frag) : Sp := fun vs H Q E => ∃ (T : Int) (e p : Addr) (ns : List (List Nat)) (r : Row), vs = [.int T, .ref e, .ref p] ∧ H e = some (.lst (ns.map sv)) ∧ H p = some (.tup (rowV r)) ∧ Ck K (cSp T ns r) E H Q
abbrev N_check_span : List Str := ["round_length", "events", "span", "start", "end", "least", "most", "weight"]
theorem st_check_span {a0 a1 a2 : V} : L2.start N_check_span [a0, a1, a2] = [some a0, some a1, some a2, none, none, none, none, none] := rfl
def t_check_span (K : PySem.W.Frag) (E : XK) : TS :=
  (tSeq ((tAsg (tVar 2) (gTup K 5 (gCons (gName 3) (gCons (gName 4) (gCons (gName 5) (gCons (gName 6) (gCons (gName 7) gNil))))))))
    ((tSeq ((tDrop ((tCall (sp_check_known K) [] E ((tCons ((tLst ((tCons (tVar 3) ((tCons (tVar 4) (tNil))))))) ((tCons (tVar 1) (tNil)))))))))
    ((tSeq ((tIfS ((tTest (tOp rEq (tVar 3) (tVar 4)))) ((tRs (C_SameEvent K) ["name"] E ((tCons (tVar 3) (tNil))))) (tNext)))
    ((tSeq ((tDrop ((tCall (sp_check_range K) [] E ((tCons (tVar 5) ((tCons (tC (.int 0)) ((tCons ((tOp (rI0 fun i j => .int (i - j)) (tVar 0) (tC (.int 1)))) (tNil)))))))))))
    ((tSeq ((tDrop ((tCall (sp_check_range K) [] E ((tCons (tVar 6) ((tCons (tVar 5) ((tCons ((tOp (rI0 fun i j => .int (i - j)) ((tOp (rI0 fun i j => .int (i + j)) (tVar 5) (tVar 0))) (tC (.int 3)))) (tNil)))))))))))
    ((tDrop ((tCall (sp_check_range K) [] E ((tCons (tVar 7) ((tCons (tC (.int 0)) ((tCons (tC (.int 99)) (tNil))))))))))))))))))))

theorem pure_check_span (K : PySem.W.Frag) (vs : List V) (H : Hp) (Q : VK) (E : XK) (h : sp_check_span K vs H Q E) : t_check_span K E { nx := fun _ H' => Q .non H', rt := Q } (L2.start N_check_span vs) H := by
  obtain ⟨T, e, p, ns, r, rfl, he, hp, k⟩ := h
  rw [st_check_span]
  unfold t_check_span
  unfold rowV at hp
  walk_at "st"
  refine ⟨by simp [sizeLine_eq], fun q hq => ?_⟩
  have s2 := Same.new (o := .lst ([r.u, r.v].map sv)) hq
  walk_at "st"
  refine c_check_known (ls := [r.u, r.v]) upd_same (s2 _ _ he) (Ck.seq (k.mono s2) fun H3 s3 _ k3 => ?_)
  walk_at "st"
  by_cases c : r.u = r.v
  · rw [decide_eq_true (congrArg S c)]
    walk_at "st"
    refine wp_rs ?_
    walk_at "st"
    exact rs_of rfl (by decide) (k3.rz (e := eS "SameEvent" r.u) (by rw [if_pos c]; rfl))
  · rw [decide_eq_false (fun h => c (S_inj h))]
    rw [if_neg c, Option.none_or] at k3
    walk_at "st"
    refine c_check_range (Ck.seq k3 fun H4 s4 _ k4 => ?_)
    walk_at "st"
    refine c_check_range (Ck.seq k4 fun H5 s5 _ k5 => ?_)
    walk_at "st"
    exact c_check_range k5
theorem len_check_span (K : PySem.W.Frag) (vs : List V) (H : Hp) (Q : VK) (E : XK) (h : sp_check_span K vs H Q E) : vs.length = 3 := by
  obtain ⟨n, m, ms, a, b, rfl, _⟩ := h
  rfl
theorem c_check_span {K : PySem.W.Frag} {T : Int} {e : Addr} {x : V} {r : Row} {ns : List (List Nat)} {H : Hp} {Q : VK} {E : XK} (he : H e = some (.lst (ns.map sv))) (hx : IsRow H x r) (k : Ck K (cSp T ns r) E H Q) : sp_check_span K [.int T, .ref e, x] H Q E := by
  obtain ⟨p, rfl, hp⟩ := hx
  exact ⟨T, e, p, ns, r, rfl, he, hp, k⟩
def cEvs : List (List Nat) → List (List Nat) → Option Er
  | _, [] => none
  | bef, l :: r => (cEv l bef).or (cEvs (bef ++ [l]) r)
theorem cEvs_drop {ns : List (List Nat)} {i : Nat} {l : List Nat} (h : ns[i]? = some l) : cEvs (ns.take i) (ns.drop i) = (cEv l (ns.take i)).or (cEvs (ns.take (i + 1)) (ns.drop (i + 1))) := by
  obtain ⟨hl, e⟩ := List.getElem?_eq_some_iff.mp h
  rw [List.drop_eq_getElem_cons hl, e, List.take_add_one, h]
  rfl
def cNet (T : Int) (ns : List (List Nat)) (rs : List Row) : Option Er := (cRng T 3 120).or ((cCnt ns.length 12).or ((cEvs [] ns).or ((cCnt rs.length 24).or (cFold (cSp T ns) rs))))
/-- the parts of a net, good or not, at e and s -/
structure Prt (H : Hp) (e s : Addr) (ns : List (List Nat)) (ss : List V) (rs : List Row) : Prop where
  e : H e = some (.lst (ns.map sv))
  s : H s = some (.lst ss)
  r : Rws H ss rs
  n : ∀ l ∈ ns, l.length ≤ 1000
  fn : ns.length ≤ 1000
  fs : rs.length ≤ 1000
  an : ∀ l ∈ ns, Asc l
  ar : ∀ r ∈ rs, AscR r
theorem Prt.mono {H H' : Hp} {e s : Addr} {ns : List (List Nat)} {ss : List V} {rs : List Row} (sm : Same H H') (p : Prt H e s ns ss rs) : Prt H' e s ns ss rs := ⟨sm _ _ p.e, sm _ _ p.s, p.r.mono sm, p.n, p.fn, p.fs, p.an, p.ar⟩
def sp_check_net (K : PySem.W.Frag) : Sp := fun vs H Q E => ∃ (T : Int) (e s : Addr) (ns : List (List Nat)) (ss : List V) (rs : List Row), vs = [.int T, .ref e, .ref s] ∧ Prt H e s ns ss rs ∧ Ck K (cNet T ns rs) E H Q
abbrev N_check_net : List Str := ["round_length", "events", "spans", "at", "name", "span"]
theorem st_check_net {a0 a1 a2 : V} : L2.start N_check_net [a0, a1, a2] = [some a0, some a1, some a2, none, none, none] := rfl
def t_check_net (K : PySem.W.Frag) (E : XK) : TS :=
  (tSeq ((tDrop ((tCall (sp_check_round_length K) [] E ((tCons (tVar 0) (tNil)))))))
    ((tSeq ((tDrop ((tCall (sp_check_count K) [] E ((tCons ((tCB (rLenS K) ((tCons (tVar 1) (tNil))))) ((tCons (tC (.int 12)) (tNil)))))))))
    ((tSeq ((tFor ((iEnum K ((tCons (tVar 1) (tNil))))) (gTup K 2 (gCons (gName 3) (gCons (gName 4) gNil))) ((tDrop ((tCall (sp_check_event K) [] E ((tCons (tVar 4) ((tCons ((tSl (rSlL K) (tVar 1) tNoPart (tPart (tVar 3)))) (tNil)))))))))))
    ((tSeq ((tDrop ((tCall (sp_check_count K) [] E ((tCons ((tCB (rLenS K) ((tCons (tVar 2) (tNil))))) ((tCons (tC (.int 24)) (tNil)))))))))
    ((tFor ((iList K (tVar 2))) (gName 5) ((tDrop ((tCall (sp_check_span K) [] E ((tCons (tVar 0) ((tCons (tVar 1) ((tCons (tVar 5) (tNil))))))))))))))))))))

theorem pure_check_net (K : PySem.W.Frag) (vs : List V) (H : Hp) (Q : VK) (E : XK) (h : sp_check_net K vs H Q E) : t_check_net K E { nx := fun _ H' => Q .non H', rt := Q } (L2.start N_check_net vs) H := by
  obtain ⟨T, e, s, ns, ss, rs, rfl, p, k⟩ := h
  rw [st_check_net]
  unfold t_check_net
  have f1 := p.fn
  have f2 := p.fs
  have f3 := p.r.len
  have he := p.e
  walk_at "st"
  refine c_check_round_length (Ck.seq k fun H1 s1 _ k1 => ?_)
  have he1 := s1 _ _ he
  walk_at "st"
  rw [List.length_map]
  refine c_check_count (Ck.seq k1 fun H2 s2 _ k2 => ?_)
  have s12 := s1.trans s2
  have he2 := s12 _ _ he
  walk_at "st"
  refine loopE (sq_of he2) (fun i σ' H' => ∃ x y z, σ' = [some (.int T), some (.ref e), some (.ref s), x, y, z] ∧ Same H H' ∧ Ck K ((cEvs (ns.take i) (ns.drop i)).or ((cCnt rs.length 24).or (cFold (cSp T ns) rs))) E H' Q) ⟨_, _, _, rfl, s12, k2⟩ ?_ ?_ ?_
  · rintro i σ' H' _ ⟨x, y, z, rfl, s2, _⟩
    exact sq_of (s2 _ _ he)
  · rintro i x q σ' H' hx ⟨y, z, w, rfl, s2, k3⟩ hq
    rw [List.getElem?_map] at hx
    obtain ⟨l, hl, rfl⟩ := Option.map_eq_some_iff.mp hx
    have s3 := s2.trans (Same.new (o := .tup [.int (i : Nat), sv l]) hq)
    have hil : i < ns.length := (List.getElem?_eq_some_iff.mp hl).1
    rw [cEvs_drop hl, Option.or_assoc] at k3
    walk_at "st"
    refine wp_sliceL (sq_of (s3 _ _ he)) fun b hb => ?_
    rw [cutG_to (by rw [List.length_map]; omega), ← List.map_take]
    have s4 := (Same.new (o := .tup [.int (i : Nat), sv l]) hq).trans (Same.new (o := .lst ((ns.take i).map sv)) hb)
    walk_at "st"
    refine c_check_event upd_same (p.n _ (List.mem_of_getElem? hl)) (Ck.seq (k3.mono s4) fun H4 s5 _ k4 => ?_)
    walk_at "st"
    exact ⟨_, _, _, rfl, (s2.trans s4).trans s5, k4⟩
  · rintro σ' H' ⟨x, y, z, rfl, s2, k3⟩
    have hs2 := s2 _ _ p.s
    rw [List.length_map, List.drop_length] at k3
    walk_at "st"
    rw [f3]
    refine c_check_count (Ck.seq k3 fun H3 s3 _ k4 => ?_)
    have s23 := s2.trans s3
    have hs3 := s23 _ _ p.s
    walk_at "st"
    refine loopL (sq_of hs3) (fun i σ' H' => ∃ x y z, σ' = [some (.int T), some (.ref e), some (.ref s), x, y, z] ∧ Same H H' ∧ Ck K (cFold (cSp T ns) (rs.drop i)) E H' Q) ⟨_, _, _, rfl, s23, k4⟩ ?_ ?_ ?_
    · rintro i σ' H' _ ⟨x, y, z, rfl, s2, _⟩
      exact sq_of (s2 _ _ p.s)
    · rintro i x σ' H' hx ⟨y, z, w, rfl, s4, k5⟩
      obtain ⟨r, hr, hxr⟩ := p.r.at hx
      rw [cFold_drop hr] at k5
      walk_at "st"
      refine c_check_span (s4 _ _ he) (hxr.mono s4) (Ck.seq k5 fun H4 s5 _ k6 => ?_)
      walk_at "st"
      exact ⟨_, _, _, rfl, s4.trans s5, k6⟩
    · rintro σ' H' ⟨x, y, z, rfl, s4, k5⟩
      refine k5.non ?_
      rw [f3, List.drop_length]
      rfl
theorem len_check_net (K : PySem.W.Frag) (vs : List V) (H : Hp) (Q : VK) (E : XK) (h : sp_check_net K vs H Q E) : vs.length = 3 := by
  obtain ⟨n, m, ms, a, b, c, rfl, _⟩ := h
  rfl
theorem c_check_net {K : PySem.W.Frag} {T : Int} {e s : Addr} {ns : List (List Nat)} {ss : List V} {rs : List Row} {H : Hp} {Q : VK} {E : XK} (p : Prt H e s ns ss rs) (k : Ck K (cNet T ns rs) E H Q) : sp_check_net K [.int T, .ref e, .ref s] H Q E := ⟨T, e, s, ns, ss, rs, rfl, p, k⟩
def sp_Net_init (K : PySem.W.Frag) : Sp := fun vs H Q E => ∃ (x dx : Addr) (T : Int) (e s : Addr) (ns : List (List Nat)) (ss : List V) (rs : List Row), vs = [.ref x, .int T, .ref e, .ref s] ∧ H x = some (.ins (C_Net K) dx []) ∧ Prt H e s ns ss rs ∧
  (∀ er, cNet T ns rs = some er → ∀ H', Same H H' → Rzd (He.ga K er.c) er.fs E H') ∧
  (cNet T ns rs = none → ∀ (le ls : Addr) H', H' x = some (.ins (C_Net K) dx (netF T le ls)) → H' le = some (.lst (ns.map sv)) → H' ls = some (.lst ss) → H le = none → H ls = none → le ≠ ls → (∀ a o, a ≠ x → H a = some o → H' a = some o) → Q .non H')
abbrev N_Net_init : List Str := ["self", "round_length", "events", "spans"]
theorem st_Net_init {a0 a1 a2 a3 : V} : L2.start N_Net_init [a0, a1, a2, a3] = [some a0, some a1, some a2, some a3] := rfl
def t_Net_init (K : PySem.W.Frag) (E : XK) : TS :=
  (tSeq ((tDrop ((tCall (sp_check_net K) [] E ((tCons (tVar 1) ((tCons (tVar 2) ((tCons (tVar 3) (tNil)))))))))))
    ((tSeq ((sFldC (C_Net K) (tVar 0) (tVar 1) "_round_length"))
    ((tSeq ((sFldC (C_Net K) (tVar 0) ((tCB (rListS K) ((tCons (tVar 2) (tNil))))) "_events"))
    ((sFldC (C_Net K) (tVar 0) ((tCB (rListS K) ((tCons (tVar 3) (tNil))))) "_spans")))))))

theorem pure_Net_init (K : PySem.W.Frag) (vs : List V) (H : Hp) (Q : VK) (E : XK) (h : sp_Net_init K vs H Q E) : t_Net_init K E { nx := fun _ H' => Q .non H', rt := Q } (L2.start N_Net_init vs) H := by
  obtain ⟨x, dx, T, e, s, ns, ss, rs, rfl, hx, p, kx, k⟩ := h
  have he := p.e
  have hs := p.s
  rw [st_Net_init]
  unfold t_Net_init
  have nex : e ≠ x := fun h => by rw [h, hx] at he; cases he
  have nsx : s ≠ x := fun h => by rw [h, hx] at hs; cases hs
  walk_at "st"
  refine c_check_net p (fun H2 s2 => ⟨fun e0 => ?_, fun er e1 => kx er e1 H2 s2⟩)
  have k := k e0
  walk_at "st"
  refine sfld_at (s2 _ _ hx) (by decide) pt_1 ?_
  walk_at "st"
  refine wp_listL (sq_of (by rw [upd_ne nex]; exact s2 _ _ he)) fun le hle => ?_
  have nlx : le ≠ x := fun h => by rw [h, upd_same] at hle; cases hle
  rw [upd_ne nlx] at hle
  walk_at "st"
  refine sfld_at (by rw [upd_ne nlx.symm]; exact upd_same) (by simp) pt_2 ?_
  walk_at "st"
  have nls : s ≠ le := ne_of_none (s2 _ _ hs) hle
  refine wp_listL (sq_of (by rw [upd_ne nsx, upd_ne nls, upd_ne nsx]; exact s2 _ _ hs)) fun ls hls => ?_
  have nsx2 : ls ≠ x := fun h => by rw [h, upd_same] at hls; cases hls
  rw [upd_ne nsx2] at hls
  have nsl : ls ≠ le := fun h => by rw [h, upd_same] at hls; cases hls
  rw [upd_ne nsl, upd_ne nsx2] at hls
  walk_at "st"
  refine sfld_at (by rw [upd_ne nsx2.symm]; exact upd_same) (by simp) pt_3 ?_
  refine k le ls _ upd_same ?_ ?_ (s2.free hle) (s2.free hls) nsl.symm ?_
  · rw [upd_ne nlx, upd_ne nsl.symm, upd_ne nlx]; exact upd_same
  · rw [upd_ne nsx2]; exact upd_same
  · intro a o ha h
    have h2 := s2 _ _ h
    rw [upd_ne ha, upd_ne (ne_of_none h2 hls), upd_ne ha, upd_ne (ne_of_none h2 hle), upd_ne ha]
    exact h2
theorem len_Net_init (K : PySem.W.Frag) (vs : List V) (H : Hp) (Q : VK) (E : XK) (h : sp_Net_init K vs H Q E) : vs.length = 4 := by
  obtain ⟨n, m, ms, a, b, c, d, f, rfl, _⟩ := h
  rfl
theorem c_NetX {K : PySem.W.Frag} {H : Hp} {T : Int} {e s : Addr} {ns : List (List Nat)} {ss : List V} {rs : List Row} {Q : VK} {E : XK} (p : Prt H e s ns ss rs)
    (hE : ∀ er, cNet T ns rs = some er → ∀ H', Same H H' → Rzd (He.ga K er.c) er.fs E H') (hQ : cNet T ns rs = none → ∀ a H', Same H H' → IsNet (C_Net K) H' a T ns ss → Q (.ref a) H') : MkW (C_Net K) (sp_Net_init K) E Q [.int T, .ref e, .ref s] H := by
  intro x dx hx hdx nd
  have s1 : Same H (upd (upd H dx (.own x)) x (.ins (C_Net K) dx [])) := (Same.new hdx).trans (Same.new (by rw [upd_ne nd.symm]; exact hx))
  exact ⟨x, dx, T, e, s, ns, ss, rs, rfl, upd_same, p.mono s1, fun er e1 H' s2 => hE er e1 H' (s1.trans s2), fun e0 le ls H' h1 h2 h3 h4 h5 h6 h7 => ⟨rfl, hQ e0 x H' (fun a o h => h7 a o (ne_of_none h hx) (s1 _ _ h)) ⟨dx, le, ls, h1, h2, h3⟩⟩⟩
/-- the errors that a net may raise -/
def Shp (er : Er) : Prop := (∃ n, er = eN n) ∨ (∃ l, Asc l ∧ er = eS "BadName" l) ∨ (∃ l, Asc l ∧ er = eS "DoubleEvent" l) ∨ (∃ l, Asc l ∧ er = eS "SameEvent" l) ∨ (∃ l, Asc l ∧ er = eS "UnknownEvent" l) ∨ ∃ a b, er = eT a b
def AllS (o : Option Er) : Prop := ∀ er, o = some er → Shp er
theorem AllS.or {a b : Option Er} (h : AllS a) (k : AllS b) : AllS (a.or b) := fun er e => by
  cases a with
  | none => exact k er e
  | some x => exact h er e
theorem alls_none : AllS none := fun _ e => nomatch e
theorem alls_rng {n lo hi : Int} : AllS (cRng n lo hi) := fun er e => by
  unfold cRng at e
  split at e
  · cases e
  · exact .inl ⟨n, (Option.some.inj e).symm⟩
theorem alls_cnt {n m : Int} : AllS (cCnt n m) := fun er e => by
  unfold cCnt at e
  split at e
  · cases e
  · exact .inr (.inr (.inr (.inr (.inr ⟨n, m, (Option.some.inj e).symm⟩))))
theorem alls_ev {l : List Nat} {ms : List (List Nat)} (hl : Asc l) : AllS (cEv l ms) := by
  refine AllS.or (fun er e => ?_) (fun er e => ?_)
  · unfold cName at e
    split at e
    · cases e
    · exact .inr (.inl ⟨l, hl, (Option.some.inj e).symm⟩)
  · split at e
    · exact .inr (.inr (.inl ⟨l, hl, (Option.some.inj e).symm⟩))
    · cases e
theorem alls_fold {α : Type} {f : α → Option Er} : ∀ {xs : List α}, (∀ x ∈ xs, AllS (f x)) → AllS (cFold f xs)
  | [], _ => alls_none
  | x :: r, h => (h x List.mem_cons_self).or (alls_fold fun y hy => h y (List.mem_cons_of_mem _ hy))
theorem alls_k1 {ms : List (List Nat)} {l : List Nat} (hl : Asc l) : AllS (cK1 ms l) := fun er e => by
  unfold cK1 at e
  split at e
  · cases e
  · exact .inr (.inr (.inr (.inr (.inl ⟨l, hl, (Option.some.inj e).symm⟩))))
theorem alls_sp {T : Int} {ns : List (List Nat)} {r : Row} (ar : AscR r) : AllS (cSp T ns r) := by
  refine (alls_fold fun x hx => ?_).or (AllS.or (fun er e => ?_) (alls_rng.or (alls_rng.or alls_rng)))
  · simp only [List.mem_cons, List.not_mem_nil, or_false] at hx
    rcases hx with rfl | rfl
    · exact alls_k1 ar.u
    · exact alls_k1 ar.v
  · split at e
    · exact .inr (.inr (.inr (.inl ⟨r.u, ar.u, (Option.some.inj e).symm⟩)))
    · cases e
theorem alls_evs : ∀ {ns bef : List (List Nat)}, (∀ l ∈ ns, Asc l) → AllS (cEvs bef ns)
  | [], _, _ => alls_none
  | l :: _, _, h => (alls_ev (h l List.mem_cons_self)).or (alls_evs fun y hy => h y (List.mem_cons_of_mem _ hy))
theorem alls_net {T : Int} {ns : List (List Nat)} {rs : List Row} (an : ∀ l ∈ ns, Asc l) (ar : ∀ r ∈ rs, AscR r) : AllS (cNet T ns rs) := alls_rng.or (alls_cnt.or ((alls_evs an).or (alls_cnt.or (alls_fold fun r hr => alls_sp (ar r hr)))))
/-! ### try: Net(..) -/
theorem wp_tryMk {K : PySem.W.Frag} {i : Nat} {C : Addr} {sp : Sp} {ta : TA} {l : List (Value × Sui)} {D : Ends} {σ : L2.St} {H : Hp} (h : ta σ H fun vs H1 => MkW C sp (WE (wAsM K i (fun _ _ _ _ => False) D l) σ) (fun _ H2 => D.nx σ H2) vs H1) :
    tTry K i (fun W => tDrop (tMakeS C sp (WE W) ta)) l D σ H := h
theorem wAs_no {K : PySem.W.Frag} {i : Nat} {Wo : WX} {D : Ends} {c : Value} {ts : Sui} {r : List (Value × Sui)} {cls : Value} {d : Option Addr} {σ : L2.St} {H : Hp} (h : PySem.W.exmOne K cls c = some false) (k : wAsM K i Wo D r cls d σ H) : wAsM K i Wo D ((c, ts) :: r) cls d σ H := ⟨false, h, (fun q => nomatch q), fun _ => k⟩
theorem wAs_yes {K : PySem.W.Frag} {i : Nat} {Wo : WX} {D : Ends} {c : Value} {ts : Sui} {r : List (Value × Sui)} {cls : Value} {d : Option Addr} {σ : L2.St} {H : Hp} (h : PySem.W.exmOne K cls c = some true)
    (k : ∀ a, H a = none → ts a cls d { nx := fun σ' H' => D.nx (σ'.set i none) H', rt := D.rt, bk := fun σ' H' => D.bk (σ'.set i none) H', ct := fun σ' H' => D.ct (σ'.set i none) H' } (σ.set i (some (.ref a))) H) : wAsM K i Wo D ((c, ts) :: r) cls d σ H := ⟨true, h, fun _ => k, (fun q => nomatch q)⟩
theorem wp_isX {K : PySem.W.Frag} {a D dd : Addr} {fs : List (Str × V)} {c : V} {cv : Value} {b : Bool} {H : Hp} {Q : VK} (h : H dd = some (.xd fs)) (i : ExI K D) (hcv : ∀ u, RelV c u → u = cv) (e : PySem.W.kitOne K (.ref D) cv = some b) (q : Q (.bl b) H) : rIsX K a (.ref D) (some dd) [.ref a, c] H Q :=
  ⟨D, dd, fs, c, cv, b, rfl, rfl, rfl, i, h, hcv, e, q⟩
theorem wp_xfV {i : Nat} {a C dd : Addr} {f : Str} {σ : L2.St} {H : Hp} {Q : VK} {fs : List (Str × V)} {v : V} (hv : σ[i]? = some (some (.ref a))) (h : H dd = some (.xd fs)) (hl : fs.lookup f = some v) (q : Q v H) : tXf a (.ref C) (some dd) C f (tVar i) σ H Q :=
  ⟨.ref a, hv, rfl, rfl, dd, fs, v, rfl, h, hl, q⟩
theorem Shp.mem {er : Er} (h : Shp er) : er.c ∈ exs := by
  rcases h with ⟨n, rfl⟩ | ⟨l, _, rfl⟩ | ⟨l, _, rfl⟩ | ⟨l, _, rfl⟩ | ⟨l, _, rfl⟩ | ⟨a, b, rfl⟩
  · exact (by decide +kernel : ("BadNumber" : Str) ∈ exs)
  · exact (by decide +kernel : ("BadName" : Str) ∈ exs)
  · exact (by decide +kernel : ("DoubleEvent" : Str) ∈ exs)
  · exact (by decide +kernel : ("SameEvent" : Str) ∈ exs)
  · exact (by decide +kernel : ("UnknownEvent" : Str) ∈ exs)
  · exact (by decide +kernel : ("TooMany" : Str) ∈ exs)
def sp_Net_spans (K : PySem.W.Frag) : Sp := fun vs H Q _ => ∃ (a : Addr) (T : Int) (ns : List (List Nat)) (ss : List V), vs = [.ref a] ∧ IsNet (C_Net K) H a T ns ss ∧ ∀ q, H q = none → Q (.ref q) (upd H q (.lst ss))
abbrev N_Net_spans : List Str := ["self"]
theorem st_Net_spans {a0 : V} : L2.start N_Net_spans [a0] = [some a0] := rfl
def t_Net_spans (K : PySem.W.Frag) : TS :=
  (tRet ((tCB (rListS K) ((tCons ((tFldC (C_Net K) (tVar 0) "_spans")) (tNil))))))

theorem pure_Net_spans (K : PySem.W.Frag) (vs : List V) (H : Hp) (Q : VK) (E : XK) (h : sp_Net_spans K vs H Q E) : t_Net_spans K { nx := fun _ H' => Q .non H', rt := Q } (L2.start N_Net_spans vs) H := by
  obtain ⟨a, T, ns, ss, rfl, ⟨dx, le, ls, h1, h2, h3⟩, k⟩ := h
  rw [st_Net_spans]
  unfold t_Net_spans
  walk_at "st"
  exact wp_listL (sq_of (by assumption)) k
theorem len_Net_spans (K : PySem.W.Frag) (vs : List V) (H : Hp) (Q : VK) (E : XK) (h : sp_Net_spans K vs H Q E) : vs.length = 1 := by
  obtain ⟨n, m, ms, a, rfl, _⟩ := h
  rfl
theorem c_Net_spans {K : PySem.W.Frag} {a : Addr} {T : Int} {ns : List (List Nat)} {ss : List V} {H : Hp} {Q : VK} {E : XK} (h : IsNet (C_Net K) H a T ns ss) (k : ∀ q, H q = none → Q (.ref q) (upd H q (.lst ss))) : ∃ a' dx fs, V.ref a = .ref a' ∧ H a' = some (.ins (C_Net K) dx fs) ∧ sp_Net_spans K [.ref a'] H Q E := by
  obtain ⟨dx, le, ls, h1, h2, h3⟩ := h
  exact ⟨a, dx, _, rfl, h1, a, T, ns, ss, rfl, ⟨dx, le, ls, h1, h2, h3⟩, k⟩
def sp_l_pool (K : PySem.W.Frag) : Sp := fun vs H Q _ => ∃ (a : Addr) (ns : List Int), vs = [.ref a] ∧ SqL K H a (ns.map V.int) ∧ ns.length ≤ 63 ∧ ∀ (P : Pl) (G H' : Hp), Same H G → Sees P G H' → Q (.ref P.p) H'
abbrev N_l_pool : List Str := ["_law_script", "_law_cells", "_law_number_here", "_law_cell"]
theorem st_l_pool {a0 : V} : L2.start N_l_pool [a0] = [some a0, none, none, none] := rfl
def t_l_pool (K : PySem.W.Frag) : TS :=
  (tSeq ((tAsg (tLc ((iList K (tVar 0))) ((gName 3)) (tYes) ((tCB rInt1 ((tCons (tVar 3) (tNil))))) [3]) (gName 1)))
    ((tSeq ((tAsg (tC (.int 0)) (gName 2)))
    ((tSeq ((tIfS ((tAnd ((tTest (tOp (rI0 fun i j => .bl (decide (j < i))) ((tCB (rLenS K) ((tCons (tVar 1) (tNil))))) (tC (.int 0))))) ((tTest (tOp (rI0 fun i j => .bl (decide (j ≤ i))) ((tOp (rIxL K) (tVar 1) (tC (.int 0)))) ((tOp (rI CPow fun i j => .int (i ^ j.toNat)) (tC (.int 10)) (tC (.int 18))))))))) ((tAsg ((tOp (rIxL K) (tVar 1) (tC (.int 0)))) (gName 2))) (tNext)))
    ((tRet ((tLst ((tCons (tVar 2) ((tCons (tC (.int 0)) ((tCons (tVar 1) (tNil))))))))))))))))

theorem pure_l_pool (K : PySem.W.Frag) (vs : List V) (H : Hp) (Q : VK) (E : XK) (h : sp_l_pool K vs H Q E) : t_l_pool K { nx := fun _ H' => Q .non H', rt := Q } (L2.start N_l_pool vs) H := by
  obtain ⟨a, ns, rfl, hx, hn, k⟩ := h
  rw [st_l_pool]
  unfold t_l_pool
  walk_at "st"
  refine lcMapL hx (by rw [List.length_map]; omega) (fun x => [some (.ref a), none, none, some x]) (fun x => ⟨rfl, rfl⟩) id (fun x H2 hxm _ R hR => ?_) (fun D H2 hD s2 hl => ?_)
  · obtain ⟨n, _, rfl⟩ := List.mem_map.mp hxm
    walk_at "st"
    exact hR _ (Same.refl _)
  rw [List.map_id] at hl
  have fin : ∀ n : Int, [V.int n, V.int 0, V.ref D].length ≤ sizeLine ∧ ∀ p, H2 p = none → Q (.ref p) (upd H2 p (.lst [V.int n, V.int 0, V.ref D])) := fun n => ⟨szl (by simp), fun p hp => by
    have e : D ≠ p := ne_of_none hl hp
    exact k ⟨p, D, ns⟩ H2 _ s2 ⟨⟨n, 0, upd_same⟩, hl, hn, hp, Same.new hp⟩⟩
  walk_at "st"
  refine ite_dec (fun h1 => ?_) (fun h1 => ?_)
  · walk_at "st"
    refine wp_ixLI (by walk_at "sq") (by omega) h1 fun x _ => ?_
    walk_at "st"
    refine ite_dec (fun h2 => ?_) (fun h2 => ?_)
    · walk_at "st"
      refine wp_ixLI (by walk_at "sq") (by omega) h1 fun y _ => ?_
      walk_at "st"
      exact fin _
    · walk_at "st"
      exact fin _
  · walk_at "st"
    exact fin _
theorem len_l_pool (K : PySem.W.Frag) (vs : List V) (H : Hp) (Q : VK) (E : XK) (h : sp_l_pool K vs H Q E) : vs.length = 1 := by
  obtain ⟨a, ns, rfl, _⟩ := h
  rfl
theorem c_l_pool {K : PySem.W.Frag} {a : Addr} {ns : List Int} {H : Hp} {Q : VK} {E : XK} (hx : SqL K H a (ns.map V.int)) (hn : ns.length ≤ 63) (k : ∀ (P : Pl) (G H' : Hp), Same H G → Sees P G H' → Q (.ref P.p) H') : sp_l_pool K [.ref a] H Q E :=
  ⟨a, ns, rfl, hx, hn, k⟩

def sp_l_draw (K : PySem.W.Frag) : Sp := fun vs H Q _ => ∃ (P : Pl) (m : Int) (G : Hp), vs = [.ref P.p, .int m] ∧ 0 < m ∧ m < 1073741824 ∧ Sees P G H ∧ ∀ d H', 0 ≤ d → d < m → Sees P G H' → Q (.int d) H'
abbrev N_l_draw : List Str := ["_law_pool_here", "_law_many", "_law_found", "_law_cells", "_law_near", "_law_head", "_law_mixed"]
theorem st_l_draw {a0 a1 : V} : L2.start N_l_draw [a0, a1] = [some a0, some a1, none, none, none, none, none] := rfl
def t_l_draw (K : PySem.W.Frag) : TS :=
  (tSeq ((tIfS ((tTest (tOp (rI0 fun i j => .bl (decide (j < i))) ((tOp (rIxL K) (tVar 0) (tC (.int 0)))) (tC (.int 1))))) ((tSeq ((tAsg ((tOp (rI (fun _ j => 0 < j) fun i j => .int (i % j)) ((tCB rInt1 ((tCons ((tOp (rIxL K) (tVar 0) (tC (.int 0)))) (tNil))))) (tVar 1))) (gName 2)))
    ((tSeq ((tAsg ((tOp (rI CDiv fun i j => .int (i / j)) ((tOp (rIxL K) (tVar 0) (tC (.int 0)))) (tVar 1))) (gSub (tVar 0) (tC (.int 0)) rSetL)))
    ((tRet (tVar 2))))))) (tNext)))
    ((tSeq ((tAsg ((tOp (rI0 fun i j => .int (i + j)) ((tOp (rIxL K) (tVar 0) (tC (.int 1)))) (tC (.int 1)))) (gSub (tVar 0) (tC (.int 1)) rSetL)))
    ((tSeq ((tAsg ((tOp (rIxL K) (tVar 0) (tC (.int 2)))) (gName 3)))
    ((tSeq ((tAsg (tC (.int 0)) (gName 4)))
    ((tSeq ((tAsg (tC (.int 0)) (gName 5)))
    ((tSeq ((tIfS ((tTest (tOp (rI0 fun i j => .bl (decide (j < i))) ((tCB (rLenS K) ((tCons (tVar 3) (tNil))))) (tC (.int 0))))) ((tSeq ((tAsg ((tOp (rIxL K) (tVar 3) ((tOp (rI (fun _ j => 0 < j) fun i j => .int (i % j)) ((tCB rInt1 ((tCons ((tOp (rIxL K) (tVar 0) (tC (.int 1)))) (tNil))))) ((tCB (rLenS K) ((tCons (tVar 3) (tNil))))))))) (gName 4)))
    ((tAsg ((tOp (rIxL K) (tVar 3) (tC (.int 0)))) (gName 5))))) (tNext)))
    ((tSeq ((tAsg ((tOp (rI (fun _ j => 0 < j) fun i j => .int (i % j)) ((tCB rInt1 ((tCons ((tOp (rI0 fun i j => .int (i + j)) ((tOp (rI0 fun i j => .int (i + j)) ((tOp (rI0 fun i j => .int (i + j)) ((tOp (rI CMul fun i j => .int (i * j)) (tVar 4) (tC (.int 48271)))) ((tOp (rI CMul fun i j => .int (i * j)) (tVar 5) (tC (.int 16807)))))) ((tOp (rI CMul fun i j => .int (i * j)) ((tOp (rIxL K) (tVar 0) (tC (.int 1)))) (tC (.int 69621)))))) (tC (.int 7)))) (tNil))))) (tC (.int 2147483647)))) (gName 6)))
    ((tSeq ((tAsg ((tOp (rI (fun _ j => 0 < j) fun i j => .int (i % j)) ((tCB rInt1 ((tCons ((tOp (rI0 fun i j => .int (i + j)) ((tOp (rI0 fun i j => .int (i + j)) ((tOp (rI CMul fun i j => .int (i * j)) (tVar 6) (tVar 6))) ((tOp (rI CMul fun i j => .int (i * j)) (tVar 6) (tC (.int 40692)))))) ((tOp (rI CMul fun i j => .int (i * j)) ((tOp (rIxL K) (tVar 0) (tC (.int 1)))) (tC (.int 7919)))))) (tNil))))) (tC (.int 1000000007)))) (gName 6)))
    ((tRet ((tOp (rI (fun _ j => 0 < j) fun i j => .int (i % j)) ((tCB rInt1 ((tCons ((tOp (rI CDiv fun i j => .int (i / j)) (tVar 6) (tC (.int 11)))) (tNil))))) (tVar 1))))))))))))))))))))

theorem pure_l_draw (K : PySem.W.Frag) (vs : List V) (H : Hp) (Q : VK) (E : XK) (h : sp_l_draw K vs H Q E) : t_l_draw K { nx := fun _ H' => Q .non H', rt := Q } (L2.start N_l_draw vs) H := by
  obtain ⟨P, m, G, rfl, hm, hm2, hs, k⟩ := h
  obtain ⟨n, c, hp⟩ := hs.pool
  rw [st_l_draw]
  unfold t_l_draw
  walk_at "st"
  refine ite_dec (fun h1 => ?_) (fun h1 => ?_)
  · walk_at "st"
    exact k _ _ (Int.emod_nonneg _ (by omega)) (Int.emod_lt_of_pos _ hm) (hs.drawn _ _)
  · walk_at "st"
    have hs2 := hs.drawn n (c + 1)
    have hp2 : upd H P.p (.lst [.int n, .int (c + 1), .ref P.l]) P.p = some (.lst [.int n, .int (c + 1), .ref P.l]) := upd_same
    revert hs2 hp2
    generalize upd H P.p (.lst [.int n, .int (c + 1), .ref P.l]) = H2
    intro hs2 hp2
    walk_at "st"
    refine ite_dec (fun h2 => ?_) (fun h2 => ?_)
    · walk_at "st"
      refine wp_ixLI (by walk_at "sq") (Int.emod_nonneg _ (by omega)) (Int.emod_lt_of_pos _ h2) fun x _ => ?_
      walk_at "st"
      refine wp_ixLI (by walk_at "sq") (by omega) h2 fun y _ => ?_
      walk_at "st"
      exact k _ _ (Int.emod_nonneg _ (by omega)) (Int.emod_lt_of_pos _ hm) hs2
    · walk_at "st"
      exact k _ _ (Int.emod_nonneg _ (by omega)) (Int.emod_lt_of_pos _ hm) hs2
theorem len_l_draw (K : PySem.W.Frag) (vs : List V) (H : Hp) (Q : VK) (E : XK) (h : sp_l_draw K vs H Q E) : vs.length = 2 := by
  obtain ⟨P, m, G, rfl, _⟩ := h
  rfl
theorem c_l_draw {K : PySem.W.Frag} {P : Pl} {G H : Hp} {m : Int} {Q : VK} {E : XK} (hs : Sees P G H) (h0 : 0 < m ∧ m < 1073741824) (k : ∀ d H', 0 ≤ d → d < m → Sees P G H' → Q (.int d) H') : sp_l_draw K [.ref P.p, .int m] H Q E :=
  ⟨P, m, G, rfl, h0.1, h0.2, hs, k⟩

def sp_l_word (K : PySem.W.Frag) : Sp := fun vs H Q _ => ∃ (P : Pl) (n : Int) (G : Hp), vs = [.ref P.p, .int n] ∧ 0 ≤ n ∧ n ≤ 100 ∧ Sees P G H ∧ ∀ (l : List Nat) H', (l.length : Int) = n → (∀ c ∈ l, LD c) → Sees P G H' → Q (.str (S l)) H'
abbrev N_l_word : List Str := ["_law_pool_here", "_law_size_here", "_law_signs", "_law_word_here", "_law_k"]
theorem st_l_word {a0 a1 : V} : L2.start N_l_word [a0, a1] = [some a0, some a1, none, none, none] := rfl
def t_l_word (K : PySem.W.Frag) : TS :=
  (tSeq ((tAsg (tC (.str (S Z36))) (gName 2)))
    ((tSeq ((tAsg (tC (.str (S []))) (gName 3)))
    ((tSeq ((tFor ((iRng1 ((tCons (tVar 1) (tNil))))) (gName 4) ((tAsg ((tOp rAddStr (tVar 3) ((tOp rIxS (tVar 2) ((tCall (sp_l_draw K) [] E0 ((tCons (tVar 0) ((tCons (tC (.int 36)) (tNil))))))))))) (gName 3)))))
    ((tRet (tVar 3))))))))

theorem pure_l_word (K : PySem.W.Frag) (vs : List V) (H : Hp) (Q : VK) (E : XK) (h : sp_l_word K vs H Q E) : t_l_word K { nx := fun _ H' => Q .non H', rt := Q } (L2.start N_l_word vs) H := by
  obtain ⟨P, n, G, rfl, hn, hn2, hs, k⟩ := h
  rw [st_l_word]
  unfold t_l_word
  walk_at "st"
  refine loop1 (by omega) (fun i σ' H' => ∃ (x : Option V) (l : List Nat), σ' = [some (.ref P.p), some (.int n), some (.str (S Z36)), some (.str (S l)), x] ∧ l.length = i ∧ (∀ c ∈ l, LD c) ∧ Sees P G H') ⟨none, [], rfl, rfl, by simp, hs⟩ ?_ ?_
  · rintro i σ' H' hi ⟨x, l, rfl, hl, hc, hs⟩
    walk_at "st"
    refine c_l_draw hs (by omega) fun d H2 h0 h1 hs2 => ?_
    walk_at "st"
    refine wp_ixSM (by decide) h0 h1 fun c hc2 _ => ?_
    refine wp_addS (by simp; omega) ?_
    walk_at "st"
    refine ⟨_, _, rfl, by simp; omega, fun c' h => ?_, hs2⟩
    rcases List.mem_append.mp h with h | h
    · exact hc _ h
    · rw [List.mem_singleton.mp h]
      exact z36.mp hc2
  · rintro σ' H' ⟨x, l, rfl, hl, hc, hs⟩
    walk_at "st"
    exact k l _ (by omega) hc hs
theorem len_l_word (K : PySem.W.Frag) (vs : List V) (H : Hp) (Q : VK) (E : XK) (h : sp_l_word K vs H Q E) : vs.length = 2 := by
  obtain ⟨P, m, G, rfl, _⟩ := h
  rfl
theorem c_l_word {K : PySem.W.Frag} {P : Pl} {G H : Hp} {n : Int} {Q : VK} {E : XK} (hs : Sees P G H) (h0 : 0 ≤ n ∧ n ≤ 100) (k : ∀ (l : List Nat) H', (l.length : Int) = n → (∀ c ∈ l, LD c) → Sees P G H' → Q (.str (S l)) H') : sp_l_word K [.ref P.p, .int n] H Q E :=
  ⟨P, n, G, rfl, h0.1, h0.2, hs, k⟩

def sp_l_names (K : PySem.W.Frag) : Sp := fun vs H Q _ => ∃ (P : Pl) (n : Int) (G : Hp), vs = [.ref P.p, .int n] ∧ 0 ≤ n ∧ n ≤ 12 ∧ Sees P G H ∧
  ∀ (ns : List (List Nat)) (q : Addr) (G' H' : Hp), (ns.length : Int) = n → (∀ l ∈ ns, Nm l) → ns.Nodup → Same G G' → G' q = some (.lst (ns.map sv)) → Sees P G' H' → Q (.ref q) H'
abbrev N_l_names : List Str := ["_law_pool_here", "_law_many", "_law_letters", "_law_signs", "_law_way", "_law_front", "_law_back", "_law_first", "_law_names_here", "_law_k", "_law_name", "_law_j"]
theorem st_l_names {a0 a1 : V} : L2.start N_l_names [a0, a1] = [some a0, some a1, none, none, none, none, none, none, none, none, none, none] := rfl
def t_l_names (K : PySem.W.Frag) : TS :=
  (tSeq ((tAsg (tC (.str (S Z26))) (gName 2)))
    ((tSeq ((tAsg (tC (.str (S Z36))) (gName 3)))
    ((tSeq ((tAsg ((tCall (sp_l_draw K) [] E0 ((tCons (tVar 0) ((tCons (tC (.int 3)) (tNil))))))) (gName 4)))
    ((tSeq ((tAsg ((tOp rAddStr ((tOp rIxS (tVar 2) ((tCall (sp_l_draw K) [] E0 ((tCons (tVar 0) ((tCons (tC (.int 26)) (tNil))))))))) ((tCall (sp_l_word K) [] E0 ((tCons (tVar 0) ((tCons ((tCall (sp_l_draw K) [] E0 ((tCons (tVar 0) ((tCons (tC (.int 4)) (tNil))))))) (tNil))))))))) (gName 5)))
    ((tSeq ((tAsg ((tCall (sp_l_word K) [] E0 ((tCons (tVar 0) ((tCons ((tCall (sp_l_draw K) [] E0 ((tCons (tVar 0) ((tCons (tC (.int 4)) (tNil))))))) (tNil))))))) (gName 6)))
    ((tSeq ((tAsg ((tCall (sp_l_draw K) [] E0 ((tCons (tVar 0) ((tCons (tC (.int 36)) (tNil))))))) (gName 7)))
    ((tSeq ((tAsg ((tLst (tNil))) (gName 8)))
    ((tSeq ((tFor ((iRng1 ((tCons (tVar 1) (tNil))))) (gName 9) ((tSeq ((tAsg ((tOp rAddStr ((tOp rAddStr (tVar 5) ((tOp rIxS (tVar 3) ((tOp (rI (fun _ j => 0 < j) fun i j => .int (i % j)) ((tCB rInt1 ((tCons ((tOp (rI0 fun i j => .int (i + j)) (tVar 7) ((tOp (rI CMul fun i j => .int (i * j)) (tC (.int 5)) (tVar 9))))) (tNil))))) (tC (.int 36)))))))) (tVar 6))) (gName 10)))
    ((C8.tCut ((tIfS ((tTest (tOp rEq (tVar 4) (tC (.int 1))))) ((tAsg ((tOp rAddStr ((tOp rIxS (tVar 2) ((tOp (rI (fun _ j => 0 < j) fun i j => .int (i % j)) ((tCB rInt1 ((tCons ((tOp (rI0 fun i j => .int (i + j)) (tVar 7) ((tOp (rI CMul fun i j => .int (i * j)) (tC (.int 5)) (tVar 9))))) (tNil))))) (tC (.int 26)))))) ((tCall (sp_l_word K) [] E0 ((tCons (tVar 0) ((tCons ((tCall (sp_l_draw K) [] E0 ((tCons (tVar 0) ((tCons (tC (.int 8)) (tNil))))))) (tNil))))))))) (gName 10))) (tNext)))
    ((C8.tCut ((tIfS ((tTest (tOp rEq (tVar 4) (tC (.int 2))))) ((tAsg ((tOp rAddStr ((tOp rIxS (tVar 2) ((tCall (sp_l_draw K) [] E0 ((tCons (tVar 0) ((tCons (tC (.int 26)) (tNil))))))))) ((tCall (sp_l_word K) [] E0 ((tCons (tVar 0) ((tCons ((tCall (sp_l_draw K) [] E0 ((tCons (tVar 0) ((tCons (tC (.int 8)) (tNil))))))) (tNil))))))))) (gName 10))) (tNext)))
    ((tSeq ((tFor ((iRng1 ((tCons (tC (.int 13)) (tNil))))) (gName 11) ((tIfS ((tAnd ((tTest (tOp (rIn K false) (tVar 10) (tVar 8)))) ((tTest (tOp (rIn K true) ((tOp rAddStr (tC (.str (S [122]))) ((tCB rStrInt ((tCons (tVar 11) (tNil))))))) (tVar 8)))))) ((tAsg ((tOp rAddStr (tC (.str (S [122]))) ((tCB rStrInt ((tCons (tVar 11) (tNil))))))) (gName 10))) (tNext)))))
    ((tDrop ((tBM K "list" rAppend (tVar 8) ((tCons (tVar 10) (tNil)))))))))))))))))
    ((tRet (tVar 8))))))))))))))))))

theorem pure_l_names (K : PySem.W.Frag) (vs : List V) (H : Hp) (Q : VK) (E : XK) (h : sp_l_names K vs H Q E) : t_l_names K { nx := fun _ H' => Q .non H', rt := Q } (L2.start N_l_names vs) H := by
  obtain ⟨P, n, G, rfl, hn, hn2, hs, k⟩ := h
  rw [st_l_names]
  unfold t_l_names
  walk_at "st"
  refine c_l_draw hs (by omega) fun way H1 w0 w1 hs1 => ?_
  walk_at "st"
  refine c_l_draw hs1 (by omega) fun d1 H2 a0 a1 hs2 => ?_
  walk_at "st"
  refine wp_ixSM (by decide) a0 a1 fun c1 hc1 _ => ?_
  walk_at "st"
  refine c_l_draw hs2 (by omega) fun d2 H3 b0 b1 hs3 => ?_
  walk_at "st"
  refine c_l_word hs3 (by omega) fun fr H4 f0 f1 hs4 => ?_
  refine wp_addS (by simp; omega) ?_
  walk_at "st"
  refine c_l_draw hs4 (by omega) fun d3 H5 e0 e1 hs5 => ?_
  walk_at "st"
  refine c_l_word hs5 (by omega) fun bk H6 g0 g1 hs6 => ?_
  walk_at "st"
  refine c_l_draw hs6 (by omega) fun fi H7 i0 i1 hs7 => ?_
  walk_at "st"
  refine ⟨Nat.zero_le _, fun q hq => ?_⟩
  obtain ⟨hG, hqp⟩ := hs7.fresh hq
  walk_at "st"
  refine loop1 (by omega) (fun i σ' H' => ∃ (x9 x10 x11 : Option V) (ns : List (List Nat)), σ' = [some (.ref P.p), some (.int n), some (.str (S Z26)), some (.str (S Z36)), some (.int way), some (.str (S ([c1] ++ fr))), some (.str (S bk)), some (.int fi), some (.ref q), x9, x10, x11] ∧
    ns.length = i ∧ (∀ l ∈ ns, Nm l) ∧ ns.Nodup ∧ H' q = some (.lst (ns.map sv)) ∧ Sees P G H') ⟨none, none, none, [], rfl, rfl, by simp, List.nodup_nil, upd_same, hs7.set hG hqp⟩ ?_ ?_
  · rintro i σ' H' hi ⟨x9, x10, x11, ns, rfl, hl, hnm, hnd, hqq, hs⟩
    walk_at "st"
    refine wp_ixSM (by decide) (Int.emod_nonneg _ (by omega)) (show _ < 36 from Int.emod_lt_of_pos _ (by omega)) fun c2 hc2 _ => ?_
    walk_at "st"
    have hc1' : LT c1 := z26.mp hc1
    have hc2' : LD c2 := z36.mp hc2
    have lt_ld : ∀ {c}, LT c → LD c := fun h => .inl h
    have mk1 : ∀ {a : Nat} {l : List Nat}, LT a → (∀ c ∈ l, LD c) → l.length ≤ 7 → Nm ([a] ++ l) := fun {a l} h1 h2 h3 => ⟨by simp; omega, ⟨a, l, rfl, h1⟩, fun c hc => by
      rcases List.mem_append.mp hc with h | h
      · rw [List.mem_singleton.mp h]; exact .inl h1
      · exact h2 c h⟩
    refine wp_cut (fun σ' H' => ∃ (nm : List Nat), σ' = [some (.ref P.p), some (.int n), some (.str (S Z26)), some (.str (S Z36)), some (.int way), some (.str (S ([c1] ++ fr))), some (.str (S bk)), some (.int fi), some (.ref q), some (.int i), some (.str (S nm)), x11] ∧ Nm nm ∧ H' q = some (.lst (ns.map sv)) ∧ Sees P G H') ?_ ?_
    · walk_at "st"
      refine ite_dec (fun h => ?_) (fun h => ?_)
      · walk_at "st"
        refine wp_ixSM (by decide) (Int.emod_nonneg _ (by omega)) (show _ < 26 from Int.emod_lt_of_pos _ (by omega)) fun c3 hc3 _ => ?_
        walk_at "st"
        refine c_l_draw (hs.with hG hqq hqp) (by omega) fun d4 H8 j0 j1 hs8 => ?_
        walk_at "st"
        refine c_l_word hs8 (by omega) fun w4 H9 k0 k1 hs9 => ?_
        walk_at "st"
        obtain ⟨hs10, hq10⟩ := hs9.back hs hG
        exact ⟨_, rfl, mk1 (z26.mp hc3) k1 (by omega), hq10, hs10⟩
      · walk_at "st"
        refine ⟨_, rfl, ?_, hqq, hs⟩
        have e : [c1] ++ fr ++ [c2] ++ bk = [c1] ++ (fr ++ [c2] ++ bk) := by simp
        rw [e]
        refine mk1 hc1' (fun c hc => ?_) (by simp; omega)
        rcases List.mem_append.mp hc with h | h
        · rcases List.mem_append.mp h with h | h
          · exact f1 c h
          · rw [List.mem_singleton.mp h]; exact hc2'
        · exact g1 c h
    · rintro σ' H8 ⟨nm, rfl, hnm1, hq8, hs8⟩
      refine wp_cut (fun σ' H' => ∃ (nm : List Nat), σ' = [some (.ref P.p), some (.int n), some (.str (S Z26)), some (.str (S Z36)), some (.int way), some (.str (S ([c1] ++ fr))), some (.str (S bk)), some (.int fi), some (.ref q), some (.int i), some (.str (S nm)), x11] ∧ Nm nm ∧ H' q = some (.lst (ns.map sv)) ∧ Sees P G H') ?_ ?_
      · walk_at "st"
        refine ite_dec (fun h => ?_) (fun h => ?_)
        · walk_at "st"
          refine c_l_draw (hs8.with hG hq8 hqp) (by omega) fun d4 H9 j0 j1 hs9 => ?_
          walk_at "st"
          refine wp_ixSM (by decide) j0 j1 fun c3 hc3 _ => ?_
          walk_at "st"
          refine c_l_draw hs9 (by omega) fun d5 H10 k0 k1 hs10 => ?_
          walk_at "st"
          refine c_l_word hs10 (by omega) fun w4 H11 l0 l1 hs11 => ?_
          walk_at "st"
          obtain ⟨hs12, hq12⟩ := hs11.back hs8 hG
          exact ⟨_, rfl, mk1 (z26.mp hc3) l1 (by omega), hq12, hs12⟩
        · walk_at "st"
          exact ⟨_, rfl, hnm1, hq8, hs8⟩
      · rintro σ' H9 ⟨nm, rfl, hnm1, hq9, hs9⟩
        walk_at "st"
        refine loop1 (by omega) (fun j σ' H' => ∃ (x11 : Option V) (nm : List Nat), σ' = [some (.ref P.p), some (.int n), some (.str (S Z26)), some (.str (S Z36)), some (.int way), some (.str (S ([c1] ++ fr))), some (.str (S bk)), some (.int fi), some (.ref q), some (.int i), some (.str (S nm)), x11] ∧
          Nm nm ∧ (nm ∉ ns ∨ ∀ a, a < j → zn a ∈ ns) ∧ H' = H9) ⟨x11, nm, rfl, hnm1, .inr (fun a h => absurd h (by omega)), rfl⟩ ?_ ?_
        · rintro j σ' H10 hj ⟨x, nm, rfl, hnm2, hout, rfl⟩
          walk_at "st"
          refine wp_inSv (sq_of hq9) ?_
          walk_at "st"
          refine ite_dec (fun h1 => ?_) (fun h1 => ?_)
          · walk_at "st"
            refine wp_strIntS (by omega) ?_
            refine wp_addS (by have := (zn_nm (j := j) (by omega)).len; unfold zn at this; simp at this ⊢; omega) ?_
            walk_at "st"
            refine wp_notInSv (sq_of hq9) ?_
            walk_at "st"
            refine ite_ndec (fun h2 => ?_) (fun h2 => ?_)
            · walk_at "st"
              refine wp_strIntS (by omega) ?_
              refine wp_addS (by have := (zn_nm (j := j) (by omega)).len; unfold zn at this; simp at this ⊢; omega) ?_
              walk_at "st"
              exact ⟨_, zn j, rfl, zn_nm (by omega), .inl h2, rfl⟩
            · walk_at "st"
              refine ⟨_, nm, rfl, hnm2, .inr fun a ha => ?_, rfl⟩
              rcases hout with h | h
              · exact absurd h1 h
              · by_cases e : a = j
                · rw [e]; exact h2
                · exact h a (by omega)
          · walk_at "st"
            exact ⟨_, nm, rfl, hnm2, .inl h1, rfl⟩
        · rintro σ' H10 ⟨x, nm, rfl, hnm2, hout, rfl⟩
          have hnot : nm ∉ ns := by
            rcases hout with h | h
            · exact h
            · exact absurd (zn_out (ns := ns) fun a ha => h a ha) (by omega)
          walk_at "st"
          refine wp_append hq9 (by rw [List.length_map]; omega) ?_
          walk_at "st"
          refine ⟨_, _, _, ns ++ [nm], rfl, by simp; omega, fun l h => ?_, ?_, ?_, hs9.set hG hqp⟩
          · rcases List.mem_append.mp h with h | h
            · exact hnm l h
            · rw [List.mem_singleton.mp h]; exact hnm2
          · refine List.nodup_append.mpr ⟨hnd, by simp, fun a ha b hb e => ?_⟩
            rw [List.mem_singleton] at hb
            rw [hb] at e
            exact hnot (e ▸ ha)
          · rw [List.map_append]; exact upd_same
  · rintro σ' H' ⟨x9, x10, x11, ns, rfl, hl, hnm, hnd, hqq, hs⟩
    walk_at "st"
    exact k ns q (upd G q (.lst (ns.map sv))) H' (by omega) hnm hnd (Same.new hG) upd_same (hs.with hG hqq hqp)
theorem len_l_names (K : PySem.W.Frag) (vs : List V) (H : Hp) (Q : VK) (E : XK) (h : sp_l_names K vs H Q E) : vs.length = 2 := by
  obtain ⟨P, m, G, rfl, _⟩ := h
  rfl
theorem c_l_names {K : PySem.W.Frag} {P : Pl} {G H : Hp} {n : Int} {Q : VK} {E : XK} (hs : Sees P G H) (h0 : 0 ≤ n ∧ n ≤ 12)
    (k : ∀ (ns : List (List Nat)) (q : Addr) (G' H' : Hp), (ns.length : Int) = n → (∀ l ∈ ns, Nm l) → ns.Nodup → Same G G' → G' q = some (.lst (ns.map sv)) → Sees P G' H' → Q (.ref q) H') : sp_l_names K [.ref P.p, .int n] H Q E :=
  ⟨P, n, G, rfl, h0.1, h0.2, hs, k⟩

def yn (j : Nat) : List Nat := [121] ++ dg j
theorem yn_nm {j : Nat} (h : j < 13) : Nm (yn j) := nm_iff.mp ((by decide +kernel : ∀ j, j < 13 → isNm (yn j) = true) j h)
theorem yn_nodup : ((List.range 13).map yn).Nodup := by decide +kernel
theorem yn_out {ns : List (List Nat)} (h : ∀ i, i < 13 → yn i ∈ ns) : 13 ≤ ns.length := by
  have z := nodup_sub yn_nodup (m := ns) fun x hx => by
    obtain ⟨i, hi, rfl⟩ := List.mem_map.mp hx
    exact h i (List.mem_range.mp hi)
  simpa using z
def sp_l_stranger (K : PySem.W.Frag) : Sp := fun vs H Q _ => ∃ (P : Pl) (q : Addr) (ns : List (List Nat)) (G : Hp), vs = [.ref P.p, .ref q] ∧ ns.length ≤ 12 ∧ (∀ l ∈ ns, Nm l) ∧ G q = some (.lst (ns.map sv)) ∧ Sees P G H ∧
  ∀ l H', Nm l → l ∉ ns → Sees P G H' → Q (.str (S l)) H'
abbrev N_l_stranger : List Str := ["_law_pool_here", "_law_names_here", "_law_found", "_law_j"]
theorem st_l_stranger {a0 a1 : V} : L2.start N_l_stranger [a0, a1] = [some a0, some a1, none, none] := rfl
def t_l_stranger (K : PySem.W.Frag) : TS :=
  (tSeq ((tAsg ((tOp rAddStr (tC (.str (S [121]))) ((tCall (sp_l_word K) [] E0 ((tCons (tVar 0) ((tCons ((tCall (sp_l_draw K) [] E0 ((tCons (tVar 0) ((tCons (tC (.int 8)) (tNil))))))) (tNil))))))))) (gName 2)))
    ((C8.tCut ((tIfS ((tAnd ((tTest (tOp (rI0 fun i j => .bl (decide (j < i))) ((tCB (rLenS K) ((tCons (tVar 1) (tNil))))) (tC (.int 0))))) ((tTest (tOp rEq ((tCall (sp_l_draw K) [] E0 ((tCons (tVar 0) ((tCons (tC (.int 2)) (tNil))))))) (tC (.int 1))))))) ((tAsg ((tOp rAddStr ((tSl rSlS ((tOp (rIxL K) (tVar 1) ((tCall (sp_l_draw K) [] E0 ((tCons (tVar 0) ((tCons ((tCB (rLenS K) ((tCons (tVar 1) (tNil))))) (tNil))))))))) tNoPart (tPart (tC (.int 7))))) (tC (.str (S [120]))))) (gName 2))) (tNext)))
    ((tSeq ((tFor ((iRng1 ((tCons (tC (.int 13)) (tNil))))) (gName 3) ((tIfS ((tAnd ((tTest (tOp (rIn K false) (tVar 2) (tVar 1)))) ((tTest (tOp (rIn K true) ((tOp rAddStr (tC (.str (S [121]))) ((tCB rStrInt ((tCons (tVar 3) (tNil))))))) (tVar 1)))))) ((tAsg ((tOp rAddStr (tC (.str (S [121]))) ((tCB rStrInt ((tCons (tVar 3) (tNil))))))) (gName 2))) (tNext)))))
    ((tRet (tVar 2))))))))

theorem pure_l_stranger (K : PySem.W.Frag) (vs : List V) (H : Hp) (Q : VK) (E : XK) (h : sp_l_stranger K vs H Q E) : t_l_stranger K { nx := fun _ H' => Q .non H', rt := Q } (L2.start N_l_stranger vs) H := by
  obtain ⟨P, q, ns, G, rfl, hl, hn, hq, hs, k⟩ := h
  have el : (ns.map sv).length = ns.length := List.length_map ..
  rw [st_l_stranger]
  unfold t_l_stranger
  walk_at "st"
  refine c_l_draw hs (by omega) fun d1 H1 a0 a1 hs1 => ?_
  walk_at "st"
  refine c_l_word hs1 (by omega) fun w H2 w0 w1 hs2 => ?_
  walk_at "st"
  have nm1 : Nm ([121] ++ w) := ⟨by simp; omega, ⟨121, w, rfl, by decide⟩, fun c hc => by
    rcases List.mem_append.mp hc with h | h
    · rw [List.mem_singleton.mp h]; decide
    · exact w1 c h⟩
  refine wp_cut (fun σ' H' => ∃ (l : List Nat), σ' = [some (.ref P.p), some (.ref q), some (.str (S l)), none] ∧ Nm l ∧ Sees P G H') ?_ ?_
  · walk_at "st"
    refine ite_dec (fun h1 => ?_) (fun h1 => ?_)
    · walk_at "st"
      refine c_l_draw hs2 (by omega) fun d2 H3 b0 b1 hs3 => ?_
      walk_at "st"
      refine ite_dec (fun h2 => ?_) (fun h2 => ?_)
      · walk_at "st"
        refine c_l_draw hs3 (by omega) fun d3 H4 c0 c1 hs4 => ?_
        walk_at "st"
        refine wp_ixLM (sq_of (hs4.sub _ _ hq)) c0 c1 fun x hx _ => ?_
        obtain ⟨l, hl2, rfl⟩ := List.mem_map.mp hx
        have hnl := hn l hl2
        walk_at "st"
        refine wp_sliceS (by have := hnl.len; omega) ?_
        walk_at "st"
        have e7 : cutG l none (some 7) = l.take 7 := by
          unfold cutG
          have e0 : HT.sIx l.length 0 none = 0 := rfl
          have e1 : HT.sIx l.length l.length (some 7) = min 7 l.length := by
            unfold HT.sIx
            simp only []
            split <;> omega
          rw [e0, e1]
          show (l.drop 0).take (min 7 l.length - 0) = l.take 7
          rw [List.drop_zero, Nat.sub_zero]
          exact (List.take_eq_take_min (i := 7)).symm
        rw [e7]
        refine wp_addS (by rw [List.length_take]; simp only [List.length_cons, List.length_nil]; omega) ?_
        walk_at "st"
        refine ⟨_, rfl, ?_, hs4⟩
        obtain ⟨c, r, e, hc⟩ := hnl.first
        refine ⟨by simp; omega, ⟨c, r.take 6 ++ [120], by rw [e]; rfl, hc⟩, fun y hy => ?_⟩
        rcases List.mem_append.mp hy with h | h
        · exact hnl.all y (List.mem_of_mem_take h)
        · rw [List.mem_singleton.mp h]; decide
      · walk_at "st"
        exact ⟨_, rfl, nm1, hs3⟩
    · walk_at "st"
      exact ⟨_, rfl, nm1, hs2⟩
  · rintro σ' H3 ⟨l, rfl, nl, hs3⟩
    have hq3 := hs3.sub _ _ hq
    walk_at "st"
    refine loop1 (by omega) (fun j σ' H' => ∃ (x : Option V) (l : List Nat), σ' = [some (.ref P.p), some (.ref q), some (.str (S l)), x] ∧ Nm l ∧ (l ∉ ns ∨ ∀ a, a < j → yn a ∈ ns) ∧ H' = H3) ⟨_, l, rfl, nl, .inr (fun a h => absurd h (by omega)), rfl⟩ ?_ ?_
    · rintro j σ' H4 hj ⟨x, l, rfl, nl, hout, rfl⟩
      walk_at "st"
      refine wp_inSv (sq_of hq3) ?_
      walk_at "st"
      refine ite_dec (fun h1 => ?_) (fun h1 => ?_)
      · walk_at "st"
        refine wp_strIntS (by omega) ?_
        refine wp_addS (by have := (yn_nm (j := j) (by omega)).len; unfold yn at this; simp at this ⊢; omega) ?_
        walk_at "st"
        refine wp_notInSv (sq_of hq3) ?_
        walk_at "st"
        refine ite_ndec (fun h2 => ?_) (fun h2 => ?_)
        · walk_at "st"
          refine wp_strIntS (by omega) ?_
          refine wp_addS (by have := (yn_nm (j := j) (by omega)).len; unfold yn at this; simp at this ⊢; omega) ?_
          walk_at "st"
          exact ⟨_, yn j, rfl, yn_nm (by omega), .inl h2, rfl⟩
        · walk_at "st"
          refine ⟨_, l, rfl, nl, .inr fun a ha => ?_, rfl⟩
          rcases hout with h | h
          · exact absurd h1 h
          · by_cases e : a = j
            · rw [e]; exact h2
            · exact h a (by omega)
      · walk_at "st"
        exact ⟨_, l, rfl, nl, .inl h1, rfl⟩
    · rintro σ' H4 ⟨x, l, rfl, nl, hout, rfl⟩
      walk_at "st"
      refine k l _ nl ?_ hs3
      rcases hout with h | h
      · exact h
      · exact absurd (yn_out (ns := ns) fun a ha => h a ha) (by omega)
theorem len_l_stranger (K : PySem.W.Frag) (vs : List V) (H : Hp) (Q : VK) (E : XK) (h : sp_l_stranger K vs H Q E) : vs.length = 2 := by
  obtain ⟨P, m, _, G, rfl, _⟩ := h
  rfl
theorem c_l_stranger {K : PySem.W.Frag} {P : Pl} {q : Addr} {ns : List (List Nat)} {G H : Hp} {Q : VK} {E : XK} (hs : Sees P G H) (hl : ns.length ≤ 12) (hn : ∀ l ∈ ns, Nm l) (hq : G q = some (.lst (ns.map sv))) (k : ∀ l H', Nm l → l ∉ ns → Sees P G H' → Q (.str (S l)) H') : sp_l_stranger K [.ref P.p, .ref q] H Q E :=
  ⟨P, q, ns, G, rfl, hl, hn, hq, hs, k⟩
def sp_l_length (K : PySem.W.Frag) : Sp := fun vs H Q _ => ∃ (P : Pl) (m : Int) (G : Hp), vs = [.ref P.p, .int m] ∧ 3 ≤ m ∧ m ≤ 120 ∧ Sees P G H ∧ ∀ T H', 3 ≤ T → T ≤ m ∨ T ≤ 8 → Sees P G H' → Q (.int T) H'
abbrev N_l_length : List Str := ["_law_pool_here", "_law_limit", "_law_way"]
theorem st_l_length {a0 a1 : V} : L2.start N_l_length [a0, a1] = [some a0, some a1, none] := rfl
def t_l_length (K : PySem.W.Frag) : TS :=
  (tSeq ((tAsg ((tCall (sp_l_draw K) [] E0 ((tCons (tVar 0) ((tCons (tC (.int 8)) (tNil))))))) (gName 2)))
    ((tSeq ((tIfS ((tTest (tOp (rI0 fun i j => .bl (decide (i < j))) (tVar 2) (tC (.int 4))))) ((tRet ((tOp (rI0 fun i j => .int (i + j)) (tC (.int 3)) ((tCall (sp_l_draw K) [] E0 ((tCons (tVar 0) ((tCons (tC (.int 6)) (tNil))))))))))) (tNext)))
    ((tSeq ((tIfS ((tTest (tOp (rI0 fun i j => .bl (decide (i < j))) (tVar 2) (tC (.int 7))))) ((tRet ((tCB rMin2 ((tCons (tVar 1) ((tCons ((tOp (rI0 fun i j => .int (i + j)) (tC (.int 9)) ((tCall (sp_l_draw K) [] E0 ((tCons (tVar 0) ((tCons (tC (.int 22)) (tNil))))))))) (tNil))))))))) (tNext)))
    ((tRet ((tCB rMax2 ((tCons (tC (.int 3)) ((tCons ((tOp (rI0 fun i j => .int (i - j)) (tVar 1) ((tCall (sp_l_draw K) [] E0 ((tCons (tVar 0) ((tCons (tVar 1) (tNil))))))))) (tNil))))))))))))))

theorem pure_l_length (K : PySem.W.Frag) (vs : List V) (H : Hp) (Q : VK) (E : XK) (h : sp_l_length K vs H Q E) : t_l_length K { nx := fun _ H' => Q .non H', rt := Q } (L2.start N_l_length vs) H := by
  obtain ⟨P, m, G, rfl, hm, hm2, hs, k⟩ := h
  rw [st_l_length]
  unfold t_l_length
  walk_at "st"
  refine c_l_draw hs (by omega) fun way H1 w0 w1 hs1 => ?_
  walk_at "st"
  refine ite_dec (fun h1 => ?_) (fun h1 => ?_)
  · walk_at "st"
    refine c_l_draw hs1 (by omega) fun d H2 d0 d1 hs2 => ?_
    walk_at "st"
    exact k _ _ (by omega) (.inr (by omega)) hs2
  · walk_at "st"
    refine ite_dec (fun h2 => ?_) (fun h2 => ?_)
    · walk_at "st"
      refine c_l_draw hs1 (by omega) fun d H2 d0 d1 hs2 => ?_
      walk_at "st"
      exact k _ _ (by split <;> omega) (.inl (by split <;> omega)) hs2
    · walk_at "st"
      refine c_l_draw hs1 (by omega) fun d H2 d0 d1 hs2 => ?_
      walk_at "st"
      exact k _ _ (by split <;> omega) (.inl (by split <;> omega)) hs2
theorem len_l_length (K : PySem.W.Frag) (vs : List V) (H : Hp) (Q : VK) (E : XK) (h : sp_l_length K vs H Q E) : vs.length = 2 := by
  obtain ⟨P, m, G, rfl, _⟩ := h
  rfl
theorem c_l_length {K : PySem.W.Frag} {P : Pl} {G H : Hp} {m : Int} {Q : VK} {E : XK} (hs : Sees P G H) (h0 : 3 ≤ m ∧ m ≤ 120) (k : ∀ T H', 3 ≤ T → T ≤ m ∨ T ≤ 8 → Sees P G H' → Q (.int T) H') : sp_l_length K [.ref P.p, .int m] H Q E :=
  ⟨P, m, G, rfl, h0.1, h0.2, hs, k⟩
def sp_l_size (K : PySem.W.Frag) : Sp := fun vs H Q _ => ∃ (P : Pl) (m : Int) (G : Hp), vs = [.ref P.p, .int m] ∧ 0 ≤ m ∧ m ≤ 1000 ∧ Sees P G H ∧ ∀ n H', 0 ≤ n → n ≤ m → Sees P G H' → Q (.int n) H'
abbrev N_l_size : List Str := ["_law_pool_here", "_law_limit", "_law_way"]
theorem st_l_size {a0 a1 : V} : L2.start N_l_size [a0, a1] = [some a0, some a1, none] := rfl
def t_l_size (K : PySem.W.Frag) : TS :=
  (tSeq ((tAsg ((tCall (sp_l_draw K) [] E0 ((tCons (tVar 0) ((tCons (tC (.int 8)) (tNil))))))) (gName 2)))
    ((tSeq ((tIfS ((tTest (tOp rEq (tVar 2) (tC (.int 0))))) ((tRet (tVar 1))) (tNext)))
    ((tSeq ((tIfS ((tTest (tOp rEq (tVar 2) (tC (.int 1))))) ((tRet ((tCB rMin2 ((tCons (tVar 1) ((tCons ((tCall (sp_l_draw K) [] E0 ((tCons (tVar 0) ((tCons (tC (.int 4)) (tNil))))))) (tNil))))))))) (tNext)))
    ((tRet ((tCall (sp_l_draw K) [] E0 ((tCons (tVar 0) ((tCons ((tOp (rI0 fun i j => .int (i + j)) (tVar 1) (tC (.int 1)))) (tNil))))))))))))))

theorem pure_l_size (K : PySem.W.Frag) (vs : List V) (H : Hp) (Q : VK) (E : XK) (h : sp_l_size K vs H Q E) : t_l_size K { nx := fun _ H' => Q .non H', rt := Q } (L2.start N_l_size vs) H := by
  obtain ⟨P, m, G, rfl, hm, hm2, hs, k⟩ := h
  rw [st_l_size]
  unfold t_l_size
  walk_at "st"
  refine c_l_draw hs (by omega) fun way H1 w0 w1 hs1 => ?_
  walk_at "st"
  refine ite_dec (fun h1 => ?_) (fun h1 => ?_)
  · walk_at "st"
    exact k _ _ hm (by omega) hs1
  · walk_at "st"
    refine ite_dec (fun h2 => ?_) (fun h2 => ?_)
    · walk_at "st"
      refine c_l_draw hs1 (by omega) fun d H2 d0 d1 hs2 => ?_
      walk_at "st"
      exact k _ _ (by split <;> omega) (by split <;> omega) hs2
    · walk_at "st"
      refine c_l_draw hs1 (by omega) fun d H2 d0 d1 hs2 => ?_
      walk_at "st"
      exact k _ _ (by omega) (by omega) hs2
theorem len_l_size (K : PySem.W.Frag) (vs : List V) (H : Hp) (Q : VK) (E : XK) (h : sp_l_size K vs H Q E) : vs.length = 2 := by
  obtain ⟨P, m, G, rfl, _⟩ := h
  rfl
theorem c_l_size {K : PySem.W.Frag} {P : Pl} {G H : Hp} {m : Int} {Q : VK} {E : XK} (hs : Sees P G H) (h0 : 0 ≤ m ∧ m ≤ 1000) (k : ∀ n H', 0 ≤ n → n ≤ m → Sees P G H' → Q (.int n) H') : sp_l_size K [.ref P.p, .int m] H Q E :=
  ⟨P, m, G, rfl, h0.1, h0.2, hs, k⟩
def sp_l_some (K : PySem.W.Frag) : Sp := fun vs H Q _ => ∃ (P : Pl) (m : Int) (G : Hp), vs = [.ref P.p, .int m] ∧ 0 ≤ m ∧ m ≤ 1000 ∧ Sees P G H ∧ ∀ n H', 0 ≤ n → n ≤ m → Sees P G H' → Q (.int n) H'
abbrev N_l_some : List Str := ["_law_pool_here", "_law_limit", "_law_way"]
theorem st_l_some {a0 a1 : V} : L2.start N_l_some [a0, a1] = [some a0, some a1, none] := rfl
def t_l_some (K : PySem.W.Frag) : TS :=
  (tSeq ((tAsg ((tCall (sp_l_draw K) [] E0 ((tCons (tVar 0) ((tCons (tC (.int 4)) (tNil))))))) (gName 2)))
    ((tSeq ((tIfS ((tTest (tOp rEq (tVar 2) (tC (.int 0))))) ((tRet (tVar 1))) (tNext)))
    ((tSeq ((tIfS ((tTest (tOp rEq (tVar 2) (tC (.int 1))))) ((tRet ((tCall (sp_l_draw K) [] E0 ((tCons (tVar 0) ((tCons ((tOp (rI0 fun i j => .int (i + j)) (tVar 1) (tC (.int 1)))) (tNil))))))))) (tNext)))
    ((tRet ((tCall (sp_l_draw K) [] E0 ((tCons (tVar 0) ((tCons ((tOp (rI0 fun i j => .int (i + j)) ((tCB rMin2 ((tCons (tVar 1) ((tCons (tC (.int 2)) (tNil))))))) (tC (.int 1)))) (tNil))))))))))))))

theorem pure_l_some (K : PySem.W.Frag) (vs : List V) (H : Hp) (Q : VK) (E : XK) (h : sp_l_some K vs H Q E) : t_l_some K { nx := fun _ H' => Q .non H', rt := Q } (L2.start N_l_some vs) H := by
  obtain ⟨P, m, G, rfl, hm, hm2, hs, k⟩ := h
  rw [st_l_some]
  unfold t_l_some
  walk_at "st"
  refine c_l_draw hs (by omega) fun way H1 w0 w1 hs1 => ?_
  walk_at "st"
  refine ite_dec (fun h1 => ?_) (fun h1 => ?_)
  · walk_at "st"
    exact k _ _ hm (by omega) hs1
  · walk_at "st"
    refine ite_dec (fun h2 => ?_) (fun h2 => ?_)
    · walk_at "st"
      refine c_l_draw hs1 (by omega) fun d H2 d0 d1 hs2 => ?_
      exact k _ _ (by omega) (by omega) hs2
    · walk_at "st"
      have e : (0 : Int) < (if (2 : Int) < m then 2 else m) + 1 ∧ (if (2 : Int) < m then 2 else m) + 1 < 1073741824 ∧ (if (2 : Int) < m then 2 else m) ≤ m := by split <;> omega
      refine c_l_draw hs1 ⟨e.1, e.2.1⟩ fun d H2 d0 d1 hs2 => ?_
      exact k _ _ (by omega) (by have := e.2.2; omega) hs2
theorem len_l_some (K : PySem.W.Frag) (vs : List V) (H : Hp) (Q : VK) (E : XK) (h : sp_l_some K vs H Q E) : vs.length = 2 := by
  obtain ⟨P, m, G, rfl, _⟩ := h
  rfl
theorem c_l_some {K : PySem.W.Frag} {P : Pl} {G H : Hp} {m : Int} {Q : VK} {E : XK} (hs : Sees P G H) (h0 : 0 ≤ m ∧ m ≤ 1000) (k : ∀ n H', 0 ≤ n → n ≤ m → Sees P G H' → Q (.int n) H') : sp_l_some K [.ref P.p, .int m] H Q E :=
  ⟨P, m, G, rfl, h0.1, h0.2, hs, k⟩
def sp_l_weight (K : PySem.W.Frag) : Sp := fun vs H Q _ => ∃ (P : Pl) (G : Hp), vs = [.ref P.p] ∧ Sees P G H ∧ ∀ n H', 0 ≤ n → n ≤ 99 → Sees P G H' → Q (.int n) H'
abbrev N_l_weight : List Str := ["_law_pool_here", "_law_way"]
theorem st_l_weight {a0 : V} : L2.start N_l_weight [a0] = [some a0, none] := rfl
def t_l_weight (K : PySem.W.Frag) : TS :=
  (tSeq ((tAsg ((tCall (sp_l_draw K) [] E0 ((tCons (tVar 0) ((tCons (tC (.int 4)) (tNil))))))) (gName 1)))
    ((tSeq ((tIfS ((tTest (tOp rEq (tVar 1) (tC (.int 0))))) ((tRet ((tCall (sp_l_draw K) [] E0 ((tCons (tVar 0) ((tCons (tC (.int 100)) (tNil))))))))) (tNext)))
    ((tSeq ((tIfS ((tTest (tOp rEq (tVar 1) (tC (.int 1))))) ((tRet (tC (.int 99)))) (tNext)))
    ((tRet ((tCall (sp_l_draw K) [] E0 ((tCons (tVar 0) ((tCons (tC (.int 4)) (tNil))))))))))))))

theorem pure_l_weight (K : PySem.W.Frag) (vs : List V) (H : Hp) (Q : VK) (E : XK) (h : sp_l_weight K vs H Q E) : t_l_weight K { nx := fun _ H' => Q .non H', rt := Q } (L2.start N_l_weight vs) H := by
  obtain ⟨P, G, rfl, hs, k⟩ := h
  rw [st_l_weight]
  unfold t_l_weight
  walk_at "st"
  refine c_l_draw hs (by omega) fun way H1 w0 w1 hs1 => ?_
  walk_at "st"
  refine ite_dec (fun h1 => ?_) (fun h1 => ?_)
  · walk_at "st"
    refine c_l_draw hs1 (by omega) fun d H2 d0 d1 hs2 => ?_
    exact k _ _ (by omega) (by omega) hs2
  · walk_at "st"
    refine ite_dec (fun h2 => ?_) (fun h2 => ?_)
    · walk_at "st"
      exact k _ _ (by omega) (by omega) hs1
    · walk_at "st"
      refine c_l_draw hs1 (by omega) fun d H2 d0 d1 hs2 => ?_
      exact k _ _ (by omega) (by omega) hs2
theorem len_l_weight (K : PySem.W.Frag) (vs : List V) (H : Hp) (Q : VK) (E : XK) (h : sp_l_weight K vs H Q E) : vs.length = 1 := by
  obtain ⟨P, G, rfl, _⟩ := h
  rfl
theorem c_l_weight {K : PySem.W.Frag} {P : Pl} {G H : Hp} {Q : VK} {E : XK} (hs : Sees P G H) (k : ∀ n H', 0 ≤ n → n ≤ 99 → Sees P G H' → Q (.int n) H') : sp_l_weight K [.ref P.p] H Q E := ⟨P, G, rfl, hs, k⟩
def sp_l_span (K : PySem.W.Frag) : Sp := fun vs H Q _ => ∃ (P : Pl) (T : Int) (q : Addr) (ns : List (List Nat)) (G : Hp), vs = [.ref P.p, .int T, .ref q] ∧ OkNs T ns ∧ 2 ≤ ns.length ∧ G q = some (.lst (ns.map sv)) ∧ Sees P G H ∧
  ∀ x G' H', IsSp G' T ns x → Same G G' → Sees P G' H' → Q x H'
abbrev N_l_span : List Str := ["_law_pool_here", "_law_length_here", "_law_names_here", "_law_u", "_law_v", "_law_low", "_law_high"]
theorem st_l_span {a0 a1 a2 : V} : L2.start N_l_span [a0, a1, a2] = [some a0, some a1, some a2, none, none, none, none] := rfl
def t_l_span (K : PySem.W.Frag) : TS :=
  (tSeq ((tAsg ((tCall (sp_l_draw K) [] E0 ((tCons (tVar 0) ((tCons ((tCB (rLenS K) ((tCons (tVar 2) (tNil))))) (tNil))))))) (gName 3)))
    ((tSeq ((tAsg ((tOp (rI (fun _ j => 0 < j) fun i j => .int (i % j)) ((tCB rInt1 ((tCons ((tOp (rI0 fun i j => .int (i + j)) ((tOp (rI0 fun i j => .int (i + j)) (tVar 3) (tC (.int 1)))) ((tCall (sp_l_draw K) [] E0 ((tCons (tVar 0) ((tCons ((tOp (rI0 fun i j => .int (i - j)) ((tCB (rLenS K) ((tCons (tVar 2) (tNil))))) (tC (.int 1)))) (tNil))))))))) (tNil))))) ((tCB (rLenS K) ((tCons (tVar 2) (tNil))))))) (gName 4)))
    ((tSeq ((tAsg ((tCall (sp_l_some K) [] E0 ((tCons (tVar 0) ((tCons ((tOp (rI0 fun i j => .int (i - j)) (tVar 1) (tC (.int 1)))) (tNil))))))) (gName 5)))
    ((tSeq ((tAsg ((tOp (rI0 fun i j => .int (i + j)) (tVar 5) ((tCall (sp_l_some K) [] E0 ((tCons (tVar 0) ((tCons ((tOp (rI0 fun i j => .int (i - j)) (tVar 1) (tC (.int 3)))) (tNil))))))))) (gName 6)))
    ((tRet ((tTup ((tCons ((tOp (rIxL K) (tVar 2) (tVar 3))) ((tCons ((tOp (rIxL K) (tVar 2) (tVar 4))) ((tCons (tVar 5) ((tCons (tVar 6) ((tCons ((tCall (sp_l_weight K) [] E0 ((tCons (tVar 0) (tNil))))) (tNil))))))))))))))))))))))

theorem pure_l_span (K : PySem.W.Frag) (vs : List V) (H : Hp) (Q : VK) (E : XK) (h : sp_l_span K vs H Q E) : t_l_span K { nx := fun _ H' => Q .non H', rt := Q } (L2.start N_l_span vs) H := by
  obtain ⟨P, T, q, ns, G, rfl, ok, hl, hq, hs, k⟩ := h
  have t0 := ok.t0
  have t1 := ok.t1
  have f := ok.few
  have el : (ns.map sv).length = ns.length := List.length_map ..
  rw [st_l_span]
  unfold t_l_span
  walk_at "st"
  refine c_l_draw hs (by omega) fun u H1 u0 u1 hs1 => ?_
  walk_at "st"
  refine c_l_draw hs1 (by omega) fun d H2 d0 d1 hs2 => ?_
  walk_at "st"
  rw [el] at u1 d1 ⊢
  have v0 : 0 ≤ (u + 1 + d) % (ns.length : Int) := Int.emod_nonneg _ (by omega)
  have v1 : (u + 1 + d) % (ns.length : Int) < ns.length := Int.emod_lt_of_pos _ (by omega)
  have vne : (u + 1 + d) % (ns.length : Int) ≠ u := fun e => by
    by_cases hh : u + 1 + d < ns.length
    · rw [Int.emod_eq_of_lt (by omega) hh] at e; omega
    · have e2 : u + 1 + d = (u + 1 + d - ns.length) + ns.length := by omega
      rw [e2, Int.add_emod_right, Int.emod_eq_of_lt (by omega) (by omega)] at e
      omega
  revert v0 v1 vne
  generalize (u + 1 + d) % (ns.length : Int) = v
  intro v0 v1 vne
  refine c_l_some hs2 (by omega) fun lo H3 l0 l1 hs3 => ?_
  walk_at "st"
  refine c_l_some hs3 (by omega) fun hi H4 h0 h1 hs4 => ?_
  walk_at "st"
  refine wp_ixLM (sq_of (hs4.sub _ _ hq)) u0 (by omega) fun x hx hx2 => ?_
  walk_at "st"
  refine wp_ixLM (sq_of (hs4.sub _ _ hq)) v0 (by omega) fun y hy hy2 => ?_
  walk_at "st"
  refine c_l_weight hs4 fun w H5 w0 w1 hs5 => ?_
  walk_at "st"
  obtain ⟨a, ha, rfl⟩ := List.mem_map.mp hx
  obtain ⟨b, hb, rfl⟩ := List.mem_map.mp hy
  refine ⟨by simp [sizeLine_eq], fun p hp => ?_⟩
  have hne : a ≠ b := fun e => by
    subst e
    rw [List.getElem?_map] at hx2 hy2
    obtain ⟨a1, e1, e2⟩ := Option.map_eq_some_iff.mp hx2
    obtain ⟨a2, e3, e4⟩ := Option.map_eq_some_iff.mp hy2
    have z1 : a1 = a := S_inj (V.str.inj e2)
    have z2 : a2 = a := S_inj (V.str.inj e4)
    subst z1 z2
    have hu : u.toNat < ns.length := by omega
    have hv : v.toNat < ns.length := by omega
    have nd := List.pairwise_iff_getElem.mp ok.nodup
    have q1 := (List.getElem?_eq_some_iff.mp e1).2
    have q2 := (List.getElem?_eq_some_iff.mp e3).2
    rcases Nat.lt_trichotomy u.toNat v.toNat with h | h | h
    · exact nd _ _ hu hv h (q1.trans q2.symm)
    · omega
    · exact nd _ _ hv hu h (q2.trans q1.symm)
  exact k _ _ _ ⟨⟨a, b, lo, lo + hi, w⟩, ⟨p, rfl, upd_same⟩, ⟨ha, hb, hne, l0, l1, by show lo ≤ lo + hi; omega, by show lo + hi ≤ lo + T - 3; omega, w0, w1⟩⟩ (Same.new (hs5.fresh hp).1) (hs5.new hp)
theorem len_l_span (K : PySem.W.Frag) (vs : List V) (H : Hp) (Q : VK) (E : XK) (h : sp_l_span K vs H Q E) : vs.length = 3 := by
  obtain ⟨P, G, _, _, _, rfl, _⟩ := h
  rfl
theorem c_l_span {K : PySem.W.Frag} {P : Pl} {T : Int} {q : Addr} {ns : List (List Nat)} {G H : Hp} {Q : VK} {E : XK} (hs : Sees P G H) (ok : OkNs T ns) (hl : 2 ≤ ns.length) (hq : G q = some (.lst (ns.map sv))) (k : ∀ x G' H', IsSp G' T ns x → Same G G' → Sees P G' H' → Q x H') : sp_l_span K [.ref P.p, .int T, .ref q] H Q E := ⟨P, T, q, ns, G, rfl, ok, hl, hq, hs, k⟩
def sp_l_spans (K : PySem.W.Frag) : Sp := fun vs H Q _ => ∃ (P : Pl) (T : Int) (q : Addr) (m : Int) (ns : List (List Nat)) (G : Hp), vs = [.ref P.p, .int T, .ref q, .int m] ∧ OkNs T ns ∧ 0 ≤ m ∧ m ≤ 24 ∧ G q = some (.lst (ns.map sv)) ∧ Sees P G H ∧
  ∀ p ss G' H', OkSp G' T ns ss → (ss.length : Int) ≤ m → (2 ≤ ns.length ∨ ss = []) → G' p = some (.lst ss) → Same G G' → Sees P G' H' → Q (.ref p) H'
abbrev N_l_spans : List Str := ["_law_pool_here", "_law_length_here", "_law_names_here", "_law_limit", "_law_spans_here", "_law_k", "_law_span_here"]
theorem st_l_spans {a0 a1 a2 a3 : V} : L2.start N_l_spans [a0, a1, a2, a3] = [some a0, some a1, some a2, some a3, none, none, none] := rfl
def t_l_spans (K : PySem.W.Frag) : TS :=
  (tSeq ((tAsg ((tLst (tNil))) (gName 4)))
    ((tSeq ((tIfS ((tTest (tOp (rI0 fun i j => .bl (decide (i < j))) ((tCB (rLenS K) ((tCons (tVar 2) (tNil))))) (tC (.int 2))))) ((tRet (tVar 4))) (tNext)))
    ((tSeq ((tFor ((iRng1 ((tCons ((tCall (sp_l_size K) [] E0 ((tCons (tVar 0) ((tCons (tVar 3) (tNil))))))) (tNil))))) (gName 5) ((tSeq ((tAsg ((tCall (sp_l_span K) [] E0 ((tCons (tVar 0) ((tCons (tVar 1) ((tCons (tVar 2) (tNil))))))))) (gName 6)))
    ((C8.tCut ((tIfS ((tAnd ((tTest (tOp (rI0 fun i j => .bl (decide (j < i))) ((tCB (rLenS K) ((tCons (tVar 4) (tNil))))) (tC (.int 0))))) ((tTest (tOp rEq ((tCall (sp_l_draw K) [] E0 ((tCons (tVar 0) ((tCons (tC (.int 6)) (tNil))))))) (tC (.int 1))))))) ((tAsg ((tOp (rIxL K) (tVar 4) ((tCall (sp_l_draw K) [] E0 ((tCons (tVar 0) ((tCons ((tCB (rLenS K) ((tCons (tVar 4) (tNil))))) (tNil))))))))) (gName 6))) (tNext)))
    ((tDrop ((tBM K "list" rAppend (tVar 4) ((tCons (tVar 6) (tNil)))))))))))))
    ((tRet (tVar 4))))))))

theorem pure_l_spans (K : PySem.W.Frag) (vs : List V) (H : Hp) (Q : VK) (E : XK) (h : sp_l_spans K vs H Q E) : t_l_spans K { nx := fun _ H' => Q .non H', rt := Q } (L2.start N_l_spans vs) H := by
  obtain ⟨P, T, q, m, ns, G, rfl, ok, hm, hm2, hq, hs, k⟩ := h
  have el : (ns.map sv).length = ns.length := List.length_map ..
  rw [st_l_spans]
  unfold t_l_spans
  walk_at "st"
  refine ⟨Nat.zero_le _, fun L hL => ?_⟩
  obtain ⟨hG, hLp⟩ := hs.fresh hL
  have hs0 := hs.set (o := .lst []) hG hLp
  have hLc : L ≠ P.l := (ne_of_none hs.cell hG).symm
  walk_at "st"
  refine ite_dec (fun h1 => ?_) (fun h1 => ?_)
  · walk_at "st"
    exact k L [] _ _ ⟨by simp, by simp⟩ (by simpa using hm) (.inr rfl) upd_same (Same.new hG) (hs0.with hG upd_same hLp)
  · walk_at "st"
    rw [el] at h1
    refine c_l_size (hs0.with hG upd_same hLp) (by omega) fun n H1 n0 n1 hs1 => ?_
    walk_at "st"
    obtain ⟨hs2, hL2⟩ := hs1.back hs0 hG
    refine loop1 (by omega) (fun i σ' H' => ∃ (x y : Option V) (ss : List V) (G' : Hp), σ' = [some (.ref P.p), some (.int T), some (.ref q), some (.int m), some (.ref L), x, y] ∧ ss.length = i ∧ (∀ z ∈ ss, IsSp G' T ns z) ∧ H' L = some (.lst ss) ∧ G' L = none ∧ Same G G' ∧ Sees P G' H') ⟨none, none, [], G, rfl, rfl, by simp, hL2, hG, Same.refl _, hs2⟩ ?_ ?_
    · rintro i σ' H' hi ⟨x, y, ss, G', rfl, hl, hsp, hLL, hGL, sG, hs3⟩
      walk_at "st"
      refine c_l_span (hs3.with hGL hLL hLp) ok (by omega) ((Same.new hGL) _ _ (sG _ _ hq)) fun z G2 H2 hz sG2 hs4 => ?_
      walk_at "st"
      have hL4 := sG2 L _ upd_same
      refine wp_cut (fun σ' H' => ∃ (z : V), σ' = [some (.ref P.p), some (.int T), some (.ref q), some (.int m), some (.ref L), some (.int i), some z] ∧ IsSp G2 T ns z ∧ Sees P G2 H') ?_ ?_
      · walk_at "st"
        refine ite_dec (fun h2 => ?_) (fun h2 => ?_)
        · walk_at "st"
          refine c_l_draw hs4 (by omega) fun d H3 d0 d1 hs5 => ?_
          walk_at "st"
          refine ite_dec (fun h3 => ?_) (fun h3 => ?_)
          · walk_at "st"
            refine c_l_draw hs5 (by omega) fun d H3 d0 d1 hs6 => ?_
            walk_at "st"
            refine wp_ixLM (sq_of (hs6.sub _ _ hL4)) d0 d1 fun z2 hz2 _ => ?_
            walk_at "st"
            exact ⟨_, rfl, (hsp _ hz2).mono ((Same.new hGL).trans sG2), hs6⟩
          · walk_at "st"
            exact ⟨_, rfl, hz, hs5⟩
        · walk_at "st"
          exact ⟨_, rfl, hz, hs4⟩
      · rintro σ' H3 ⟨z, rfl, hz2, hs5⟩
        walk_at "st"
        refine wp_append (hs5.sub _ _ hL4) (by omega) ?_
        walk_at "st"
        refine ⟨_, _, ss ++ [z], rmv G2 L, rfl, by simp; omega, fun y hy => ?_, upd_same, rmv_same, sG.trans (Same.rmv ((Same.new hGL).trans sG2) hGL), (hs5.less hL4 hLc).set rmv_same hLp⟩
        rcases List.mem_append.mp hy with h | h
        · exact ((hsp y h).mono ((Same.new hGL).trans sG2)).rmv hL4
        · rw [List.mem_singleton.mp h]
          exact hz2.rmv hL4
    · rintro σ' H' ⟨x, y, ss, G', rfl, hl, hsp, hLL, hGL, sG, hs3⟩
      walk_at "st"
      exact k L ss (upd G' L (.lst ss)) H' ⟨by omega, fun z hz => (hsp z hz).mono (Same.new hGL)⟩ (by omega) (.inl (by omega)) upd_same (sG.trans (Same.new hGL)) (hs3.with hGL hLL hLp)
theorem len_l_spans (K : PySem.W.Frag) (vs : List V) (H : Hp) (Q : VK) (E : XK) (h : sp_l_spans K vs H Q E) : vs.length = 4 := by
  obtain ⟨P, G, _, _, _, _, rfl, _⟩ := h
  rfl
theorem c_l_spans {K : PySem.W.Frag} {P : Pl} {T : Int} {q : Addr} {m : Int} {ns : List (List Nat)} {G H : Hp} {Q : VK} {E : XK} (hs : Sees P G H) (ok : OkNs T ns) (hm : 0 ≤ m ∧ m ≤ 24) (hq : G q = some (.lst (ns.map sv)))
    (k : ∀ p ss G' H', OkSp G' T ns ss → (ss.length : Int) ≤ m → (2 ≤ ns.length ∨ ss = []) → G' p = some (.lst ss) → Same G G' → Sees P G' H' → Q (.ref p) H') : sp_l_spans K [.ref P.p, .int T, .ref q, .int m] H Q E := ⟨P, T, q, m, ns, G, rfl, ok, hm.1, hm.2, hq, hs, k⟩
def sp_l_is_int (K : PySem.W.Frag) : Sp := fun vs H Q _ => ∃ (i : Int), vs = [.int i] ∧ Q (.bl true) H
abbrev N_l_is_int : List Str := ["_law_thing"]
theorem st_l_is_int {a0 : V} : L2.start N_l_is_int [a0] = [some a0] := rfl
def t_l_is_int (K : PySem.W.Frag) : TS :=
  (tRet ((tAndV ((tCB (rIsi K) ((tCons (tVar 0) ((tCons (tC (.ty "int")) (tNil))))))) ((tNotV ((tCB (rIsi K) ((tCons (tVar 0) ((tCons (tC (.ty "bool")) (tNil))))))))))))

theorem pure_l_is_int (K : PySem.W.Frag) (vs : List V) (H : Hp) (Q : VK) (E : XK) (h : sp_l_is_int K vs H Q E) : t_l_is_int K { nx := fun _ H' => Q .non H', rt := Q } (L2.start N_l_is_int vs) H := by
  obtain ⟨i, rfl, k⟩ := h
  rw [st_l_is_int]
  unfold t_l_is_int
  walk_at "st"
  exact k
theorem len_l_is_int (K : PySem.W.Frag) (vs : List V) (H : Hp) (Q : VK) (E : XK) (h : sp_l_is_int K vs H Q E) : vs.length = 1 := by
  obtain ⟨P, rfl, _⟩ := h
  rfl
theorem c_l_is_int {K : PySem.W.Frag} {i : Int} {H : Hp} {Q : VK} {E : XK} (k : Q (.bl true) H) : sp_l_is_int K [.int i] H Q E := ⟨i, rfl, k⟩
def sp_l_same (K : PySem.W.Frag) (n : Nat) : Sp := fun vs H Q _ => ∃ (u v : V), vs = [u, v] ∧ Sm H n u v ∧ ∀ H', Same H H' → Q (.bl true) H'
theorem sp0_l_same (K : PySem.W.Frag) {vs : List V} {H : Hp} {Q : VK} {E : XK} (h : sp_l_same K 0 vs H Q E) : False := by
  obtain ⟨u, v, _, h, _⟩ := h
  exact h
theorem c_l_same {K : PySem.W.Frag} {n : Nat} {u v : V} {H : Hp} {Q : VK} {E : XK} (h : Sm H n u v) (k : ∀ H', Same H H' → Q (.bl true) H') : sp_l_same K n [u, v] H Q E := ⟨u, v, rfl, h, k⟩
abbrev N_l_same : List Str := ["_law_actual", "_law_due_here", "_law_key", "_law_k"]
theorem st_l_same {a0 a1 : V} : L2.start N_l_same [a0, a1] = [some a0, some a1, none, none] := rfl
def t_l_same (K : PySem.W.Frag) (n : Nat) : TS :=
  (tSeq ((tIfS ((tTest (tOp rIsN (tVar 1) (tC .non)))) ((tRet ((tOp rIsN (tVar 0) (tC .non))))) (tNext)))
    ((tSeq ((tIfS ((tB ((tCB (rIsi K) ((tCons (tVar 1) ((tCons (tC (.ty "bool")) (tNil))))))))) ((tRet ((tAndV ((tCB (rIsi K) ((tCons (tVar 0) ((tCons (tC (.ty "bool")) (tNil))))))) ((tOp rEq (tVar 0) (tVar 1))))))) (tNext)))
    ((tSeq ((tIfS ((tB ((tCB (rIsi K) ((tCons (tVar 1) ((tCons (tC (.ty "int")) (tNil))))))))) ((tRet ((tAndV ((tCall (sp_l_is_int K) [] E0 ((tCons (tVar 0) (tNil))))) ((tOp rEq (tVar 0) (tVar 1))))))) (tNext)))
    ((tSeq ((tIfS ((tB ((tCB (rIsi K) ((tCons (tVar 1) ((tCons (tC (.ty "str")) (tNil))))))))) ((tRet ((tAndV ((tCB (rIsi K) ((tCons (tVar 0) ((tCons (tC (.ty "str")) (tNil))))))) ((tOp rEq (tVar 0) (tVar 1))))))) (tNext)))
    ((tSeq ((tIfS ((tB ((tCB (rIsi K) ((tCons (tVar 1) ((tCons (tC (.ty "dict")) (tNil))))))))) ((tSeq (tNever)
    ((tSeq (tNever)
    ((tRet (tC (.bl true)))))))) (tNext)))
    ((tSeq ((tIfS ((tAnd ((tB ((tCB (rIsi K) ((tCons (tVar 1) ((tCons (tC (.ty "list")) (tNil))))))))) ((tNot ((tB ((tCB (rIsi K) ((tCons (tVar 0) ((tCons (tC (.ty "list")) (tNil))))))))))))) ((tRet (tC (.bl false)))) (tNext)))
    ((tSeq ((tIfS ((tAnd ((tB ((tCB (rIsi K) ((tCons (tVar 1) ((tCons (tC (.ty "tuple")) (tNil))))))))) ((tNot ((tB ((tCB (rIsi K) ((tCons (tVar 0) ((tCons (tC (.ty "tuple")) (tNil))))))))))))) ((tRet (tC (.bl false)))) (tNext)))
    ((tSeq ((tIfS ((tTest (tOp rNe ((tCB (rLenS K) ((tCons (tVar 0) (tNil))))) ((tCB (rLenS K) ((tCons (tVar 1) (tNil)))))))) ((tRet (tC (.bl false)))) (tNext)))
    ((tSeq ((tFor ((iRng1 ((tCons ((tCB (rLenS K) ((tCons (tVar 1) (tNil))))) (tNil))))) (gName 3) ((tIfS ((tNot ((tB ((tCall (sp_l_same K n) [] E0 ((tCons ((tOp (rIx K) (tVar 0) (tVar 3))) ((tCons ((tOp (rIx K) (tVar 1) (tVar 3))) (tNil))))))))))) ((tRet (tC (.bl false)))) (tNext)))))
    ((tRet (tC (.bl true)))))))))))))))))))))

theorem pure_l_same (K : PySem.W.Frag) (n : Nat) (vs : List V) (H : Hp) (Q : VK) (E : XK) (h : sp_l_same K (n + 1) vs H Q E) : t_l_same K n { nx := fun _ H' => Q .non H', rt := Q } (L2.start N_l_same vs) H := by
  obtain ⟨u, v, rfl, h, k⟩ := h
  rw [st_l_same]
  unfold t_l_same
  rcases h with ⟨rfl, h⟩ | ⟨a, b, xs, ys, rfl, rfl, h, hl, hk, hr⟩
  · rcases h with rfl | ⟨c, rfl⟩ | ⟨i, rfl⟩ | ⟨z, rfl⟩
    · walk_at "st"
      rw [decide_eq_true rfl]
      walk_at "st"
      exact k _ (Same.refl _)
    · walk_at "st"
      rw [decide_eq_false (by simp)]
      walk_at "st"
      rw [decide_eq_true rfl]
      exact k _ (Same.refl _)
    · walk_at "st"
      rw [decide_eq_false (by simp)]
      walk_at "st"
      refine c_l_is_int ?_
      walk_at "st"
      rw [decide_eq_true rfl]
      exact k _ (Same.refl _)
    · walk_at "st"
      rw [decide_eq_false (by simp)]
      walk_at "st"
      rw [decide_eq_true rfl]
      exact k _ (Same.refl _)
  · rcases h with ⟨ha, hb⟩ | ⟨ha, hb⟩
    · walk_at "st"
      rw [decide_eq_false (by simp)]
      walk_at "st"
      refine loop1 (by omega) (fun i σ' H' => ∃ x y, σ' = [some (.ref a), some (.ref b), x, y] ∧ Same H H') ⟨_, _, rfl, Same.refl _⟩ ?_ ?_
      · rintro i σ' H' hi ⟨x, y, rfl, s2⟩
        have hyi : i < ys.length := by omega
        have hxi : i < xs.length := by omega
        walk_at "st"
        refine wp_rixL (sq_of (s2 _ _ ha)) (at_nth (List.getElem?_eq_getElem hxi)) ?_
        walk_at "st"
        refine wp_rixL (sq_of (s2 _ _ hb)) (at_nth (List.getElem?_eq_getElem hyi)) ?_
        walk_at "st"
        refine c_l_same ((hr i _ _ (List.getElem?_eq_getElem hxi) (List.getElem?_eq_getElem hyi)).mono s2) fun H3 s3 => ?_
        walk_at "st"
        exact ⟨_, _, rfl, s2.trans s3⟩
      · rintro σ' H' ⟨x, y, rfl, s2⟩
        walk_at "st"
        exact k _ s2
    · walk_at "st"
      rw [decide_eq_false (by simp)]
      walk_at "st"
      refine loop1 (by omega) (fun i σ' H' => ∃ x y, σ' = [some (.ref a), some (.ref b), x, y] ∧ Same H H') ⟨_, _, rfl, Same.refl _⟩ ?_ ?_
      · rintro i σ' H' hi ⟨x, y, rfl, s2⟩
        have hyi : i < ys.length := by omega
        have hxi : i < xs.length := by omega
        walk_at "st"
        refine wp_rixT (st_of (s2 _ _ ha)) (at_nth (List.getElem?_eq_getElem hxi)) ?_
        walk_at "st"
        refine wp_rixT (st_of (s2 _ _ hb)) (at_nth (List.getElem?_eq_getElem hyi)) ?_
        walk_at "st"
        refine c_l_same ((hr i _ _ (List.getElem?_eq_getElem hxi) (List.getElem?_eq_getElem hyi)).mono s2) fun H3 s3 => ?_
        walk_at "st"
        exact ⟨_, _, rfl, s2.trans s3⟩
      · rintro σ' H' ⟨x, y, rfl, s2⟩
        walk_at "st"
        exact k _ s2
theorem len_l_same (K : PySem.W.Frag) (n : Nat) (vs : List V) (H : Hp) (Q : VK) (E : XK) (h : sp_l_same K n vs H Q E) : vs.length = 2 := by
  obtain ⟨u, v, rfl, _⟩ := h
  rfl
def sp_l_filled (K : PySem.W.Frag) : Sp := fun vs H Q _ => ∃ (P : Pl) (G : Hp) (q : Addr) (ss : List V) (rs : List Row), vs = [.ref q] ∧ Sees P G H ∧ G q = some (.lst ss) ∧ Rws G ss rs ∧ 0 < rs.length ∧ rs.length ≤ 24 ∧
  ∀ (p : Addr) (ts : List V) (qs : List Row) (G' H' : Hp), Same G G' → Sees P G' H' → G' p = some (.lst ts) → Rws G' ts qs → qs.length ≤ 24 → (∀ r ∈ qs, r ∈ rs) → Q (.ref p) H'
abbrev N_l_filled : List Str := ["_law_spans_here", "_law_more", "_law_k"]
theorem st_l_filled {a0 : V} : L2.start N_l_filled [a0] = [some a0, none, none] := rfl
def t_l_filled (K : PySem.W.Frag) : TS :=
  (tSeq ((tAsg ((tCB (rListS K) ((tCons (tVar 0) (tNil))))) (gName 1)))
    ((tSeq ((tFor ((iRng1 ((tCons (tC (.int 24)) (tNil))))) (gName 2) ((tIfS ((tTest (tOp (rI0 fun i j => .bl (decide (i < j))) ((tCB (rLenS K) ((tCons (tVar 1) (tNil))))) (tC (.int 24))))) ((tDrop ((tBM K "list" rAppend (tVar 1) ((tCons ((tOp (rIxL K) (tVar 0) ((tOp (rI (fun _ j => 0 < j) fun i j => .int (i % j)) ((tCB rInt1 ((tCons (tVar 2) (tNil))))) ((tCB (rLenS K) ((tCons (tVar 0) (tNil))))))))) (tNil))))))) (tNext)))))
    ((tRet (tVar 1))))))

theorem pure_l_filled (K : PySem.W.Frag) (vs : List V) (H : Hp) (Q : VK) (E : XK) (h : sp_l_filled K vs H Q E) : t_l_filled K { nx := fun _ H' => Q .non H', rt := Q } (L2.start N_l_filled vs) H := by
  obtain ⟨P, G, q, ss, rs, rfl, hs, hq, hr, l0, l1, k⟩ := h
  have er := hr.len
  rw [st_l_filled]
  unfold t_l_filled
  walk_at "st"
  refine wp_listL (sq_of (hs.sub _ _ hq)) fun L hL => ?_
  obtain ⟨gL, nL⟩ := hs.fresh hL
  walk_at "st"
  refine loop1 (by decide) (fun i σ' H' => ∃ x, ∃ (zs : List V) (qs : List Row), σ' = [some (.ref q), some (.ref L), x] ∧ Lcl P L zs G H' ∧ Rws G zs qs ∧ qs.length ≤ 24 ∧ (∀ r ∈ qs, r ∈ rs)) ⟨_, ss, rs, rfl, ⟨hs.set gL nL, upd_same, gL, nL⟩, hr, by omega, fun r h => h⟩ ?_ ?_
  · rintro i σ' H' hi ⟨x, zs, qs, rfl, lc, hz, hm2, hb2⟩
    have ez := hz.len
    have hLL := lc.h
    have hb3 := lc.s.sub _ _ hq
    walk_at "st"
    refine ite_dec (fun h7 => ?_) (fun h7 => ?_)
    · walk_at "st"
      refine wp_ixLM (sq_of hb3) (Int.emod_nonneg _ (by omega)) (Int.emod_lt_of_pos _ (by omega)) fun y hy hy2 => ?_
      walk_at "st"
      refine wp_append lc.h (by omega) ?_
      walk_at "st"
      obtain ⟨r, hr1, hr2⟩ := hr.at hy2
      refine ⟨_, zs ++ [y], qs ++ [r], rfl, lc.put, hz.app (.cons hr2 .nil), by simp; omega, fun r' hr' => ?_⟩
      rcases List.mem_append.mp hr' with h | h
      · exact hb2 r' h
      · rw [List.mem_singleton.mp h]
        exact List.mem_of_getElem? hr1
    · walk_at "st"
      exact ⟨_, zs, qs, rfl, lc, hz, hm2, hb2⟩
  · rintro σ' H' ⟨x, zs, qs, rfl, lc, hz, hm2, hb2⟩
    walk_at "st"
    have s0 := Same.new (o := .lst zs) lc.g
    exact k L zs qs _ _ s0 lc.in_ upd_same (hz.mono s0) hm2 hb2
theorem len_l_filled (K : PySem.W.Frag) (vs : List V) (H : Hp) (Q : VK) (E : XK) (h : sp_l_filled K vs H Q E) : vs.length = 1 := by
  obtain ⟨P, G, q, _, _, rfl, _⟩ := h
  rfl
theorem c_l_filled {K : PySem.W.Frag} {P : Pl} {G H : Hp} {q : Addr} {ss : List V} {rs : List Row} {Q : VK} {E : XK} (hs : Sees P G H) (hq : G q = some (.lst ss)) (hr : Rws G ss rs) (l0 : 0 < rs.length) (l1 : rs.length ≤ 24)
    (k : ∀ (p : Addr) (ts : List V) (qs : List Row) (G' H' : Hp), Same G G' → Sees P G' H' → G' p = some (.lst ts) → Rws G' ts qs → qs.length ≤ 24 → (∀ r ∈ qs, r ∈ rs) → Q (.ref p) H') : sp_l_filled K [.ref q] H Q E := ⟨P, G, q, ss, rs, rfl, hs, hq, hr, l0, l1, k⟩
def sp_l_number (K : PySem.W.Frag) : Sp := fun vs H Q _ => ∃ (P : Pl) (G : Hp) (c : Int), vs = [.ref P.p, .int c] ∧ Sees P G H ∧ 0 ≤ c ∧ c ≤ 1000 ∧ ∀ n H', Sees P G H' → Q (.int n) H'
abbrev N_l_number : List Str := ["_law_pool_here", "_law_count", "_law_at"]
theorem st_l_number {a0 a1 : V} : L2.start N_l_number [a0, a1] = [some a0, some a1, none] := rfl
def t_l_number (K : PySem.W.Frag) : TS :=
  (tSeq ((tIfS ((tAnd ((tTest (tOp (rI0 fun i j => .bl (decide (j < i))) (tVar 1) (tC (.int 0))))) ((tTest (tOp (rI0 fun i j => .bl (decide (j < i))) ((tCall (sp_l_draw K) [] E0 ((tCons (tVar 0) ((tCons (tC (.int 3)) (tNil))))))) (tC (.int 0))))))) ((tRet ((tCall (sp_l_draw K) [] E0 ((tCons (tVar 0) ((tCons (tVar 1) (tNil))))))))) (tNext)))
    ((tSeq ((tAsg ((tOp (rI0 fun i j => .int (i - j)) ((tCall (sp_l_draw K) [] E0 ((tCons (tVar 0) ((tCons ((tOp (rI0 fun i j => .int (i + j)) (tVar 1) (tC (.int 8)))) (tNil))))))) (tC (.int 3)))) (gName 2)))
    ((tSeq ((tIfS ((tTest (tOp rEq (tVar 2) ((tOp (rI0 fun i j => .int (i + j)) (tVar 1) (tC (.int 3))))))) ((tRet ((tOp (rI CPow fun i j => .int (i ^ j.toNat)) (tC (.int 10)) (tC (.int 9)))))) (tNext)))
    ((tSeq ((tIfS ((tTest (tOp rEq (tVar 2) ((tOp (rI0 fun i j => .int (i + j)) (tVar 1) (tC (.int 4))))))) ((tRet ((tUn (rU fun i => .int (-i)) ((tOp (rI CPow fun i j => .int (i ^ j.toNat)) (tC (.int 10)) (tC (.int 9)))))))) (tNext)))
    ((tRet (tVar 2))))))))))

theorem pure_l_number (K : PySem.W.Frag) (vs : List V) (H : Hp) (Q : VK) (E : XK) (h : sp_l_number K vs H Q E) : t_l_number K { nx := fun _ H' => Q .non H', rt := Q } (L2.start N_l_number vs) H := by
  obtain ⟨P, G, c, rfl, hs, c0, c1, k⟩ := h
  rw [st_l_number]
  unfold t_l_number
  have rest : ∀ H2, Sees P G H2 → tSeq (tAsg (tOp (rI0 fun i j => .int (i - j)) (tCall (sp_l_draw K) [] E0 (tCons (tVar 0) (tCons (tOp (rI0 fun i j => .int (i + j)) (tVar 1) (tC (.int 8))) tNil))) (tC (.int 3))) (gName 2))
      (tSeq (tIfS (tTest (tOp rEq (tVar 2) (tOp (rI0 fun i j => .int (i + j)) (tVar 1) (tC (.int 3))))) (tRet (tOp (rI CPow fun i j => .int (i ^ j.toNat)) (tC (.int 10)) (tC (.int 9)))) tNext)
      (tSeq (tIfS (tTest (tOp rEq (tVar 2) (tOp (rI0 fun i j => .int (i + j)) (tVar 1) (tC (.int 4))))) (tRet (tUn (rU fun i => .int (-i)) (tOp (rI CPow fun i j => .int (i ^ j.toNat)) (tC (.int 10)) (tC (.int 9))))) tNext)
      (tRet (tVar 2)))) { nx := fun _ H' => Q .non H', rt := Q } [some (.ref P.p), some (.int c), none] H2 := by
    intro H2 hs2
    walk_at "st"
    refine c_l_draw hs2 (by omega) fun d H3 _ _ hs3 => ?_
    walk_at "st"
    refine ite_dec (fun h => ?_) (fun h => ?_)
    · walk_at "st"
      exact k _ _ hs3
    walk_at "st"
    refine ite_dec (fun h => ?_) (fun h => ?_)
    · walk_at "st"
      exact k _ _ hs3
    walk_at "st"
    exact k _ _ hs3
  refine wp_seq ?_
  walk_at "st"
  refine ite_dec (fun h => ?_) (fun h => ?_)
  · walk_at "st"
    refine c_l_draw hs (by omega) fun d H3 _ _ hs3 => ?_
    walk_at "st"
    refine ite_dec (fun h => ?_) (fun h => ?_)
    · walk_at "st"
      refine c_l_draw hs3 (by omega) fun d H3 _ _ hs4 => ?_
      exact k _ _ hs4
    · exact rest _ hs3
  · exact rest _ hs
theorem len_l_number (K : PySem.W.Frag) (vs : List V) (H : Hp) (Q : VK) (E : XK) (h : sp_l_number K vs H Q E) : vs.length = 2 := by
  obtain ⟨P, G, c, rfl, _⟩ := h
  rfl
theorem c_l_number {K : PySem.W.Frag} {P : Pl} {G H : Hp} {c : Int} {Q : VK} {E : XK} (hs : Sees P G H) (hc : 0 ≤ c ∧ c ≤ 1000) (k : ∀ n H', Sees P G H' → Q (.int n) H') : sp_l_number K [.ref P.p, .int c] H Q E := ⟨P, G, c, rfl, hs, hc.1, hc.2, k⟩
def sp_l_bounds (K : PySem.W.Frag) : Sp := fun vs H Q _ => ∃ (P : Pl) (G : Hp) (T : Int), vs = [.ref P.p, .int T] ∧ Sees P G H ∧ 3 ≤ T ∧ T ≤ 120 ∧ ∀ (lo hi : Int) (p : Addr) G' H', Same G G' → Sees P G' H' → G' p = some (.lst [.int lo, .int hi]) → Q (.ref p) H'
abbrev N_l_bounds : List Str := ["_law_pool_here", "_law_length_here", "_law_low", "_law_high"]
theorem st_l_bounds {a0 a1 : V} : L2.start N_l_bounds [a0, a1] = [some a0, some a1, none, none] := rfl
def t_l_bounds (K : PySem.W.Frag) : TS :=
  (tSeq ((tAsg ((tCall (sp_l_some K) [] E0 ((tCons (tVar 0) ((tCons ((tOp (rI0 fun i j => .int (i - j)) (tVar 1) (tC (.int 1)))) (tNil))))))) (gName 2)))
    ((C8.tCut ((tIfS ((tTest (tOp rEq ((tCall (sp_l_draw K) [] E0 ((tCons (tVar 0) ((tCons (tC (.int 2)) (tNil))))))) (tC (.int 1))))) ((tAsg ((tOp (rIxL K) ((tLst ((tCons ((tUn (rU fun i => .int (-i)) (tC (.int 1)))) ((tCons (tC (.int 0)) ((tCons ((tOp (rI0 fun i j => .int (i - j)) (tVar 1) (tC (.int 1)))) ((tCons (tVar 1) (tNil))))))))))) ((tCall (sp_l_draw K) [] E0 ((tCons (tVar 0) ((tCons (tC (.int 4)) (tNil))))))))) (gName 2))) (tNext)))
    ((tSeq ((tAsg ((tOp (rIxL K) ((tLst ((tCons ((tOp (rI0 fun i j => .int (i - j)) (tVar 2) (tC (.int 1)))) ((tCons (tVar 2) ((tCons ((tOp (rI0 fun i j => .int (i - j)) ((tOp (rI0 fun i j => .int (i + j)) (tVar 2) (tVar 1))) (tC (.int 3)))) ((tCons ((tOp (rI0 fun i j => .int (i - j)) ((tOp (rI0 fun i j => .int (i + j)) (tVar 2) (tVar 1))) (tC (.int 2)))) (tNil))))))))))) ((tCall (sp_l_draw K) [] E0 ((tCons (tVar 0) ((tCons (tC (.int 4)) (tNil))))))))) (gName 3)))
    ((C8.tCut ((tIfS ((tTest (tOp rEq ((tCall (sp_l_draw K) [] E0 ((tCons (tVar 0) ((tCons (tC (.int 2)) (tNil))))))) (tC (.int 1))))) ((tAsg ((tOp (rI0 fun i j => .int (i + j)) (tVar 2) ((tCall (sp_l_some K) [] E0 ((tCons (tVar 0) ((tCons ((tOp (rI0 fun i j => .int (i - j)) (tVar 1) (tC (.int 3)))) (tNil))))))))) (gName 3))) (tNext)))
    ((tRet ((tLst ((tCons (tVar 2) ((tCons (tVar 3) (tNil))))))))))))))))

theorem pure_l_bounds (K : PySem.W.Frag) (vs : List V) (H : Hp) (Q : VK) (E : XK) (h : sp_l_bounds K vs H Q E) : t_l_bounds K { nx := fun _ H' => Q .non H', rt := Q } (L2.start N_l_bounds vs) H := by
  obtain ⟨P, G, T, rfl, hs, t0, t1, k⟩ := h
  rw [st_l_bounds]
  unfold t_l_bounds
  walk_at "st"
  refine c_l_some hs (by omega) fun lo H1 _ _ hs1 => ?_
  walk_at "st"
  refine wp_cut (fun σ' H' => ∃ lo : Int, σ' = [some (.ref P.p), some (.int T), some (.int lo), none] ∧ Sees P G H') ?_ ?_
  · walk_at "st"
    refine c_l_draw hs1 (by decide) fun d H2 _ _ hs2 => ?_
    walk_at "st"
    refine ite_dec (fun h => ?_) (fun h => ?_)
    · walk_at "st"
      refine ⟨by simp [sizeLine_eq], fun w hw => ?_⟩
      obtain ⟨gw, nw⟩ := hs2.fresh hw
      have hs3 := hs2.set (o := .lst [.int (-1), .int 0, .int (T - 1), .int T]) gw nw
      walk_at "st"
      refine c_l_draw (hs3.with gw upd_same nw) (by decide) fun d3 H4 e0 e1 hs4 => ?_
      walk_at "st"
      refine wp_ixLI (cs := [-1, 0, T - 1, T]) (sq_of (hs4.sub _ _ upd_same)) e0 (by simp; omega) fun x _ => ?_
      walk_at "st"
      exact ⟨_, rfl, (hs4.back hs3 gw).1⟩
    · walk_at "st"
      exact ⟨_, rfl, hs2⟩
  rintro σ' H2 ⟨lo, rfl, hs2⟩
  walk_at "st"
  refine ⟨by simp [sizeLine_eq], fun w hw => ?_⟩
  obtain ⟨gw, nw⟩ := hs2.fresh hw
  have hs3 := hs2.set (o := .lst [.int (lo - 1), .int lo, .int (lo + T - 3), .int (lo + T - 2)]) gw nw
  walk_at "st"
  refine c_l_draw (hs3.with gw upd_same nw) (by decide) fun d3 H4 e0 e1 hs4 => ?_
  walk_at "st"
  refine wp_ixLI (cs := [lo - 1, lo, lo + T - 3, lo + T - 2]) (sq_of (hs4.sub _ _ upd_same)) e0 (by simp; omega) fun hi0 _ => ?_
  have hs5 := (hs4.back hs3 gw).1
  walk_at "st"
  refine wp_cut (fun σ' H' => ∃ hi : Int, σ' = [some (.ref P.p), some (.int T), some (.int lo), some (.int hi)] ∧ Sees P G H') ?_ ?_
  · walk_at "st"
    refine c_l_draw hs5 (by decide) fun d H6 _ _ hs6 => ?_
    walk_at "st"
    refine ite_dec (fun h => ?_) (fun h => ?_)
    · walk_at "st"
      refine c_l_some hs6 (by omega) fun wd H7 _ _ hs7 => ?_
      walk_at "st"
      exact ⟨_, rfl, hs7⟩
    · walk_at "st"
      exact ⟨_, rfl, hs6⟩
  rintro σ' H7 ⟨hi, rfl, hs7⟩
  walk_at "st"
  refine ⟨by simp [sizeLine_eq], fun p hp => ?_⟩
  obtain ⟨G8, hs8, s8, g8⟩ := hs7.new' (.lst [.int lo, .int hi]) hp
  exact k lo hi p G8 _ s8 hs8 g8
theorem len_l_bounds (K : PySem.W.Frag) (vs : List V) (H : Hp) (Q : VK) (E : XK) (h : sp_l_bounds K vs H Q E) : vs.length = 2 := by
  obtain ⟨P, G, c, rfl, _⟩ := h
  rfl
theorem c_l_bounds {K : PySem.W.Frag} {P : Pl} {G H : Hp} {T : Int} {Q : VK} {E : XK} (hs : Sees P G H) (ht : 3 ≤ T ∧ T ≤ 120) (k : ∀ (lo hi : Int) (p : Addr) G' H', Same G G' → Sees P G' H' → G' p = some (.lst [.int lo, .int hi]) → Q (.ref p) H') : sp_l_bounds K [.ref P.p, .int T] H Q E := ⟨P, G, T, rfl, hs, ht.1, ht.2, k⟩
def sp_Net_round_length (K : PySem.W.Frag) : Sp := fun vs H Q _ => ∃ (a : Addr) (T : Int) (ns : List (List Nat)) (ss : List V), vs = [.ref a] ∧ IsNet (C_Net K) H a T ns ss ∧ Q (.int T) H
abbrev N_Net_round_length : List Str := ["self"]
theorem st_Net_round_length {a0 : V} : L2.start N_Net_round_length [a0] = [some a0] := rfl
def t_Net_round_length (K : PySem.W.Frag) : TS :=
  (tRet ((tFldC (C_Net K) (tVar 0) "_round_length")))

theorem pure_Net_round_length (K : PySem.W.Frag) (vs : List V) (H : Hp) (Q : VK) (E : XK) (h : sp_Net_round_length K vs H Q E) : t_Net_round_length K { nx := fun _ H' => Q .non H', rt := Q } (L2.start N_Net_round_length vs) H := by
  obtain ⟨a, T, ns, ss, rfl, ⟨dx, le, ls, h1, h2, h3⟩, k⟩ := h
  rw [st_Net_round_length]
  unfold t_Net_round_length
  walk_at "st"
  exact k
theorem len_Net_round_length (K : PySem.W.Frag) (vs : List V) (H : Hp) (Q : VK) (E : XK) (h : sp_Net_round_length K vs H Q E) : vs.length = 1 := by
  obtain ⟨n, m, ms, a, rfl, _⟩ := h
  rfl
theorem c_Net_round_length {K : PySem.W.Frag} {a : Addr} {T : Int} {ns : List (List Nat)} {ss : List V} {H : Hp} {Q : VK} {E : XK} (h : IsNet (C_Net K) H a T ns ss) (k : Q (.int T) H) : ∃ a' dx fs, V.ref a = .ref a' ∧ H a' = some (.ins (C_Net K) dx fs) ∧ sp_Net_round_length K [.ref a'] H Q E := by
  obtain ⟨dx, le, ls, h1, h2, h3⟩ := h
  exact ⟨a, dx, _, rfl, h1, a, T, ns, ss, rfl, ⟨dx, le, ls, h1, h2, h3⟩, k⟩
def sp_Net_events (K : PySem.W.Frag) : Sp := fun vs H Q _ => ∃ (a : Addr) (T : Int) (ns : List (List Nat)) (ss : List V), vs = [.ref a] ∧ IsNet (C_Net K) H a T ns ss ∧ ∀ q, H q = none → Q (.ref q) (upd H q (.lst (ns.map sv)))
abbrev N_Net_events : List Str := ["self"]
theorem st_Net_events {a0 : V} : L2.start N_Net_events [a0] = [some a0] := rfl
def t_Net_events (K : PySem.W.Frag) : TS :=
  (tRet ((tCB (rListS K) ((tCons ((tFldC (C_Net K) (tVar 0) "_events")) (tNil))))))

theorem pure_Net_events (K : PySem.W.Frag) (vs : List V) (H : Hp) (Q : VK) (E : XK) (h : sp_Net_events K vs H Q E) : t_Net_events K { nx := fun _ H' => Q .non H', rt := Q } (L2.start N_Net_events vs) H := by
  obtain ⟨a, T, ns, ss, rfl, ⟨dx, le, ls, h1, h2, h3⟩, k⟩ := h
  rw [st_Net_events]
  unfold t_Net_events
  walk_at "st"
  exact wp_listL (sq_of (by assumption)) k
theorem len_Net_events (K : PySem.W.Frag) (vs : List V) (H : Hp) (Q : VK) (E : XK) (h : sp_Net_events K vs H Q E) : vs.length = 1 := by
  obtain ⟨n, m, ms, a, rfl, _⟩ := h
  rfl
theorem c_Net_events {K : PySem.W.Frag} {a : Addr} {T : Int} {ns : List (List Nat)} {ss : List V} {H : Hp} {Q : VK} {E : XK} (h : IsNet (C_Net K) H a T ns ss) (k : ∀ q, H q = none → Q (.ref q) (upd H q (.lst (ns.map sv)))) : ∃ a' dx fs, V.ref a = .ref a' ∧ H a' = some (.ins (C_Net K) dx fs) ∧ sp_Net_events K [.ref a'] H Q E := by
  obtain ⟨dx, le, ls, h1, h2, h3⟩ := h
  exact ⟨a, dx, _, rfl, h1, a, T, ns, ss, rfl, ⟨dx, le, ls, h1, h2, h3⟩, k⟩
/-- a row of the list of tests: its truth, the error that is due -/
def te (b : Bool) (e : Er) : List V := .bl b :: .str e.c :: (e.fs.map (·.2)).reverse
inductive TRs (H : Hp) : List V → List (Bool × Er) → Prop
  | nil : TRs H [] []
  | cons {q : Addr} {b : Bool} {e : Er} {xs : List V} {ts : List (Bool × Er)} (h : H q = some (.lst (te b e))) (r : TRs H xs ts) : TRs H (.ref q :: xs) ((b, e) :: ts)
theorem TRs.mono {H H' : Hp} (s : Same H H') : ∀ {xs : List V} {ts : List (Bool × Er)}, TRs H xs ts → TRs H' xs ts
  | _, _, .nil => .nil
  | _, _, .cons h r => .cons (s _ _ h) (r.mono s)
theorem TRs.app {H : Hp} : ∀ {xs ys : List V} {ts us : List (Bool × Er)}, TRs H xs ts → TRs H ys us → TRs H (xs ++ ys) (ts ++ us)
  | _, _, _, _, .nil, r => r
  | _, _, _, _, .cons h r, r2 => .cons h (r.app r2)
theorem TRs.len {H : Hp} : ∀ {xs : List V} {ts : List (Bool × Er)}, TRs H xs ts → xs.length = ts.length
  | _, _, .nil => rfl
  | _, _, .cons _ r => by rw [List.length_cons, List.length_cons, r.len]
def fstE : List (Bool × Er) → Option Er
  | [] => none
  | (b, e) :: r => (if b = true then some e else none).or (fstE r)
theorem fstE_app : ∀ {a b : List (Bool × Er)}, fstE (a ++ b) = (fstE a).or (fstE b)
  | [], b => by show fstE b = _; rw [fstE, Option.none_or]
  | (c, e) :: r, b => by
    show (if c = true then some e else none).or (fstE (r ++ b)) = _
    rw [fstE_app, fstE, Option.or_assoc]
theorem bk_rng {n lo hi : Int} : (if (decide (n < lo) || decide (hi < n)) = true then some (eN n) else none) = cRng n lo hi := by
  unfold cRng
  by_cases h : lo ≤ n ∧ n ≤ hi
  · rw [if_pos h, decide_eq_false (by omega), decide_eq_false (by omega)]
    rfl
  · rw [if_neg h, if_pos (by rw [Bool.or_eq_true, decide_eq_true_eq, decide_eq_true_eq]; omega)]
theorem bk_cnt {n m : Int} : (if decide (m < n) = true then some (eT n m) else none) = cCnt n m := by
  unfold cCnt
  by_cases h : n ≤ m
  · rw [if_pos h, decide_eq_false (by omega)]
    rfl
  · rw [if_neg h, decide_eq_true (by omega)]
    rfl
theorem bk_known {ms : List (List Nat)} {l : List Nat} : (if (!decide (l ∈ ms)) = true then some (eS "UnknownEvent" l) else none) = cK1 ms l := by
  unfold cK1
  by_cases h : l ∈ ms
  · rw [decide_eq_true h, if_pos h]; rfl
  · rw [decide_eq_false h, if_neg h]; rfl
theorem te_N {b : Bool} {n : Int} : HO.lst [.bl b, .str (S Y_BadNumber), .int n] = .lst (te b (eN n)) := by
  have z : S Y_BadNumber = ("BadNumber" : Str) := by decide +kernel
  rw [z]; rfl
theorem te_T {b : Bool} {n m : Int} : HO.lst [.bl b, .str (S Y_TooMany), .int n, .int m] = .lst (te b (eT n m)) := by
  have z : S Y_TooMany = ("TooMany" : Str) := by decide +kernel
  rw [z]; rfl
theorem te_U {b : Bool} {l : List Nat} : HO.lst [.bl b, .str (S Y_UnknownEvent), .str (S l)] = .lst (te b (eS "UnknownEvent" l)) := by
  have z : S Y_UnknownEvent = ("UnknownEvent" : Str) := by decide +kernel
  rw [z]; rfl
theorem te_S {b : Bool} {l : List Nat} : HO.lst [.bl b, .str (S Y_SameEvent), .str (S l)] = .lst (te b (eS "SameEvent" l)) := by
  have z : S Y_SameEvent = ("SameEvent" : Str) := by decide +kernel
  rw [z]; rfl
theorem te_Us {b : Bool} {n : Int} : HO.lst [.bl b, .str (S Y_UnknownSpan), .int n] = .lst (te b (eU n)) := by
  have z : S Y_UnknownSpan = ("UnknownSpan" : Str) := by decide +kernel
  rw [z]; rfl
/-- a row of the law: what is done -/
inductive Cmd
  | sp (n : Int)
  | wo (is : List Int)
  | ch (n lo hi : Int)
  | wi (r : Row)
def cmdV : Cmd → List V
  | .sp n => [.str (S Y_span), .int n]
  | .wo is => .str (S Y_without) :: is.map V.int
  | .ch n lo hi => [.str (S Y_changed), .int n, .int lo, .int hi]
  | .wi r => [.str (S Y_with), sv r.u, sv r.v, .int r.w, .int r.lo, .int r.hi]
def numT (m : Nat) (n : Int) : Bool × Er := (decide (n < 0) || decide ((m : Int) ≤ n), eU n)
def bndT (T lo hi : Int) : List (Bool × Er) := [(decide (lo < 0) || decide (T - 1 < lo), eN lo), (decide (hi < lo) || decide (lo + T - 3 < hi), eN hi)]
def cmdT (T : Int) (ns : List (List Nat)) (m : Nat) : Cmd → List (Bool × Er)
  | .sp n => [numT m n]
  | .wo is => is.map (numT m)
  | .ch n lo hi => [numT m n] ++ bndT T lo hi
  | .wi r => [(decide (23 < (m : Int)), eT 25 24), (!decide (r.u ∈ ns), eS "UnknownEvent" r.u), (!decide (r.v ∈ ns), eS "UnknownEvent" r.v), (decide (r.u = r.v), eS "SameEvent" r.u)] ++ bndT T r.lo r.hi ++ [(decide (r.w < 0) || decide (99 < r.w), eN r.w)]
theorem Same.upd' {G H : Hp} (s : Same G H) (q : Addr) (o : HO) : Same (upd G q o) (upd H q o) := fun a u h => by
  by_cases e : a = q
  · subst e; rw [upd_same] at h ⊢; exact h
  · rw [upd_ne e] at h ⊢; exact s _ _ h
/-- a list of tests under way, no pool -/
structure Tq (L : Addr) (H0 H : Hp) (ts : List (Bool × Er)) : Prop where
  ex : ∃ xs G, Same H0 G ∧ Same G H ∧ G L = none ∧ H L = some (.lst xs) ∧ TRs G xs ts
theorem Tq.at {L a : Addr} {H0 H : Hp} {ts : List (Bool × Er)} {o : HO} (t : Tq L H0 H ts) (h : H0 a = some o) : H a = some o := by
  obtain ⟨xs, G, s1, s2, _⟩ := t.ex
  exact s2 _ _ (s1 _ _ h)
theorem Tq.put {L q : Addr} {H0 H : Hp} {ts : List (Bool × Er)} {b : Bool} {e : Er} {R : VK} (t : Tq L H0 H ts) (hq : H q = none) (hl : ts.length < 90000) (k : ∀ H', Tq L H0 H' (ts ++ [(b, e)]) → R .non H') : rAppend (.ref L) [.ref q] (upd H q (.lst (te b e))) R := by
  obtain ⟨xs, G, s1, s2, g, h, r⟩ := t.ex
  have nLq : L ≠ q := ne_of_none h hq
  have sg := Same.new (o := .lst (te b e)) (s2.free hq)
  refine wp_append (by rw [upd_ne nLq]; exact h) (by rw [r.len]; omega) (k _ ⟨_, upd G q (.lst (te b e)), s1.trans sg, Same.mut (Same.upd' s2 q _) (by rw [upd_ne nLq]; exact g), by rw [upd_ne nLq]; exact g, upd_same, (r.mono sg).app (.cons upd_same .nil)⟩)
theorem Tq.one {L q : Addr} {H : Hp} {b : Bool} {e : Er} (hq : H q = none) (hL : upd H q (.lst (te b e)) L = none) : Tq L H (upd (upd H q (.lst (te b e))) L (.lst [.ref q])) [(b, e)] :=
  ⟨_, upd H q (.lst (te b e)), Same.new hq, Same.new hL, hL, upd_same, .cons upd_same .nil⟩
theorem Tq.fin {L : Addr} {H0 H : Hp} {ts : List (Bool × Er)} (t : Tq L H0 H ts) : ∃ xs, Same H0 H ∧ H L = some (.lst xs) ∧ TRs H xs ts := by
  obtain ⟨xs, G, s1, s2, _, h, r⟩ := t.ex
  exact ⟨xs, s1.trans s2, h, r.mono s2⟩
def sp_l_tests (K : PySem.W.Frag) : Sp := fun vs H Q _ => ∃ (T : Int) (a b q : Addr) (ns : List (List Nat)) (ss : List V) (c : Cmd), vs = [.int T, .ref a, .ref b, .ref q] ∧ H a = some (.lst (ns.map sv)) ∧ H b = some (.lst ss) ∧ H q = some (.lst (cmdV c)) ∧ (∀ is, c = .wo is → is.length ≤ 10) ∧
  ∀ (p : Addr) (xs : List V) H', Same H H' → H' p = some (.lst xs) → TRs H' xs (cmdT T ns ss.length c) → Q (.ref p) H'
abbrev N_l_tests : List Str := ["_law_length_here", "_law_names_here", "_law_spans_here", "_law_row", "_law_many", "_law_low", "_law_high", "_law_bounds_here", "_law_tests_here", "_law_number_here"]
theorem st_l_tests {a0 a1 a2 a3 : V} : L2.start N_l_tests [a0, a1, a2, a3] = [some a0, some a1, some a2, some a3, none, none, none, none, none, none] := rfl
def t_l_tests (K : PySem.W.Frag) : TS :=
  (tSeq ((tAsg ((tCB (rLenS K) ((tCons (tVar 2) (tNil))))) (gName 4)))
    ((tSeq ((tIfS ((tTest (tOp rEq ((tOp (rIxL K) (tVar 3) (tC (.int 0)))) (tC (.str (S Y_span)))))) ((tRet ((tLst ((tCons ((tLst ((tCons ((tOrV ((tOp (rI0 fun i j => .bl (decide (i < j))) ((tOp (rIxL K) (tVar 3) (tC (.int 1)))) (tC (.int 0)))) ((tOp (rI0 fun i j => .bl (decide (j ≤ i))) ((tOp (rIxL K) (tVar 3) (tC (.int 1)))) (tVar 4))))) ((tCons (tC (.str (S Y_UnknownSpan))) ((tCons ((tOp (rIxL K) (tVar 3) (tC (.int 1)))) (tNil))))))))) (tNil))))))) (tNext)))
    ((tSeq ((tIfS ((tTest (tOp rEq ((tOp (rIxL K) (tVar 3) (tC (.int 0)))) (tC (.str (S Y_without)))))) ((tRet ((tLc ((iList K ((tSl (rSlL K) (tVar 3) (tPart (tC (.int 1))) tNoPart)))) ((gName 9)) (tYes) ((tLst ((tCons ((tOrV ((tOp (rI0 fun i j => .bl (decide (i < j))) (tVar 9) (tC (.int 0)))) ((tOp (rI0 fun i j => .bl (decide (j ≤ i))) (tVar 9) (tVar 4))))) ((tCons (tC (.str (S Y_UnknownSpan))) ((tCons (tVar 9) (tNil))))))))) [9])))) (tNext)))
    ((tSeq ((tAsg ((tOp (rIxL K) (tVar 3) ((tUn (rU fun i => .int (-i)) (tC (.int 2)))))) (gName 5)))
    ((tSeq ((tAsg ((tOp (rIxL K) (tVar 3) ((tUn (rU fun i => .int (-i)) (tC (.int 1)))))) (gName 6)))
    ((C8.tCut ((tAsg ((tLst ((tCons ((tLst ((tCons ((tOrV ((tOp (rI0 fun i j => .bl (decide (i < j))) (tVar 5) (tC (.int 0)))) ((tOp (rI0 fun i j => .bl (decide (j < i))) (tVar 5) ((tOp (rI0 fun i j => .int (i - j)) (tVar 0) (tC (.int 1)))))))) ((tCons (tC (.str (S Y_BadNumber))) ((tCons (tVar 5) (tNil))))))))) (tNil))))) (gName 7)))
    ((C8.tCut ((tDrop ((tBM K "list" rAppend (tVar 7) ((tCons ((tLst ((tCons ((tOrV ((tOp (rI0 fun i j => .bl (decide (i < j))) (tVar 6) (tVar 5))) ((tOp (rI0 fun i j => .bl (decide (j < i))) (tVar 6) ((tOp (rI0 fun i j => .int (i - j)) ((tOp (rI0 fun i j => .int (i + j)) (tVar 5) (tVar 0))) (tC (.int 3)))))))) ((tCons (tC (.str (S Y_BadNumber))) ((tCons (tVar 6) (tNil))))))))) (tNil)))))))
    ((tSeq ((tIfS ((tTest (tOp rEq ((tOp (rIxL K) (tVar 3) (tC (.int 0)))) (tC (.str (S Y_changed)))))) ((tRet ((tOp rCat ((tLst ((tCons ((tLst ((tCons ((tOrV ((tOp (rI0 fun i j => .bl (decide (i < j))) ((tOp (rIxL K) (tVar 3) (tC (.int 1)))) (tC (.int 0)))) ((tOp (rI0 fun i j => .bl (decide (j ≤ i))) ((tOp (rIxL K) (tVar 3) (tC (.int 1)))) (tVar 4))))) ((tCons (tC (.str (S Y_UnknownSpan))) ((tCons ((tOp (rIxL K) (tVar 3) (tC (.int 1)))) (tNil))))))))) (tNil))))) (tVar 7))))) (tNext)))
    ((C8.tCut ((tAsg ((tLst ((tCons ((tLst ((tCons ((tOp (rI0 fun i j => .bl (decide (j < i))) (tVar 4) (tC (.int 23)))) ((tCons (tC (.str (S Y_TooMany))) ((tCons (tC (.int 25)) ((tCons (tC (.int 24)) (tNil))))))))))) ((tCons ((tLst ((tCons ((tOp (rIn K true) ((tOp (rIxL K) (tVar 3) (tC (.int 1)))) (tVar 1))) ((tCons (tC (.str (S Y_UnknownEvent))) ((tCons ((tOp (rIxL K) (tVar 3) (tC (.int 1)))) (tNil))))))))) (tNil))))))) (gName 8)))
    ((C8.tCut ((tDrop ((tBM K "list" rAppend (tVar 8) ((tCons ((tLst ((tCons ((tOp (rIn K true) ((tOp (rIxL K) (tVar 3) (tC (.int 2)))) (tVar 1))) ((tCons (tC (.str (S Y_UnknownEvent))) ((tCons ((tOp (rIxL K) (tVar 3) (tC (.int 2)))) (tNil))))))))) (tNil)))))))
    ((C8.tCut ((tDrop ((tBM K "list" rAppend (tVar 8) ((tCons ((tLst ((tCons ((tOp rEq ((tOp (rIxL K) (tVar 3) (tC (.int 1)))) ((tOp (rIxL K) (tVar 3) (tC (.int 2)))))) ((tCons (tC (.str (S Y_SameEvent))) ((tCons ((tOp (rIxL K) (tVar 3) (tC (.int 1)))) (tNil))))))))) (tNil)))))))
    ((tRet ((tOp rCat ((tOp rCat (tVar 8) (tVar 7))) ((tLst ((tCons ((tLst ((tCons ((tOrV ((tOp (rI0 fun i j => .bl (decide (i < j))) ((tOp (rIxL K) (tVar 3) (tC (.int 3)))) (tC (.int 0)))) ((tOp (rI0 fun i j => .bl (decide (j < i))) ((tOp (rIxL K) (tVar 3) (tC (.int 3)))) (tC (.int 99)))))) ((tCons (tC (.str (S Y_BadNumber))) ((tCons ((tOp (rIxL K) (tVar 3) (tC (.int 3)))) (tNil))))))))) (tNil))))))))))))))))))))))))))))))

theorem pure_l_tests (K : PySem.W.Frag) (vs : List V) (H : Hp) (Q : VK) (E : XK) (h : sp_l_tests K vs H Q E) : t_l_tests K { nx := fun _ H' => Q .non H', rt := Q } (L2.start N_l_tests vs) H := by
  obtain ⟨T, a, b, q, ns, ss, c, rfl, ha, hb, hq, hw, k⟩ := h
  rw [st_l_tests]
  unfold t_l_tests
  cases c with
  | sp n =>
    have hq : H q = some (.lst [.str (S Y_span), .int n]) := hq
    walk_at "st"
    refine ite_dec (fun _ => ?_) (fun h => absurd rfl h)
    walk_at "st"
    have fin : ∀ bb q1, H q1 = none → bb = (decide (n < 0) || decide ((ss.length : Int) ≤ n)) → ∀ p, upd H q1 (.lst (te bb (eU n))) p = none → Q (.ref p) (upd (upd H q1 (.lst (te bb (eU n)))) p (.lst [.ref q1])) := fun bb q1 w1 e p hp => by
      have s2 := Same.new (o := .lst [.ref q1]) hp
      refine k p _ _ ((Same.new w1).trans s2) upd_same (TRs.mono s2 (.cons ?_ .nil))
      rw [← e]; exact upd_same
    refine ite_dec (fun h => ?_) (fun h => ?_)
    · walk_at "st"
      refine ⟨by simp [sizeLine_eq], fun q1 w1 => ?_⟩
      rw [te_Us]
      walk_at "st"
      refine ⟨by simp [sizeLine_eq], fun p hp => ?_⟩
      exact fin true q1 w1 (by rw [decide_eq_true h]; rfl) p hp
    · walk_at "st"
      refine ⟨by simp [sizeLine_eq], fun q1 w1 => ?_⟩
      rw [te_Us]
      walk_at "st"
      refine ⟨by simp [sizeLine_eq], fun p hp => ?_⟩
      exact fin _ q1 w1 (by rw [decide_eq_false h]; rfl) p hp
  | wo is =>
    have hl := hw is rfl
    have hq : H q = some (.lst (.str (S Y_without) :: is.map V.int)) := hq
    walk_at "st"
    refine ite_dec (fun h => absurd h (by decide +kernel)) (fun _ => ?_)
    walk_at "st"
    refine ite_dec (fun _ => ?_) (fun h => absurd rfl h)
    walk_at "st"
    refine wp_sliceL (sq_of hq) fun d hd => ?_
    rw [cutG_from1 (by omega) (by rw [List.length_cons]; omega)]
    have e1 : (V.str (S Y_without) :: is.map V.int).drop (1 : Int).toNat = is.map V.int := rfl
    rw [e1]
    have sd := Same.new (o := .lst (is.map V.int)) hd
    walk_at "st"
    refine lcInvL (sq_of upd_same) (by rw [List.length_map]; omega) (fun i acc G => TRs G acc ((is.take i).map (numT ss.length))) .nil (fun i x acc G H2 R hx s1 s2 hI k1 => ?_) (fun D acc G H2 hD s1 s2 hD2 _ hI _ => ?_)
    · rw [List.getElem?_map] at hx
      obtain ⟨n, hn, rfl⟩ := Option.map_eq_some_iff.mp hx
      have e5 : is.take (i + 1) = is.take i ++ [n] := by rw [List.take_add_one, hn]; rfl
      rw [show wipe [some (V.int T), some (.ref a), some (.ref b), some (.ref q), some (.int ss.length), none, none, none, none, none] [9] = [some (V.int T), some (.ref a), some (.ref b), some (.ref q), some (.int ss.length), none, none, none, none, none] from rfl]
      have nxt : ∀ bb q1, H2 q1 = none → bb = (decide (n < 0) || decide ((ss.length : Int) ≤ n)) → R (.ref q1) (upd H2 q1 (.lst (te bb (eU n)))) := fun bb q1 w1 e => by
        have g1 := s2.free w1
        refine k1 _ (upd G q1 (.lst (te bb (eU n)))) _ (Same.new g1) (Same.upd' s2 q1 _) (Same.new w1) (fun r o hr hg => by rw [upd_ne (ne_of_none hr w1)]; exact hg) ?_
        show TRs _ _ ((is.take (i + 1)).map (numT ss.length))
        rw [e5, List.map_append]
        refine (hI.mono (Same.new g1)).app (.cons ?_ .nil)
        show _ = some (HO.lst (te (decide (n < 0) || decide ((ss.length : Int) ≤ n)) (eU n)))
        rw [← e]; exact upd_same
      walk_at "st"
      refine ⟨rfl, ?_⟩
      walk_at "st"
      refine ite_dec (fun h => ?_) (fun h => ?_)
      · walk_at "st"
        refine ⟨by simp [sizeLine_eq], fun q1 w1 => ?_⟩
        rw [te_Us]
        exact nxt true q1 w1 (by rw [decide_eq_true h]; rfl)
      · walk_at "st"
        refine ⟨by simp [sizeLine_eq], fun q1 w1 => ?_⟩
        rw [te_Us]
        exact nxt _ q1 w1 (by rw [decide_eq_false h]; rfl)
    · refine k D acc H2 ((sd.trans s1).trans s2) hD2 ?_
      have z := hI.mono s2
      rw [List.length_map, List.take_length] at z
      exact z
  | ch n lo hi =>
    have hq : H q = some (.lst [.str (S Y_changed), .int n, .int lo, .int hi]) := hq
    walk_at "st"
    refine ite_dec (fun h => absurd h (by decide +kernel)) (fun _ => ?_)
    walk_at "st"
    refine ite_dec (fun h => absurd h (by decide +kernel)) (fun _ => ?_)
    walk_at "st"
    have fin : ∀ {H2 : Hp} {L : Addr} {xs : List V}, Same H H2 → H2 L = some (.lst xs) → TRs H2 xs (bndT T lo hi) → ∀ bb q1, H2 q1 = none → bb = (decide (n < 0) || decide ((ss.length : Int) ≤ n)) → ∀ p1, upd H2 q1 (.lst (te bb (eU n))) p1 = none → ∀ p, upd (upd H2 q1 (.lst (te bb (eU n)))) p1 (.lst [.ref q1]) p = none →
        Q (.ref p) (upd (upd (upd H2 q1 (.lst (te bb (eU n)))) p1 (.lst [.ref q1])) p (.lst ([.ref q1] ++ xs))) := fun {H2 L xs} sH hL tr bb q1 w1 e p1 w2 p w3 => by
      have s1 := Same.new (o := .lst (te bb (eU n))) w1
      have s2 := Same.new (o := .lst [.ref q1]) w2
      have s3 := Same.new (o := .lst ([.ref q1] ++ xs)) w3
      refine k p _ _ (((sH.trans s1).trans s2).trans s3) upd_same (TRs.mono (s2.trans s3) (TRs.app (.cons ?_ .nil) (tr.mono s1)))
      rw [← e]; exact upd_same
    refine wp_cut (fun σ' H' => ∃ L, σ' = [some (.int T), some (.ref a), some (.ref b), some (.ref q), some (.int ss.length), some (.int lo), some (.int hi), some (.ref L), none, none] ∧ Tq L H H' [(decide (lo < 0) || decide (T - 1 < lo), eN lo)]) ?_ ?_
    · walk_at "st"
      refine ite_dec (fun h => ?_) (fun h => ?_)
      · rw [decide_eq_true h, Bool.true_or]
        walk_at "st"
        refine ⟨by simp [sizeLine_eq], fun q1 w1 => ?_⟩
        rw [te_N]
        walk_at "st"
        refine ⟨by simp [sizeLine_eq], fun L hL => ?_⟩
        walk_at "st"
        exact ⟨L, rfl, Tq.one w1 hL⟩
      · rw [decide_eq_false h, Bool.false_or]
        walk_at "st"
        refine ⟨by simp [sizeLine_eq], fun q1 w1 => ?_⟩
        rw [te_N]
        walk_at "st"
        refine ⟨by simp [sizeLine_eq], fun L hL => ?_⟩
        walk_at "st"
        exact ⟨L, rfl, Tq.one w1 hL⟩
    rintro σ' H1 ⟨L, rfl, t⟩
    refine wp_cut (fun σ' H' => ∃ L, σ' = [some (.int T), some (.ref a), some (.ref b), some (.ref q), some (.int ss.length), some (.int lo), some (.int hi), some (.ref L), none, none] ∧ Tq L H H' (bndT T lo hi)) ?_ ?_
    · obtain ⟨xs0, _, _, _, _, hLL, _⟩ := id t.ex
      have hq1 := t.at hq
      walk_at "st"
      refine ite_dec (fun h => ?_) (fun h => ?_)
      · have eb : (decide (hi < lo) || decide (lo + T - 3 < hi)) = true := by rw [decide_eq_true h]; rfl
        walk_at "st"
        refine ⟨by simp [sizeLine_eq], fun q1 w1 => ?_⟩
        rw [te_N]
        walk_at "st"
        refine t.put w1 (by simp) fun H3 t3 => ?_
        walk_at "st"
        refine ⟨_, rfl, ?_⟩
        unfold bndT
        rw [eb]
        exact t3
      · have eb : (decide (hi < lo) || decide (lo + T - 3 < hi)) = decide (lo + T - 3 < hi) := by rw [decide_eq_false h]; rfl
        walk_at "st"
        refine ⟨by simp [sizeLine_eq], fun q1 w1 => ?_⟩
        rw [te_N]
        walk_at "st"
        refine t.put w1 (by simp) fun H3 t3 => ?_
        walk_at "st"
        refine ⟨_, rfl, ?_⟩
        unfold bndT
        rw [eb]
        exact t3
    clear t
    rintro σ' H2 ⟨L, rfl, t⟩
    have hq2 := t.at hq
    have ha2 := t.at ha
    obtain ⟨xs, sH, hLL, tr⟩ := t.fin
    have lx := tr.len
    walk_at "st"
    refine ite_dec (fun _ => ?_) (fun h => absurd rfl h)
    walk_at "st"
    refine ite_dec (fun h => ?_) (fun h => ?_)
    · walk_at "st"
      refine ⟨by simp [sizeLine_eq], fun q1 w1 => ?_⟩
      rw [te_Us]
      walk_at "st"
      refine ⟨by simp [sizeLine_eq], fun p1 w2 => ?_⟩
      walk_at "st"
      refine wp_cat upd_same (((Same.new w1).trans (Same.new w2)) _ _ hLL) (by rw [lx]; simp [bndT]) fun p w3 => ?_
      exact fin sH hLL tr true q1 w1 (by rw [decide_eq_true h]; rfl) p1 w2 p w3
    · walk_at "st"
      refine ⟨by simp [sizeLine_eq], fun q1 w1 => ?_⟩
      rw [te_Us]
      walk_at "st"
      refine ⟨by simp [sizeLine_eq], fun p1 w2 => ?_⟩
      walk_at "st"
      refine wp_cat upd_same (((Same.new w1).trans (Same.new w2)) _ _ hLL) (by rw [lx]; simp [bndT]) fun p w3 => ?_
      exact fin sH hLL tr _ q1 w1 (by rw [decide_eq_false h]; rfl) p1 w2 p w3
  | wi r =>
    have hq : H q = some (.lst [.str (S Y_with), sv r.u, sv r.v, .int r.w, .int r.lo, .int r.hi]) := hq
    walk_at "st"
    refine ite_dec (fun h => absurd h (by decide +kernel)) (fun _ => ?_)
    walk_at "st"
    refine ite_dec (fun h => absurd h (by decide +kernel)) (fun _ => ?_)
    walk_at "st"
    refine wp_cut (fun σ' H' => ∃ L, σ' = [some (.int T), some (.ref a), some (.ref b), some (.ref q), some (.int ss.length), some (.int r.lo), some (.int r.hi), some (.ref L), none, none] ∧ Tq L H H' [(decide (r.lo < 0) || decide (T - 1 < r.lo), eN r.lo)]) ?_ ?_
    · walk_at "st"
      refine ite_dec (fun h => ?_) (fun h => ?_)
      · rw [decide_eq_true h, Bool.true_or]
        walk_at "st"
        refine ⟨by simp [sizeLine_eq], fun q1 w1 => ?_⟩
        rw [te_N]
        walk_at "st"
        refine ⟨by simp [sizeLine_eq], fun L hL => ?_⟩
        walk_at "st"
        exact ⟨L, rfl, Tq.one w1 hL⟩
      · rw [decide_eq_false h, Bool.false_or]
        walk_at "st"
        refine ⟨by simp [sizeLine_eq], fun q1 w1 => ?_⟩
        rw [te_N]
        walk_at "st"
        refine ⟨by simp [sizeLine_eq], fun L hL => ?_⟩
        walk_at "st"
        exact ⟨L, rfl, Tq.one w1 hL⟩
    rintro σ' H1 ⟨L, rfl, t⟩
    refine wp_cut (fun σ' H' => ∃ L, σ' = [some (.int T), some (.ref a), some (.ref b), some (.ref q), some (.int ss.length), some (.int r.lo), some (.int r.hi), some (.ref L), none, none] ∧ Tq L H H' (bndT T r.lo r.hi)) ?_ ?_
    · obtain ⟨xs0, _, _, _, _, hLL, _⟩ := id t.ex
      have hq1 := t.at hq
      walk_at "st"
      refine ite_dec (fun h => ?_) (fun h => ?_)
      · have eb : (decide (r.hi < r.lo) || decide (r.lo + T - 3 < r.hi)) = true := by rw [decide_eq_true h]; rfl
        walk_at "st"
        refine ⟨by simp [sizeLine_eq], fun q1 w1 => ?_⟩
        rw [te_N]
        walk_at "st"
        refine t.put w1 (by simp) fun H3 t3 => ?_
        walk_at "st"
        refine ⟨_, rfl, ?_⟩
        unfold bndT
        rw [eb]
        exact t3
      · have eb : (decide (r.hi < r.lo) || decide (r.lo + T - 3 < r.hi)) = decide (r.lo + T - 3 < r.hi) := by rw [decide_eq_false h]; rfl
        walk_at "st"
        refine ⟨by simp [sizeLine_eq], fun q1 w1 => ?_⟩
        rw [te_N]
        walk_at "st"
        refine t.put w1 (by simp) fun H3 t3 => ?_
        walk_at "st"
        refine ⟨_, rfl, ?_⟩
        unfold bndT
        rw [eb]
        exact t3
    clear t
    rintro σ' H2 ⟨L, rfl, t⟩
    have hq2 := t.at hq
    have ha2 := t.at ha
    obtain ⟨xs, sH, hLL, tr⟩ := t.fin
    have lx := tr.len
    walk_at "st"
    refine ite_dec (fun h => absurd h (by decide +kernel)) (fun _ => ?_)
    walk_at "st"
    refine wp_cut (fun σ' H' => ∃ M, σ' = [some (.int T), some (.ref a), some (.ref b), some (.ref q), some (.int ss.length), some (.int r.lo), some (.int r.hi), some (.ref L), some (.ref M), none] ∧ Tq M H2 H' [(decide (23 < (ss.length : Int)), eT 25 24), (!decide (r.u ∈ ns), eS "UnknownEvent" r.u)]) ?_ ?_
    · walk_at "st"
      refine ⟨by simp [sizeLine_eq], fun q1 w1 => ?_⟩
      rw [te_T]
      have s1 := Same.new (o := .lst (te (decide (23 < (ss.length : Int))) (eT 25 24))) w1
      have hq3 := s1 _ _ hq2
      walk_at "st"
      refine wp_notInSv (sq_of (s1 _ _ ha2)) ?_
      walk_at "st"
      refine ⟨by simp [sizeLine_eq], fun q2 w2 => ?_⟩
      rw [te_U]
      have s2 := Same.new (o := .lst (te (!decide (r.u ∈ ns)) (eS "UnknownEvent" r.u))) w2
      walk_at "st"
      refine ⟨by simp [sizeLine_eq], fun M hM => ?_⟩
      walk_at "st"
      exact ⟨M, rfl, _, _, s1.trans s2, Same.new hM, hM, upd_same, .cons (s2 _ _ upd_same) (.cons upd_same .nil)⟩
    rintro σ' H3 ⟨M, rfl, u⟩
    refine wp_cut (fun σ' H' => ∃ M, σ' = [some (.int T), some (.ref a), some (.ref b), some (.ref q), some (.int ss.length), some (.int r.lo), some (.int r.hi), some (.ref L), some (.ref M), none] ∧ Tq M H2 H' ([(decide (23 < (ss.length : Int)), eT 25 24), (!decide (r.u ∈ ns), eS "UnknownEvent" r.u)] ++ [(!decide (r.v ∈ ns), eS "UnknownEvent" r.v)])) ?_ ?_
    · obtain ⟨xs0, _, _, _, _, hMM, _⟩ := id u.ex
      have hq3 := u.at hq2
      walk_at "st"
      refine wp_notInSv (sq_of (u.at ha2)) ?_
      walk_at "st"
      refine ⟨by simp [sizeLine_eq], fun q1 w1 => ?_⟩
      rw [te_U]
      walk_at "st"
      refine u.put w1 (by simp) fun H4 u4 => ?_
      walk_at "st"
      exact ⟨_, rfl, u4⟩
    clear u
    rintro σ' H4 ⟨M, rfl, u⟩
    refine wp_cut (fun σ' H' => ∃ M, σ' = [some (.int T), some (.ref a), some (.ref b), some (.ref q), some (.int ss.length), some (.int r.lo), some (.int r.hi), some (.ref L), some (.ref M), none] ∧ Tq M H2 H' ([(decide (23 < (ss.length : Int)), eT 25 24), (!decide (r.u ∈ ns), eS "UnknownEvent" r.u)] ++ [(!decide (r.v ∈ ns), eS "UnknownEvent" r.v)] ++ [(decide (r.u = r.v), eS "SameEvent" r.u)])) ?_ ?_
    · obtain ⟨xs0, _, _, _, _, hMM, _⟩ := id u.ex
      have hq3 := u.at hq2
      walk_at "st"
      rw [show decide (S r.u = S r.v) = decide (r.u = r.v) from decide_eq_decide.mpr ⟨fun h => S_inj h, fun h => congrArg S h⟩]
      walk_at "st"
      refine ⟨by simp [sizeLine_eq], fun q1 w1 => ?_⟩
      rw [te_S]
      walk_at "st"
      refine u.put w1 (by simp) fun H5 u5 => ?_
      walk_at "st"
      exact ⟨_, rfl, u5⟩
    clear u
    rintro σ' H5 ⟨M, rfl, u⟩
    have hq5 := u.at hq2
    have hL5 := u.at hLL
    obtain ⟨ys, sH5, hMM, tr5⟩ := u.fin
    have ly := tr5.len
    have fin : ∀ bb c1, H5 c1 = none → ∀ q1, upd H5 c1 (.lst (ys ++ xs)) q1 = none → bb = (decide (r.w < 0) || decide (99 < r.w)) → ∀ p1, upd (upd H5 c1 (.lst (ys ++ xs))) q1 (.lst (te bb (eN r.w))) p1 = none → ∀ p, upd (upd (upd H5 c1 (.lst (ys ++ xs))) q1 (.lst (te bb (eN r.w)))) p1 (.lst [.ref q1]) p = none →
        Q (.ref p) (upd (upd (upd (upd H5 c1 (.lst (ys ++ xs))) q1 (.lst (te bb (eN r.w)))) p1 (.lst [.ref q1])) p (.lst (ys ++ xs ++ [.ref q1]))) := fun bb c1 w0 q1 w1 e p1 w2 p w3 => by
      have s0 := Same.new (o := .lst (ys ++ xs)) w0
      have s1 := Same.new (o := .lst (te bb (eN r.w))) w1
      have s2 := Same.new (o := .lst [.ref q1]) w2
      have s3 := Same.new (o := .lst (ys ++ xs ++ [.ref q1])) w3
      refine k p _ _ (((((sH.trans sH5).trans s0).trans s1).trans s2).trans s3) upd_same (TRs.mono (s2.trans s3) (TRs.app ((TRs.app tr5 (tr.mono sH5)).mono (s0.trans s1)) (.cons ?_ .nil)))
      rw [← e]; exact upd_same
    walk_at "st"
    refine wp_cat hMM hL5 (by rw [ly, lx]; simp [bndT]) fun c1 w0 => ?_
    have hq6 := (Same.new (o := .lst (ys ++ xs)) w0) _ _ hq5
    walk_at "st"
    refine ite_dec (fun h => ?_) (fun h => ?_)
    · walk_at "st"
      refine ⟨by simp [sizeLine_eq], fun q1 w1 => ?_⟩
      rw [te_N]
      walk_at "st"
      refine ⟨by simp [sizeLine_eq], fun p1 w2 => ?_⟩
      walk_at "st"
      refine wp_cat (((Same.new w1).trans (Same.new w2)) _ _ upd_same) upd_same (by rw [List.length_append, ly, lx]; simp [bndT]) fun p w3 => ?_
      exact fin true c1 w0 q1 w1 (by rw [decide_eq_true h]; rfl) p1 w2 p w3
    · walk_at "st"
      refine ⟨by simp [sizeLine_eq], fun q1 w1 => ?_⟩
      rw [te_N]
      walk_at "st"
      refine ⟨by simp [sizeLine_eq], fun p1 w2 => ?_⟩
      walk_at "st"
      refine wp_cat (((Same.new w1).trans (Same.new w2)) _ _ upd_same) upd_same (by rw [List.length_append, ly, lx]; simp [bndT]) fun p w3 => ?_
      exact fin _ c1 w0 q1 w1 (by rw [decide_eq_false h]; rfl) p1 w2 p w3
theorem len_l_tests (K : PySem.W.Frag) (vs : List V) (H : Hp) (Q : VK) (E : XK) (h : sp_l_tests K vs H Q E) : vs.length = 4 := by
  obtain ⟨_, _, _, _, _, _, _, rfl, _⟩ := h
  rfl
theorem c_l_tests {K : PySem.W.Frag} {T : Int} {a b q : Addr} {ns : List (List Nat)} {ss : List V} {c : Cmd} {H : Hp} {Q : VK} {E : XK} (ha : H a = some (.lst (ns.map sv))) (hb : H b = some (.lst ss)) (hq : H q = some (.lst (cmdV c))) (hw : ∀ is, c = .wo is → is.length ≤ 10)
    (k : ∀ (p : Addr) (xs : List V) H', Same H H' → H' p = some (.lst xs) → TRs H' xs (cmdT T ns ss.length c) → Q (.ref p) H') : sp_l_tests K [.int T, .ref a, .ref b, .ref q] H Q E := ⟨T, a, b, q, ns, ss, c, rfl, ha, hb, hq, hw, k⟩
def duL : Option Er → List V
  | none => []
  | some e => .str e.c :: (e.fs.map (·.2)).reverse
theorem TRs.at {H : Hp} : ∀ {xs : List V} {ts : List (Bool × Er)} {i : Nat} {x : V}, TRs H xs ts → xs[i]? = some x → ∃ b e q, x = .ref q ∧ ts[i]? = some (b, e) ∧ H q = some (.lst (te b e))
  | _, _, 0, _, .cons (q := q) (b := b) (e := e) h r, hx => by
    cases hx
    exact ⟨b, e, q, rfl, rfl, h⟩
  | _, _, i + 1, _, .cons h r, hx => by
    obtain ⟨b, e, q, h1, h2, h3⟩ := r.at (i := i) hx
    exact ⟨b, e, q, h1, h2, h3⟩
theorem fstE_drop {ts : List (Bool × Er)} {i : Nat} {b : Bool} {e : Er} (h : ts[i]? = some (b, e)) : fstE (ts.drop i) = (if b = true then some e else none).or (fstE (ts.drop (i + 1))) := by
  obtain ⟨hl, e⟩ := List.getElem?_eq_some_iff.mp h
  rw [List.drop_eq_getElem_cons hl, e]
  rfl
def sp_l_due (K : PySem.W.Frag) : Sp := fun vs H Q _ => ∃ (p : Addr) (xs : List V) (ts : List (Bool × Er)), vs = [.ref p] ∧ H p = some (.lst xs) ∧ TRs H xs ts ∧
  ∀ (q : Addr), H q = none → Q (.ref q) (upd H q (.lst (duL (fstE ts))))
abbrev N_l_due : List Str := ["_law_tests_here", "_law_test"]
theorem st_l_due {a0 : V} : L2.start N_l_due [a0] = [some a0, none] := rfl
def t_l_due (K : PySem.W.Frag) : TS :=
  (tSeq ((tFor ((iList K (tVar 0))) (gName 1) ((tIfS ((tB ((tOp (rIxL K) (tVar 1) (tC (.int 0)))))) ((tRet ((tSl (rSlL K) (tVar 1) (tPart (tC (.int 1))) tNoPart)))) (tNext)))))
    ((tRet ((tLst (tNil))))))

theorem pure_l_due (K : PySem.W.Frag) (vs : List V) (H : Hp) (Q : VK) (E : XK) (h : sp_l_due K vs H Q E) : t_l_due K { nx := fun _ H' => Q .non H', rt := Q } (L2.start N_l_due vs) H := by
  obtain ⟨p, xs, ts, rfl, hp, hr, k⟩ := h
  rw [st_l_due]
  unfold t_l_due
  walk_at "st"
  refine loopL (sq_of hp) (fun i σ' H' => ∃ y, σ' = [some (.ref p), y] ∧ H' = H ∧ fstE (ts.drop i) = fstE ts) ⟨_, rfl, rfl, rfl⟩ ?_ ?_ ?_
  · rintro i σ' H' _ ⟨y, rfl, rfl, _⟩
    exact sq_of hp
  · rintro i x σ' H' hx ⟨y, rfl, rfl, he⟩
    obtain ⟨b, e, q, rfl, ht, hq⟩ := hr.at hx
    rw [fstE_drop ht] at he
    unfold te at hq
    walk_at "st"
    cases b with
    | true =>
      walk_at "st"
      refine wp_sliceL (sq_of hq) fun z hz => ?_
      walk_at "st"
      rw [cutG_from1 (by omega) (by simp; omega)]
      have e2 : duL (fstE ts) = (V.bl true :: .str e.c :: (e.fs.map (·.2)).reverse).drop (1 : Int).toNat := by rw [← he]; rfl
      rw [← e2]
      exact k z hz
    | false =>
      walk_at "st"
      exact ⟨_, rfl, rfl, he⟩
  · rintro σ' H' ⟨y, rfl, rfl, he⟩
    have e : fstE ts = none := by
      rw [← he, ← hr.len.symm, List.drop_length]
      rfl
    walk_at "st"
    refine ⟨by simp [sizeLine_eq], fun q hq => ?_⟩
    have z := k q hq
    rw [e] at z
    exact z
theorem len_l_due (K : PySem.W.Frag) (vs : List V) (H : Hp) (Q : VK) (E : XK) (h : sp_l_due K vs H Q E) : vs.length = 1 := by
  obtain ⟨_, _, _, rfl, _⟩ := h
  rfl
theorem c_l_due {K : PySem.W.Frag} {p : Addr} {xs : List V} {ts : List (Bool × Er)} {H : Hp} {Q : VK} {E : XK} (hp : H p = some (.lst xs)) (hr : TRs H xs ts) (k : ∀ (q : Addr), H q = none → Q (.ref q) (upd H q (.lst (duL (fstE ts))))) : sp_l_due K [.ref p] H Q E := ⟨p, xs, ts, rfl, hp, hr, k⟩
def cNum (n : Nat) (i : Int) : Option Er := if 0 ≤ i ∧ i < n then none else some (eU i)
def sp_Netcheck_number (K : PySem.W.Frag) : Sp := fun vs H Q E => ∃ (a : Addr) (T : Int) (ns : List (List Nat)) (ss : List V) (i : Int), vs = [.ref a, .int i] ∧ IsNet (C_Net K) H a T ns ss ∧ Ck K (cNum ss.length i) E H Q
abbrev N_Netcheck_number : List Str := ["self", "number"]
theorem st_Netcheck_number {a0 a1 : V} : L2.start N_Netcheck_number [a0, a1] = [some a0, some a1] := rfl
def t_Netcheck_number (K : PySem.W.Frag) (E : XK) : TS :=
  (tIfS ((tNot ((tTest (tChain (rI0 fun i j => .bl (decide (i ≤ j))) (rI0 fun i j => .bl (decide (i < j))) (tC (.int 0)) (tVar 1) ((tCB (rLenS K) ((tCons ((tFldC (C_Net K) (tVar 0) "_spans")) (tNil)))))))))) ((tRs (C_UnknownSpan K) ["number"] E ((tCons (tVar 1) (tNil))))) (tNext))

theorem pure_Netcheck_number (K : PySem.W.Frag) (vs : List V) (H : Hp) (Q : VK) (E : XK) (h : sp_Netcheck_number K vs H Q E) : t_Netcheck_number K E { nx := fun _ H' => Q .non H', rt := Q } (L2.start N_Netcheck_number vs) H := by
  obtain ⟨a, T, ns, ss, i, rfl, ⟨dx, le, ls, h1, h2, h3⟩, k⟩ := h
  rw [st_Netcheck_number]
  unfold t_Netcheck_number
  by_cases c : 0 ≤ i ∧ i < ss.length
  · obtain ⟨i0, i1⟩ := c
    walk_at "st"
    exact k.non (if_pos ⟨i0, i1⟩)
  · have z := k.rz (e := eU i) (if_neg c)
    walk_at "st"
    refine ite_dec (fun q1 => ?_) (fun q1 => ?_)
    · walk_at "st"
      refine wp_rs ?_
      walk_at "st"
      exact rs_of rfl (by decide) z
    · walk_at "st"
      refine wp_rs ?_
      walk_at "st"
      exact rs_of rfl (by decide) z
theorem len_Netcheck_number (K : PySem.W.Frag) (vs : List V) (H : Hp) (Q : VK) (E : XK) (h : sp_Netcheck_number K vs H Q E) : vs.length = 2 := by
  obtain ⟨n, m, ms, a, _, rfl, _⟩ := h
  rfl
theorem c_Netcheck_number {K : PySem.W.Frag} {a : Addr} {T : Int} {ns : List (List Nat)} {ss : List V} {i : Int} {H : Hp} {Q : VK} {E : XK} (h : IsNet (C_Net K) H a T ns ss) (k : Ck K (cNum ss.length i) E H Q) : sp_Netcheck_number K [.ref a, .int i] H Q E := ⟨a, T, ns, ss, i, rfl, h, k⟩
/-- an error, or else what follows -/
structure Out (K : PySem.W.Frag) (r : Option Er) (E : XK) (H : Hp) (P : Hp → Prop) : Prop where
  x : ∀ er, r = some er → ∀ H', Same H H' → Rzd (He.ga K er.c) er.fs E H'
  k : r = none → ∀ H', Same H H' → P H'
theorem Out.mono {K : PySem.W.Frag} {r : Option Er} {E : XK} {H H2 : Hp} {P : Hp → Prop} (h : Out K r E H P) (s : Same H H2) : Out K r E H2 P := ⟨fun er e H' s2 => h.x er e H' (s.trans s2), fun e H' s2 => h.k e H' (s.trans s2)⟩
theorem Out.seq {K : PySem.W.Frag} {a b : Option Er} {E : XK} {H : Hp} {P : Hp → Prop} {Q : VK} (h : Out K (a.or b) E H P) (k : ∀ H', Same H H' → a = none → Out K b E H' P → Q .non H') : Ck K a E H Q := by
  intro H' s
  cases a with
  | none => exact ⟨fun _ => k H' s rfl ⟨fun er e H2 s2 => h.x er e H2 (s.trans s2), fun e H2 s2 => h.k e H2 (s.trans s2)⟩, fun e q => (nomatch q)⟩
  | some e => exact ⟨fun q => (nomatch q), fun e' q => h.x e' (by rw [← q]; rfl) H' s⟩
theorem Out.one {K : PySem.W.Frag} {a : Option Er} {E : XK} {H : Hp} {P : Hp → Prop} {Q : VK} (h : Out K a E H P) (k : ∀ H', Same H H' → P H' → Q .non H') : Ck K a E H Q := fun H' s => ⟨fun e => k H' s (h.k e H' s), fun er e => h.x er e H' s⟩
/-- a new net, or an error -/
def NewX (K : PySem.W.Frag) (r : Option Er) (T : Int) (ns : List (List Nat)) (rs : List Row) (E : XK) (H : Hp) (Q : VK) : Prop := Out K r E H fun H' => ∀ b ss', IsNet (C_Net K) H' b T ns ss' → Rws H' ss' rs → Q (.ref b) H'
/-- a net that was built: a at H -/
structure Bld (K : PySem.W.Frag) (H : Hp) (a : Addr) (T : Int) (ns : List (List Nat)) (ss : List V) (rs : List Row) : Prop where
  n : IsNet (C_Net K) H a T ns ss
  r : Rws H ss rs
  ok : OkNs T ns
  o : ∀ r ∈ rs, OkR T ns r
  f : rs.length ≤ 24
theorem Bld.mono {K : PySem.W.Frag} {H H' : Hp} {a : Addr} {T : Int} {ns : List (List Nat)} {ss : List V} {rs : List Row} (s : Same H H') (b : Bld K H a T ns ss rs) : Bld K H' a T ns ss rs := ⟨b.n.mono s, b.r.mono s, b.ok, b.o, b.f⟩
theorem Bld.asc {K : PySem.W.Frag} {H : Hp} {a : Addr} {T : Int} {ns : List (List Nat)} {ss : List V} {rs : List Row} (b : Bld K H a T ns ss rs) : ∀ r ∈ rs, AscR r := fun r hr => ⟨nm_asc (b.ok.nm _ (b.o r hr).u), nm_asc (b.ok.nm _ (b.o r hr).v)⟩
theorem Bld.prt {K : PySem.W.Frag} {H H2 : Hp} {a e s : Addr} {T : Int} {ns : List (List Nat)} {ss ss2 : List V} {rs rs2 : List Row} (b : Bld K H a T ns ss rs) (he : H2 e = some (.lst (ns.map sv))) (hs : H2 s = some (.lst ss2)) (hr : Rws H2 ss2 rs2) (hl : rs2.length ≤ 100) (ha : ∀ r ∈ rs2, AscR r) : Prt H2 e s ns ss2 rs2 :=
  ⟨he, hs, hr, fun l hl => by have := (b.ok.nm l hl).len; omega, by have := b.ok.few; omega, by omega, fun l hl => nm_asc (b.ok.nm l hl), ha⟩
def sp_Net_span (K : PySem.W.Frag) : Sp := fun vs H Q E => ∃ (a : Addr) (T : Int) (ns : List (List Nat)) (ss : List V) (i : Int), vs = [.ref a, .int i] ∧ IsNet (C_Net K) H a T ns ss ∧ Out K (cNum ss.length i) E H fun H' => ∀ x, ss[i.toNat]? = some x → Q x H'
abbrev N_Net_span : List Str := ["self", "number"]
theorem st_Net_span {a0 a1 : V} : L2.start N_Net_span [a0, a1] = [some a0, some a1] := rfl
def t_Net_span (K : PySem.W.Frag) (E : XK) : TS :=
  (tSeq ((tDrop ((tMeth (C_Net K) "_check_number" (sp_Netcheck_number K) [] E (tVar 0) ((tCons (tVar 1) (tNil)))))))
    ((tRet ((tOp (rIxL K) ((tFldC (C_Net K) (tVar 0) "_spans")) (tVar 1))))))

theorem cNum_none {n : Nat} {i : Int} (h : cNum n i = none) : 0 ≤ i ∧ i < n := by
  unfold cNum at h
  split at h
  · assumption
  · cases h
theorem pure_Net_span (K : PySem.W.Frag) (vs : List V) (H : Hp) (Q : VK) (E : XK) (h : sp_Net_span K vs H Q E) : t_Net_span K E { nx := fun _ H' => Q .non H', rt := Q } (L2.start N_Net_span vs) H := by
  obtain ⟨a, T, ns, ss, i, rfl, h0, k⟩ := h
  have h9 := h0
  obtain ⟨dx, le, ls, h1, h2, h3⟩ := h0
  rw [st_Net_span]
  unfold t_Net_span
  walk_at "st"
  refine met_at h1 rfl ?_
  walk_at "st"
  refine c_Netcheck_number h9 (fun H2 s2 => ⟨fun e => ?_, fun er e => k.x er e H2 s2⟩)
  obtain ⟨i0, i1⟩ := cNum_none e
  have h1' := s2 _ _ h1
  walk_at "st"
  exact wp_ixLM (sq_of (s2 _ _ h3)) i0 i1 fun v _ hv => k.k e H2 s2 v hv
theorem len_Net_span (K : PySem.W.Frag) (vs : List V) (H : Hp) (Q : VK) (E : XK) (h : sp_Net_span K vs H Q E) : vs.length = 2 := by
  obtain ⟨n, m, ms, a, _, rfl, _⟩ := h
  rfl
theorem c_Net_span {K : PySem.W.Frag} {a : Addr} {T : Int} {ns : List (List Nat)} {ss : List V} {i : Int} {H : Hp} {Q : VK} {E : XK} (h : IsNet (C_Net K) H a T ns ss) (k : Out K (cNum ss.length i) E H fun H' => ∀ x, ss[i.toNat]? = some x → Q x H') : sp_Net_span K [.ref a, .int i] H Q E := ⟨a, T, ns, ss, i, rfl, h, k⟩
def sp_Net_with_span (K : PySem.W.Frag) : Sp := fun vs H Q E => ∃ (a : Addr) (T : Int) (ns : List (List Nat)) (ss : List V) (rs : List Row) (r : Row), vs = [.ref a, sv r.u, sv r.v, .int r.lo, .int r.hi, .int r.w] ∧ AscR r ∧ Bld K H a T ns ss rs ∧ NewX K (cNet T ns (rs ++ [r])) T ns (rs ++ [r]) E H Q
abbrev N_Net_with_span : List Str := ["self", "start", "end", "least", "most", "weight"]
theorem st_Net_with_span {a0 a1 a2 a3 a4 a5 : V} : L2.start N_Net_with_span [a0, a1, a2, a3, a4, a5] = [some a0, some a1, some a2, some a3, some a4, some a5] := rfl
def t_Net_with_span (K : PySem.W.Frag) (E : XK) : TS :=
  (tRet ((tMake (C_Net K) (sp_Net_init K) [] E ((tCons ((tFldC (C_Net K) (tVar 0) "_round_length")) ((tCons ((tFldC (C_Net K) (tVar 0) "_events")) ((tCons ((tLst ((StX.tStar K ((tFldC (C_Net K) (tVar 0) "_spans")) ((tCons ((tTup ((tCons (tVar 1) ((tCons (tVar 2) ((tCons (tVar 3) ((tCons (tVar 4) ((tCons (tVar 5) (tNil))))))))))))) (tNil))))))) (tNil))))))))))

theorem pure_Net_with_span (K : PySem.W.Frag) (vs : List V) (H : Hp) (Q : VK) (E : XK) (h : sp_Net_with_span K vs H Q E) : t_Net_with_span K E { nx := fun _ H' => Q .non H', rt := Q } (L2.start N_Net_with_span vs) H := by
  obtain ⟨a, T, ns, ss, rs, r, rfl, ar, bd, k⟩ := h
  have asc := bd.asc
  have f1 := bd.f
  have er := bd.r.len
  obtain ⟨dx, le, ls, h1, h2, h3⟩ := bd.n
  rw [st_Net_with_span]
  unfold t_Net_with_span
  walk_at "st"
  refine ⟨ls, ss, rfl, .inr (sq_of h3), ?_⟩
  walk_at "st"
  refine ⟨by simp [sizeLine_eq], fun b hb => ?_⟩
  have e1 : HO.tup [sv r.u, sv r.v, .int r.lo, .int r.hi, .int r.w] = .tup (rowV r) := rfl
  rw [e1]
  walk_at "st"
  refine ⟨szl (by simp; omega), fun c hc => ?_⟩
  have s2 : Same H (upd (upd H b (.tup (rowV r))) c (.lst (ss ++ [.ref b]))) := (Same.new hb).trans (Same.new hc)
  have rk : Rws (upd (upd H b (.tup (rowV r))) c (.lst (ss ++ [.ref b]))) (ss ++ [.ref b]) (rs ++ [r]) := (bd.r.mono s2).app (.cons ⟨b, rfl, (Same.new hc) _ _ upd_same⟩ .nil)
  walk_at "st"
  refine c_NetX (bd.prt (s2 _ _ h2) upd_same rk (by simp; omega) fun q hq => ?_) (fun er e H' s => k.x er e H' (s2.trans s)) (fun e b' H' s n => k.k e H' (s2.trans s) b' _ n (rk.mono s))
  rcases List.mem_append.mp hq with h | h
  · exact asc q h
  · rw [List.mem_singleton.mp h]; exact ar
theorem len_Net_with_span (K : PySem.W.Frag) (vs : List V) (H : Hp) (Q : VK) (E : XK) (h : sp_Net_with_span K vs H Q E) : vs.length = 6 := by
  obtain ⟨_, _, _, _, _, _, rfl, _⟩ := h
  rfl
theorem c_Net_with_span {K : PySem.W.Frag} {a : Addr} {T : Int} {ns : List (List Nat)} {ss : List V} {rs : List Row} {H : Hp} {Q : VK} {E : XK} (r : Row) (ar : AscR r) (bd : Bld K H a T ns ss rs) (k : NewX K (cNet T ns (rs ++ [r])) T ns (rs ++ [r]) E H Q) :
    sp_Net_with_span K [.ref a, sv r.u, sv r.v, .int r.lo, .int r.hi, .int r.w] H Q E := ⟨a, T, ns, ss, rs, r, rfl, ar, bd, k⟩
theorem cEvs_ok : ∀ {ns bef : List (List Nat)}, (∀ l ∈ ns, Nm l) → (bef ++ ns).Nodup → cEvs bef ns = none
  | [], _, _, _ => rfl
  | l :: r, bef, h, nd => by
    have h1 : cEv l bef = none := by
      unfold cEv cName
      rw [if_pos (nm_iff.mpr (h l List.mem_cons_self)), if_neg]
      · rfl
      · intro hm
        have := (List.nodup_append.mp nd).2.2 l hm l List.mem_cons_self
        exact this rfl
    show (cEv l bef).or (cEvs (bef ++ [l]) r) = none
    rw [h1, Option.none_or]
    exact cEvs_ok (fun y hy => h y (List.mem_cons_of_mem _ hy)) (by rw [List.append_assoc]; exact nd)
theorem cFold_ok {α : Type} {f : α → Option Er} : ∀ {xs : List α}, (∀ x ∈ xs, f x = none) → cFold f xs = none
  | [], _ => rfl
  | x :: r, h => by
    show (f x).or (cFold f r) = none
    rw [h x List.mem_cons_self, Option.none_or]
    exact cFold_ok fun y hy => h y (List.mem_cons_of_mem _ hy)
theorem cSp_ok {T : Int} {ns : List (List Nat)} {r : Row} (o : OkR T ns r) : cSp T ns r = none := by
  have k1 : cFold (cK1 ns) [r.u, r.v] = none := cFold_ok fun x hx => by
    simp only [List.mem_cons, List.not_mem_nil, or_false] at hx
    rcases hx with rfl | rfl
    · exact if_pos o.u
    · exact if_pos o.v
  have k2 : cRng r.lo 0 (T - 1) = none := if_pos ⟨o.l0, o.l1⟩
  have k3 : cRng r.hi r.lo (r.lo + T - 3) = none := if_pos ⟨o.h0, o.h1⟩
  have k4 : cRng r.w 0 99 = none := if_pos ⟨o.w0, o.w1⟩
  unfold cSp
  rw [k1, k2, k3, k4, if_neg o.ne]
  rfl
/-- a net whose names are good -/
theorem cNet_ns {T : Int} {ns : List (List Nat)} {rs : List Row} (ok : OkNs T ns) : cNet T ns rs = (cCnt rs.length 24).or (cFold (cSp T ns) rs) := by
  have f := ok.few
  have e1 : cRng T 3 120 = none := if_pos ⟨ok.t0, ok.t1⟩
  have e2 : cCnt ns.length 12 = none := if_pos (by omega)
  have e3 : cEvs [] ns = none := cEvs_ok ok.nm ok.nodup
  unfold cNet
  rw [e1, e2, e3]
  rfl
theorem cNet_ok {T : Int} {ns : List (List Nat)} {rs : List Row} (ok : OkNs T ns) (h : ∀ r ∈ rs, OkR T ns r) (hl : rs.length ≤ 24) : cNet T ns rs = none := by
  rw [cNet_ns ok, show cCnt rs.length 24 = none from if_pos (by omega), cFold_ok fun r hr => cSp_ok (h r hr)]
  rfl
def sp_Net_without (K : PySem.W.Frag) : Sp := fun vs H Q E => ∃ (a t : Addr) (is : List Int) (T : Int) (ns : List (List Nat)) (ss : List V) (rs : List Row), vs = [.ref a, .ref t] ∧ H t = some (.tup (is.map V.int)) ∧ Bld K H a T ns ss rs ∧ NewX K (cFold (cNum ss.length) is) T ns (keepG is rs rs.length) E H Q
abbrev N_Net_without : List Str := ["self", "numbers", "number", "left", "span"]
theorem st_Net_without {a0 a1 : V} : L2.start N_Net_without [a0, a1] = [some a0, some a1, none, none, none] := rfl
def t_Net_without (K : PySem.W.Frag) (E : XK) : TS :=
  (tSeq ((tFor ((iTup K (tVar 1))) (gName 2) ((tDrop ((tMeth (C_Net K) "_check_number" (sp_Netcheck_number K) [] E (tVar 0) ((tCons (tVar 2) (tNil)))))))))
    ((tSeq ((tAsg (tLc ((iEnum K ((tCons ((tFldC (C_Net K) (tVar 0) "_spans")) (tNil))))) ((gTup K 2 (gCons (gName 2) (gCons (gName 4) gNil)))) ((tTest (tOp (rIn K true) (tVar 2) (tVar 1)))) (tVar 4) [2, 4]) (gName 3)))
    ((tRet ((tMake (C_Net K) (sp_Net_init K) [] E ((tCons ((tFldC (C_Net K) (tVar 0) "_round_length")) ((tCons ((tFldC (C_Net K) (tVar 0) "_events")) ((tCons (tVar 3) (tNil))))))))))))))

theorem pure_Net_without (K : PySem.W.Frag) (vs : List V) (H : Hp) (Q : VK) (E : XK) (h : sp_Net_without K vs H Q E) : t_Net_without K E { nx := fun _ H' => Q .non H', rt := Q } (L2.start N_Net_without vs) H := by
  obtain ⟨a, t, is, T, ns, ss, rs, rfl, ht, bd, k⟩ := h
  have asc := bd.asc
  have f1 := bd.f
  have er := bd.r.len
  have n9 := bd.n
  obtain ⟨dx, le, ls, h1, h2, h3⟩ := bd.n
  rw [st_Net_without]
  unfold t_Net_without
  walk_at "st"
  refine loopT (st_of ht) (fun i σ' H' => ∃ x, σ' = [some (.ref a), some (.ref t), x, none, none] ∧ Same H H' ∧ NewX K (cFold (cNum ss.length) (is.drop i)) T ns (keepG is rs rs.length) E H' Q) ⟨_, rfl, Same.refl _, k⟩ ?_ ?_ ?_
  · rintro i σ' H' _ ⟨x, rfl, s1, _⟩
    exact st_of (s1 _ _ ht)
  · rintro i x σ' H' hx ⟨y, rfl, s1, kk⟩
    rw [List.getElem?_map] at hx
    obtain ⟨j, hj, rfl⟩ := Option.map_eq_some_iff.mp hx
    rw [cFold_drop hj] at kk
    have h1' := s1 _ _ h1
    walk_at "st"
    refine met_at h1' rfl ?_
    walk_at "st"
    refine c_Netcheck_number (n9.mono s1) (Out.seq kk fun H2 s2 _ k2 => ?_)
    walk_at "st"
    exact ⟨_, rfl, s1.trans s2, k2⟩
  · rintro σ' H' ⟨x, rfl, s1, kk⟩
    have e0 : cFold (cNum ss.length) (is.drop (is.map V.int).length) = none := by rw [List.length_map, List.drop_length]; rfl
    have h1' := s1 _ _ h1
    have h3' := s1 _ _ h3
    walk_at "st"
    refine lcGE (sq_of h3') (by omega) (keepG is ss) rfl keepG_len (fun i y q H2 R R0 hx s2 hq k1 k0 => ?_) (fun D H2 hD s2 hD2 => ?_)
    · rw [show wipe [some (V.ref a), some (.ref t), x, none, none] [2, 4] = [some (V.ref a), some (.ref t), none, none, none] from rfl]
      walk_at "st"
      refine ⟨rfl, ?_⟩
      walk_at "st"
      refine wp_notInI (.inr (st_of ((s1.trans s2) _ _ ht))) ?_
      walk_at "st"
      refine ite_ndec (fun h => ?_) (fun h => ?_)
      · walk_at "st"
        refine k1 _ _ (Same.refl _) ?_
        show (if (i : Int) ∈ is then _ else _) = _
        rw [if_neg h, hx]
        rfl
      · refine k0 _ (Same.refl _) ?_
        show (if (i : Int) ∈ is then _ else _) = _
        rw [if_pos h]
    · have up := s1.trans s2
      have h1'' := up _ _ h1
      have rk := (bd.r.mono up).keep is ss.length
      have l2 := keepG_len (is := is) (xs := rs) rs.length
      walk_at "st"
      rw [er] at hD2 rk
      refine c_NetX (bd.prt (up _ _ h2) hD2 rk (by omega) fun q hq => asc q (keepG_mem hq)) (fun er' e H' s => ?_) (fun e b' H' s n => kk.k e0 H' (s2.trans s) b' _ n (rk.mono s))
      rw [cNet_ok bd.ok (fun r hr => bd.o r (keepG_mem hr)) (by omega)] at e
      cases e
theorem len_Net_without (K : PySem.W.Frag) (vs : List V) (H : Hp) (Q : VK) (E : XK) (h : sp_Net_without K vs H Q E) : vs.length = 2 := by
  obtain ⟨_, _, _, _, _, _, _, rfl, _⟩ := h
  rfl
theorem c_Net_without {K : PySem.W.Frag} {a : Addr} {T : Int} {ns : List (List Nat)} {ss : List V} {rs : List Row} {H : Hp} {Q : VK} {E : XK} (is : List Int) (hl : is.length ≤ 1000) (bd : Bld K H a T ns ss rs) (k : NewX K (cFold (cNum ss.length) is) T ns (keepG is rs rs.length) E H Q) :
    StarW (sp_Net_without K) (.ref a :: is.map V.int) H Q E := by
  refine ⟨.ref a, is.map V.int, rfl, by rw [List.length_map]; exact hl, fun t ht => ?_⟩
  have s1 := Same.new (o := .tup (is.map V.int)) ht
  exact ⟨a, t, is, T, ns, ss, rs, rfl, upd_same, bd.mono s1, Out.mono k s1⟩
/-- the row with other bounds -/
def chR (r : Row) (lo hi : Int) : Row := ⟨r.u, r.v, lo, hi, r.w⟩
def cChg (T : Int) (ns : List (List Nat)) (rs : List Row) (i lo hi : Int) : Option Er := (cNum rs.length i).or (match rs[i.toNat]? with | none => none | some r => cNet T ns (rs.set i.toNat (chR r lo hi)))
def chRs (rs : List Row) (i lo hi : Int) : List Row := match rs[i.toNat]? with | none => rs | some r => rs.set i.toNat (chR r lo hi)
def sp_Net_changed (K : PySem.W.Frag) : Sp := fun vs H Q E => ∃ (a : Addr) (i lo hi : Int) (T : Int) (ns : List (List Nat)) (ss : List V) (rs : List Row), vs = [.ref a, .int i, .int lo, .int hi] ∧ Bld K H a T ns ss rs ∧ NewX K (cChg T ns rs i lo hi) T ns (chRs rs i lo hi) E H Q
abbrev N_Net_changed : List Str := ["self", "number", "least", "most", "old", "spans"]
theorem st_Net_changed {a0 a1 a2 a3 : V} : L2.start N_Net_changed [a0, a1, a2, a3] = [some a0, some a1, some a2, some a3, none, none] := rfl
def t_Net_changed (K : PySem.W.Frag) (E : XK) : TS :=
  (tSeq ((tAsg ((tMeth (C_Net K) "span" (sp_Net_span K) [] E (tVar 0) ((tCons (tVar 1) (tNil))))) (gName 4)))
    ((tSeq ((tAsg ((tCB (rListS K) ((tCons ((tFldC (C_Net K) (tVar 0) "_spans")) (tNil))))) (gName 5)))
    ((tSeq ((tAsg ((tTup ((tCons ((tOp (rIxT K) (tVar 4) (tC (.int 0)))) ((tCons ((tOp (rIxT K) (tVar 4) (tC (.int 1)))) ((tCons (tVar 2) ((tCons (tVar 3) ((tCons ((tOp (rIxT K) (tVar 4) (tC (.int 4)))) (tNil))))))))))))) (gSub (tVar 5) (tVar 1) rSetL)))
    ((tRet ((tMake (C_Net K) (sp_Net_init K) [] E ((tCons ((tFldC (C_Net K) (tVar 0) "_round_length")) ((tCons ((tFldC (C_Net K) (tVar 0) "_events")) ((tCons (tVar 5) (tNil))))))))))))))))

theorem pure_Net_changed (K : PySem.W.Frag) (vs : List V) (H : Hp) (Q : VK) (E : XK) (h : sp_Net_changed K vs H Q E) : t_Net_changed K E { nx := fun _ H' => Q .non H', rt := Q } (L2.start N_Net_changed vs) H := by
  obtain ⟨a, i, lo, hi, T, ns, ss, rs, rfl, bd, k⟩ := h
  have asc := bd.asc
  have f1 := bd.f
  have er := bd.r.len
  have n9 := bd.n
  obtain ⟨dx, le, ls, h1, h2, h3⟩ := bd.n
  rw [st_Net_changed]
  unfold t_Net_changed
  walk_at "st"
  refine met_at h1 rfl ?_
  walk_at "st"
  refine c_Net_span n9 ⟨fun er' e H' s => k.x er' (by unfold cChg; rw [← er, e]; rfl) H' s, fun e H1 s1 z hz2 => ?_⟩
  obtain ⟨i0, i1⟩ := cNum_none e
  obtain ⟨r, hr, p, rfl, hp⟩ := bd.r.at hz2
  have ec : cChg T ns rs i lo hi = cNet T ns (rs.set i.toNat (chR r lo hi)) := by unfold cChg; rw [← er, e, Option.none_or, hr]
  have el : chRs rs i lo hi = rs.set i.toNat (chR r lo hi) := by unfold chRs; rw [hr]
  rw [ec, el] at k
  have h1' := s1 _ _ h1
  walk_at "st"
  refine wp_listL (sq_of (s1 _ _ h3)) fun c hc => ?_
  have sc := s1.trans (Same.new (o := .lst ss) hc)
  have hp2 : upd H1 c (.lst ss) p = some (.tup [sv r.u, sv r.v, .int r.lo, .int r.hi, .int r.w]) := sc _ _ hp
  walk_at "st"
  refine ⟨by simp [sizeLine_eq], fun b hb => ?_⟩
  have ncb : c ≠ b := ne_of_none upd_same hb
  walk_at "st"
  refine wp_setL (j := i.toNat) (xs := ss) (by rw [upd_ne ncb]; exact upd_same) (by unfold ixN; rw [if_pos (by omega), if_pos (by omega)]) ?_
  have e1 : HO.tup [sv r.u, sv r.v, .int lo, .int hi, .int r.w] = .tup (rowV (chR r lo hi)) := rfl
  rw [e1]
  have hcH : H c = none := s1.free hc
  have s3 : Same H (upd (upd (upd H1 c (.lst ss)) b (.tup (rowV (chR r lo hi)))) c (.lst (ss.set i.toNat (.ref b)))) := Same.mut (sc.trans (Same.new hb)) hcH
  have rk : Rws (upd (upd (upd H1 c (.lst ss)) b (.tup (rowV (chR r lo hi)))) c (.lst (ss.set i.toNat (.ref b)))) (ss.set i.toNat (.ref b)) (rs.set i.toNat (chR r lo hi)) :=
    (bd.r.mono s3).set (x := .ref b) (r := chR r lo hi) ⟨b, rfl, by rw [upd_ne ncb.symm]; exact upd_same⟩ i.toNat
  have h1'' := s3 _ _ h1
  walk_at "st"
  have ar := asc r (List.mem_of_getElem? hr)
  refine c_NetX (bd.prt (s3 _ _ h2) upd_same rk (by rw [List.length_set]; omega) fun q hq => ?_) (fun er' e' H' s => k.x er' e' H' (s3.trans s)) (fun e' b' H' s n => k.k e' H' (s3.trans s) b' _ n (rk.mono s))
  rcases List.mem_or_eq_of_mem_set hq with h | h
  · exact asc q h
  · rw [h]; exact ⟨ar.u, ar.v⟩
theorem len_Net_changed (K : PySem.W.Frag) (vs : List V) (H : Hp) (Q : VK) (E : XK) (h : sp_Net_changed K vs H Q E) : vs.length = 4 := by
  obtain ⟨_, _, _, _, _, _, _, _, rfl, _⟩ := h
  rfl
theorem c_Net_changed {K : PySem.W.Frag} {a : Addr} {i lo hi : Int} {T : Int} {ns : List (List Nat)} {ss : List V} {rs : List Row} {H : Hp} {Q : VK} {E : XK} (bd : Bld K H a T ns ss rs) (k : NewX K (cChg T ns rs i lo hi) T ns (chRs rs i lo hi) E H Q) :
    sp_Net_changed K [.ref a, .int i, .int lo, .int hi] H Q E := ⟨a, i, lo, hi, T, ns, ss, rs, rfl, bd, k⟩
def cmdE (T : Int) (ns : List (List Nat)) (rs : List Row) : Cmd → Option Er
  | .sp n => cNum rs.length n
  | .wo is => cFold (cNum rs.length) is
  | .ch n lo hi => cChg T ns rs n lo hi
  | .wi r => cNet T ns (rs ++ [r])
def cmdR (rs : List Row) : Cmd → List Row
  | .sp _ => rs
  | .wo is => keepG is rs rs.length
  | .ch n lo hi => chRs rs n lo hi
  | .wi r => rs ++ [r]
structure CmdOk (c : Cmd) : Prop where
  wo : ∀ is, c = .wo is → is.length = 2 ∨ is.length = 3
  wi : ∀ r, c = .wi r → AscR r
def DoK (K : PySem.W.Frag) (T : Int) (ns : List (List Nat)) (ss : List V) (rs : List Row) (c : Cmd) (E : XK) (H : Hp) (Q : VK) : Prop :=
  Out K (cmdE T ns rs c) E H fun H' => (∀ n x, c = .sp n → ss[n.toNat]? = some x → Q x H') ∧ ∀ b ss', (∀ n, c ≠ .sp n) → IsNet (C_Net K) H' b T ns ss' → Rws H' ss' (cmdR rs c) → Q (.ref b) H'
def sp_l_do (K : PySem.W.Frag) : Sp := fun vs H Q E => ∃ (a q : Addr) (T : Int) (ns : List (List Nat)) (ss : List V) (rs : List Row) (c : Cmd), vs = [.ref a, .ref q] ∧ Bld K H a T ns ss rs ∧ H q = some (.lst (cmdV c)) ∧ CmdOk c ∧ DoK K T ns ss rs c E H Q
abbrev N_l_do : List Str := ["_law_net", "_law_row"]
theorem st_l_do {a0 a1 : V} : L2.start N_l_do [a0, a1] = [some a0, some a1] := rfl
def t_l_do (K : PySem.W.Frag) (E : XK) : TS :=
  (tSeq ((tIfS ((tTest (tOp rEq ((tOp (rIxL K) (tVar 1) (tC (.int 0)))) (tC (.str (S Y_span)))))) ((tRet ((tMeth (C_Net K) "span" (sp_Net_span K) [] E (tVar 0) ((tCons ((tOp (rIxL K) (tVar 1) (tC (.int 1)))) (tNil))))))) (tNext)))
    ((tSeq ((tIfS ((tAnd ((tTest (tOp rEq ((tOp (rIxL K) (tVar 1) (tC (.int 0)))) (tC (.str (S Y_without)))))) ((tTest (tOp rEq ((tCB (rLenS K) ((tCons (tVar 1) (tNil))))) (tC (.int 4))))))) ((tRet ((tMethR (C_Net K) "without" (StarW (sp_Net_without K)) E (tVar 0) ((tCons ((tOp (rIxL K) (tVar 1) (tC (.int 1)))) ((tCons ((tOp (rIxL K) (tVar 1) (tC (.int 2)))) ((tCons ((tOp (rIxL K) (tVar 1) (tC (.int 3)))) (tNil))))))))))) (tNext)))
    ((tSeq ((tIfS ((tTest (tOp rEq ((tOp (rIxL K) (tVar 1) (tC (.int 0)))) (tC (.str (S Y_without)))))) ((tRet ((tMethR (C_Net K) "without" (StarW (sp_Net_without K)) E (tVar 0) ((tCons ((tOp (rIxL K) (tVar 1) (tC (.int 1)))) ((tCons ((tOp (rIxL K) (tVar 1) (tC (.int 2)))) (tNil))))))))) (tNext)))
    ((tSeq ((tIfS ((tTest (tOp rEq ((tOp (rIxL K) (tVar 1) (tC (.int 0)))) (tC (.str (S Y_changed)))))) ((tRet ((tMethKX (C_Net K) "changed" 2 2 (sp_Net_changed K) E (tVar 0) ((tCons ((tOp (rIxL K) (tVar 1) (tC (.int 1)))) (tNil))) ((tCons ((tOp (rIxL K) (tVar 1) (tC (.int 2)))) ((tCons ((tOp (rIxL K) (tVar 1) (tC (.int 3)))) (tNil))))))))) (tNext)))
    ((tRet ((tMethKX (C_Net K) "with_span" 5 1 (sp_Net_with_span K) E (tVar 0) ((tCons ((tOp (rIxL K) (tVar 1) (tC (.int 1)))) ((tCons ((tOp (rIxL K) (tVar 1) (tC (.int 2)))) ((tCons ((tOp (rIxL K) (tVar 1) (tC (.int 4)))) ((tCons ((tOp (rIxL K) (tVar 1) (tC (.int 5)))) (tNil))))))))) ((tCons ((tOp (rIxL K) (tVar 1) (tC (.int 3)))) (tNil))))))))))))))

theorem pure_l_do (K : PySem.W.Frag) (vs : List V) (H : Hp) (Q : VK) (E : XK) (h : sp_l_do K vs H Q E) : t_l_do K E { nx := fun _ H' => Q .non H', rt := Q } (L2.start N_l_do vs) H := by
  obtain ⟨a, q, T, ns, ss, rs, c, rfl, bd, hq, ok, k⟩ := h
  have er := bd.r.len
  obtain ⟨dx, le, ls, h1, h2, h3⟩ := bd.n
  rw [st_l_do]
  unfold t_l_do
  cases c with
  | sp n =>
    have hq : H q = some (.lst [.str (S Y_span), .int n]) := hq
    walk_at "st"
    refine ite_dec (fun _ => ?_) (fun h => absurd rfl h)
    walk_at "st"
    refine met_at h1 rfl ?_
    walk_at "st"
    refine c_Net_span bd.n ?_
    rw [er]
    exact ⟨k.x, fun e H' s x hx => (k.k e H' s).1 n x rfl hx⟩
  | wo is =>
    have hl := ok.wo is rfl
    have kn : NewX K (cFold (cNum ss.length) is) T ns (keepG is rs rs.length) E H Q := by
      rw [er]
      exact ⟨k.x, fun e H' s b ss' n r => (k.k e H' s).2 b ss' (fun _ h => nomatch h) n r⟩
    rcases hl with hl | hl
    · match is, hl, kn, hq with
      | [n, m], _, kn, hq =>
        have hq : H q = some (.lst [.str (S Y_without), .int n, .int m]) := hq
        walk_at "st"
        refine ite_dec (fun h => absurd h (by decide +kernel)) (fun _ => ?_)
        walk_at "st"
        refine ite_dec (fun _ => ?_) (fun h => absurd rfl h)
        walk_at "st"
        refine ite_dec (fun h => absurd h (by simp)) (fun _ => ?_)
        walk_at "st"
        refine met_atR h1 rfl ?_
        walk_at "st"
        exact c_Net_without [n, m] (by simp) bd kn
    · match is, hl, kn, hq with
      | [n, m, l], _, kn, hq =>
        have hq : H q = some (.lst [.str (S Y_without), .int n, .int m, .int l]) := hq
        walk_at "st"
        refine ite_dec (fun h => absurd h (by decide +kernel)) (fun _ => ?_)
        walk_at "st"
        refine ite_dec (fun _ => ?_) (fun h => absurd rfl h)
        walk_at "st"
        refine ite_dec (fun _ => ?_) (fun h => absurd rfl h)
        walk_at "st"
        refine met_atR h1 rfl ?_
        walk_at "st"
        exact c_Net_without [n, m, l] (by simp) bd kn
  | ch n lo hi =>
    have hq : H q = some (.lst [.str (S Y_changed), .int n, .int lo, .int hi]) := hq
    walk_at "st"
    refine ite_dec (fun h => absurd h (by decide +kernel)) (fun _ => ?_)
    walk_at "st"
    refine ite_dec (fun h => absurd h (by decide +kernel)) (fun _ => ?_)
    walk_at "st"
    refine ite_dec (fun _ => ?_) (fun h => absurd rfl h)
    walk_at "st"
    refine wp_methKX ?_
    walk_at "st"
    refine met_atKX h1 rfl ?_
    walk_at "st"
    exact ⟨rfl, rfl, c_Net_changed bd ⟨k.x, fun e H' s b ss' n r => (k.k e H' s).2 b ss' (fun _ h => nomatch h) n r⟩⟩
  | wi r =>
    have hq : H q = some (.lst [.str (S Y_with), sv r.u, sv r.v, .int r.w, .int r.lo, .int r.hi]) := hq
    walk_at "st"
    refine ite_dec (fun h => absurd h (by decide +kernel)) (fun _ => ?_)
    walk_at "st"
    refine ite_dec (fun h => absurd h (by decide +kernel)) (fun _ => ?_)
    walk_at "st"
    refine ite_dec (fun h => absurd h (by decide +kernel)) (fun _ => ?_)
    walk_at "st"
    refine wp_methKX ?_
    walk_at "st"
    refine met_atKX h1 rfl ?_
    walk_at "st"
    exact ⟨rfl, rfl, c_Net_with_span r (ok.wi r rfl) bd ⟨k.x, fun e H' s b ss' n r => (k.k e H' s).2 b ss' (fun _ h => nomatch h) n r⟩⟩
theorem len_l_do (K : PySem.W.Frag) (vs : List V) (H : Hp) (Q : VK) (E : XK) (h : sp_l_do K vs H Q E) : vs.length = 2 := by
  obtain ⟨_, _, _, _, _, _, _, rfl, _⟩ := h
  rfl
theorem c_l_do {K : PySem.W.Frag} {a q : Addr} {T : Int} {ns : List (List Nat)} {ss : List V} {rs : List Row} {c : Cmd} {H : Hp} {Q : VK} {E : XK} (bd : Bld K H a T ns ss rs) (hq : H q = some (.lst (cmdV c))) (ok : CmdOk c) (k : DoK K T ns ss rs c E H Q) : sp_l_do K [.ref a, .ref q] H Q E := ⟨a, q, T, ns, ss, rs, c, rfl, bd, hq, ok, k⟩
def flK : List Str := ["BadNumber", "BrokenSpan", "DoubleEvent", "SameEvent", "TooMany", "UnknownEvent", "UnknownSpan", "WrongNames"]
def flL : Option Er → List V
  | none => []
  | some er => .bl true :: flK.map fun k => .bl (decide (er.c = k))
theorem wp_tryCall {K : PySem.W.Frag} {i : Nat} {sp : Sp} {ta : TA} {l : List (Value × Sui)} {D : Ends} {σ : L2.St} {H : Hp} (h : ta σ H fun vs H1 => sp vs H1 (fun _ H2 => D.nx σ H2) (WE (wAsM K i (fun _ _ _ _ => False) D l) σ)) :
    tTry K i (fun W => tDrop (tCallS sp (WE W) ta)) l D σ H := h
/-- the errors of the commands -/
def Shp7 (er : Er) : Prop := (∃ n, er = eU n) ∨ (∃ n, er = eN n) ∨ (∃ l, Asc l ∧ er = eS "SameEvent" l) ∨ (∃ l, Asc l ∧ er = eS "UnknownEvent" l) ∨ ∃ a b, er = eT a b
theorem s7_num {n : Nat} {i : Int} {er : Er} (h : cNum n i = some er) : Shp7 er := by
  unfold cNum at h
  split at h
  · cases h
  · exact .inl ⟨i, (Option.some.inj h).symm⟩
theorem s7_net {T : Int} {ns : List (List Nat)} {rs : List Row} {er : Er} (ok : OkNs T ns) (ar : ∀ r ∈ rs, AscR r) (h : cNet T ns rs = some er) : Shp7 er := by
  rw [cNet_ns ok] at h
  have rg : ∀ {n lo hi : Int}, cRng n lo hi = some er → Shp7 er := fun h => by
    unfold cRng at h
    split at h
    · cases h
    · exact .inr (.inl ⟨_, (Option.some.inj h).symm⟩)
  have fo : ∀ {α : Type} {f : α → Option Er} {xs : List α}, (∀ x ∈ xs, f x = some er → Shp7 er) → cFold f xs = some er → Shp7 er := fun {α f xs} hf h => by
    induction xs with
    | nil => cases h
    | cons x r ih =>
      rcases Option.or_eq_some_iff.mp h with h | ⟨_, h⟩
      · exact hf x List.mem_cons_self h
      · exact ih (fun y hy => hf y (List.mem_cons_of_mem _ hy)) h
  rcases Option.or_eq_some_iff.mp h with h | ⟨_, h⟩
  · unfold cCnt at h
    split at h
    · cases h
    · exact .inr (.inr (.inr (.inr ⟨_, _, (Option.some.inj h).symm⟩)))
  refine fo (fun r hr hn => ?_) h
  have a := ar r hr
  unfold cSp at hn
  rcases Option.or_eq_some_iff.mp hn with hn | ⟨_, hn⟩
  · refine fo (fun l hl hn => ?_) hn
    have al : Asc l := by
      simp only [List.mem_cons, List.not_mem_nil, or_false] at hl
      rcases hl with rfl | rfl
      · exact a.u
      · exact a.v
    unfold cK1 at hn
    split at hn
    · cases hn
    · exact .inr (.inr (.inr (.inl ⟨l, al, (Option.some.inj hn).symm⟩)))
  rcases Option.or_eq_some_iff.mp hn with hn | ⟨_, hn⟩
  · split at hn
    · exact .inr (.inr (.inl ⟨r.u, a.u, (Option.some.inj hn).symm⟩))
    · cases hn
  rcases Option.or_eq_some_iff.mp hn with hn | ⟨_, hn⟩
  · exact rg hn
  rcases Option.or_eq_some_iff.mp hn with hn | ⟨_, hn⟩
  · exact rg hn
  · exact rg hn
theorem s7_cmd {K : PySem.W.Frag} {H : Hp} {a : Addr} {T : Int} {ns : List (List Nat)} {ss : List V} {rs : List Row} {c : Cmd} {er : Er} (bd : Bld K H a T ns ss rs) (ok : CmdOk c) (h : cmdE T ns rs c = some er) : Shp7 er := by
  have asc := bd.asc
  cases c with
  | sp n => exact s7_num h
  | wo is =>
    have h : cFold (cNum rs.length) is = some er := h
    clear ok
    induction is with
    | nil => cases h
    | cons x r ih =>
      rcases Option.or_eq_some_iff.mp h with h | ⟨_, h⟩
      · exact s7_num h
      · exact ih h h
  | ch n lo hi =>
    have h : cChg T ns rs n lo hi = some er := h
    unfold cChg at h
    rcases Option.or_eq_some_iff.mp h with h | ⟨_, h⟩
    · exact s7_num h
    · cases hr : rs[n.toNat]? with
      | none => rw [hr] at h; cases h
      | some r =>
        rw [hr] at h
        refine s7_net bd.ok (fun q hq => ?_) h
        rcases List.mem_or_eq_of_mem_set hq with z | z
        · exact asc q z
        · rw [z]
          have ar := asc r (List.mem_of_getElem? hr)
          exact ⟨ar.u, ar.v⟩
  | wi r =>
    refine s7_net bd.ok (fun q hq => ?_) h
    rcases List.mem_append.mp hq with z | z
    · exact asc q z
    · rw [List.mem_singleton.mp z]; exact ok.wi r rfl
theorem Shp7.mem {er : Er} (h : Shp7 er) : er.c ∈ exs := by
  rcases h with ⟨n, rfl⟩ | ⟨n, rfl⟩ | ⟨l, _, rfl⟩ | ⟨l, _, rfl⟩ | ⟨a, b, rfl⟩
  · exact (by decide +kernel : ("UnknownSpan" : Str) ∈ exs)
  · exact (by decide +kernel : ("BadNumber" : Str) ∈ exs)
  · exact (by decide +kernel : ("SameEvent" : Str) ∈ exs)
  · exact (by decide +kernel : ("UnknownEvent" : Str) ∈ exs)
  · exact (by decide +kernel : ("TooMany" : Str) ∈ exs)
def sp_l_flags (K : PySem.W.Frag) : Sp := fun vs H Q _ => ∃ (a q : Addr) (T : Int) (ns : List (List Nat)) (ss : List V) (rs : List Row) (c : Cmd), vs = [.ref a, .ref q] ∧ Bld K H a T ns ss rs ∧ H q = some (.lst (cmdV c)) ∧ CmdOk c ∧
  ∀ (p : Addr) H', Same H H' → H p = none → H' p = some (.lst (flL (cmdE T ns rs c))) → Q (.ref p) H'
abbrev N_l_flags : List Str := ["_law_net", "_law_row", "_law_flags_here", "e"]
theorem st_l_flags {a0 a1 : V} : L2.start N_l_flags [a0, a1] = [some a0, some a1, none, none] := rfl
def t_l_flags (K : PySem.W.Frag) : TS :=
  (tSeq ((tAsg ((tLst (tNil))) (gName 2)))
    ((tSeq ((tTry K 3 (fun W => ((tDrop ((tCallS (sp_l_do K) (WE W) ((tCons (tVar 0) ((tCons (tVar 1) (tNil)))))))))) [(.ref (C_MinuteError K), fun a cls d => ((tAsg ((tLst ((tCons ((tCB (rIsX K a cls d) ((tCons (tVar 3) ((tCons (tC (.ty "ValueError")) (tNil))))))) ((tCons ((tCB (rIsX K a cls d) ((tCons (tVar 3) ((tCons (tC (.ref (C_BadNumber K))) (tNil))))))) ((tCons ((tCB (rIsX K a cls d) ((tCons (tVar 3) ((tCons (tC (.ref (C_BrokenSpan K))) (tNil))))))) ((tCons ((tCB (rIsX K a cls d) ((tCons (tVar 3) ((tCons (tC (.ref (C_DoubleEvent K))) (tNil))))))) ((tCons ((tCB (rIsX K a cls d) ((tCons (tVar 3) ((tCons (tC (.ref (C_SameEvent K))) (tNil))))))) ((tCons ((tCB (rIsX K a cls d) ((tCons (tVar 3) ((tCons (tC (.ref (C_TooMany K))) (tNil))))))) ((tCons ((tCB (rIsX K a cls d) ((tCons (tVar 3) ((tCons (tC (.ref (C_UnknownEvent K))) (tNil))))))) ((tCons ((tCB (rIsX K a cls d) ((tCons (tVar 3) ((tCons (tC (.ref (C_UnknownSpan K))) (tNil))))))) ((tCons ((tCB (rIsX K a cls d) ((tCons (tVar 3) ((tCons (tC (.ref (C_WrongNames K))) (tNil))))))) (tNil))))))))))))))))))))) (gName 2))))]))
    ((tRet (tVar 2))))))

theorem pure_l_flags (K : PySem.W.Frag) (XF : XFacts K exs) (vs : List V) (H : Hp) (Q : VK) (E : XK) (h : sp_l_flags K vs H Q E) : t_l_flags K { nx := fun _ H' => Q .non H', rt := Q } (L2.start N_l_flags vs) H := by
  obtain ⟨a0, q, T, ns, ss, rs, c, rfl, bd, hq, ok, k⟩ := h
  rw [st_l_flags]
  unfold t_l_flags
  walk_at "st"
  refine ⟨Nat.zero_le _, fun L hL => ?_⟩
  have s0 := Same.new (o := .lst []) hL
  walk_at "st"
  refine wp_tryCall ?_
  walk_at "st"
  have okn : ∀ H2, Same (upd H L (.lst [])) H2 → cmdE T ns rs c = none → tRet (tVar 2) { nx := fun _ H' => Q .non H', rt := Q } [some (.ref a0), some (.ref q), some (.ref L), none] H2 := fun H2 s2 e0 => by
    walk_at "st"
    refine k L H2 (s0.trans s2) hL ?_
    rw [e0]
    exact s2 _ _ upd_same
  refine c_l_do (bd.mono s0) (s0 _ _ hq) ok ⟨fun er e1 H2 s2 => ?_, fun e0 H2 s2 => ⟨fun _ _ _ _ => okn H2 s2 e0, fun _ _ _ _ _ => okn H2 s2 e0⟩⟩
  intro d H3 s3 hd hx
  have s03 := (s0.trans s2).trans s3
  have sh := s7_cmd bd ok e1
  have i0 := XF.i er.c sh.mem
  refine wAs_yes (XF.b er.c sh.mem) fun a ha => ?_
  rw [show ([some (V.ref a0), some (.ref q), some (.ref L), none] : L2.St).set 3 (some (.ref a)) = [some (V.ref a0), some (.ref q), some (.ref L), some (.ref a)] from rfl]
  walk_at "st"
  refine wp_isX hx i0 (fun u hu => hu) (XF.v er.c sh.mem) ?_
  walk_at "st"
  refine wp_isX hx i0 (fun u hu => hu) (XF.k er.c sh.mem "BadNumber" (by decide +kernel)) ?_
  walk_at "st"
  refine wp_isX hx i0 (fun u hu => hu) (XF.k er.c sh.mem "BrokenSpan" (by decide +kernel)) ?_
  walk_at "st"
  refine wp_isX hx i0 (fun u hu => hu) (XF.k er.c sh.mem "DoubleEvent" (by decide +kernel)) ?_
  walk_at "st"
  refine wp_isX hx i0 (fun u hu => hu) (XF.k er.c sh.mem "SameEvent" (by decide +kernel)) ?_
  walk_at "st"
  refine wp_isX hx i0 (fun u hu => hu) (XF.k er.c sh.mem "TooMany" (by decide +kernel)) ?_
  walk_at "st"
  refine wp_isX hx i0 (fun u hu => hu) (XF.k er.c sh.mem "UnknownEvent" (by decide +kernel)) ?_
  walk_at "st"
  refine wp_isX hx i0 (fun u hu => hu) (XF.k er.c sh.mem "UnknownSpan" (by decide +kernel)) ?_
  walk_at "st"
  refine wp_isX hx i0 (fun u hu => hu) (XF.k er.c sh.mem "WrongNames" (by decide +kernel)) ?_
  walk_at "st"
  refine ⟨by simp [sizeLine_eq], fun b hb => ?_⟩
  walk_at "st"
  show tRet (tVar 2) { nx := fun _ H' => Q .non H', rt := Q } [some (.ref a0), some (.ref q), some (.ref b), none] _
  walk_at "st"
  have z := k b (upd H3 b (.lst (flL (some er)))) (s03.trans (Same.new hb)) (s03.free hb) (by rw [e1]; exact upd_same)
  exact z
theorem len_l_flags (K : PySem.W.Frag) (vs : List V) (H : Hp) (Q : VK) (E : XK) (h : sp_l_flags K vs H Q E) : vs.length = 2 := by
  obtain ⟨_, _, _, _, _, _, _, rfl, _⟩ := h
  rfl
theorem c_l_flags {K : PySem.W.Frag} {a q : Addr} {T : Int} {ns : List (List Nat)} {ss : List V} {rs : List Row} {c : Cmd} {H : Hp} {Q : VK} {E : XK} (bd : Bld K H a T ns ss rs) (hq : H q = some (.lst (cmdV c))) (ok : CmdOk c) (k : ∀ (p : Addr) H', Same H H' → H p = none → H' p = some (.lst (flL (cmdE T ns rs c))) → Q (.ref p) H') : sp_l_flags K [.ref a, .ref q] H Q E := ⟨a, q, T, ns, ss, rs, c, rfl, bd, hq, ok, k⟩
def toL : Option Er → List V
  | none => []
  | some er => (er.fs.map (·.2)).reverse
def sp_l_told (K : PySem.W.Frag) : Sp := fun vs H Q _ => ∃ (a q : Addr) (T : Int) (ns : List (List Nat)) (ss : List V) (rs : List Row) (c : Cmd), vs = [.ref a, .ref q] ∧ Bld K H a T ns ss rs ∧ H q = some (.lst (cmdV c)) ∧ CmdOk c ∧
  ∀ (p : Addr) H', Same H H' → H p = none → H' p = some (.lst (toL (cmdE T ns rs c))) → Q (.ref p) H'
abbrev N_l_told : List Str := ["_law_net", "_law_row", "_law_told_here", "e"]
theorem st_l_told {a0 a1 : V} : L2.start N_l_told [a0, a1] = [some a0, some a1, none, none] := rfl
def t_l_told (K : PySem.W.Frag) : TS :=
  (tSeq ((tAsg ((tLst (tNil))) (gName 2)))
    ((tSeq ((tTry K 3 (fun W => ((tDrop ((tCallS (sp_l_do K) (WE W) ((tCons (tVar 0) ((tCons (tVar 1) (tNil)))))))))) [(.ref (C_BadNumber K), fun a cls d => ((tAsg ((tLst ((tCons ((tXf a cls d (C_BadNumber K) "number" (tVar 3))) (tNil))))) (gName 2)))), (.ref (C_SameEvent K), fun a cls d => ((tAsg ((tLst ((tCons ((tXf a cls d (C_SameEvent K) "name" (tVar 3))) (tNil))))) (gName 2)))), (.ref (C_TooMany K), fun a cls d => ((tAsg ((tLst ((tCons ((tXf a cls d (C_TooMany K) "count" (tVar 3))) ((tCons ((tXf a cls d (C_TooMany K) "limit" (tVar 3))) (tNil))))))) (gName 2)))), (.ref (C_UnknownEvent K), fun a cls d => ((tAsg ((tLst ((tCons ((tXf a cls d (C_UnknownEvent K) "name" (tVar 3))) (tNil))))) (gName 2)))), (.ref (C_UnknownSpan K), fun a cls d => ((tAsg ((tLst ((tCons ((tXf a cls d (C_UnknownSpan K) "number" (tVar 3))) (tNil))))) (gName 2))))]))
    ((tRet (tVar 2))))))

theorem pure_l_told (K : PySem.W.Frag) (XF : XFacts K exs) (vs : List V) (H : Hp) (Q : VK) (E : XK) (h : sp_l_told K vs H Q E) : t_l_told K { nx := fun _ H' => Q .non H', rt := Q } (L2.start N_l_told vs) H := by
  obtain ⟨a0, q, T, ns, ss, rs, c, rfl, bd, hq, ok, k⟩ := h
  rw [st_l_told]
  unfold t_l_told
  walk_at "st"
  refine ⟨Nat.zero_le _, fun L hL => ?_⟩
  have s0 := Same.new (o := .lst []) hL
  walk_at "st"
  refine wp_tryCall ?_
  walk_at "st"
  have okn : ∀ H2, Same (upd H L (.lst [])) H2 → cmdE T ns rs c = none → tRet (tVar 2) { nx := fun _ H' => Q .non H', rt := Q } [some (.ref a0), some (.ref q), some (.ref L), none] H2 := fun H2 s2 e0 => by
    walk_at "st"
    refine k L H2 (s0.trans s2) hL ?_
    rw [e0]
    exact s2 _ _ upd_same
  refine c_l_do (bd.mono s0) (s0 _ _ hq) ok ⟨fun er e1 H2 s2 => ?_, fun e0 H2 s2 => ⟨fun _ _ _ _ => okn H2 s2 e0, fun _ _ _ _ _ => okn H2 s2 e0⟩⟩
  intro d H3 s3 hd hx
  have s03 := (s0.trans s2).trans s3
  have sh := s7_cmd bd ok e1
  have fin : ∀ q, H3 q = none → Q (.ref q) (upd H3 q (.lst (toL (some er)))) := fun q hq => k q _ (s03.trans (Same.new hq)) (s03.free hq) (by rw [e1]; exact upd_same)
  rcases sh with ⟨n, rfl⟩ | ⟨n, rfl⟩ | ⟨l, _, rfl⟩ | ⟨l, _, rfl⟩ | ⟨n, m, rfl⟩
  · refine wAs_no ((XF.m "UnknownSpan" (by decide +kernel) "BadNumber" (by decide +kernel)).trans (congrArg some (by decide +kernel))) ?_
    refine wAs_no ((XF.m "UnknownSpan" (by decide +kernel) "SameEvent" (by decide +kernel)).trans (congrArg some (by decide +kernel))) ?_
    refine wAs_no ((XF.m "UnknownSpan" (by decide +kernel) "TooMany" (by decide +kernel)).trans (congrArg some (by decide +kernel))) ?_
    refine wAs_no ((XF.m "UnknownSpan" (by decide +kernel) "UnknownEvent" (by decide +kernel)).trans (congrArg some (by decide +kernel))) ?_
    refine wAs_yes ((XF.m "UnknownSpan" (by decide +kernel) "UnknownSpan" (by decide +kernel)).trans (congrArg some (by decide +kernel))) fun a ha => ?_
    rw [show ([some (V.ref a0), some (.ref q), some (.ref L), none] : L2.St).set 3 (some (.ref a)) = [some (V.ref a0), some (.ref q), some (.ref L), some (.ref a)] from rfl]
    walk_at "st"
    refine wp_xfV rfl hx (by rfl) ?_
    walk_at "st"
    refine ⟨by simp [sizeLine_eq], fun b hb => ?_⟩
    walk_at "st"
    show tRet (tVar 2) { nx := fun _ H' => Q .non H', rt := Q } [some (.ref a0), some (.ref q), some (.ref b), none] _
    walk_at "st"
    exact fin b hb
  · refine wAs_yes ((XF.m "BadNumber" (by decide +kernel) "BadNumber" (by decide +kernel)).trans (congrArg some (by decide +kernel))) fun a ha => ?_
    rw [show ([some (V.ref a0), some (.ref q), some (.ref L), none] : L2.St).set 3 (some (.ref a)) = [some (V.ref a0), some (.ref q), some (.ref L), some (.ref a)] from rfl]
    walk_at "st"
    refine wp_xfV rfl hx (by rfl) ?_
    walk_at "st"
    refine ⟨by simp [sizeLine_eq], fun b hb => ?_⟩
    walk_at "st"
    show tRet (tVar 2) { nx := fun _ H' => Q .non H', rt := Q } [some (.ref a0), some (.ref q), some (.ref b), none] _
    walk_at "st"
    exact fin b hb
  · refine wAs_no ((XF.m "SameEvent" (by decide +kernel) "BadNumber" (by decide +kernel)).trans (congrArg some (by decide +kernel))) ?_
    refine wAs_yes ((XF.m "SameEvent" (by decide +kernel) "SameEvent" (by decide +kernel)).trans (congrArg some (by decide +kernel))) fun a ha => ?_
    rw [show ([some (V.ref a0), some (.ref q), some (.ref L), none] : L2.St).set 3 (some (.ref a)) = [some (V.ref a0), some (.ref q), some (.ref L), some (.ref a)] from rfl]
    walk_at "st"
    refine wp_xfV rfl hx (by rfl) ?_
    walk_at "st"
    refine ⟨by simp [sizeLine_eq], fun b hb => ?_⟩
    walk_at "st"
    show tRet (tVar 2) { nx := fun _ H' => Q .non H', rt := Q } [some (.ref a0), some (.ref q), some (.ref b), none] _
    walk_at "st"
    exact fin b hb
  · refine wAs_no ((XF.m "UnknownEvent" (by decide +kernel) "BadNumber" (by decide +kernel)).trans (congrArg some (by decide +kernel))) ?_
    refine wAs_no ((XF.m "UnknownEvent" (by decide +kernel) "SameEvent" (by decide +kernel)).trans (congrArg some (by decide +kernel))) ?_
    refine wAs_no ((XF.m "UnknownEvent" (by decide +kernel) "TooMany" (by decide +kernel)).trans (congrArg some (by decide +kernel))) ?_
    refine wAs_yes ((XF.m "UnknownEvent" (by decide +kernel) "UnknownEvent" (by decide +kernel)).trans (congrArg some (by decide +kernel))) fun a ha => ?_
    rw [show ([some (V.ref a0), some (.ref q), some (.ref L), none] : L2.St).set 3 (some (.ref a)) = [some (V.ref a0), some (.ref q), some (.ref L), some (.ref a)] from rfl]
    walk_at "st"
    refine wp_xfV rfl hx (by rfl) ?_
    walk_at "st"
    refine ⟨by simp [sizeLine_eq], fun b hb => ?_⟩
    walk_at "st"
    show tRet (tVar 2) { nx := fun _ H' => Q .non H', rt := Q } [some (.ref a0), some (.ref q), some (.ref b), none] _
    walk_at "st"
    exact fin b hb
  · refine wAs_no ((XF.m "TooMany" (by decide +kernel) "BadNumber" (by decide +kernel)).trans (congrArg some (by decide +kernel))) ?_
    refine wAs_no ((XF.m "TooMany" (by decide +kernel) "SameEvent" (by decide +kernel)).trans (congrArg some (by decide +kernel))) ?_
    refine wAs_yes ((XF.m "TooMany" (by decide +kernel) "TooMany" (by decide +kernel)).trans (congrArg some (by decide +kernel))) fun a ha => ?_
    rw [show ([some (V.ref a0), some (.ref q), some (.ref L), none] : L2.St).set 3 (some (.ref a)) = [some (V.ref a0), some (.ref q), some (.ref L), some (.ref a)] from rfl]
    walk_at "st"
    refine wp_xfV rfl hx (by rfl) ?_
    walk_at "st"
    refine wp_xfV rfl hx (by rfl) ?_
    walk_at "st"
    refine ⟨by simp [sizeLine_eq], fun b hb => ?_⟩
    walk_at "st"
    show tRet (tVar 2) { nx := fun _ H' => Q .non H', rt := Q } [some (.ref a0), some (.ref q), some (.ref b), none] _
    walk_at "st"
    exact fin b hb
theorem len_l_told (K : PySem.W.Frag) (vs : List V) (H : Hp) (Q : VK) (E : XK) (h : sp_l_told K vs H Q E) : vs.length = 2 := by
  obtain ⟨_, _, _, _, _, _, _, rfl, _⟩ := h
  rfl
theorem c_l_told {K : PySem.W.Frag} {a q : Addr} {T : Int} {ns : List (List Nat)} {ss : List V} {rs : List Row} {c : Cmd} {H : Hp} {Q : VK} {E : XK} (bd : Bld K H a T ns ss rs) (hq : H q = some (.lst (cmdV c))) (ok : CmdOk c) (k : ∀ (p : Addr) H', Same H H' → H p = none → H' p = some (.lst (toL (cmdE T ns rs c))) → Q (.ref p) H') : sp_l_told K [.ref a, .ref q] H Q E := ⟨a, q, T, ns, ss, rs, c, rfl, bd, hq, ok, k⟩
theorem Rws.set' {H : Hp} {x : V} {r : Row} {ss : List V} {rs : List Row} {i : Nat} (h : Rws H ss rs) (hx : IsRow H x r) (hi : i < rs.length) : Rws H (ss.take i ++ [x] ++ ss.drop (i + 1)) (rs.set i r) := by
  rw [List.set_eq_take_append_cons_drop, if_pos hi]
  have z := ((h.take i).app (.cons hx .nil)).app (h.drop (i + 1))
  rw [List.append_assoc (rs.take i)] at z
  exact z
def sp_l_outcome (K : PySem.W.Frag) : Sp := fun vs H Q _ => ∃ (b q : Addr) (T : Int) (ns : List (List Nat)) (ss : List V) (rs : List Row) (c : Cmd), vs = [.ref b, .ref q] ∧ H b = some (.lst ss) ∧ Rws H ss rs ∧ rs.length ≤ 24 ∧ H q = some (.lst (cmdV c)) ∧ (∀ n, c ≠ .sp n) ∧ CmdOk c ∧ cmdE T ns rs c = none ∧
  ∀ (p : Addr) (ts : List V) H', Same H H' → H' p = some (.lst ts) → Rws H' ts (cmdR rs c) → Q (.ref p) H'
abbrev N_l_outcome : List Str := ["_law_spans_here", "_law_row", "_law_span_here", "_law_other", "_law_k"]
theorem st_l_outcome {a0 a1 : V} : L2.start N_l_outcome [a0, a1] = [some a0, some a1, none, none, none] := rfl
def t_l_outcome (K : PySem.W.Frag) : TS :=
  (tSeq ((tIfS ((tTest (tOp rEq ((tOp (rIxL K) (tVar 1) (tC (.int 0)))) (tC (.str (S Y_without)))))) ((tRet ((tLc ((iRng1 ((tCons ((tCB (rLenS K) ((tCons (tVar 0) (tNil))))) (tNil))))) ((gName 4)) ((tTest (tOp (rIn K true) (tVar 4) ((tSl (rSlL K) (tVar 1) (tPart (tC (.int 1))) tNoPart))))) ((tOp (rIxL K) (tVar 0) (tVar 4))) [4])))) (tNext)))
    ((tSeq ((tIfS ((tTest (tOp rEq ((tOp (rIxL K) (tVar 1) (tC (.int 0)))) (tC (.str (S Y_changed)))))) ((tSeq ((tAsg ((tOp (rIxL K) (tVar 0) ((tOp (rIxL K) (tVar 1) (tC (.int 1)))))) (gName 2)))
    ((tSeq ((tAsg ((tTup ((tCons ((tOp (rIxT K) (tVar 2) (tC (.int 0)))) ((tCons ((tOp (rIxT K) (tVar 2) (tC (.int 1)))) ((tCons ((tOp (rIxL K) (tVar 1) (tC (.int 2)))) ((tCons ((tOp (rIxL K) (tVar 1) (tC (.int 3)))) ((tCons ((tOp (rIxT K) (tVar 2) (tC (.int 4)))) (tNil))))))))))))) (gName 3)))
    ((tRet ((tOp rCat ((tOp rCat ((tSl (rSlL K) (tVar 0) tNoPart (tPart ((tOp (rIxL K) (tVar 1) (tC (.int 1))))))) ((tLst ((tCons (tVar 3) (tNil))))))) ((tSl (rSlL K) (tVar 0) (tPart ((tOp (rI0 fun i j => .int (i + j)) ((tOp (rIxL K) (tVar 1) (tC (.int 1)))) (tC (.int 1))))) tNoPart)))))))))) (tNext)))
    ((tRet ((tOp rCat (tVar 0) ((tLst ((tCons ((tTup ((tCons ((tOp (rIxL K) (tVar 1) (tC (.int 1)))) ((tCons ((tOp (rIxL K) (tVar 1) (tC (.int 2)))) ((tCons ((tOp (rIxL K) (tVar 1) (tC (.int 4)))) ((tCons ((tOp (rIxL K) (tVar 1) (tC (.int 5)))) ((tCons ((tOp (rIxL K) (tVar 1) (tC (.int 3)))) (tNil))))))))))))) (tNil))))))))))))

theorem pure_l_outcome (K : PySem.W.Frag) (vs : List V) (H : Hp) (Q : VK) (E : XK) (h : sp_l_outcome K vs H Q E) : t_l_outcome K { nx := fun _ H' => Q .non H', rt := Q } (L2.start N_l_outcome vs) H := by
  obtain ⟨b, q, T, ns, ss, rs, c, rfl, hb, hr, hl, hq, hns, ok, e0, k⟩ := h
  have er := hr.len
  rw [st_l_outcome]
  unfold t_l_outcome
  cases c with
  | sp n => exact absurd rfl (hns n)
  | wo is =>
    have hq : H q = some (.lst (.str (S Y_without) :: is.map V.int)) := hq
    walk_at "st"
    refine ite_dec (fun _ => ?_) (fun h => absurd rfl h)
    walk_at "st"
    refine lcGR (by omega) (keepG is ss) rfl keepG_len (fun i H2 R R0 hi s1 k1 k0 => ?_) (fun D H2 hD s1 hD2 => ?_)
    · rw [show wipe [some (V.ref b), some (.ref q), none, none, none] [4] = [some (V.ref b), some (.ref q), none, none, none] from rfl]
      have hq2 := s1 _ _ hq
      walk_at "st"
      refine ⟨rfl, ?_⟩
      walk_at "st"
      refine wp_sliceL (sq_of hq2) fun d hd => ?_
      rw [cutG_from1 (by omega) (by rw [List.length_cons]; omega)]
      have e1 : (V.str (S Y_without) :: is.map V.int).drop (1 : Int).toNat = is.map V.int := rfl
      rw [e1]
      have sd := Same.new (o := .lst (is.map V.int)) hd
      walk_at "st"
      refine wp_notInI (.inl (sq_of upd_same)) ?_
      walk_at "st"
      refine ite_ndec (fun h => ?_) (fun h => ?_)
      · walk_at "st"
        refine wp_ixLM (sq_of ((s1.trans sd) _ _ hb)) (by omega) (by omega) fun x _ hx => ?_
        refine k1 _ _ sd ?_
        show (if (i : Int) ∈ is then _ else _) = _
        rw [if_neg h]
        have e : ((i : Nat) : Int).toNat = i := by omega
        rw [e] at hx
        rw [hx]
        rfl
      · refine k0 _ sd ?_
        show (if (i : Int) ∈ is then _ else _) = _
        rw [if_pos h]
    · have rk := (hr.mono s1).keep is ss.length
      rw [er] at rk hD2
      exact k D _ H2 s1 hD2 rk
  | ch n lo hi =>
    have hq : H q = some (.lst [.str (S Y_changed), .int n, .int lo, .int hi]) := hq
    have e0 : cChg T ns rs n lo hi = none := e0
    have en : cNum rs.length n = none := by
      unfold cChg at e0
      cases h : cNum rs.length n with
      | none => rfl
      | some x => rw [h] at e0; cases e0
    obtain ⟨n0, n1⟩ := cNum_none en
    walk_at "st"
    refine ite_dec (fun h => absurd h (by decide +kernel)) (fun _ => ?_)
    walk_at "st"
    refine ite_dec (fun _ => ?_) (fun h => absurd rfl h)
    walk_at "st"
    refine wp_ixLM (sq_of hb) n0 (by omega) fun x _ hx => ?_
    obtain ⟨r, hr1, p0, rfl, hp⟩ := hr.at hx
    have hp : H p0 = some (.tup [sv r.u, sv r.v, .int r.lo, .int r.hi, .int r.w]) := hp
    walk_at "st"
    refine ⟨by simp [sizeLine_eq], fun t ht => ?_⟩
    have e1 : HO.tup [sv r.u, sv r.v, .int lo, .int hi, .int r.w] = .tup (rowV (chR r lo hi)) := rfl
    rw [e1]
    have s1 := Same.new (o := .tup (rowV (chR r lo hi))) ht
    have hq1 := s1 _ _ hq
    walk_at "st"
    refine wp_sliceL (sq_of (s1 _ _ hb)) fun d1 w1 => ?_
    rw [cutG_to1 n0 (by omega)]
    have s2 := Same.new (o := .lst (ss.take n.toNat)) w1
    have hq2 := s2 _ _ hq1
    walk_at "st"
    refine ⟨by simp [sizeLine_eq], fun d2 w2 => ?_⟩
    have s3 := Same.new (o := .lst [.ref t]) w2
    walk_at "st"
    refine wp_cat (s3 _ _ upd_same) upd_same (by rw [List.length_take]; simp; omega) fun d3 w3 => ?_
    have s4 := Same.new (o := .lst (ss.take n.toNat ++ [.ref t])) w3
    have hq4 := s4 _ _ (s3 _ _ hq2)
    have s14 := ((s1.trans s2).trans s3).trans s4
    walk_at "st"
    refine wp_sliceL (sq_of (s14 _ _ hb)) fun d4 w4 => ?_
    rw [cutG_from1 (by omega) (by omega), show (n + 1).toNat = n.toNat + 1 by omega]
    have s5 := Same.new (o := .lst (ss.drop (n.toNat + 1))) w4
    walk_at "st"
    refine wp_cat (s5 _ _ upd_same) upd_same (by rw [List.length_append, List.length_take, List.length_drop]; simp; omega) fun d5 w5 => ?_
    have s6 := Same.new (o := .lst (ss.take n.toNat ++ [.ref t] ++ ss.drop (n.toNat + 1))) w5
    have s16 := (s14.trans s5).trans s6
    have s26 := (((s2.trans s3).trans s4).trans s5).trans s6
    refine k d5 _ _ s16 upd_same ?_
    show Rws _ _ (chRs rs n lo hi)
    unfold chRs
    rw [hr1]
    exact (hr.mono s16).set' ⟨t, rfl, s26 _ _ upd_same⟩ (by omega)
  | wi r =>
    have hq : H q = some (.lst [.str (S Y_with), sv r.u, sv r.v, .int r.w, .int r.lo, .int r.hi]) := hq
    walk_at "st"
    refine ite_dec (fun h => absurd h (by decide +kernel)) (fun _ => ?_)
    walk_at "st"
    refine ite_dec (fun h => absurd h (by decide +kernel)) (fun _ => ?_)
    walk_at "st"
    refine ⟨by simp [sizeLine_eq], fun t ht => ?_⟩
    have e1 : HO.tup [sv r.u, sv r.v, .int r.lo, .int r.hi, .int r.w] = .tup (rowV r) := rfl
    rw [e1]
    have s1 := Same.new (o := .tup (rowV r)) ht
    walk_at "st"
    refine ⟨by simp [sizeLine_eq], fun d2 w2 => ?_⟩
    have s2 := Same.new (o := .lst [.ref t]) w2
    walk_at "st"
    refine wp_cat ((s1.trans s2) _ _ hb) upd_same (by simp; omega) fun d3 w3 => ?_
    have s3 := Same.new (o := .lst (ss ++ [.ref t])) w3
    have s13 := (s1.trans s2).trans s3
    exact k d3 _ _ s13 upd_same ((hr.mono s13).app (.cons ⟨t, rfl, (s2.trans s3) _ _ upd_same⟩ .nil))
theorem len_l_outcome (K : PySem.W.Frag) (vs : List V) (H : Hp) (Q : VK) (E : XK) (h : sp_l_outcome K vs H Q E) : vs.length = 2 := by
  obtain ⟨_, _, _, _, _, _, _, rfl, _⟩ := h
  rfl
theorem c_l_outcome {K : PySem.W.Frag} {b q : Addr} {T : Int} {ns : List (List Nat)} {ss : List V} {rs : List Row} {c : Cmd} {H : Hp} {Q : VK} {E : XK} (hb : H b = some (.lst ss)) (hr : Rws H ss rs) (hl : rs.length ≤ 24) (hq : H q = some (.lst (cmdV c))) (hns : ∀ n, c ≠ .sp n) (ok : CmdOk c) (e0 : cmdE T ns rs c = none)
    (k : ∀ (p : Addr) (ts : List V) H', Same H H' → H' p = some (.lst ts) → Rws H' ts (cmdR rs c) → Q (.ref p) H') : sp_l_outcome K [.ref b, .ref q] H Q E := ⟨b, q, T, ns, ss, rs, c, rfl, hb, hr, hl, hq, hns, ok, e0, k⟩
def bD (bs : List Bool) : List PyData := bs.map .bool
section
variable {K : PySem.W.Frag} {H : Hp} {Q : VK} {a b : Addr}
theorem dp_bools : ∀ bs : List Bool, DpAll K H (bs.map V.bl) (bD bs)
  | [] => .nil
  | b :: bs => .cons (.bl b) (dp_bools bs)
theorem sh_bools : ∀ bs : List Bool, PyData.canLayAll0 (bD bs) = true ∧ PyData.depthAll (bD bs) = 0
  | [] => ⟨rfl, rfl⟩
  | b :: bs => by
    obtain ⟨h1, h2⟩ := sh_bools bs
    refine ⟨?_, ?_⟩
    · show (true && PyData.canLayAll0 (bD bs)) = true
      rw [h1]; rfl
    · show max 0 (PyData.depthAll (bD bs)) = 0
      rw [h2]; rfl
theorem eqv_bools : ∀ bs : List Bool, PyData.eqvAll (bD bs) (bD bs) = true
  | [] => rfl
  | b :: bs => by
    show (PyData.eqv (.bool b) (.bool b) && PyData.eqvAll (bD bs) (bD bs)) = true
    rw [eqv_bools bs]
    cases b <;> rfl
theorem wp_neBs {bs : List Bool} (h1 : H a = some (.lst (bs.map V.bl))) (h2 : H b = some (.lst (bs.map V.bl))) (q : Q (.bl false) H) : rNeD K (.ref a) (.ref b) H Q := by
  have sh : SeqAt.shaped (.list (bD bs)) = true := by
    obtain ⟨z1, z2⟩ := sh_bools bs
    show (PyData.canLayAll0 (bD bs) && decide (PyData.depthAll (bD bs) + 1 ≤ 64)) = true
    rw [z1, z2]; rfl
  refine ⟨.list (bD bs), .list (bD bs), .lst (sq_of h1) (dp_bools _), .lst (sq_of h2) (dp_bools _), sh, sh, ?_⟩
  show Q (.bl (!PyData.eqvAll (bD bs) (bD bs))) H
  rw [eqv_bools]
  exact q
theorem wp_eqNil {xs : List V} {ds : List PyData} (h1 : H a = some (.lst xs)) (h2 : H b = some (.lst [])) (hd : DpAll K H xs ds) (sh : SeqAt.shaped (.list ds) = true) (q : Q (.bl (decide (ds = []))) H) : rEqD K (.ref a) (.ref b) H Q := by
  refine ⟨.list ds, .list [], .lst (sq_of h1) hd, .lst (sq_of h2) .nil, sh, rfl, ?_⟩
  show Q (.bl (PyData.eqvAll ds [])) H
  cases ds with
  | nil => exact q
  | cons d r => exact q
theorem wp_neNil {xs : List V} {ds : List PyData} (h1 : H a = some (.lst xs)) (h2 : H b = some (.lst [])) (hd : DpAll K H xs ds) (sh : SeqAt.shaped (.list ds) = true) (q : Q (.bl (!decide (ds = []))) H) : rNeD K (.ref a) (.ref b) H Q := by
  refine ⟨.list ds, .list [], .lst (sq_of h1) hd, .lst (sq_of h2) .nil, sh, rfl, ?_⟩
  show Q (.bl (!PyData.eqvAll ds [])) H
  cases ds with
  | nil => exact q
  | cons d r => exact q
theorem Shp7.dp {er : Er} (h : Shp7 er) : ∃ d ds, DpAll K H (duL (some er)) (d :: ds) ∧ SeqAt.shaped (.list (d :: ds)) = true := by
  rcases h with ⟨n, rfl⟩ | ⟨n, rfl⟩ | ⟨l, al, rfl⟩ | ⟨l, al, rfl⟩ | ⟨n, m, rfl⟩
  · have z : PyData.strOk ("UnknownSpan" : Str) = true := by decide +kernel
    refine ⟨_, _, .cons (.str _) (.cons (.int _) .nil), ?_⟩
    show ((PyData.strOk ("UnknownSpan" : Str) && (true && true)) && decide (max 0 (max 0 0) + 1 ≤ 64)) = true
    rw [z]; rfl
  · have z : PyData.strOk ("BadNumber" : Str) = true := by decide +kernel
    refine ⟨_, _, .cons (.str _) (.cons (.int _) .nil), ?_⟩
    show ((PyData.strOk ("BadNumber" : Str) && (true && true)) && decide (max 0 (max 0 0) + 1 ≤ 64)) = true
    rw [z]; rfl
  · have z : PyData.strOk ("SameEvent" : Str) = true := by decide +kernel
    refine ⟨_, _, .cons (.str _) (.cons (.str _) .nil), ?_⟩
    show ((PyData.strOk ("SameEvent" : Str) && (PyData.strOk (S l) && true)) && decide (max 0 (max 0 0) + 1 ≤ 64)) = true
    rw [z, asc_ok al]; rfl
  · have z : PyData.strOk ("UnknownEvent" : Str) = true := by decide +kernel
    refine ⟨_, _, .cons (.str _) (.cons (.str _) .nil), ?_⟩
    show ((PyData.strOk ("UnknownEvent" : Str) && (PyData.strOk (S l) && true)) && decide (max 0 (max 0 0) + 1 ≤ 64)) = true
    rw [z, asc_ok al]; rfl
  · have z : PyData.strOk ("TooMany" : Str) = true := by decide +kernel
    refine ⟨_, _, .cons (.str _) (.cons (.int _) (.cons (.int _) .nil)), ?_⟩
    show ((PyData.strOk ("TooMany" : Str) && (true && (true && true))) && decide (max 0 (max 0 (max 0 0)) + 1 ≤ 64)) = true
    rw [z]; rfl
theorem Shp7.sm {er : Er} (h : Shp7 er) {n : Nat} : ∀ x ∈ toL (some er), Sm H (n + 1) x x := by
  rcases h with ⟨n, rfl⟩ | ⟨n, rfl⟩ | ⟨l, al, rfl⟩ | ⟨l, al, rfl⟩ | ⟨n, m, rfl⟩ <;> intro x hx
  · rw [List.mem_singleton.mp hx]; exact sm_int
  · rw [List.mem_singleton.mp hx]; exact sm_int
  · rw [List.mem_singleton.mp hx]; exact sm_str
  · rw [List.mem_singleton.mp hx]; exact sm_str
  · have hx2 : x ∈ [V.int n, V.int m] := hx
    simp only [List.mem_cons, List.not_mem_nil, or_false] at hx2
    rcases hx2 with rfl | rfl
    · exact sm_int
    · exact sm_int
theorem toL_len {er : Er} (h : Shp7 er) : (toL (some er)).length ≤ 2 := by
  rcases h with ⟨n, rfl⟩ | ⟨n, rfl⟩ | ⟨l, al, rfl⟩ | ⟨l, al, rfl⟩ | ⟨n, m, rfl⟩ <;> simp [toL, eN, eS, eT, eU]
end
theorem kinds_eq : ([.str (S Y_BadNumber), .str (S Y_BrokenSpan), .str (S Y_DoubleEvent), .str (S Y_SameEvent), .str (S Y_TooMany), .str (S Y_UnknownEvent), .str (S Y_UnknownSpan)] ++ [.str (S Y_WrongNames)] : List V) = flK.map V.str := by
  have e0 : S Y_BadNumber = ("BadNumber" : Str) := by decide +kernel
  have e1 : S Y_BrokenSpan = ("BrokenSpan" : Str) := by decide +kernel
  have e2 : S Y_DoubleEvent = ("DoubleEvent" : Str) := by decide +kernel
  have e3 : S Y_SameEvent = ("SameEvent" : Str) := by decide +kernel
  have e4 : S Y_TooMany = ("TooMany" : Str) := by decide +kernel
  have e5 : S Y_UnknownEvent = ("UnknownEvent" : Str) := by decide +kernel
  have e6 : S Y_UnknownSpan = ("UnknownSpan" : Str) := by decide +kernel
  have e7 : S Y_WrongNames = ("WrongNames" : Str) := by decide +kernel
  rw [e0, e1, e2, e3, e4, e5, e6, e7]
  rfl
def eqf (c : Str) : V → V
  | .str z => .bl (decide (z = c))
  | _ => .non
theorem eqf_map {c : Str} {ks : List Str} : (ks.map V.str).map (eqf c) = (ks.map fun k => decide (c = k)).map V.bl := by
  rw [List.map_map, List.map_map]
  refine List.map_congr_left fun k _ => ?_
  show V.bl (decide (k = c)) = V.bl (decide (c = k))
  rw [decide_eq_decide.mpr (eq_comm (a := k) (b := c))]
theorem flL_map {er : Er} : flL (some er) = (true :: flK.map fun k => decide (er.c = k)).map V.bl := by
  show V.bl true :: _ = V.bl true :: List.map V.bl _
  rw [List.map_map]
  rfl
theorem bk_num {m : Nat} {n : Int} : (if (decide (n < 0) || decide ((m : Int) ≤ n)) = true then some (eU n) else none) = cNum m n := by
  unfold cNum
  by_cases h : 0 ≤ n ∧ n < m
  · rw [if_pos h, decide_eq_false (by omega), decide_eq_false (by omega)]
    rfl
  · rw [if_neg h, if_pos (by rw [Bool.or_eq_true, decide_eq_true_eq, decide_eq_true_eq]; omega)]
theorem fst_wo {m : Nat} : ∀ {is : List Int}, fstE (is.map (numT m)) = cFold (cNum m) is
  | [] => rfl
  | n :: r => by
    show Option.or (if (decide (n < 0) || decide ((m : Int) ≤ n)) = true then some (eU n) else none) (fstE (r.map (numT m))) = (cNum m n).or (cFold (cNum m) r)
    rw [bk_num, fst_wo]
theorem cFold_app {α : Type} {f : α → Option Er} : ∀ {a b : List α}, cFold f (a ++ b) = (cFold f a).or (cFold f b)
  | [], b => by show cFold f b = Option.or none _; rw [Option.none_or]
  | x :: r, b => by
    show (f x).or (cFold f (r ++ b)) = ((f x).or (cFold f r)).or (cFold f b)
    rw [cFold_app, Option.or_assoc]
theorem cFold_set {α : Type} {f : α → Option Er} {xs : List α} {i : Nat} {y : α} (h : ∀ x ∈ xs, f x = none) (hi : i < xs.length) : cFold f (xs.set i y) = f y := by
  rw [List.set_eq_take_append_cons_drop, if_pos hi, cFold_app, cFold_ok fun x hx => h x (List.mem_of_mem_take hx), Option.none_or]
  show (f y).or (cFold f (xs.drop (i + 1))) = f y
  rw [cFold_ok fun x hx => h x (List.mem_of_mem_drop hx), Option.or_none]
theorem fst_cmd {K : PySem.W.Frag} {H : Hp} {a : Addr} {T : Int} {ns : List (List Nat)} {ss : List V} {rs : List Row} {c : Cmd} (bd : Bld K H a T ns ss rs) : fstE (cmdT T ns rs.length c) = cmdE T ns rs c := by
  have fl := bd.f
  have good : ∀ r ∈ rs, cSp T ns r = none := fun r hr => cSp_ok (bd.o r hr)
  cases c with
  | sp n =>
    show Option.or (if (decide (n < 0) || decide ((rs.length : Int) ≤ n)) = true then some (eU n) else none) none = cNum rs.length n
    rw [bk_num, Option.or_none]
  | wo is => exact fst_wo
  | ch n lo hi =>
    show Option.or (if (decide (n < 0) || decide ((rs.length : Int) ≤ n)) = true then some (eU n) else none) (fstE (bndT T lo hi)) = cChg T ns rs n lo hi
    rw [bk_num]
    unfold cChg
    cases hc : cNum rs.length n with
    | some e => rfl
    | none =>
      obtain ⟨n0, n1⟩ := cNum_none hc
      obtain ⟨r, hr⟩ : ∃ r, rs[n.toNat]? = some r := ⟨_, List.getElem?_eq_getElem (by omega)⟩
      have o := bd.o r (List.mem_of_getElem? hr)
      rw [hr, Option.none_or, Option.none_or]
      show _ = cNet T ns (rs.set n.toNat (chR r lo hi))
      rw [cNet_ns bd.ok, show cCnt (rs.set n.toNat (chR r lo hi)).length 24 = none from if_pos (by rw [List.length_set]; omega), Option.none_or, cFold_set good (by omega)]
      have k1 : cFold (cK1 ns) [r.u, r.v] = none := cFold_ok fun x hx => by
        simp only [List.mem_cons, List.not_mem_nil, or_false] at hx
        rcases hx with rfl | rfl
        · exact if_pos o.u
        · exact if_pos o.v
      have k4 : cRng r.w 0 99 = none := if_pos ⟨o.w0, o.w1⟩
      unfold cSp chR
      simp only []
      rw [k1, k4, if_neg o.ne]
      unfold bndT
      simp only [fstE, bk_rng, Option.or_none, Option.none_or]
  | wi r =>
    show fstE _ = cNet T ns (rs ++ [r])
    rw [cNet_ns bd.ok, cFold_app, cFold_ok good, Option.none_or]
    have e1 : cCnt ((rs ++ [r]).length : Nat) 24 = (if decide (23 < (rs.length : Int)) = true then some (eT 25 24) else none) := by
      unfold cCnt
      rw [List.length_append, List.length_singleton]
      by_cases h : rs.length = 24
      · rw [h]; rfl
      · rw [if_pos (by omega), decide_eq_false (by omega)]; rfl
    rw [e1]
    unfold cmdT bndT
    simp only [fstE, fstE_app, cFold, bk_rng, bk_known, cSp, Option.or_none, Option.or_assoc, decide_eq_true_eq]
def sp_l_holds (K : PySem.W.Frag) : Sp := fun vs H Q _ => ∃ (a na b q : Addr) (T : Int) (ns : List (List Nat)) (ss : List V) (rs : List Row) (c : Cmd), vs = [.ref a, .int T, .ref na, .ref b, .ref q] ∧ Bld K H a T ns ss rs ∧ H na = some (.lst (ns.map sv)) ∧ H b = some (.lst ss) ∧ H q = some (.lst (cmdV c)) ∧ CmdOk c ∧ ∀ H', Same H H' → Q (.bl true) H'
abbrev N_l_holds : List Str := ["_law_net", "_law_length_here", "_law_names_here", "_law_spans_here", "_law_row", "_law_due_here", "_law_flags_here", "_law_kinds", "_law_made", "_law_kind"]
theorem st_l_holds {a0 a1 a2 a3 a4 : V} : L2.start N_l_holds [a0, a1, a2, a3, a4] = [some a0, some a1, some a2, some a3, some a4, none, none, none, none, none] := rfl
def t_l_holds (K : PySem.W.Frag) : TS :=
  (tSeq ((tAsg ((tCall (sp_l_due K) [] E0 ((tCons ((tCall (sp_l_tests K) [] E0 ((tCons (tVar 1) ((tCons (tVar 2) ((tCons (tVar 3) ((tCons (tVar 4) (tNil))))))))))) (tNil))))) (gName 5)))
    ((tSeq ((tAsg ((tCall (sp_l_flags K) [] E0 ((tCons (tVar 0) ((tCons (tVar 4) (tNil))))))) (gName 6)))
    ((tSeq ((tIfS ((tTest (tOp (rNeD K) (tVar 5) ((tLst (tNil)))))) ((tSeq ((tAsg ((tLst ((tCons (tC (.str (S Y_BadNumber))) ((tCons (tC (.str (S Y_BrokenSpan))) ((tCons (tC (.str (S Y_DoubleEvent))) ((tCons (tC (.str (S Y_SameEvent))) ((tCons (tC (.str (S Y_TooMany))) ((tCons (tC (.str (S Y_UnknownEvent))) ((tCons (tC (.str (S Y_UnknownSpan))) (tNil))))))))))))))))) (gName 7)))
    ((tSeq ((tIfS ((tTest (tOp (rNeD K) (tVar 6) ((tOp rCat ((tLst ((tCons (tC (.bl true)) (tNil))))) ((tLc ((iList K ((tOp rCat (tVar 7) ((tLst ((tCons (tC (.str (S Y_WrongNames))) (tNil))))))))) ((gName 9)) (tYes) ((tOp rEq (tVar 9) ((tOp (rIxL K) (tVar 5) (tC (.int 0)))))) [9]))))))) ((tRet (tC (.bl false)))) (tNext)))
    ((tRet ((tCall (sp_l_same K 3) [] E0 ((tCons ((tCall (sp_l_told K) [] E0 ((tCons (tVar 0) ((tCons (tVar 4) (tNil))))))) ((tCons ((tSl (rSlL K) (tVar 5) (tPart (tC (.int 1))) tNoPart)) (tNil))))))))))))) (tNext)))
    ((tSeq ((tIfS ((tTest (tOp (rNeD K) (tVar 6) ((tLst (tNil)))))) ((tRet (tC (.bl false)))) (tNext)))
    ((tSeq ((tAsg ((tCall (sp_l_do K) [] E0 ((tCons (tVar 0) ((tCons (tVar 4) (tNil))))))) (gName 8)))
    ((tSeq ((tIfS ((tTest (tOp rEq ((tOp (rIxL K) (tVar 4) (tC (.int 0)))) (tC (.str (S Y_span)))))) ((tRet ((tCall (sp_l_same K 3) [] E0 ((tCons (tVar 8) ((tCons ((tOp (rIxL K) (tVar 3) ((tOp (rIxL K) (tVar 4) (tC (.int 1)))))) (tNil))))))))) (tNext)))
    ((tSeq ((tIfS ((tOr ((tNot ((tB ((tCall (sp_l_same K 3) [] E0 ((tCons ((tProp (C_Net K) (sp_Net_round_length K) [] E0 (tVar 8))) ((tCons (tVar 1) (tNil))))))))))) ((tNot ((tB ((tCall (sp_l_same K 3) [] E0 ((tCons ((tProp (C_Net K) (sp_Net_events K) [] E0 (tVar 8))) ((tCons (tVar 2) (tNil))))))))))))) ((tRet (tC (.bl false)))) (tNext)))
    ((tRet ((tCall (sp_l_same K 3) [] E0 ((tCons ((tProp (C_Net K) (sp_Net_spans K) [] E0 (tVar 8))) ((tCons ((tCall (sp_l_outcome K) [] E0 ((tCons (tVar 3) ((tCons (tVar 4) (tNil))))))) (tNil))))))))))))))))))))))

theorem pure_l_holds (K : PySem.W.Frag) (vs : List V) (H : Hp) (Q : VK) (E : XK) (h : sp_l_holds K vs H Q E) : t_l_holds K { nx := fun _ H' => Q .non H', rt := Q } (L2.start N_l_holds vs) H := by
  obtain ⟨a, na, b, q, T, ns, ss, rs, c, rfl, bd, hna, hb, hq, ok, k⟩ := h
  have el := bd.r.len
  rw [st_l_holds]
  unfold t_l_holds
  walk_at "st"
  refine c_l_tests hna hb hq (fun is e => by have := ok.wo is e; omega) fun tp xs H1 s1 htp htr => ?_
  walk_at "st"
  refine c_l_due htp htr fun du hdu => ?_
  rw [el, fst_cmd bd]
  have s2 := s1.trans (Same.new (o := .lst (duL (cmdE T ns rs c))) hdu)
  have ide : upd H1 du (.lst (duL (cmdE T ns rs c))) du = _ := upd_same
  revert s2 ide
  generalize upd H1 du (.lst (duL (cmdE T ns rs c))) = H2
  intro s2 ide
  walk_at "st"
  refine c_l_flags (bd.mono s2) (s2 _ _ hq) ok fun fa H3 s3 _ hfa => ?_
  have ide3 := s3 _ _ ide
  have s03 := s2.trans s3
  walk_at "st"
  refine ⟨Nat.zero_le _, fun e2 he2 => ?_⟩
  have s4 := Same.new (o := .lst []) he2
  have ie2 : upd H3 e2 (.lst []) e2 = some (.lst []) := upd_same
  have ide4 := s4 _ _ ide3
  have hfa4 := s4 _ _ hfa
  have s04 := s03.trans s4
  revert ie2 ide4 hfa4 s04
  generalize upd H3 e2 (.lst []) = H4
  intro ie2 ide4 hfa4 s04
  walk_at "st"
  cases hc : cmdE T ns rs c with
  | none =>
    rw [hc] at ide4 hfa4
    refine wp_neNil ide4 ie2 .nil rfl ?_
    rw [decide_eq_true rfl]
    walk_at "st"
    refine ⟨Nat.zero_le _, fun e3 he3 => ?_⟩
    have s5 := Same.new (o := .lst []) he3
    have s05 := s04.trans s5
    walk_at "st"
    refine wp_neBs (bs := []) (s5 _ _ hfa4) upd_same ?_
    revert s05
    generalize upd H4 e3 (.lst []) = H5
    intro s05
    have hq5 := s05 _ _ hq
    walk_at "st"
    refine c_l_do (bd.mono s05) hq5 ok ⟨fun er e => (by rw [hc] at e; cases e), fun _ H6 s6 => ⟨fun n x e hx => ?_, fun b2 ss2 hns net rr => ?_⟩⟩
    · subst e
      have hq6 : H6 q = some (.lst [.str (S Y_span), .int n]) := s6 _ _ hq5
      obtain ⟨n0, n1⟩ := cNum_none (show cNum rs.length n = none from hc)
      walk_at "st"
      refine ite_dec (fun _ => ?_) (fun h => absurd rfl h)
      walk_at "st"
      refine wp_ixLM (sq_of (s6 _ _ (s05 _ _ hb))) n0 (by omega) fun y _ hy => ?_
      rw [hx] at hy
      cases hy
      obtain ⟨r, _, hrow⟩ := (bd.r.mono (s05.trans s6)).at hx
      walk_at "st"
      exact c_l_same (sm_row hrow) fun H7 s7 => k _ ((s05.trans s6).trans s7)
    · have s06 := s05.trans s6
      have hstr : ∃ z vs2, cmdV c = .str z :: vs2 ∧ z ≠ S Y_span := by
        cases c with
        | sp n => exact absurd rfl (hns n)
        | wo is => exact ⟨_, _, rfl, by decide +kernel⟩
        | ch n lo hi => exact ⟨_, _, rfl, by decide +kernel⟩
        | wi r => exact ⟨_, _, rfl, by decide +kernel⟩
      obtain ⟨z, vs2, ez, zn⟩ := hstr
      have hq6 : H6 q = some (.lst (.str z :: vs2)) := by rw [← ez]; exact s6 _ _ hq5
      walk_at "st"
      refine c_Net_round_length net ?_
      walk_at "st"
      refine c_l_same sm_int fun H7 s7 => ?_
      have net7 := net.mono s7
      have s07 := s06.trans s7
      walk_at "st"
      refine c_Net_events net7 fun p1 hp1 => ?_
      have s8 := Same.new (o := .lst (ns.map sv)) hp1
      walk_at "st"
      refine c_l_same (sm_names upd_same (s8 _ _ (s07 _ _ hna)) (by have := bd.ok.few; omega)) fun H9 s9 => ?_
      have s79 := s8.trans s9
      have net9 := net7.mono s79
      have s09 := s07.trans s79
      have rr9 := rr.mono (s7.trans s79)
      walk_at "st"
      refine c_Net_spans net9 fun p2 hp2 => ?_
      have s10 := Same.new (o := .lst ss2) hp2
      have s010 := s09.trans s10
      have ip2 : upd H9 p2 (.lst ss2) p2 = some (.lst ss2) := upd_same
      walk_at "st"
      refine c_l_outcome (s010 _ _ hb) (bd.r.mono s010) bd.f (s010 _ _ hq) hns ok hc fun p ts H11 s11 hp11 hr11 => ?_
      walk_at "st"
      have hlr : (cmdR rs c).length ≤ 1000 := by
        have := bd.f
        cases c with
        | sp n => exact absurd rfl (hns n)
        | wo is => have := keepG_len (is := is) (xs := rs) rs.length; show (keepG is rs rs.length).length ≤ _; omega
        | ch n lo hi =>
          show (chRs rs n lo hi).length ≤ _
          unfold chRs
          split
          · omega
          · rw [List.length_set]; omega
        | wi r => show (rs ++ [r]).length ≤ _; rw [List.length_append, List.length_singleton]; omega
      exact c_l_same (sm_rws (s11 _ _ ip2) hp11 ((rr9.mono s10).mono s11) hr11 hlr) fun H12 s12 => k _ ((s010.trans s11).trans s12)
  | some er =>
    rw [hc] at ide4 hfa4
    have sh := s7_cmd bd ok hc
    obtain ⟨dd, ds, dp, shp⟩ := sh.dp (K := K) (H := H4)
    refine wp_neNil ide4 ie2 dp shp ?_
    rw [decide_eq_false (by simp)]
    walk_at "st"
    refine ⟨by simp [sizeLine_eq], fun kd hkd => ?_⟩
    have s5 := Same.new (o := .lst [.str (S Y_BadNumber), .str (S Y_BrokenSpan), .str (S Y_DoubleEvent), .str (S Y_SameEvent), .str (S Y_TooMany), .str (S Y_UnknownEvent), .str (S Y_UnknownSpan)]) hkd
    have ikd : upd H4 kd (.lst [.str (S Y_BadNumber), .str (S Y_BrokenSpan), .str (S Y_DoubleEvent), .str (S Y_SameEvent), .str (S Y_TooMany), .str (S Y_UnknownEvent), .str (S Y_UnknownSpan)]) kd = _ := upd_same
    revert s5 ikd
    generalize upd H4 kd _ = H5
    intro s5 ikd
    walk_at "st"
    refine ⟨by simp [sizeLine_eq], fun t1 ht1 => ?_⟩
    have s6 := Same.new (o := .lst [.bl true]) ht1
    have it1 : upd H5 t1 (.lst [.bl true]) t1 = _ := upd_same
    have ikd6 := s6 _ _ ikd
    have s56 := s5.trans s6
    revert s6 it1 ikd6 s56
    generalize upd H5 t1 _ = H6
    intro s6 it1 ikd6 s56
    walk_at "st"
    refine ⟨by simp [sizeLine_eq], fun t2 ht2 => ?_⟩
    have s7 := Same.new (o := .lst [.str (S Y_WrongNames)]) ht2
    walk_at "st"
    refine wp_cat (s7 _ _ ikd6) upd_same (by simp) fun t3 ht3 => ?_
    rw [kinds_eq]
    have s8 := Same.new (o := .lst (flK.map V.str)) ht3
    have it3 : upd (upd H6 t2 (.lst [.str (S Y_WrongNames)])) t3 (.lst (flK.map V.str)) t3 = _ := upd_same
    have it1' := (s7.trans s8) _ _ it1
    have s58 := s56.trans (s7.trans s8)
    revert it3 it1' s58
    generalize upd (upd H6 t2 (.lst [.str (S Y_WrongNames)])) t3 _ = H8
    intro it3 it1' s58
    have hfa8 := s58 _ _ hfa4
    have hde8 : H8 du = some (.lst (.str er.c :: toL (some er))) := s58 _ _ ide4
    walk_at "st"
    refine lcMapL (sq_of it3) (by rw [List.length_map]; decide) (fun z => [some (.ref a), some (.int T), some (.ref na), some (.ref b), some (.ref q), some (.ref du), some (.ref fa), some (.ref kd), none, some z]) (fun z => ⟨rfl, rfl⟩) (eqf er.c) (fun z H9 hz s9 R hR => ?_) (fun D H9 hD s9 hD9 => ?_)
    · have hd9 := s9 _ _ hde8
      obtain ⟨y, _, rfl⟩ := List.mem_map.mp hz
      walk_at "st"
      exact hR _ (Same.refl _)
    rw [eqf_map] at hD9
    refine wp_cat (s9 _ _ it1') hD9 (by rw [List.length_map, List.length_map]; decide) fun c3 hc3 => ?_
    have s10 := Same.new (o := .lst ([.bl true] ++ (flK.map fun k => decide (er.c = k)).map V.bl)) hc3
    rw [flL_map] at hfa8
    have s910 := s9.trans s10
    walk_at "st"
    refine wp_neBs (s910 _ _ hfa8) upd_same ?_
    have hd10 := s910 _ _ hde8
    have s410 := s04.trans (s58.trans s910)
    revert hd10 s410
    generalize upd H9 c3 _ = H10
    intro hd10 s410
    walk_at "st"
    refine c_l_told (bd.mono s410) (s410 _ _ hq) ok fun to H11 s11 _ hto => ?_
    rw [hc] at hto
    have hd11 := s11 _ _ hd10
    walk_at "st"
    refine wp_sliceL (sq_of hd11) fun c4 hc4 => ?_
    rw [cutG_from1 (by omega) (by rw [List.length_cons]; omega)]
    have e4 : (V.str er.c :: toL (some er)).drop (1 : Int).toNat = toL (some er) := rfl
    rw [e4]
    walk_at "st"
    have s12 := Same.new (o := .lst (toL (some er))) hc4
    refine c_l_same (sm_lst (s12 _ _ hto) upd_same (by have := toL_len sh; omega) sh.sm) fun H13 s13 => ?_
    exact k _ (((s410.trans s11).trans s12).trans s13)
theorem len_l_holds (K : PySem.W.Frag) (vs : List V) (H : Hp) (Q : VK) (E : XK) (h : sp_l_holds K vs H Q E) : vs.length = 5 := by
  obtain ⟨_, _, _, _, _, _, _, _, _, rfl, _⟩ := h
  rfl
theorem c_l_holds {K : PySem.W.Frag} {a na b q : Addr} {T : Int} {ns : List (List Nat)} {ss : List V} {rs : List Row} {c : Cmd} {H : Hp} {Q : VK} {E : XK} (bd : Bld K H a T ns ss rs) (hna : H na = some (.lst (ns.map sv))) (hb : H b = some (.lst ss)) (hq : H q = some (.lst (cmdV c))) (ok : CmdOk c) (k : ∀ H', Same H H' → Q (.bl true) H') : sp_l_holds K [.ref a, .int T, .ref na, .ref b, .ref q] H Q E :=
  ⟨a, na, b, q, T, ns, ss, rs, c, rfl, bd, hna, hb, hq, ok, k⟩
theorem rws_ne {H : Hp} {ss : List V} {rs : List Row} {n c : Int} {l : Addr} (h : Rws H ss rs) : ss ≠ [.int n, .int c, .ref l] := fun e => by
  subst e
  cases h with
  | cons hx _ =>
    obtain ⟨p, e, _⟩ := hx
    cases e
theorem Sees.all {P : Pl} {G H : Hp} (s : Sees P G H) : Sees P (RM.rmv H P.p) H ∧ Same G (RM.rmv H P.p) :=
  ⟨⟨s.pool, by rw [rmv_ne (ne_of_none s.cell s.free)]; exact s.sub _ _ s.cell, s.few, rmv_same, rmv_sub⟩, Same.rmv s.sub s.free⟩
theorem Bld.rmv {K : PySem.W.Frag} {P : Pl} {G H : Hp} {a : Addr} {T : Int} {ns : List (List Nat)} {ss : List V} {rs : List Row} (s : Sees P G H) (hr : Rws G ss rs) (n : IsNet (C_Net K) H a T ns ss) (ok : OkNs T ns) (o : ∀ r ∈ rs, OkR T ns r) (f : rs.length ≤ 24) : Bld K (RM.rmv H P.p) a T ns ss rs := by
  obtain ⟨dx, le, ls, n1, n2, n3⟩ := n
  obtain ⟨pn, pc, hp⟩ := s.pool
  refine ⟨⟨dx, le, ls, ?_, ?_, ?_⟩, hr.mono s.all.2, ok, o, f⟩
  · rw [rmv_ne (fun e => by rw [e, hp] at n1; cases n1)]; exact n1
  · rw [rmv_ne (fun e => by rw [e, hp] at n2; cases ns with | nil => cases n2 | cons l r => cases n2)]; exact n2
  · rw [rmv_ne (fun e => by
      rw [e, hp] at n3
      exact rws_ne hr (HO.lst.inj (Option.some.inj n3)).symm)]
    exact n3
/-- rows of commands -/
inductive CRs (G : Hp) : List V → List Cmd → Prop
  | nil : CRs G [] []
  | cons {p : Addr} {c : Cmd} {xs : List V} {cs : List Cmd} (h : G p = some (.lst (cmdV c))) (o : CmdOk c) (r : CRs G xs cs) : CRs G (.ref p :: xs) (c :: cs)
theorem CRs.mono {G G' : Hp} (s : Same G G') : ∀ {xs : List V} {cs : List Cmd}, CRs G xs cs → CRs G' xs cs
  | _, _, .nil => .nil
  | _, _, .cons h o r => .cons (s _ _ h) o (r.mono s)
theorem CRs.app {G : Hp} : ∀ {xs ys : List V} {cs ds : List Cmd}, CRs G xs cs → CRs G ys ds → CRs G (xs ++ ys) (cs ++ ds)
  | _, _, _, _, .nil, r => r
  | _, _, _, _, .cons h o r, r2 => .cons h o (r.app r2)
theorem CRs.at {G : Hp} : ∀ {xs : List V} {cs : List Cmd} {i : Nat} {x : V}, CRs G xs cs → xs[i]? = some x → ∃ p c, x = .ref p ∧ G p = some (.lst (cmdV c)) ∧ CmdOk c
  | _, _, 0, _, .cons (p := p) (c := c) h o r, hx => by cases hx; exact ⟨p, c, rfl, h, o⟩
  | _, _, i + 1, _, .cons h o r, hx => r.at (i := i) hx
theorem ok_sp {n : Int} : CmdOk (.sp n) := ⟨fun _ h => (nomatch h), fun _ h => (nomatch h)⟩
theorem ok_ch {n lo hi : Int} : CmdOk (.ch n lo hi) := ⟨fun _ h => (nomatch h), fun _ h => (nomatch h)⟩
theorem ok_wi {r : Row} (a : AscR r) : CmdOk (.wi r) := ⟨fun _ h => (nomatch h), fun q h => (by cases h; exact a)⟩
theorem ok_wo {is : List Int} (h : is.length = 2 ∨ is.length = 3) : CmdOk (.wo is) := ⟨fun q e => (by cases e; exact h), fun _ h => (nomatch h)⟩
/-- the rows so far, in the list at L -/
structure RwL (P : Pl) (L : Addr) (G0 G H : Hp) (n : Nat) : Prop where
  ex : ∃ xs cs, Lcl P L xs G H ∧ CRs G xs cs ∧ Same G0 G ∧ xs.length = n
theorem RwL.sees {P : Pl} {L : Addr} {G0 G H : Hp} {n : Nat} (t : RwL P L G0 G H n) : ∃ G1, Sees P G1 H ∧ Same G G1 ∧ (∃ xs, xs.length = n ∧ G1 L = some (.lst xs)) ∧ ∀ G' H', Same G1 G' → Sees P G' H' → ∃ G2, RwL P L G0 G2 H' n ∧ Same G G2 ∧ ∀ a o, a ≠ L → G' a = some o → G2 a = some o := by
  obtain ⟨xs, cs, lc, cr, s0, hl⟩ := t.ex
  refine ⟨_, lc.in_, Same.new lc.g, ⟨xs, hl, upd_same⟩, fun G' H' sg hs => ⟨RM.rmv G' L, ⟨xs, cs, ?_, ?_, ?_, hl⟩, Same.rmv ((Same.new lc.g).trans sg) lc.g, fun a o e h => by rw [rmv_ne e]; exact h⟩⟩
  · have gl := sg _ _ upd_same
    exact ⟨hs.less gl (ne_of_none lc.s.cell lc.g).symm, hs.sub _ _ gl, rmv_same, lc.ne⟩
  · exact cr.mono (Same.rmv ((Same.new lc.g).trans sg) lc.g)
  · exact s0.trans (Same.rmv ((Same.new lc.g).trans sg) lc.g)
theorem RwL.sub {P : Pl} {L a : Addr} {G0 G H : Hp} {n : Nat} {o : HO} (t : RwL P L G0 G H n) (h : G a = some o) : H a = some o := by
  obtain ⟨xs, cs, lc, _⟩ := t.ex
  exact lc.s.sub _ _ h
theorem RwL.new {P : Pl} {L q : Addr} {G0 G H : Hp} {n : Nat} {o : HO} (t : RwL P L G0 G H n) (hq : H q = none) : RwL P L G0 (upd G q o) (upd H q o) n := by
  obtain ⟨xs, cs, lc, cr, s0, hl⟩ := t.ex
  have sg := Same.new (o := o) (lc.s.sub.free hq)
  exact ⟨xs, cs, lc.new hq, cr.mono sg, s0.trans sg, hl⟩
theorem RwL.new' {P : Pl} {L q : Addr} {G0 G H : Hp} {n : Nat} (o : HO) (t : RwL P L G0 G H n) (hq : H q = none) : ∃ G', RwL P L G0 G' (upd H q o) n ∧ Same G G' ∧ G' q = some o := by
  have t2 := t.new (o := o) hq
  obtain ⟨xs, cs, lc, _⟩ := t.ex
  exact ⟨_, t2, Same.new (lc.s.sub.free hq), upd_same⟩
theorem RwL.put {P : Pl} {L q : Addr} {G0 G H : Hp} {n : Nat} {c : Cmd} {R : VK} (t : RwL P L G0 G H n) (hq : H q = none) (hn : n ≤ 100) (o : CmdOk c) (k : ∀ G' H', RwL P L G0 G' H' (n + 1) → Same G G' → R .non H') : rAppend (.ref L) [.ref q] (upd H q (.lst (cmdV c))) R := by
  obtain ⟨xs, cs, lc, cr, s0, hl⟩ := t.ex
  have sg := Same.new (o := .lst (cmdV c)) (lc.s.sub.free hq)
  refine wp_append (lc.new hq).h (by omega) (k _ _ ⟨_, cs ++ [c], (lc.new hq).put, (cr.mono sg).app (.cons upd_same o .nil), s0.trans sg, by rw [List.length_append, hl]; rfl⟩ sg)
theorem RwL.at {P : Pl} {L a : Addr} {G0 G H : Hp} {n : Nat} {o : HO} (t : RwL P L G0 G H n) (h : G0 a = some o) : H a = some o := by
  obtain ⟨xs, cs, lc, cr, s0, hl⟩ := t.ex
  exact lc.s.sub _ _ (s0 _ _ h)
theorem RwL.hL {P : Pl} {L : Addr} {G0 G H : Hp} {n : Nat} (t : RwL P L G0 G H n) : ∃ xs, H L = some (.lst xs) := by
  obtain ⟨xs, cs, lc, _⟩ := t.ex
  exact ⟨xs, lc.h⟩
theorem RwL.draw {P : Pl} {L : Addr} {G0 G H : Hp} {n : Nat} (t : RwL P L G0 G H n) : ∃ G1, Sees P G1 H ∧ ∀ H', Sees P G1 H' → RwL P L G0 G H' n := by
  obtain ⟨xs, cs, lc, cr, s0, hl⟩ := t.ex
  exact ⟨_, lc.in_, fun H' hs => ⟨xs, cs, lc.out hs, cr, s0, hl⟩⟩
def sp_law (K : PySem.W.Frag) : Sp := fun vs H Q _ => ∃ (a : Addr) (ns : List Int), vs = [.ref a] ∧ SqL K H a (ns.map V.int) ∧ ns.length ≤ 63 ∧ ∀ H', Q (.bl true) H'
abbrev N_law : List Str := ["_law_script", "_law_pool_here", "_law_length_here", "_law_names_here", "_law_spans_here", "_law_picks", "_law_net", "_law_count", "_law_rows", "_law_one", "_law_two", "_law_bounds_here", "_law_sides", "_law_row"]
theorem st_law {a0 : V} : L2.start N_law [a0] = [some a0, none, none, none, none, none, none, none, none, none, none, none, none, none] := rfl
def t_law (K : PySem.W.Frag) : TS :=
  (tSeq ((tAsg ((tCall (sp_l_pool K) [] E0 ((tCons (tVar 0) (tNil))))) (gName 1)))
    ((tSeq ((tAsg ((tCall (sp_l_length K) [] E0 ((tCons (tVar 1) ((tCons (tC (.int 120)) (tNil))))))) (gName 2)))
    ((tSeq ((tAsg ((tCall (sp_l_names K) [] E0 ((tCons (tVar 1) ((tCons ((tCall (sp_l_size K) [] E0 ((tCons (tVar 1) ((tCons (tC (.int 12)) (tNil))))))) (tNil))))))) (gName 3)))
    ((tSeq ((tAsg ((tCall (sp_l_spans K) [] E0 ((tCons (tVar 1) ((tCons (tVar 2) ((tCons (tVar 3) ((tCons (tC (.int 24)) (tNil))))))))))) (gName 4)))
    ((C8.tCut ((tIfS ((tAnd ((tTest (tOp rEq ((tCall (sp_l_draw K) [] E0 ((tCons (tVar 1) ((tCons (tC (.int 4)) (tNil))))))) (tC (.int 1))))) ((tTest (tOp (rI0 fun i j => .bl (decide (j < i))) ((tCB (rLenS K) ((tCons (tVar 4) (tNil))))) (tC (.int 0))))))) ((tAsg ((tCall (sp_l_filled K) [] E0 ((tCons (tVar 4) (tNil))))) (gName 4))) (tNext)))
    ((tSeq ((tAsg ((tOp rCat (tVar 3) ((tLst ((tCons ((tCall (sp_l_stranger K) [] E0 ((tCons (tVar 1) ((tCons (tVar 3) (tNil))))))) (tNil))))))) (gName 5)))
    ((tSeq ((tAsg ((tMake (C_Net K) (sp_Net_init K) [] E0 ((tCons (tVar 2) ((tCons ((tCB (rListS K) ((tCons (tVar 3) (tNil))))) ((tCons ((tCB (rListS K) ((tCons (tVar 4) (tNil))))) (tNil))))))))) (gName 6)))
    ((tSeq ((tAsg ((tCB (rLenS K) ((tCons (tVar 4) (tNil))))) (gName 7)))
    ((tSeq ((tAsg ((tLst ((tCons ((tLst ((tCons (tC (.str (S Y_span))) ((tCons ((tCall (sp_l_number K) [] E0 ((tCons (tVar 1) ((tCons (tVar 7) (tNil))))))) (tNil))))))) (tNil))))) (gName 8)))
    ((tSeq ((tAsg ((tCall (sp_l_number K) [] E0 ((tCons (tVar 1) ((tCons (tVar 7) (tNil))))))) (gName 9)))
    ((tSeq ((tAsg ((tCall (sp_l_number K) [] E0 ((tCons (tVar 1) ((tCons (tVar 7) (tNil))))))) (gName 10)))
    ((tSeq ((tAsg ((tOp rCat (tVar 8) ((tLst ((tCons ((tLst ((tCons (tC (.str (S Y_without))) ((tCons (tVar 9) ((tCons (tVar 10) (tNil))))))))) ((tCons ((tLst ((tCons (tC (.str (S Y_without))) ((tCons (tVar 10) ((tCons (tVar 9) (tNil))))))))) ((tCons ((tLst ((tCons (tC (.str (S Y_without))) ((tCons (tVar 9) ((tCons (tVar 10) ((tCons ((tCall (sp_l_number K) [] E0 ((tCons (tVar 1) ((tCons (tVar 7) (tNil))))))) (tNil))))))))))) (tNil))))))))))) (gName 8)))
    ((tSeq ((tDrop ((tBM K "list" rAppend (tVar 8) ((tCons ((tOp rCat ((tLst ((tCons (tC (.str (S Y_changed))) ((tCons ((tCall (sp_l_number K) [] E0 ((tCons (tVar 1) ((tCons (tVar 7) (tNil))))))) (tNil))))))) ((tCall (sp_l_bounds K) [] E0 ((tCons (tVar 1) ((tCons (tVar 2) (tNil))))))))) (tNil)))))))
    ((tSeq ((tAsg ((tCall (sp_l_bounds K) [] E0 ((tCons (tVar 1) ((tCons (tVar 2) (tNil))))))) (gName 11)))
    ((tSeq ((tAsg ((tLst ((tCons ((tOp (rIxL K) (tVar 5) ((tCall (sp_l_draw K) [] E0 ((tCons (tVar 1) ((tCons ((tCB (rLenS K) ((tCons (tVar 5) (tNil))))) (tNil))))))))) ((tCons ((tOp (rIxL K) (tVar 5) ((tCall (sp_l_draw K) [] E0 ((tCons (tVar 1) ((tCons ((tCB (rLenS K) ((tCons (tVar 5) (tNil))))) (tNil))))))))) (tNil))))))) (gName 12)))
    ((tSeq ((tDrop ((tBM K "list" rAppend (tVar 8) ((tCons ((tOp rCat ((tOp rCat ((tOp rCat ((tLst ((tCons (tC (.str (S Y_with))) (tNil))))) (tVar 12))) ((tLst ((tCons ((tOp (rIxL K) ((tLst ((tCons ((tUn (rU fun i => .int (-i)) (tC (.int 1)))) ((tCons (tC (.int 0)) ((tCons (tC (.int 99)) ((tCons (tC (.int 100)) ((tCons (tC (.int 7)) (tNil))))))))))))) ((tCall (sp_l_draw K) [] E0 ((tCons (tVar 1) ((tCons (tC (.int 5)) (tNil))))))))) (tNil))))))) (tVar 11))) (tNil)))))))
    ((tSeq ((tFor ((iList K (tVar 8))) (gName 13) ((tIfS ((tOr ((tNot ((tB ((tCall (sp_l_holds K) [] E0 ((tCons (tVar 6) ((tCons (tVar 2) ((tCons (tVar 3) ((tCons (tVar 4) ((tCons (tVar 13) (tNil))))))))))))))))) ((tNot ((tB ((tCall (sp_l_same K 3) [] E0 ((tCons ((tProp (C_Net K) (sp_Net_spans K) [] E0 (tVar 6))) ((tCons (tVar 4) (tNil))))))))))))) ((tRet (tC (.bl false)))) (tNext)))))
    ((tRet (tC (.bl true)))))))))))))))))))))))))))))))))))))

theorem pure_law (K : PySem.W.Frag) (vs : List V) (H : Hp) (Q : VK) (E : XK) (h : sp_law K vs H Q E) : t_law K { nx := fun _ H' => Q .non H', rt := Q } (L2.start N_law vs) H := by
  obtain ⟨a, cs, rfl, hx, hn, k⟩ := h
  rw [st_law]
  unfold t_law
  walk_at "st"
  refine c_l_pool hx hn fun P G0 H0 _ hs0 => ?_
  walk_at "st"
  refine c_l_length hs0 (by omega) fun T H1 t0 t1 hs1 => ?_
  walk_at "st"
  refine c_l_size hs1 (by omega) fun nn H2 n0 n1 hs2 => ?_
  walk_at "st"
  refine c_l_names hs2 (by omega) fun ns q G3 H3 el nnm nnd sG3 hq hs3 => ?_
  have ok : OkNs T ns := ⟨t0, by omega, by omega, nnd, nnm⟩
  walk_at "st"
  refine c_l_spans hs3 ok (by omega) hq fun s ss G4 H4 os _ _ hs' sG4 hs4 => ?_
  have hq4 := sG4 _ _ hq
  clear hs0 hs1 hs2 hs3
  obtain ⟨rs, rw'⟩ := rws_ex os.sp
  have er := rw'.len
  have fS := os.few
  have okr : ∀ r ∈ rs, OkR T ns r := fun r hr => (rw'.all ok.nm os.sp r hr).1
  walk_at "st"
  refine wp_cut (fun σ' H' => ∃ (s2 : Addr) (ss2 : List V) (rs2 : List Row) (G' : Hp), σ' = [some (.ref a), some (.ref P.p), some (.int T), some (.ref q), some (.ref s2), none, none, none, none, none, none, none, none, none] ∧ Same G4 G' ∧ Sees P G' H' ∧ G' s2 = some (.lst ss2) ∧ Rws G' ss2 rs2 ∧ (∀ r ∈ rs2, OkR T ns r) ∧ rs2.length ≤ 24) ?_ ?_
  · walk_at "st"
    refine c_l_draw hs4 (by decide) fun d H5 _ _ hs5 => ?_
    have hs5' := hs5.sub _ _ hs'
    walk_at "st"
    refine ite_dec (fun h => ?_) (fun h => ?_)
    · walk_at "st"
      refine ite_dec (fun h2 => ?_) (fun h2 => ?_)
      · walk_at "st"
        refine c_l_filled hs5 hs' rw' (by omega) (by omega) fun p ts qs G' H' sg hs hp hr hl hm => ?_
        walk_at "st"
        exact ⟨p, ts, qs, G', rfl, sg, hs, hp, hr, fun r hr => okr r (hm r hr), hl⟩
      · walk_at "st"
        exact ⟨s, ss, rs, G4, rfl, Same.refl _, hs5, hs', rw', okr, by omega⟩
    · walk_at "st"
      exact ⟨s, ss, rs, G4, rfl, Same.refl _, hs5, hs', rw', okr, by omega⟩
  clear hs4 okr rw' os fS er hs'
  rintro σ' H5 ⟨s2, ss2, rs2, G5, rfl, s45, hs5, hss, hr5, okr, f24⟩
  have hq5 := s45 _ _ hq4
  have fN := ok.few
  walk_at "st"
  refine c_l_stranger hs5 ok.few ok.nm hq5 fun st H6 nst _ hs6 => ?_
  walk_at "st"
  refine ⟨by simp [sizeLine_eq], fun b1 w1 => ?_⟩
  obtain ⟨G7, hs7, s7, i7⟩ := hs6.new' (.lst [.str (S st)]) w1
  walk_at "st"
  refine wp_cat (hs7.sub _ _ (s7 _ _ hq5)) (hs7.sub _ _ i7) (by rw [List.length_map]; simp; omega) fun pk w2 => ?_
  have e1 : ns.map sv ++ [V.str (S st)] = (ns ++ [st]).map sv := by rw [List.map_append]; rfl
  rw [e1]
  obtain ⟨G8, hs8, s8, ipk⟩ := hs7.new' (.lst ((ns ++ [st]).map sv)) w2
  have s58 := s7.trans s8
  walk_at "st"
  refine wp_listL (sq_of (hs8.sub _ _ (s58 _ _ hq5))) fun b3 w3 => ?_
  obtain ⟨G9, hs9, s9, i9⟩ := hs8.new' (.lst (ns.map sv)) w3
  walk_at "st"
  refine wp_listL (sq_of (hs9.sub _ _ ((s58.trans s9) _ _ hss))) fun b4 w4 => ?_
  obtain ⟨G10, hs10, s10, i10⟩ := hs9.new' (.lst ss2) w4
  have s510 := (s58.trans s9).trans s10
  have asc : ∀ r ∈ rs2, AscR r := fun r hr => ⟨nm_asc (ok.nm _ (okr r hr).u), nm_asc (ok.nm _ (okr r hr).v)⟩
  walk_at "st"
  refine c_NetX (rs := rs2) ⟨hs10.sub _ _ (s10 _ _ i9), hs10.sub _ _ i10, (hr5.mono s510).mono hs10.sub, fun l hl => by have := (ok.nm l hl).len; omega, by omega, by omega, fun l hl => nm_asc (ok.nm l hl), asc⟩ (fun er e => by rw [cNet_ok ok okr f24] at e; cases e) (fun _ n H11 s11 net => ?_)
  have hs11 := hs10.same s11
  have bd := Bld.rmv hs11 (hr5.mono s510) net ok okr f24
  obtain ⟨hsA, sA⟩ := hs11.all
  have s5A := s510.trans sA
  have hssA := s5A _ _ hss
  have hqA := s5A _ _ hq5
  have ipkA := (((s9.trans s10).trans sA)) _ _ ipk
  generalize RM.rmv H11 P.p = GA at hsA bd hssA hqA ipkA
  clear hs5 hs6 hs7 hs8 hs9 hs10 hs11
  have er2 := bd.r.len
  walk_at "st"
  refine c_l_number hsA (by omega) fun m1 H12 hs12 => ?_
  walk_at "st"
  refine ⟨by simp [sizeLine_eq], fun q1 v1 => ?_⟩
  obtain ⟨GB, hsB, sB, iq1⟩ := hs12.new' (.lst (cmdV (.sp m1))) v1
  walk_at "st"
  refine ⟨by simp [sizeLine_eq], fun r0 v2 => ?_⟩
  obtain ⟨GC, hsC, sC, ir0⟩ := hsB.new' (.lst [.ref q1]) v2
  walk_at "st"
  refine c_l_number hsC (by omega) fun m2 H13 hs13 => ?_
  walk_at "st"
  refine c_l_number hs13 (by omega) fun m3 H14 hs14 => ?_
  walk_at "st"
  refine ⟨by simp [sizeLine_eq], fun q2 v3 => ?_⟩
  obtain ⟨GD, hsD, sD, iq2⟩ := hs14.new' (.lst (cmdV (.wo [m2, m3]))) v3
  walk_at "st"
  refine ⟨by simp [sizeLine_eq], fun q3 v4 => ?_⟩
  obtain ⟨GE, hsE, sE, iq3⟩ := hsD.new' (.lst (cmdV (.wo [m3, m2]))) v4
  walk_at "st"
  refine c_l_number hsE (by omega) fun m4 H15 hs15 => ?_
  walk_at "st"
  refine ⟨by simp [sizeLine_eq], fun q4 v5 => ?_⟩
  obtain ⟨GF, hsF, sF, iq4⟩ := hs15.new' (.lst (cmdV (.wo [m2, m3, m4]))) v5
  walk_at "st"
  refine ⟨by simp [sizeLine_eq], fun r1 v6 => ?_⟩
  obtain ⟨GH, hsH, sH, ir1⟩ := hsF.new' (.lst [.ref q2, .ref q3, .ref q4]) v6
  walk_at "st"
  have sDH := ((sE.trans sF).trans sH)
  have sCH := sD.trans sDH
  refine wp_cat (hsH.sub _ _ (sCH _ _ ir0)) (hsH.sub _ _ ir1) (by simp) fun L hL => ?_
  obtain ⟨gL, nL⟩ := hsH.fresh hL
  have sAH := (sB.trans sC).trans sCH
  have t : RwL P L GA GH (upd _ L (.lst ([.ref q1] ++ [.ref q2, .ref q3, .ref q4]))) 4 := ⟨_, [.sp m1, .wo [m2, m3], .wo [m3, m2], .wo [m2, m3, m4]], ⟨hsH.set gL nL, upd_same, gL, nL⟩, .cons ((sC.trans sCH) _ _ iq1) ok_sp (.cons (sDH _ _ iq2) (ok_wo (.inl rfl)) (.cons ((sF.trans sH) _ _ iq3) (ok_wo (.inl rfl)) (.cons (sH _ _ iq4) (ok_wo (.inr rfl)) .nil))), sAH, rfl⟩
  walk_at "st"
  obtain ⟨g1, z1, out1⟩ := t.draw
  refine c_l_number z1 (by omega) fun m5 H17 hs17 => ?_
  have t := out1 _ hs17
  walk_at "st"
  refine ⟨by simp [sizeLine_eq], fun q5 v7 => ?_⟩
  obtain ⟨g2, t, _, i5⟩ := t.new' (.lst [.str (S Y_changed), .int m5]) v7
  walk_at "st"
  obtain ⟨g3, z3, s23, _, out3⟩ := t.sees
  refine c_l_bounds z3 ⟨t0, by omega⟩ fun lo hi pb G' H' sg hs hb => ?_
  obtain ⟨g4, t, _, _⟩ := out3 G' H' sg hs
  walk_at "st"
  refine wp_cat (hs.sub _ _ (sg _ _ (s23 _ _ i5))) (hs.sub _ _ hb) (by simp) fun q6 v8 => ?_
  walk_at "st"
  refine t.put (c := .ch m5 lo hi) v8 (by omega) ok_ch fun g5 H18 t _ => ?_
  walk_at "st"
  obtain ⟨g6, z6, _, ⟨xl, hxl, hgl⟩, out6⟩ := t.sees
  refine c_l_bounds z6 ⟨t0, by omega⟩ fun lo2 hi2 pb2 G' H' sg hs hb => ?_
  obtain ⟨g7, t, _, keep⟩ := out6 G' H' sg hs
  have npL : pb2 ≠ L := fun e => by
    rw [e, sg _ _ hgl] at hb
    have z := HO.lst.inj (Option.some.inj hb)
    rw [z] at hxl
    simp at hxl
  have ib := keep _ _ npL hb
  have pkl : ((ns ++ [st]).map sv).length = ns.length + 1 := by simp
  have pasc : ∀ x ∈ (ns ++ [st]).map sv, ∃ u, x = sv u ∧ Asc u := fun x hx => by
    obtain ⟨u, hu, rfl⟩ := List.mem_map.mp hx
    refine ⟨u, rfl, ?_⟩
    rcases List.mem_append.mp hu with h | h
    · exact nm_asc (ok.nm u h)
    · rw [List.mem_singleton.mp h]; exact nm_asc nst
  have hpk := t.at ipkA
  walk_at "st"
  obtain ⟨_, z8, out8⟩ := t.draw
  refine c_l_draw z8 (by omega) fun d1 H19 a0 a1 hs19 => ?_
  have t := out8 _ hs19
  have hpk := t.at ipkA
  walk_at "st"
  refine wp_ixLM (sq_of hpk) a0 (by omega) fun x1 hx1 _ => ?_
  obtain ⟨u, rfl, au⟩ := pasc x1 hx1
  walk_at "st"
  obtain ⟨_, z9, out9⟩ := t.draw
  refine c_l_draw z9 (by omega) fun d2 H20 c0 c1 hs20 => ?_
  have t := out9 _ hs20
  have hpk := t.at ipkA
  walk_at "st"
  refine wp_ixLM (sq_of hpk) c0 (by omega) fun x2 hx2 _ => ?_
  obtain ⟨v, rfl, av⟩ := pasc x2 hx2
  walk_at "st"
  refine ⟨by simp [sizeLine_eq], fun q7 v9 => ?_⟩
  obtain ⟨g8, t, s78, i7⟩ := t.new' (.lst [sv u, sv v]) v9
  obtain ⟨_, hLx⟩ := t.hL
  walk_at "st"
  refine ⟨by simp [sizeLine_eq], fun q8 v10 => ?_⟩
  obtain ⟨g9, t, s89, i8⟩ := t.new' (.lst [.str (S Y_with)]) v10
  walk_at "st"
  refine wp_cat (t.sub i8) (t.sub (s89 _ _ i7)) (by simp) fun q9 v11 => ?_
  obtain ⟨g10, t, s910, i9⟩ := t.new' (.lst ([.str (S Y_with)] ++ [sv u, sv v])) v11
  walk_at "st"
  refine ⟨by simp [sizeLine_eq], fun q10 v12 => ?_⟩
  obtain ⟨g11, t, s1011, i10⟩ := t.new' (.lst [.int (-1), .int 0, .int 99, .int 100, .int 7]) v12
  walk_at "st"
  obtain ⟨_, z10, out10⟩ := t.draw
  refine c_l_draw z10 (by decide) fun d3 H21 e0 e1 hs21 => ?_
  have t := out10 _ hs21
  walk_at "st"
  refine wp_ixLI (cs := [-1, 0, 99, 100, 7]) (sq_of (t.sub i10)) e0 (by simp; omega) fun w _ => ?_
  walk_at "st"
  refine ⟨by simp [sizeLine_eq], fun q11 v13 => ?_⟩
  obtain ⟨g12, t, s1112, i11⟩ := t.new' (.lst [.int w]) v13
  walk_at "st"
  refine wp_cat (t.sub (s1112 _ _ (s1011 _ _ i9))) (t.sub i11) (by simp) fun q12 v14 => ?_
  obtain ⟨g13, t, s1213, i12⟩ := t.new' (.lst ([.str (S Y_with)] ++ [sv u, sv v] ++ [.int w])) v14
  walk_at "st"
  have s713 := ((((s78.trans s89).trans s910).trans s1011).trans s1112).trans s1213
  refine wp_cat (t.sub i12) (t.sub (s713 _ _ ib)) (by simp) fun q13 v15 => ?_
  walk_at "st"
  refine t.put (c := .wi ⟨u, v, lo2, hi2, w⟩) v15 (by omega) (ok_wi ⟨au, av⟩) fun g14 H22 t _ => ?_
  obtain ⟨xs, cs2, lc, cr, s0, hl⟩ := t.ex
  have hL22 := lc.h
  walk_at "st"
  refine loopL (sq_of hL22) (fun i σ' H' => ∃ x, σ' = [some (.ref a), some (.ref P.p), some (.int T), some (.ref q), some (.ref s2), some (.ref pk), some (.ref n), some (.int ss2.length), some (.ref L), some (.int m2), some (.int m3), some (.ref pb2), some (.ref q7), x] ∧ Same H22 H') ⟨_, rfl, Same.refl _⟩ ?_ ?_ ?_
  · rintro i σ' H' _ ⟨x, rfl, sx⟩
    exact sq_of (sx _ _ hL22)
  · rintro i y σ' H' hy ⟨x, rfl, sx⟩
    obtain ⟨p, c, rfl, hp, okc⟩ := cr.at hy
    have up : Same GA H' := (s0.trans lc.s.sub).trans sx
    walk_at "st"
    refine c_l_holds (bd.mono up) (up _ _ hqA) (up _ _ hssA) (sx _ _ (lc.s.sub _ _ hp)) okc fun H23 s23 => ?_
    have up2 := up.trans s23
    have bd2 := bd.mono up2
    walk_at "st"
    refine c_Net_spans bd2.n fun p2 hp2 => ?_
    have s24 := Same.new (o := .lst ss2) hp2
    have rr := bd2.r.mono s24
    walk_at "st"
    refine c_l_same (sm_rws upd_same (s24 _ _ (up2 _ _ hssA)) rr rr (by omega)) fun H25 s25 => ?_
    walk_at "st"
    exact ⟨_, rfl, ((sx.trans s23).trans s24).trans s25⟩
  · rintro σ' H' ⟨x, rfl, _⟩
    walk_at "st"
    exact k _
theorem len_law (K : PySem.W.Frag) (vs : List V) (H : Hp) (Q : VK) (E : XK) (h : sp_law K vs H Q E) : vs.length = 1 := by
  obtain ⟨a, ns, rfl, _⟩ := h
  rfl
structure Txt (K : PySem.W.Frag) (mg : Str → Option Value) : Prop where
  f_len : mg "len" = none
  f_list : mg "list" = none
  cls_Net : Cls K (C_Net K)
  na_Net__round_length : NoAttr K (C_Net K) "_round_length"
  na_Net__events : NoAttr K (C_Net K) "_events"
  na_Net__spans : NoAttr K (C_Net K) "_spans"
  g_Net : mg "Net" = some (.ref (C_Net K))
  rd_Net : ClX.CRead K (C_Net K) (.type "type")
  cv_Net_EVENTS : ∃ u, ClX.CVal K (C_Net K) (.type "type") "EVENTS" (.int 12) u
  f_enumerate : mg "enumerate" = none
  cv_Net_SPANS : ∃ u, ClX.CVal K (C_Net K) (.type "type") "SPANS" (.int 24) u
  cv_Net_LONGEST : ∃ u, ClX.CVal K (C_Net K) (.type "type") "LONGEST" (.int 120) u
  cv_Net_SHORTEST : ∃ u, ClX.CVal K (C_Net K) (.type "type") "SHORTEST" (.int 3) u
  g_BadNumber : mg "BadNumber" = some (.ref (C_BadNumber K))
  ox_BadNumber : OexC K (C_BadNumber K)
  na_BadNumber_number : NoAttr K (C_BadNumber K) "number"
  g_TooMany : mg "TooMany" = some (.ref (C_TooMany K))
  ox_TooMany : OexC K (C_TooMany K)
  na_TooMany_count : NoAttr K (C_TooMany K) "count"
  na_TooMany_limit : NoAttr K (C_TooMany K) "limit"
  g_DoubleEvent : mg "DoubleEvent" = some (.ref (C_DoubleEvent K))
  ox_DoubleEvent : OexC K (C_DoubleEvent K)
  na_DoubleEvent_name : NoAttr K (C_DoubleEvent K) "name"
  g_BadName : mg "BadName" = some (.ref (C_BadName K))
  ox_BadName : OexC K (C_BadName K)
  na_BadName_name : NoAttr K (C_BadName K) "name"
  c_LONGEST_NAME : ∃ u, mg "LONGEST_NAME" = some u ∧ RelV (.int 8) u
  c_LETTERS : ∃ u, mg "LETTERS" = some u ∧ RelV (.str (S Z26)) u
  c_DIGITS : ∃ u, mg "DIGITS" = some u ∧ RelV (.str (S Z10)) u
  f_all : mg "all" = none
  g_SameEvent : mg "SameEvent" = some (.ref (C_SameEvent K))
  ox_SameEvent : OexC K (C_SameEvent K)
  na_SameEvent_name : NoAttr K (C_SameEvent K) "name"
  cv_Net_HEAVIEST : ∃ u, ClX.CVal K (C_Net K) (.type "type") "HEAVIEST" (.int 99) u
  g_UnknownEvent : mg "UnknownEvent" = some (.ref (C_UnknownEvent K))
  ox_UnknownEvent : OexC K (C_UnknownEvent K)
  na_UnknownEvent_name : NoAttr K (C_UnknownEvent K) "name"
  f_int : mg "int" = none
  f_range : mg "range" = none
  f_str : mg "str" = none
  f_min : mg "min" = none
  f_max : mg "max" = none
  f_bool : mg "bool" = none
  f_isinstance : mg "isinstance" = none
  f_dict : mg "dict" = none
  f_tuple : mg "tuple" = none
  g_UnknownSpan : mg "UnknownSpan" = some (.ref (C_UnknownSpan K))
  ox_UnknownSpan : OexC K (C_UnknownSpan K)
  na_UnknownSpan_number : NoAttr K (C_UnknownSpan K) "number"
  g_MinuteError : mg "MinuteError" = some (.ref (C_MinuteError K))
  g_WrongNames : mg "WrongNames" = some (.ref (C_WrongNames K))
  g_BrokenSpan : mg "BrokenSpan" = some (.ref (C_BrokenSpan K))
  f_ValueError : mg "ValueError" = none
  xf_BadNumber : XfC K (C_BadNumber K)
  xf_SameEvent : XfC K (C_SameEvent K)
  xf_TooMany : XfC K (C_TooMany K)
  xf_UnknownEvent : XfC K (C_UnknownEvent K)
  xf_UnknownSpan : XfC K (C_UnknownSpan K)
  xf : XFacts K exs
section
variable {P : Program} {w : World} {K : PySem.W.Frag} {mg : Str → Option Value} {base : Heap}
theorem sc_check_range : FnScope N_check_range ["number", "low", "high"] (defScope s_check_range) := ⟨rfl, rfl, rfl, by decide +kernel, rfl, by decide +kernel, by decide +kernel⟩
theorem ok_check_range {f : Addr} {fd : FuncData} (F : FunD K "check_range" "check_range" (defArgs s_check_range) (defBody s_check_range) (defScope s_check_range) [] [] f fd) (T : Txt K mg) (GX_BadNumber : XMk P w K mg base 1 "BadNumber" (C_BadNumber K) (spX (C_BadNumber K) ["number"])) : FnOk P w K mg base (L2.CX P w) 3 f fd ["number", "low", "high"] (sp_check_range K) := by
  refine F.ok sc_check_range (len_check_range K) (fun cdv A outer s H vs Q E hr h => ⟨t_check_range K E, ?_, pure_check_range K vs H Q E h⟩)
  exact (pss_one (ps_if (pt_not (pt_chain op_le op_le (pv 1) (pv 0) (pv 2))) (pss_one (ps_rs GX_BadNumber hr (by omega) rfl tkOf (by rfl) (pa_cons (pv 0) pa_nil))) pss_nil))
theorem sc_check_round_length : FnScope N_check_round_length ["round_length"] (defScope s_check_round_length) := ⟨rfl, rfl, rfl, by decide +kernel, rfl, by decide +kernel, by decide +kernel⟩
theorem ok_check_round_length {f : Addr} {fd : FuncData} (F : FunD K "check_round_length" "check_round_length" (defArgs s_check_round_length) (defBody s_check_round_length) (defScope s_check_round_length) [] [] f fd) (T : Txt K mg) (G_check_range : CalX P w K mg base (3) "check_range" (sp_check_range K) []) : FnOk P w K mg base (L2.CX P w) 4 f fd ["round_length"] (sp_check_round_length K) := by
  refine F.ok sc_check_round_length (len_check_round_length K) (fun cdv A outer s H vs Q E hr h => ⟨t_check_round_length K E, ?_, pure_check_round_length K vs H Q E h⟩)
  exact (pss_one (ps_expr (pe_cX G_check_range hr (by omega) (by rfl) pxOf (pa_cons (pv 0) (pa_cons (pe_cint (by rfl) T.g_Net T.rd_Net T.cv_Net_SHORTEST) (pa_cons (pe_cint (by rfl) T.g_Net T.rd_Net T.cv_Net_LONGEST) pa_nil))))))
theorem sc_check_count : FnScope N_check_count ["count", "limit"] (defScope s_check_count) := ⟨rfl, rfl, rfl, by decide +kernel, rfl, by decide +kernel, by decide +kernel⟩
theorem ok_check_count {f : Addr} {fd : FuncData} (F : FunD K "check_count" "check_count" (defArgs s_check_count) (defBody s_check_count) (defScope s_check_count) [] [] f fd) (T : Txt K mg) (GX_TooMany : XMk P w K mg base 1 "TooMany" (C_TooMany K) (spX (C_TooMany K) ["count", "limit"])) : FnOk P w K mg base (L2.CX P w) 3 f fd ["count", "limit"] (sp_check_count K) := by
  refine F.ok sc_check_count (len_check_count K) (fun cdv A outer s H vs Q E hr h => ⟨t_check_count K E, ?_, pure_check_count K vs H Q E h⟩)
  exact (pss_one (ps_if (pt_cmpR op_gt (pv 0) (pv 1) (nomark _)) (pss_one (ps_rs GX_TooMany hr (by omega) rfl tkOf (by rfl) (pa_cons (pv 0) (pa_cons (pv 1) pa_nil)))) pss_nil))
theorem sc_is_name : FnScope N_is_name ["text"] (defScope s_is_name) := ⟨rfl, rfl, rfl, by decide +kernel, rfl, by decide +kernel, by decide +kernel⟩
theorem ok_is_name {f : Addr} {fd : FuncData} (F : FunD K "is_name" "is_name" (defArgs s_is_name) (defBody s_is_name) (defScope s_is_name) [] [] f fd) (T : Txt K mg) : FnOk P w K mg base CX0 1 f fd ["text"] (sp_is_name K) := by
  refine F.ok sc_is_name (len_is_name K) (fun cdv A outer s H vs Q E hr h => ⟨t_is_name K, PSs.nox ?_, pure_is_name K vs H Q E h⟩)
  exact (pss_cons (ps_if (pt_not (pt_chain op_le op_le pe_int (pe_callB callLenStr (by rfl) T.f_len (by decide +kernel) (pa_cons (pv 0) pa_nil)) (C8.pe_gc (by rfl) T.c_LONGEST_NAME))) (pss_one (ps_ret pe_bl)) pss_nil)
    (pss_one (ps_ret (pe_and (pe_cmpR op_inS (pe_ix ix_str (pv 0) pe_int (fun _ _ => rfl)) (C8.pe_gc (by rfl) T.c_LETTERS) (by rfl)) (pe_one (pe_callB (cr_all rfl) (by rfl) T.f_all (by decide +kernel) (pa_cons (pe_lc (own := [("sign", 1)]) rfl sc_is_name.nd (pi_str (pv 0)) (blkOk_by (N := N_is_name) (sc := defScope s_is_name) (by decide +kernel)) (fun _ _ _ _ _ => (pg_name (i := 1) sc_is_name.nd rfl (Or.inl rfl))) (fun _ _ _ _ _ => pts_nil) (fun _ _ _ _ _ => (pe_or (pe_cmpR op_inS (pv 1) (C8.pe_gc (by rfl) T.c_LETTERS) (by rfl)) (pe_one (pe_cmpR op_inS (pv 1) (C8.pe_gc (by rfl) T.c_DIGITS) (by rfl)))))) pa_nil)))))))
theorem sc_check_name : FnScope N_check_name ["text"] (defScope s_check_name) := ⟨rfl, rfl, rfl, by decide +kernel, rfl, by decide +kernel, by decide +kernel⟩
theorem ok_check_name {f : Addr} {fd : FuncData} (F : FunD K "check_name" "check_name" (defArgs s_check_name) (defBody s_check_name) (defScope s_check_name) [] [] f fd) (T : Txt K mg) (GX_BadName : XMk P w K mg base 1 "BadName" (C_BadName K) (spX (C_BadName K) ["name"])) (G_is_name : C8.Cal P w K mg base (1) "is_name" (sp_is_name K) []) : FnOk P w K mg base (L2.CX P w) 3 f fd ["text"] (sp_check_name K) := by
  refine F.ok sc_check_name (len_check_name K) (fun cdv A outer s H vs Q E hr h => ⟨t_check_name K E, ?_, pure_check_name K vs H Q E h⟩)
  exact (pss_one (ps_if (pt_not (pt_val (C8.pe_c G_is_name hr (by omega) (by rfl) (pa_cons (pv 0) pa_nil)))) (pss_one (ps_rs GX_BadName hr (by omega) rfl tkOf (by rfl) (pa_cons (pv 0) pa_nil))) pss_nil))
theorem sc_check_event : FnScope N_check_event ["name", "before"] (defScope s_check_event) := ⟨rfl, rfl, rfl, by decide +kernel, rfl, by decide +kernel, by decide +kernel⟩
theorem ok_check_event {f : Addr} {fd : FuncData} (F : FunD K "check_event" "check_event" (defArgs s_check_event) (defBody s_check_event) (defScope s_check_event) [] [] f fd) (T : Txt K mg) (GX_DoubleEvent : XMk P w K mg base 1 "DoubleEvent" (C_DoubleEvent K) (spX (C_DoubleEvent K) ["name"])) (G_check_name : CalX P w K mg base (3) "check_name" (sp_check_name K) []) : FnOk P w K mg base (L2.CX P w) 4 f fd ["name", "before"] (sp_check_event K) := by
  refine F.ok sc_check_event (len_check_event K) (fun cdv A outer s H vs Q E hr h => ⟨t_check_event K E, ?_, pure_check_event K vs H Q E h⟩)
  exact (pss_cons (ps_expr (pe_cX G_check_name hr (by omega) (by rfl) pxOf (pa_cons (pv 0) pa_nil)))
    (pss_one (ps_if (pt_cmpR op_in_seq (pv 0) (pv 1) (by rfl)) (pss_one (ps_rs GX_DoubleEvent hr (by omega) rfl tkOf (by rfl) (pa_cons (pv 0) pa_nil))) pss_nil)))
theorem sc_check_known : FnScope N_check_known ["names", "known"] (defScope s_check_known) := ⟨rfl, rfl, rfl, by decide +kernel, rfl, by decide +kernel, by decide +kernel⟩
theorem ok_check_known {f : Addr} {fd : FuncData} (F : FunD K "check_known" "check_known" (defArgs s_check_known) (defBody s_check_known) (defScope s_check_known) [] [] f fd) (T : Txt K mg) (GX_UnknownEvent : XMk P w K mg base 1 "UnknownEvent" (C_UnknownEvent K) (spX (C_UnknownEvent K) ["name"])) : FnOk P w K mg base (L2.CX P w) 3 f fd ["names", "known"] (sp_check_known K) := by
  refine F.ok sc_check_known (len_check_known K) (fun cdv A outer s H vs Q E hr h => ⟨t_check_known K E, ?_, pure_check_known K vs H Q E h⟩)
  exact (pss_one (ps_for poOf rfl (pi_list (pv 0)) (pg_name (i := 2) sc_check_known.nd rfl (Or.inl rfl)) (pss_one (ps_if (pt_cmpR op_notIn_seq (pv 2) (pv 1) (by rfl)) (pss_one (ps_rs GX_UnknownEvent hr (by omega) rfl tkOf (by rfl) (pa_cons (pv 2) pa_nil))) pss_nil))))
theorem sc_check_span : FnScope N_check_span ["round_length", "events", "span"] (defScope s_check_span) := ⟨rfl, rfl, rfl, by decide +kernel, rfl, by decide +kernel, by decide +kernel⟩
theorem ok_check_span {f : Addr} {fd : FuncData} (F : FunD K "check_span" "check_span" (defArgs s_check_span) (defBody s_check_span) (defScope s_check_span) [] [] f fd) (T : Txt K mg) (GX_SameEvent : XMk P w K mg base 1 "SameEvent" (C_SameEvent K) (spX (C_SameEvent K) ["name"])) (G_check_range : CalX P w K mg base (3) "check_range" (sp_check_range K) []) (G_check_known : CalX P w K mg base (3) "check_known" (sp_check_known K) []) : FnOk P w K mg base (L2.CX P w) 4 f fd ["round_length", "events", "span"] (sp_check_span K) := by
  refine F.ok sc_check_span (len_check_span K) (fun cdv A outer s H vs Q E hr h => ⟨t_check_span K E, ?_, pure_check_span K vs H Q E h⟩)
  exact (pss_cons (ps_asg (pv 2) (pg_tup rfl (pgs_cons (pg_name (i := 3) sc_check_span.nd rfl (Or.inl rfl)) (pgs_cons (pg_name (i := 4) sc_check_span.nd rfl (Or.inl rfl)) (pgs_cons (pg_name (i := 5) sc_check_span.nd rfl (Or.inl rfl)) (pgs_cons (pg_name (i := 6) sc_check_span.nd rfl (Or.inl rfl)) (pgs_cons (pg_name (i := 7) sc_check_span.nd rfl (Or.inl rfl)) pgs_nil)))))))
    (pss_cons (ps_expr (pe_cX G_check_known hr (by omega) (by rfl) pxOf (pa_cons (pe_lst (pa_cons (pv 3) (pa_cons (pv 4) pa_nil))) (pa_cons (pv 1) pa_nil))))
    (pss_cons (ps_if (pt_cmpR op_eq (pv 3) (pv 4) (nomark _)) (pss_one (ps_rs GX_SameEvent hr (by omega) rfl tkOf (by rfl) (pa_cons (pv 3) pa_nil))) pss_nil)
    (pss_cons (ps_expr (pe_cX G_check_range hr (by omega) (by rfl) pxOf (pa_cons (pv 5) (pa_cons pe_int (pa_cons (pe_op op_sub (pv 0) pe_int) pa_nil)))))
    (pss_cons (ps_expr (pe_cX G_check_range hr (by omega) (by rfl) pxOf (pa_cons (pv 6) (pa_cons (pv 5) (pa_cons (pe_op op_sub (pe_op op_add (pv 5) (pv 0)) pe_int) pa_nil)))))
    (pss_one (ps_expr (pe_cX G_check_range hr (by omega) (by rfl) pxOf (pa_cons (pv 7) (pa_cons pe_int (pa_cons (pe_cint (by rfl) T.g_Net T.rd_Net T.cv_Net_HEAVIEST) pa_nil)))))))))))
theorem sc_check_net : FnScope N_check_net ["round_length", "events", "spans"] (defScope s_check_net) := ⟨rfl, rfl, rfl, by decide +kernel, rfl, by decide +kernel, by decide +kernel⟩
theorem ok_check_net {f : Addr} {fd : FuncData} (F : FunD K "check_net" "check_net" (defArgs s_check_net) (defBody s_check_net) (defScope s_check_net) [] [] f fd) (T : Txt K mg) (G_check_round_length : CalX P w K mg base (4) "check_round_length" (sp_check_round_length K) []) (G_check_count : CalX P w K mg base (3) "check_count" (sp_check_count K) []) (G_check_event : CalX P w K mg base (4) "check_event" (sp_check_event K) []) (G_check_span : CalX P w K mg base (4) "check_span" (sp_check_span K) []) : FnOk P w K mg base (L2.CX P w) 5 f fd ["round_length", "events", "spans"] (sp_check_net K) := by
  refine F.ok sc_check_net (len_check_net K) (fun cdv A outer s H vs Q E hr h => ⟨t_check_net K E, ?_, pure_check_net K vs H Q E h⟩)
  exact (pss_cons (ps_expr (pe_cX G_check_round_length hr (by omega) (by rfl) pxOf (pa_cons (pv 0) pa_nil)))
    (pss_cons (ps_expr (pe_cX G_check_count hr (by omega) (by rfl) pxOf (pa_cons (pe_callB callLenSeq (by rfl) T.f_len (by decide +kernel) (pa_cons (pv 1) pa_nil)) (pa_cons (pe_cint (by rfl) T.g_Net T.rd_Net T.cv_Net_EVENTS) pa_nil))))
    (pss_cons (ps_for poOf rfl (pi_enum rfl T.f_enumerate (pa_cons (pv 1) pa_nil)) (pg_tup rfl (pgs_cons (pg_name (i := 3) sc_check_net.nd rfl (Or.inl rfl)) (pgs_cons (pg_name (i := 4) sc_check_net.nd rfl (Or.inl rfl)) pgs_nil))) (pss_one (ps_expr (pe_cX G_check_event hr (by omega) (by rfl) pxOf (pa_cons (pv 4) (pa_cons (pe_slice sl_list (pv 1) po_none (po_some (pv 3))) pa_nil))))))
    (pss_cons (ps_expr (pe_cX G_check_count hr (by omega) (by rfl) pxOf (pa_cons (pe_callB callLenSeq (by rfl) T.f_len (by decide +kernel) (pa_cons (pv 2) pa_nil)) (pa_cons (pe_cint (by rfl) T.g_Net T.rd_Net T.cv_Net_SPANS) pa_nil))))
    (pss_one (ps_for poOf rfl (pi_list (pv 2)) (pg_name (i := 5) sc_check_net.nd rfl (Or.inl rfl)) (pss_one (ps_expr (pe_cX G_check_span hr (by omega) (by rfl) pxOf (pa_cons (pv 0) (pa_cons (pv 1) (pa_cons (pv 5) pa_nil))))))))))))
theorem sc_Net_init : FnScope N_Net_init ["self", "round_length", "events", "spans"] (defScope s_Net_init) := ⟨rfl, rfl, rfl, by decide +kernel, rfl, by decide +kernel, by decide +kernel⟩
theorem ok_Net_init {f : Addr} {fd : FuncData} (F : FunD K "__init__" "Net.__init__" (defArgs s_Net_init) (defBody s_Net_init) (defScope s_Net_init) [] [] f fd) (T : Txt K mg) (G_check_net : CalX P w K mg base (5) "check_net" (sp_check_net K) []) : FnOk P w K mg base (L2.CX P w) 6 f fd ["self", "round_length", "events", "spans"] (sp_Net_init K) := by
  refine F.ok sc_Net_init (len_Net_init K) (fun cdv A outer s H vs Q E hr h => ⟨t_Net_init K E, ?_, pure_Net_init K vs H Q E h⟩)
  exact (pss_cons (ps_expr (pe_cX G_check_net hr (by omega) (by rfl) pxOf (pa_cons (pv 1) (pa_cons (pv 2) (pa_cons (pv 3) pa_nil)))))
    (pss_cons (ps_fldC T.cls_Net T.na_Net__round_length (pv 0) (pv 1))
    (pss_cons (ps_fldC T.cls_Net T.na_Net__events (pv 0) (pe_callTy callListOf (by rfl) T.f_list (by decide +kernel) (pa_cons (pv 2) pa_nil)))
    (pss_one (ps_fldC T.cls_Net T.na_Net__spans (pv 0) (pe_callTy callListOf (by rfl) T.f_list (by decide +kernel) (pa_cons (pv 3) pa_nil)))))))
theorem sc_Net_spans : FnScope N_Net_spans ["self"] (defScope s_Net_spans) := ⟨rfl, rfl, rfl, by decide +kernel, rfl, by decide +kernel, by decide +kernel⟩
theorem ok_Net_spans {f : Addr} {fd : FuncData} (F : FunD K "spans" "Net.spans" (defArgs s_Net_spans) (defBody s_Net_spans) (defScope s_Net_spans) [] [] f fd) (T : Txt K mg) : FnOk P w K mg base CX0 1 f fd ["self"] (sp_Net_spans K) := by
  refine F.ok sc_Net_spans (len_Net_spans K) (fun cdv A outer s H vs Q E hr h => ⟨t_Net_spans K, PSs.nox ?_, pure_Net_spans K vs H Q E h⟩)
  exact (pss_one (ps_ret (pe_callTy callListOf (by rfl) T.f_list (by decide +kernel) (pa_cons (pe_fldC T.cls_Net T.na_Net__spans (pv 0)) pa_nil))))
theorem sc_l_pool : FnScope N_l_pool ["_law_script"] (defScope s_l_pool) := ⟨rfl, rfl, rfl, by decide +kernel, rfl, by decide +kernel, by decide +kernel⟩
theorem ok_l_pool {f : Addr} {fd : FuncData} (F : FunD K "_law_pool" "_law_pool" (defArgs s_l_pool) (defBody s_l_pool) (defScope s_l_pool) [] [] f fd) (T : Txt K mg) : FnOk P w K mg base CX0 1 f fd ["_law_script"] (sp_l_pool K) := by
  refine F.ok sc_l_pool (len_l_pool K) (fun cdv A outer s H vs Q E hr h => ⟨t_l_pool K, PSs.nox ?_, pure_l_pool K vs H Q E h⟩)
  exact (pss_cons (ps_setLc (i := 1) (own := [("_law_cell", 3)]) rfl sc_l_pool.nd rfl rfl (sw_true rfl rfl rfl (by decide +kernel)) (pi_list (pv 0)) (blkOk_by (N := N_l_pool) (sc := defScope s_l_pool) (by decide +kernel)) (fun _ _ _ _ _ => (pg_name (i := 3) sc_l_pool.nd rfl (Or.inl rfl))) (fun _ _ _ _ _ => pts_nil) (fun _ _ _ _ _ => (pe_callTy callInt1 (by rfl) T.f_int (by decide +kernel) (pa_cons (pv 3) pa_nil))))
    (pss_cons (ps_set (i := 2) sc_l_pool.nd rfl (Or.inl rfl) pe_int)
    (pss_cons (ps_if (PW.pt (pw_and (pt_cmpR op_gt (pe_callB callLenSeq (by rfl) T.f_len (by decide +kernel) (pa_cons (pv 1) pa_nil)) pe_int (nomark _)) (pw_and1 (pt_cmpR op_ge (pe_ix ix_list (pv 1) pe_int (fun _ _ => rfl)) (pe_op op_pow pe_int pe_int) (nomark _))))) (pss_one (ps_set (i := 2) sc_l_pool.nd rfl (Or.inl rfl) (pe_ix ix_list (pv 1) pe_int (fun _ _ => rfl)))) pss_nil)
    (pss_one (ps_ret (pe_lst (pa_cons (pv 2) (pa_cons pe_int (pa_cons (pv 1) pa_nil)))))))))
theorem sc_l_draw : FnScope N_l_draw ["_law_pool_here", "_law_many"] (defScope s_l_draw) := ⟨rfl, rfl, rfl, by decide +kernel, rfl, by decide +kernel, by decide +kernel⟩
theorem ok_l_draw {f : Addr} {fd : FuncData} (F : FunD K "_law_draw" "_law_draw" (defArgs s_l_draw) (defBody s_l_draw) (defScope s_l_draw) [] [] f fd) (T : Txt K mg) : FnOk P w K mg base CX0 1 f fd ["_law_pool_here", "_law_many"] (sp_l_draw K) := by
  refine F.ok sc_l_draw (len_l_draw K) (fun cdv A outer s H vs Q E hr h => ⟨t_l_draw K, PSs.nox ?_, pure_l_draw K vs H Q E h⟩)
  exact (pss_cons (ps_if (pt_cmpR op_gt (pe_ix ix_list (pv 0) pe_int (fun _ _ => rfl)) pe_int (nomark _)) (pss_cons (ps_set (i := 2) sc_l_draw.nd rfl (Or.inl rfl) (pe_op op_mod (pe_callTy callInt1 (by rfl) T.f_int (by decide +kernel) (pa_cons (pe_ix ix_list (pv 0) pe_int (fun _ _ => rfl)) pa_nil)) (pv 1)))
    (pss_cons (ps_asg (pe_op op_fdiv (pe_ix ix_list (pv 0) pe_int (fun _ _ => rfl)) (pv 1)) (pg_sub (pv 0) pe_int set_list))
    (pss_one (ps_ret (pv 2))))) pss_nil)
    (pss_cons (ps_asg (pe_op op_add (pe_ix ix_list (pv 0) pe_int (fun _ _ => rfl)) pe_int) (pg_sub (pv 0) pe_int set_list))
    (pss_cons (ps_set (i := 3) sc_l_draw.nd rfl (Or.inl rfl) (pe_ix ix_list (pv 0) pe_int (fun _ _ => rfl)))
    (pss_cons (ps_set (i := 4) sc_l_draw.nd rfl (Or.inl rfl) pe_int)
    (pss_cons (ps_set (i := 5) sc_l_draw.nd rfl (Or.inl rfl) pe_int)
    (pss_cons (ps_if (pt_cmpR op_gt (pe_callB callLenSeq (by rfl) T.f_len (by decide +kernel) (pa_cons (pv 3) pa_nil)) pe_int (nomark _)) (pss_cons (ps_set (i := 4) sc_l_draw.nd rfl (Or.inl rfl) (pe_ix ix_list (pv 3) (pe_op op_mod (pe_callTy callInt1 (by rfl) T.f_int (by decide +kernel) (pa_cons (pe_ix ix_list (pv 0) pe_int (fun _ _ => rfl)) pa_nil)) (pe_callB callLenSeq (by rfl) T.f_len (by decide +kernel) (pa_cons (pv 3) pa_nil))) (fun _ _ => rfl)))
    (pss_one (ps_set (i := 5) sc_l_draw.nd rfl (Or.inl rfl) (pe_ix ix_list (pv 3) pe_int (fun _ _ => rfl))))) pss_nil)
    (pss_cons (ps_set (i := 6) sc_l_draw.nd rfl (Or.inl rfl) (pe_op op_mod (pe_callTy callInt1 (by rfl) T.f_int (by decide +kernel) (pa_cons (pe_op op_add (pe_op op_add (pe_op op_add (pe_op op_mul (pv 4) pe_int) (pe_op op_mul (pv 5) pe_int)) (pe_op op_mul (pe_ix ix_list (pv 0) pe_int (fun _ _ => rfl)) pe_int)) pe_int) pa_nil)) pe_int))
    (pss_cons (ps_set (i := 6) sc_l_draw.nd rfl (Or.inl rfl) (pe_op op_mod (pe_callTy callInt1 (by rfl) T.f_int (by decide +kernel) (pa_cons (pe_op op_add (pe_op op_add (pe_op op_mul (pv 6) (pv 6)) (pe_op op_mul (pv 6) pe_int)) (pe_op op_mul (pe_ix ix_list (pv 0) pe_int (fun _ _ => rfl)) pe_int)) pa_nil)) pe_int))
    (pss_one (ps_ret (pe_op op_mod (pe_callTy callInt1 (by rfl) T.f_int (by decide +kernel) (pa_cons (pe_op op_fdiv (pv 6) pe_int) pa_nil)) (pv 1))))))))))))
theorem sc_l_word : FnScope N_l_word ["_law_pool_here", "_law_size_here"] (defScope s_l_word) := ⟨rfl, rfl, rfl, by decide +kernel, rfl, by decide +kernel, by decide +kernel⟩
theorem ok_l_word {f : Addr} {fd : FuncData} (F : FunD K "_law_word" "_law_word" (defArgs s_l_word) (defBody s_l_word) (defScope s_l_word) [] [] f fd) (T : Txt K mg) (G_l_draw : C8.Cal P w K mg base (1) "_law_draw" (sp_l_draw K) []) : FnOk P w K mg base CX0 2 f fd ["_law_pool_here", "_law_size_here"] (sp_l_word K) := by
  refine F.ok sc_l_word (len_l_word K) (fun cdv A outer s H vs Q E hr h => ⟨t_l_word K, PSs.nox ?_, pure_l_word K vs H Q E h⟩)
  exact (pss_cons (ps_set (i := 2) sc_l_word.nd rfl (Or.inl rfl) (pe_strS (by decide +kernel)))
    (pss_cons (ps_set (i := 3) sc_l_word.nd rfl (Or.inl rfl) (pe_strS (by decide +kernel)))
    (pss_cons (ps_for PassesOwn.never rfl (pi_range1 rfl T.f_range (pa_cons (pv 1) pa_nil)) (pg_name (i := 4) sc_l_word.nd rfl (Or.inl rfl)) (pss_one (ps_set (i := 3) sc_l_word.nd rfl (Or.inl rfl) (pe_op opAddStr (pv 3) (pe_ix ix_str (pv 2) (C8.pe_c G_l_draw hr (by omega) (by rfl) (pa_cons (pv 0) (pa_cons pe_int pa_nil))) (fun _ _ => rfl))))))
    (pss_one (ps_ret (pv 3))))))
theorem sc_l_names : FnScope N_l_names ["_law_pool_here", "_law_many"] (defScope s_l_names) := ⟨rfl, rfl, rfl, by decide +kernel, rfl, by decide +kernel, by decide +kernel⟩
theorem ok_l_names {f : Addr} {fd : FuncData} (F : FunD K "_law_names" "_law_names" (defArgs s_l_names) (defBody s_l_names) (defScope s_l_names) [] [] f fd) (T : Txt K mg) (G_l_draw : C8.Cal P w K mg base (1) "_law_draw" (sp_l_draw K) []) (G_l_word : C8.Cal P w K mg base (2) "_law_word" (sp_l_word K) []) : FnOk P w K mg base CX0 3 f fd ["_law_pool_here", "_law_many"] (sp_l_names K) := by
  refine F.ok sc_l_names (len_l_names K) (fun cdv A outer s H vs Q E hr h => ⟨t_l_names K, PSs.nox ?_, pure_l_names K vs H Q E h⟩)
  exact (pss_cons (ps_set (i := 2) sc_l_names.nd rfl (Or.inl rfl) (pe_strS (by decide +kernel)))
    (pss_cons (ps_set (i := 3) sc_l_names.nd rfl (Or.inl rfl) (pe_strS (by decide +kernel)))
    (pss_cons (ps_set (i := 4) sc_l_names.nd rfl (Or.inl rfl) (C8.pe_c G_l_draw hr (by omega) (by rfl) (pa_cons (pv 0) (pa_cons pe_int pa_nil))))
    (pss_cons (ps_set (i := 5) sc_l_names.nd rfl (Or.inl rfl) (pe_op opAddStr (pe_ix ix_str (pv 2) (C8.pe_c G_l_draw hr (by omega) (by rfl) (pa_cons (pv 0) (pa_cons pe_int pa_nil))) (fun _ _ => rfl)) (C8.pe_c G_l_word hr (by omega) (by rfl) (pa_cons (pv 0) (pa_cons (C8.pe_c G_l_draw hr (by omega) (by rfl) (pa_cons (pv 0) (pa_cons pe_int pa_nil))) pa_nil)))))
    (pss_cons (ps_set (i := 6) sc_l_names.nd rfl (Or.inl rfl) (C8.pe_c G_l_word hr (by omega) (by rfl) (pa_cons (pv 0) (pa_cons (C8.pe_c G_l_draw hr (by omega) (by rfl) (pa_cons (pv 0) (pa_cons pe_int pa_nil))) pa_nil))))
    (pss_cons (ps_set (i := 7) sc_l_names.nd rfl (Or.inl rfl) (C8.pe_c G_l_draw hr (by omega) (by rfl) (pa_cons (pv 0) (pa_cons pe_int pa_nil))))
    (pss_cons (ps_set (i := 8) sc_l_names.nd rfl (Or.inl rfl) (pe_lst pa_nil))
    (pss_cons (ps_for PassesOwn.never rfl (pi_range1 rfl T.f_range (pa_cons (pv 1) pa_nil)) (pg_name (i := 9) sc_l_names.nd rfl (Or.inl rfl)) (pss_cons (ps_set (i := 10) sc_l_names.nd rfl (Or.inl rfl) (pe_op opAddStr (pe_op opAddStr (pv 5) (pe_ix ix_str (pv 3) (pe_op op_mod (pe_callTy callInt1 (by rfl) T.f_int (by decide +kernel) (pa_cons (pe_op op_add (pv 7) (pe_op op_mul pe_int (pv 9))) pa_nil)) pe_int) (fun _ _ => rfl))) (pv 6)))
    (C8.pss_cut (ps_if (pt_cmpR op_eq (pv 4) pe_int (nomark _)) (pss_one (ps_set (i := 10) sc_l_names.nd rfl (Or.inl rfl) (pe_op opAddStr (pe_ix ix_str (pv 2) (pe_op op_mod (pe_callTy callInt1 (by rfl) T.f_int (by decide +kernel) (pa_cons (pe_op op_add (pv 7) (pe_op op_mul pe_int (pv 9))) pa_nil)) pe_int) (fun _ _ => rfl)) (C8.pe_c G_l_word hr (by omega) (by rfl) (pa_cons (pv 0) (pa_cons (C8.pe_c G_l_draw hr (by omega) (by rfl) (pa_cons (pv 0) (pa_cons pe_int pa_nil))) pa_nil)))))) pss_nil)
    (C8.pss_cut (ps_if (pt_cmpR op_eq (pv 4) pe_int (nomark _)) (pss_one (ps_set (i := 10) sc_l_names.nd rfl (Or.inl rfl) (pe_op opAddStr (pe_ix ix_str (pv 2) (C8.pe_c G_l_draw hr (by omega) (by rfl) (pa_cons (pv 0) (pa_cons pe_int pa_nil))) (fun _ _ => rfl)) (C8.pe_c G_l_word hr (by omega) (by rfl) (pa_cons (pv 0) (pa_cons (C8.pe_c G_l_draw hr (by omega) (by rfl) (pa_cons (pv 0) (pa_cons pe_int pa_nil))) pa_nil)))))) pss_nil)
    (pss_cons (ps_for PassesOwn.never rfl (pi_range1 rfl T.f_range (pa_cons pe_int pa_nil)) (pg_name (i := 11) sc_l_names.nd rfl (Or.inl rfl)) (pss_one (ps_if (PW.pt (pw_and (pt_cmpR op_in_seq (pv 10) (pv 8) (by rfl)) (pw_and1 (pt_cmpR op_notIn_seq (pe_op opAddStr (pe_strS (by decide +kernel)) (pe_callTy callStrInt (by rfl) T.f_str (by decide +kernel) (pa_cons (pv 11) pa_nil))) (pv 8) (by rfl))))) (pss_one (ps_set (i := 10) sc_l_names.nd rfl (Or.inl rfl) (pe_op opAddStr (pe_strS (by decide +kernel)) (pe_callTy callStrInt (by rfl) T.f_str (by decide +kernel) (pa_cons (pv 11) pa_nil))))) pss_nil)))
    (pss_one (ps_expr (pe_bm PySem.F.plainAttrs_list PySem.F.slot_list_append PySem.F.type_list_append mt_append (pv 8) (pa_cons (pv 10) pa_nil)))))))))
    (pss_one (ps_ret (pv 8)))))))))))
theorem sc_l_stranger : FnScope N_l_stranger ["_law_pool_here", "_law_names_here"] (defScope s_l_stranger) := ⟨rfl, rfl, rfl, by decide +kernel, rfl, by decide +kernel, by decide +kernel⟩
theorem ok_l_stranger {f : Addr} {fd : FuncData} (F : FunD K "_law_stranger" "_law_stranger" (defArgs s_l_stranger) (defBody s_l_stranger) (defScope s_l_stranger) [] [] f fd) (T : Txt K mg) (G_l_draw : C8.Cal P w K mg base (1) "_law_draw" (sp_l_draw K) []) (G_l_word : C8.Cal P w K mg base (2) "_law_word" (sp_l_word K) []) : FnOk P w K mg base CX0 3 f fd ["_law_pool_here", "_law_names_here"] (sp_l_stranger K) := by
  refine F.ok sc_l_stranger (len_l_stranger K) (fun cdv A outer s H vs Q E hr h => ⟨t_l_stranger K, PSs.nox ?_, pure_l_stranger K vs H Q E h⟩)
  exact (pss_cons (ps_set (i := 2) sc_l_stranger.nd rfl (Or.inl rfl) (pe_op opAddStr (pe_strS (by decide +kernel)) (C8.pe_c G_l_word hr (by omega) (by rfl) (pa_cons (pv 0) (pa_cons (C8.pe_c G_l_draw hr (by omega) (by rfl) (pa_cons (pv 0) (pa_cons pe_int pa_nil))) pa_nil)))))
    (C8.pss_cut (ps_if (PW.pt (pw_and (pt_cmpR op_gt (pe_callB callLenSeq (by rfl) T.f_len (by decide +kernel) (pa_cons (pv 1) pa_nil)) pe_int (nomark _)) (pw_and1 (pt_cmpR op_eq (C8.pe_c G_l_draw hr (by omega) (by rfl) (pa_cons (pv 0) (pa_cons pe_int pa_nil))) pe_int (nomark _))))) (pss_one (ps_set (i := 2) sc_l_stranger.nd rfl (Or.inl rfl) (pe_op opAddStr (pe_slice sl_str (pe_ix ix_list (pv 1) (C8.pe_c G_l_draw hr (by omega) (by rfl) (pa_cons (pv 0) (pa_cons (pe_callB callLenSeq (by rfl) T.f_len (by decide +kernel) (pa_cons (pv 1) pa_nil)) pa_nil))) (fun _ _ => rfl)) po_none (po_some pe_int)) (pe_strS (by decide +kernel))))) pss_nil)
    (pss_cons (ps_for PassesOwn.never rfl (pi_range1 rfl T.f_range (pa_cons pe_int pa_nil)) (pg_name (i := 3) sc_l_stranger.nd rfl (Or.inl rfl)) (pss_one (ps_if (PW.pt (pw_and (pt_cmpR op_in_seq (pv 2) (pv 1) (by rfl)) (pw_and1 (pt_cmpR op_notIn_seq (pe_op opAddStr (pe_strS (by decide +kernel)) (pe_callTy callStrInt (by rfl) T.f_str (by decide +kernel) (pa_cons (pv 3) pa_nil))) (pv 1) (by rfl))))) (pss_one (ps_set (i := 2) sc_l_stranger.nd rfl (Or.inl rfl) (pe_op opAddStr (pe_strS (by decide +kernel)) (pe_callTy callStrInt (by rfl) T.f_str (by decide +kernel) (pa_cons (pv 3) pa_nil))))) pss_nil)))
    (pss_one (ps_ret (pv 2))))))
theorem sc_l_length : FnScope N_l_length ["_law_pool_here", "_law_limit"] (defScope s_l_length) := ⟨rfl, rfl, rfl, by decide +kernel, rfl, by decide +kernel, by decide +kernel⟩
theorem ok_l_length {f : Addr} {fd : FuncData} (F : FunD K "_law_length" "_law_length" (defArgs s_l_length) (defBody s_l_length) (defScope s_l_length) [] [] f fd) (T : Txt K mg) (G_l_draw : C8.Cal P w K mg base (1) "_law_draw" (sp_l_draw K) []) : FnOk P w K mg base CX0 2 f fd ["_law_pool_here", "_law_limit"] (sp_l_length K) := by
  refine F.ok sc_l_length (len_l_length K) (fun cdv A outer s H vs Q E hr h => ⟨t_l_length K, PSs.nox ?_, pure_l_length K vs H Q E h⟩)
  exact (pss_cons (ps_set (i := 2) sc_l_length.nd rfl (Or.inl rfl) (C8.pe_c G_l_draw hr (by omega) (by rfl) (pa_cons (pv 0) (pa_cons pe_int pa_nil))))
    (pss_cons (ps_if (pt_cmpR op_lt (pv 2) pe_int (nomark _)) (pss_one (ps_ret (pe_op op_add pe_int (C8.pe_c G_l_draw hr (by omega) (by rfl) (pa_cons (pv 0) (pa_cons pe_int pa_nil)))))) pss_nil)
    (pss_cons (ps_if (pt_cmpR op_lt (pv 2) pe_int (nomark _)) (pss_one (ps_ret (pe_callB (callMin2 rfl) (by rfl) T.f_min (by decide +kernel) (pa_cons (pv 1) (pa_cons (pe_op op_add pe_int (C8.pe_c G_l_draw hr (by omega) (by rfl) (pa_cons (pv 0) (pa_cons pe_int pa_nil)))) pa_nil))))) pss_nil)
    (pss_one (ps_ret (pe_callB (callMax2 rfl) (by rfl) T.f_max (by decide +kernel) (pa_cons pe_int (pa_cons (pe_op op_sub (pv 1) (C8.pe_c G_l_draw hr (by omega) (by rfl) (pa_cons (pv 0) (pa_cons (pv 1) pa_nil)))) pa_nil))))))))
theorem sc_l_size : FnScope N_l_size ["_law_pool_here", "_law_limit"] (defScope s_l_size) := ⟨rfl, rfl, rfl, by decide +kernel, rfl, by decide +kernel, by decide +kernel⟩
theorem ok_l_size {f : Addr} {fd : FuncData} (F : FunD K "_law_size" "_law_size" (defArgs s_l_size) (defBody s_l_size) (defScope s_l_size) [] [] f fd) (T : Txt K mg) (G_l_draw : C8.Cal P w K mg base (1) "_law_draw" (sp_l_draw K) []) : FnOk P w K mg base CX0 2 f fd ["_law_pool_here", "_law_limit"] (sp_l_size K) := by
  refine F.ok sc_l_size (len_l_size K) (fun cdv A outer s H vs Q E hr h => ⟨t_l_size K, PSs.nox ?_, pure_l_size K vs H Q E h⟩)
  exact (pss_cons (ps_set (i := 2) sc_l_size.nd rfl (Or.inl rfl) (C8.pe_c G_l_draw hr (by omega) (by rfl) (pa_cons (pv 0) (pa_cons pe_int pa_nil))))
    (pss_cons (ps_if (pt_cmpR op_eq (pv 2) pe_int (nomark _)) (pss_one (ps_ret (pv 1))) pss_nil)
    (pss_cons (ps_if (pt_cmpR op_eq (pv 2) pe_int (nomark _)) (pss_one (ps_ret (pe_callB (callMin2 rfl) (by rfl) T.f_min (by decide +kernel) (pa_cons (pv 1) (pa_cons (C8.pe_c G_l_draw hr (by omega) (by rfl) (pa_cons (pv 0) (pa_cons pe_int pa_nil))) pa_nil))))) pss_nil)
    (pss_one (ps_ret (C8.pe_c G_l_draw hr (by omega) (by rfl) (pa_cons (pv 0) (pa_cons (pe_op op_add (pv 1) pe_int) pa_nil))))))))
theorem sc_l_some : FnScope N_l_some ["_law_pool_here", "_law_limit"] (defScope s_l_some) := ⟨rfl, rfl, rfl, by decide +kernel, rfl, by decide +kernel, by decide +kernel⟩
theorem ok_l_some {f : Addr} {fd : FuncData} (F : FunD K "_law_some" "_law_some" (defArgs s_l_some) (defBody s_l_some) (defScope s_l_some) [] [] f fd) (T : Txt K mg) (G_l_draw : C8.Cal P w K mg base (1) "_law_draw" (sp_l_draw K) []) : FnOk P w K mg base CX0 2 f fd ["_law_pool_here", "_law_limit"] (sp_l_some K) := by
  refine F.ok sc_l_some (len_l_some K) (fun cdv A outer s H vs Q E hr h => ⟨t_l_some K, PSs.nox ?_, pure_l_some K vs H Q E h⟩)
  exact (pss_cons (ps_set (i := 2) sc_l_some.nd rfl (Or.inl rfl) (C8.pe_c G_l_draw hr (by omega) (by rfl) (pa_cons (pv 0) (pa_cons pe_int pa_nil))))
    (pss_cons (ps_if (pt_cmpR op_eq (pv 2) pe_int (nomark _)) (pss_one (ps_ret (pv 1))) pss_nil)
    (pss_cons (ps_if (pt_cmpR op_eq (pv 2) pe_int (nomark _)) (pss_one (ps_ret (C8.pe_c G_l_draw hr (by omega) (by rfl) (pa_cons (pv 0) (pa_cons (pe_op op_add (pv 1) pe_int) pa_nil))))) pss_nil)
    (pss_one (ps_ret (C8.pe_c G_l_draw hr (by omega) (by rfl) (pa_cons (pv 0) (pa_cons (pe_op op_add (pe_callB (callMin2 rfl) (by rfl) T.f_min (by decide +kernel) (pa_cons (pv 1) (pa_cons pe_int pa_nil))) pe_int) pa_nil))))))))
theorem sc_l_weight : FnScope N_l_weight ["_law_pool_here"] (defScope s_l_weight) := ⟨rfl, rfl, rfl, by decide +kernel, rfl, by decide +kernel, by decide +kernel⟩
theorem ok_l_weight {f : Addr} {fd : FuncData} (F : FunD K "_law_weight" "_law_weight" (defArgs s_l_weight) (defBody s_l_weight) (defScope s_l_weight) [] [] f fd) (T : Txt K mg) (G_l_draw : C8.Cal P w K mg base (1) "_law_draw" (sp_l_draw K) []) : FnOk P w K mg base CX0 2 f fd ["_law_pool_here"] (sp_l_weight K) := by
  refine F.ok sc_l_weight (len_l_weight K) (fun cdv A outer s H vs Q E hr h => ⟨t_l_weight K, PSs.nox ?_, pure_l_weight K vs H Q E h⟩)
  exact (pss_cons (ps_set (i := 1) sc_l_weight.nd rfl (Or.inl rfl) (C8.pe_c G_l_draw hr (by omega) (by rfl) (pa_cons (pv 0) (pa_cons pe_int pa_nil))))
    (pss_cons (ps_if (pt_cmpR op_eq (pv 1) pe_int (nomark _)) (pss_one (ps_ret (C8.pe_c G_l_draw hr (by omega) (by rfl) (pa_cons (pv 0) (pa_cons pe_int pa_nil))))) pss_nil)
    (pss_cons (ps_if (pt_cmpR op_eq (pv 1) pe_int (nomark _)) (pss_one (ps_ret pe_int)) pss_nil)
    (pss_one (ps_ret (C8.pe_c G_l_draw hr (by omega) (by rfl) (pa_cons (pv 0) (pa_cons pe_int pa_nil))))))))
theorem sc_l_span : FnScope N_l_span ["_law_pool_here", "_law_length_here", "_law_names_here"] (defScope s_l_span) := ⟨rfl, rfl, rfl, by decide +kernel, rfl, by decide +kernel, by decide +kernel⟩
theorem ok_l_span {f : Addr} {fd : FuncData} (F : FunD K "_law_span" "_law_span" (defArgs s_l_span) (defBody s_l_span) (defScope s_l_span) [] [] f fd) (T : Txt K mg) (G_l_draw : C8.Cal P w K mg base (1) "_law_draw" (sp_l_draw K) []) (G_l_some : C8.Cal P w K mg base (2) "_law_some" (sp_l_some K) []) (G_l_weight : C8.Cal P w K mg base (2) "_law_weight" (sp_l_weight K) []) : FnOk P w K mg base CX0 3 f fd ["_law_pool_here", "_law_length_here", "_law_names_here"] (sp_l_span K) := by
  refine F.ok sc_l_span (len_l_span K) (fun cdv A outer s H vs Q E hr h => ⟨t_l_span K, PSs.nox ?_, pure_l_span K vs H Q E h⟩)
  exact (pss_cons (ps_set (i := 3) sc_l_span.nd rfl (Or.inl rfl) (C8.pe_c G_l_draw hr (by omega) (by rfl) (pa_cons (pv 0) (pa_cons (pe_callB callLenSeq (by rfl) T.f_len (by decide +kernel) (pa_cons (pv 2) pa_nil)) pa_nil))))
    (pss_cons (ps_set (i := 4) sc_l_span.nd rfl (Or.inl rfl) (pe_op op_mod (pe_callTy callInt1 (by rfl) T.f_int (by decide +kernel) (pa_cons (pe_op op_add (pe_op op_add (pv 3) pe_int) (C8.pe_c G_l_draw hr (by omega) (by rfl) (pa_cons (pv 0) (pa_cons (pe_op op_sub (pe_callB callLenSeq (by rfl) T.f_len (by decide +kernel) (pa_cons (pv 2) pa_nil)) pe_int) pa_nil)))) pa_nil)) (pe_callB callLenSeq (by rfl) T.f_len (by decide +kernel) (pa_cons (pv 2) pa_nil))))
    (pss_cons (ps_set (i := 5) sc_l_span.nd rfl (Or.inl rfl) (C8.pe_c G_l_some hr (by omega) (by rfl) (pa_cons (pv 0) (pa_cons (pe_op op_sub (pv 1) pe_int) pa_nil))))
    (pss_cons (ps_set (i := 6) sc_l_span.nd rfl (Or.inl rfl) (pe_op op_add (pv 5) (C8.pe_c G_l_some hr (by omega) (by rfl) (pa_cons (pv 0) (pa_cons (pe_op op_sub (pv 1) pe_int) pa_nil)))))
    (pss_one (ps_ret (pe_tup (pa_cons (pe_ix ix_list (pv 2) (pv 3) (fun _ _ => rfl)) (pa_cons (pe_ix ix_list (pv 2) (pv 4) (fun _ _ => rfl)) (pa_cons (pv 5) (pa_cons (pv 6) (pa_cons (C8.pe_c G_l_weight hr (by omega) (by rfl) (pa_cons (pv 0) pa_nil)) pa_nil))))))))))))
theorem sc_l_spans : FnScope N_l_spans ["_law_pool_here", "_law_length_here", "_law_names_here", "_law_limit"] (defScope s_l_spans) := ⟨rfl, rfl, rfl, by decide +kernel, rfl, by decide +kernel, by decide +kernel⟩
theorem ok_l_spans {f : Addr} {fd : FuncData} (F : FunD K "_law_spans" "_law_spans" (defArgs s_l_spans) (defBody s_l_spans) (defScope s_l_spans) [] [] f fd) (T : Txt K mg) (G_l_draw : C8.Cal P w K mg base (1) "_law_draw" (sp_l_draw K) []) (G_l_size : C8.Cal P w K mg base (2) "_law_size" (sp_l_size K) []) (G_l_span : C8.Cal P w K mg base (3) "_law_span" (sp_l_span K) []) : FnOk P w K mg base CX0 4 f fd ["_law_pool_here", "_law_length_here", "_law_names_here", "_law_limit"] (sp_l_spans K) := by
  refine F.ok sc_l_spans (len_l_spans K) (fun cdv A outer s H vs Q E hr h => ⟨t_l_spans K, PSs.nox ?_, pure_l_spans K vs H Q E h⟩)
  exact (pss_cons (ps_set (i := 4) sc_l_spans.nd rfl (Or.inl rfl) (pe_lst pa_nil))
    (pss_cons (ps_if (pt_cmpR op_lt (pe_callB callLenSeq (by rfl) T.f_len (by decide +kernel) (pa_cons (pv 2) pa_nil)) pe_int (nomark _)) (pss_one (ps_ret (pv 4))) pss_nil)
    (pss_cons (ps_for PassesOwn.never rfl (pi_range1 rfl T.f_range (pa_cons (C8.pe_c G_l_size hr (by omega) (by rfl) (pa_cons (pv 0) (pa_cons (pv 3) pa_nil))) pa_nil)) (pg_name (i := 5) sc_l_spans.nd rfl (Or.inl rfl)) (pss_cons (ps_set (i := 6) sc_l_spans.nd rfl (Or.inl rfl) (C8.pe_c G_l_span hr (by omega) (by rfl) (pa_cons (pv 0) (pa_cons (pv 1) (pa_cons (pv 2) pa_nil)))))
    (C8.pss_cut (ps_if (PW.pt (pw_and (pt_cmpR op_gt (pe_callB callLenSeq (by rfl) T.f_len (by decide +kernel) (pa_cons (pv 4) pa_nil)) pe_int (nomark _)) (pw_and1 (pt_cmpR op_eq (C8.pe_c G_l_draw hr (by omega) (by rfl) (pa_cons (pv 0) (pa_cons pe_int pa_nil))) pe_int (nomark _))))) (pss_one (ps_set (i := 6) sc_l_spans.nd rfl (Or.inl rfl) (pe_ix ix_list (pv 4) (C8.pe_c G_l_draw hr (by omega) (by rfl) (pa_cons (pv 0) (pa_cons (pe_callB callLenSeq (by rfl) T.f_len (by decide +kernel) (pa_cons (pv 4) pa_nil)) pa_nil))) (fun _ _ => rfl)))) pss_nil)
    (pss_one (ps_expr (pe_bm PySem.F.plainAttrs_list PySem.F.slot_list_append PySem.F.type_list_append mt_append (pv 4) (pa_cons (pv 6) pa_nil)))))))
    (pss_one (ps_ret (pv 4))))))
theorem sc_l_is_int : FnScope N_l_is_int ["_law_thing"] (defScope s_l_is_int) := ⟨rfl, rfl, rfl, by decide +kernel, rfl, by decide +kernel, by decide +kernel⟩
theorem ok_l_is_int {f : Addr} {fd : FuncData} (F : FunD K "_law_is_int" "_law_is_int" (defArgs s_l_is_int) (defBody s_l_is_int) (defScope s_l_is_int) [] [] f fd) (T : Txt K mg) : FnOk P w K mg base CX0 1 f fd ["_law_thing"] (sp_l_is_int K) := by
  refine F.ok sc_l_is_int (len_l_is_int K) (fun cdv A outer s H vs Q E hr h => ⟨t_l_is_int K, PSs.nox ?_, pure_l_is_int K vs H Q E h⟩)
  exact (pss_one (ps_ret (pe_and (pe_callB call_isi (by rfl) T.f_isinstance (by decide +kernel) (pa_cons (pv 0) (pa_cons (pe_bltn (v := .ty "int") (by rfl) T.f_int (by decide +kernel) rfl) pa_nil))) (pe_one (pe_not (pe_callB call_isi (by rfl) T.f_isinstance (by decide +kernel) (pa_cons (pv 0) (pa_cons (pe_bltn (v := .ty "bool") (by rfl) T.f_bool (by decide +kernel) rfl) pa_nil))))))))
theorem sc_l_same : FnScope N_l_same ["_law_actual", "_law_due_here"] (defScope s_l_same) := ⟨rfl, rfl, rfl, by decide +kernel, rfl, by decide +kernel, by decide +kernel⟩
theorem ok0_l_same {f : Addr} {fd : FuncData} (F : FunD K "_law_same" "_law_same" (defArgs s_l_same) (defBody s_l_same) (defScope s_l_same) [] [] f fd) : FnOk P w K mg base CX0 (2 + 0) f fd ["_law_actual", "_law_due_here"] (sp_l_same K 0) := F.ok sc_l_same (fun _ _ _ _ h => (sp0_l_same K h).elim) (fun _ _ _ _ _ _ _ _ _ h => (sp0_l_same K h).elim)
theorem ok_l_same {f : Addr} {fd : FuncData} (F : FunD K "_law_same" "_law_same" (defArgs s_l_same) (defBody s_l_same) (defScope s_l_same) [] [] f fd) (T : Txt K mg) (G_l_is_int : C8.Cal P w K mg base (1) "_law_is_int" (sp_l_is_int K) []) (n : Nat) (G_l_same : C8.Cal P w K mg base (2 + n) "_law_same" (sp_l_same K n) []) : FnOk P w K mg base CX0 ((2 + n) + 1) f fd ["_law_actual", "_law_due_here"] (sp_l_same K (n + 1)) := by
  refine F.ok sc_l_same (len_l_same K (n + 1)) (fun cdv A outer s H vs Q E hr h => ⟨t_l_same K n, PSs.nox ?_, pure_l_same K n vs H Q E h⟩)
  exact (pss_cons (ps_if (pt_cmpR op_isN1 (pv 1) pe_non (nomark _)) (pss_one (ps_ret (pe_cmpR op_isN1 (pv 0) pe_non (nomark _)))) pss_nil)
    (pss_cons (ps_if (pt_val (pe_callB call_isi (by rfl) T.f_isinstance (by decide +kernel) (pa_cons (pv 1) (pa_cons (pe_bltn (v := .ty "bool") (by rfl) T.f_bool (by decide +kernel) rfl) pa_nil)))) (pss_one (ps_ret (pe_and (pe_callB call_isi (by rfl) T.f_isinstance (by decide +kernel) (pa_cons (pv 0) (pa_cons (pe_bltn (v := .ty "bool") (by rfl) T.f_bool (by decide +kernel) rfl) pa_nil))) (pe_one (pe_cmpR op_eq (pv 0) (pv 1) (nomark _)))))) pss_nil)
    (pss_cons (ps_if (pt_val (pe_callB call_isi (by rfl) T.f_isinstance (by decide +kernel) (pa_cons (pv 1) (pa_cons (pe_bltn (v := .ty "int") (by rfl) T.f_int (by decide +kernel) rfl) pa_nil)))) (pss_one (ps_ret (pe_and (C8.pe_c G_l_is_int hr (by omega) (by rfl) (pa_cons (pv 0) pa_nil)) (pe_one (pe_cmpR op_eq (pv 0) (pv 1) (nomark _)))))) pss_nil)
    (pss_cons (ps_if (pt_val (pe_callB call_isi (by rfl) T.f_isinstance (by decide +kernel) (pa_cons (pv 1) (pa_cons (pe_bltn (v := .ty "str") (by rfl) T.f_str (by decide +kernel) rfl) pa_nil)))) (pss_one (ps_ret (pe_and (pe_callB call_isi (by rfl) T.f_isinstance (by decide +kernel) (pa_cons (pv 0) (pa_cons (pe_bltn (v := .ty "str") (by rfl) T.f_str (by decide +kernel) rfl) pa_nil))) (pe_one (pe_cmpR op_eq (pv 0) (pv 1) (nomark _)))))) pss_nil)
    (pss_cons (ps_if (pt_val (pe_callB call_isi (by rfl) T.f_isinstance (by decide +kernel) (pa_cons (pv 1) (pa_cons (pe_bltn (v := .ty "dict") (by rfl) T.f_dict (by decide +kernel) rfl) pa_nil)))) (pss_cons ps_never
    (pss_cons ps_never
    (pss_one (ps_ret pe_bl)))) pss_nil)
    (pss_cons (ps_if (PW.pt (pw_and (pt_val (pe_callB call_isi (by rfl) T.f_isinstance (by decide +kernel) (pa_cons (pv 1) (pa_cons (pe_bltn (v := .ty "list") (by rfl) T.f_list (by decide +kernel) rfl) pa_nil)))) (pw_and1 (pt_not (pt_val (pe_callB call_isi (by rfl) T.f_isinstance (by decide +kernel) (pa_cons (pv 0) (pa_cons (pe_bltn (v := .ty "list") (by rfl) T.f_list (by decide +kernel) rfl) pa_nil)))))))) (pss_one (ps_ret pe_bl)) pss_nil)
    (pss_cons (ps_if (PW.pt (pw_and (pt_val (pe_callB call_isi (by rfl) T.f_isinstance (by decide +kernel) (pa_cons (pv 1) (pa_cons (pe_bltn (v := .ty "tuple") (by rfl) T.f_tuple (by decide +kernel) rfl) pa_nil)))) (pw_and1 (pt_not (pt_val (pe_callB call_isi (by rfl) T.f_isinstance (by decide +kernel) (pa_cons (pv 0) (pa_cons (pe_bltn (v := .ty "tuple") (by rfl) T.f_tuple (by decide +kernel) rfl) pa_nil)))))))) (pss_one (ps_ret pe_bl)) pss_nil)
    (pss_cons (ps_if (pt_cmpR op_ne (pe_callB callLenSeq (by rfl) T.f_len (by decide +kernel) (pa_cons (pv 0) pa_nil)) (pe_callB callLenSeq (by rfl) T.f_len (by decide +kernel) (pa_cons (pv 1) pa_nil)) (nomark _)) (pss_one (ps_ret pe_bl)) pss_nil)
    (pss_cons (ps_for PassesOwn.never rfl (pi_range1 rfl T.f_range (pa_cons (pe_callB callLenSeq (by rfl) T.f_len (by decide +kernel) (pa_cons (pv 1) pa_nil)) pa_nil)) (pg_name (i := 3) sc_l_same.nd rfl (Or.inl rfl)) (pss_one (ps_if (pt_not (pt_val (C8.pe_c G_l_same hr (by omega) (by rfl) (pa_cons (pe_ix ix_seq (pv 0) (pv 3) (fun _ _ => rfl)) (pa_cons (pe_ix ix_seq (pv 1) (pv 3) (fun _ _ => rfl)) pa_nil))))) (pss_one (ps_ret pe_bl)) pss_nil)))
    (pss_one (ps_ret pe_bl)))))))))))
theorem sc_l_filled : FnScope N_l_filled ["_law_spans_here"] (defScope s_l_filled) := ⟨rfl, rfl, rfl, by decide +kernel, rfl, by decide +kernel, by decide +kernel⟩
theorem ok_l_filled {f : Addr} {fd : FuncData} (F : FunD K "_law_filled" "_law_filled" (defArgs s_l_filled) (defBody s_l_filled) (defScope s_l_filled) [] [] f fd) (T : Txt K mg) : FnOk P w K mg base CX0 1 f fd ["_law_spans_here"] (sp_l_filled K) := by
  refine F.ok sc_l_filled (len_l_filled K) (fun cdv A outer s H vs Q E hr h => ⟨t_l_filled K, PSs.nox ?_, pure_l_filled K vs H Q E h⟩)
  exact (pss_cons (ps_set (i := 1) sc_l_filled.nd rfl (Or.inl rfl) (pe_callTy callListOf (by rfl) T.f_list (by decide +kernel) (pa_cons (pv 0) pa_nil)))
    (pss_cons (ps_for PassesOwn.never rfl (pi_range1 rfl T.f_range (pa_cons pe_int pa_nil)) (pg_name (i := 2) sc_l_filled.nd rfl (Or.inl rfl)) (pss_one (ps_if (pt_cmpR op_lt (pe_callB callLenSeq (by rfl) T.f_len (by decide +kernel) (pa_cons (pv 1) pa_nil)) pe_int (nomark _)) (pss_one (ps_expr (pe_bm PySem.F.plainAttrs_list PySem.F.slot_list_append PySem.F.type_list_append mt_append (pv 1) (pa_cons (pe_ix ix_list (pv 0) (pe_op op_mod (pe_callTy callInt1 (by rfl) T.f_int (by decide +kernel) (pa_cons (pv 2) pa_nil)) (pe_callB callLenSeq (by rfl) T.f_len (by decide +kernel) (pa_cons (pv 0) pa_nil))) (fun _ _ => rfl)) pa_nil)))) pss_nil)))
    (pss_one (ps_ret (pv 1)))))
theorem sc_l_number : FnScope N_l_number ["_law_pool_here", "_law_count"] (defScope s_l_number) := ⟨rfl, rfl, rfl, by decide +kernel, rfl, by decide +kernel, by decide +kernel⟩
theorem ok_l_number {f : Addr} {fd : FuncData} (F : FunD K "_law_number" "_law_number" (defArgs s_l_number) (defBody s_l_number) (defScope s_l_number) [] [] f fd) (T : Txt K mg) (G_l_draw : C8.Cal P w K mg base (1) "_law_draw" (sp_l_draw K) []) : FnOk P w K mg base CX0 2 f fd ["_law_pool_here", "_law_count"] (sp_l_number K) := by
  refine F.ok sc_l_number (len_l_number K) (fun cdv A outer s H vs Q E hr h => ⟨t_l_number K, PSs.nox ?_, pure_l_number K vs H Q E h⟩)
  exact (pss_cons (ps_if (PW.pt (pw_and (pt_cmpR op_gt (pv 1) pe_int (nomark _)) (pw_and1 (pt_cmpR op_gt (C8.pe_c G_l_draw hr (by omega) (by rfl) (pa_cons (pv 0) (pa_cons pe_int pa_nil))) pe_int (nomark _))))) (pss_one (ps_ret (C8.pe_c G_l_draw hr (by omega) (by rfl) (pa_cons (pv 0) (pa_cons (pv 1) pa_nil))))) pss_nil)
    (pss_cons (ps_set (i := 2) sc_l_number.nd rfl (Or.inl rfl) (pe_op op_sub (C8.pe_c G_l_draw hr (by omega) (by rfl) (pa_cons (pv 0) (pa_cons (pe_op op_add (pv 1) pe_int) pa_nil))) pe_int))
    (pss_cons (ps_if (pt_cmpR op_eq (pv 2) (pe_op op_add (pv 1) pe_int) (nomark _)) (pss_one (ps_ret (pe_op op_pow pe_int pe_int))) pss_nil)
    (pss_cons (ps_if (pt_cmpR op_eq (pv 2) (pe_op op_add (pv 1) pe_int) (nomark _)) (pss_one (ps_ret (pe_un un_neg (pe_op op_pow pe_int pe_int)))) pss_nil)
    (pss_one (ps_ret (pv 2)))))))
theorem sc_l_bounds : FnScope N_l_bounds ["_law_pool_here", "_law_length_here"] (defScope s_l_bounds) := ⟨rfl, rfl, rfl, by decide +kernel, rfl, by decide +kernel, by decide +kernel⟩
theorem ok_l_bounds {f : Addr} {fd : FuncData} (F : FunD K "_law_bounds" "_law_bounds" (defArgs s_l_bounds) (defBody s_l_bounds) (defScope s_l_bounds) [] [] f fd) (T : Txt K mg) (G_l_draw : C8.Cal P w K mg base (1) "_law_draw" (sp_l_draw K) []) (G_l_some : C8.Cal P w K mg base (2) "_law_some" (sp_l_some K) []) : FnOk P w K mg base CX0 3 f fd ["_law_pool_here", "_law_length_here"] (sp_l_bounds K) := by
  refine F.ok sc_l_bounds (len_l_bounds K) (fun cdv A outer s H vs Q E hr h => ⟨t_l_bounds K, PSs.nox ?_, pure_l_bounds K vs H Q E h⟩)
  exact (pss_cons (ps_set (i := 2) sc_l_bounds.nd rfl (Or.inl rfl) (C8.pe_c G_l_some hr (by omega) (by rfl) (pa_cons (pv 0) (pa_cons (pe_op op_sub (pv 1) pe_int) pa_nil))))
    (C8.pss_cut (ps_if (pt_cmpR op_eq (C8.pe_c G_l_draw hr (by omega) (by rfl) (pa_cons (pv 0) (pa_cons pe_int pa_nil))) pe_int (nomark _)) (pss_one (ps_set (i := 2) sc_l_bounds.nd rfl (Or.inl rfl) (pe_ix ix_list (pe_lst (pa_cons (pe_un un_neg pe_int) (pa_cons pe_int (pa_cons (pe_op op_sub (pv 1) pe_int) (pa_cons (pv 1) pa_nil))))) (C8.pe_c G_l_draw hr (by omega) (by rfl) (pa_cons (pv 0) (pa_cons pe_int pa_nil))) (fun _ _ => rfl)))) pss_nil)
    (pss_cons (ps_set (i := 3) sc_l_bounds.nd rfl (Or.inl rfl) (pe_ix ix_list (pe_lst (pa_cons (pe_op op_sub (pv 2) pe_int) (pa_cons (pv 2) (pa_cons (pe_op op_sub (pe_op op_add (pv 2) (pv 1)) pe_int) (pa_cons (pe_op op_sub (pe_op op_add (pv 2) (pv 1)) pe_int) pa_nil))))) (C8.pe_c G_l_draw hr (by omega) (by rfl) (pa_cons (pv 0) (pa_cons pe_int pa_nil))) (fun _ _ => rfl)))
    (C8.pss_cut (ps_if (pt_cmpR op_eq (C8.pe_c G_l_draw hr (by omega) (by rfl) (pa_cons (pv 0) (pa_cons pe_int pa_nil))) pe_int (nomark _)) (pss_one (ps_set (i := 3) sc_l_bounds.nd rfl (Or.inl rfl) (pe_op op_add (pv 2) (C8.pe_c G_l_some hr (by omega) (by rfl) (pa_cons (pv 0) (pa_cons (pe_op op_sub (pv 1) pe_int) pa_nil)))))) pss_nil)
    (pss_one (ps_ret (pe_lst (pa_cons (pv 2) (pa_cons (pv 3) pa_nil)))))))))
theorem sc_Net_round_length : FnScope N_Net_round_length ["self"] (defScope s_Net_round_length) := ⟨rfl, rfl, rfl, by decide +kernel, rfl, by decide +kernel, by decide +kernel⟩
theorem ok_Net_round_length {f : Addr} {fd : FuncData} (F : FunD K "round_length" "Net.round_length" (defArgs s_Net_round_length) (defBody s_Net_round_length) (defScope s_Net_round_length) [] [] f fd) (T : Txt K mg) : FnOk P w K mg base CX0 1 f fd ["self"] (sp_Net_round_length K) := by
  refine F.ok sc_Net_round_length (len_Net_round_length K) (fun cdv A outer s H vs Q E hr h => ⟨t_Net_round_length K, PSs.nox ?_, pure_Net_round_length K vs H Q E h⟩)
  exact (pss_one (ps_ret (pe_fldC T.cls_Net T.na_Net__round_length (pv 0))))
theorem sc_Net_events : FnScope N_Net_events ["self"] (defScope s_Net_events) := ⟨rfl, rfl, rfl, by decide +kernel, rfl, by decide +kernel, by decide +kernel⟩
theorem ok_Net_events {f : Addr} {fd : FuncData} (F : FunD K "events" "Net.events" (defArgs s_Net_events) (defBody s_Net_events) (defScope s_Net_events) [] [] f fd) (T : Txt K mg) : FnOk P w K mg base CX0 1 f fd ["self"] (sp_Net_events K) := by
  refine F.ok sc_Net_events (len_Net_events K) (fun cdv A outer s H vs Q E hr h => ⟨t_Net_events K, PSs.nox ?_, pure_Net_events K vs H Q E h⟩)
  exact (pss_one (ps_ret (pe_callTy callListOf (by rfl) T.f_list (by decide +kernel) (pa_cons (pe_fldC T.cls_Net T.na_Net__events (pv 0)) pa_nil))))
theorem sc_l_tests : FnScope N_l_tests ["_law_length_here", "_law_names_here", "_law_spans_here", "_law_row"] (defScope s_l_tests) := ⟨rfl, rfl, rfl, by decide +kernel, rfl, by decide +kernel, by decide +kernel⟩
theorem ok_l_tests {f : Addr} {fd : FuncData} (F : FunD K "_law_tests" "_law_tests" (defArgs s_l_tests) (defBody s_l_tests) (defScope s_l_tests) [] [] f fd) (T : Txt K mg) : FnOk P w K mg base CX0 1 f fd ["_law_length_here", "_law_names_here", "_law_spans_here", "_law_row"] (sp_l_tests K) := by
  refine F.ok sc_l_tests (len_l_tests K) (fun cdv A outer s H vs Q E hr h => ⟨t_l_tests K, PSs.nox ?_, pure_l_tests K vs H Q E h⟩)
  exact (pss_cons (ps_set (i := 4) sc_l_tests.nd rfl (Or.inr rfl) (pe_callB callLenSeq (by rfl) T.f_len (by decide +kernel) (pa_cons (pv 2) pa_nil)))
    (pss_cons (ps_if (pt_cmpR op_eq (pe_ix ix_list (pv 3) pe_int (fun _ _ => rfl)) (pe_strS (by decide +kernel)) (nomark _)) (pss_one (ps_ret (pe_lst (pa_cons (pe_lst (pa_cons (pe_or (pe_cmpR op_lt (pe_ix ix_list (pv 3) pe_int (fun _ _ => rfl)) pe_int (nomark _)) (pe_one (pe_cmpR op_ge (pe_ix ix_list (pv 3) pe_int (fun _ _ => rfl)) (pv 4) (nomark _)))) (pa_cons (pe_strS (by decide +kernel)) (pa_cons (pe_ix ix_list (pv 3) pe_int (fun _ _ => rfl)) pa_nil)))) pa_nil)))) pss_nil)
    (pss_cons (ps_if (pt_cmpR op_eq (pe_ix ix_list (pv 3) pe_int (fun _ _ => rfl)) (pe_strS (by decide +kernel)) (nomark _)) (pss_one (ps_ret (pe_lc (own := [("_law_number_here", 9)]) rfl sc_l_tests.nd (pi_list (pe_slice sl_list (pv 3) (po_some pe_int) po_none)) (blkOk_by (N := N_l_tests) (sc := defScope s_l_tests) (by decide +kernel)) (fun _ _ _ _ _ => (pg_name (i := 9) sc_l_tests.nd rfl (Or.inl rfl))) (fun _ _ _ _ _ => pts_nil) (fun _ _ _ _ _ => (pe_lst (pa_cons (pe_or (pe_cmpR op_lt (pv 9) pe_int (nomark _)) (pe_one (pe_cmpR op_ge (pv 9) (pv 4) (nomark _)))) (pa_cons (pe_strS (by decide +kernel)) (pa_cons (pv 9) pa_nil)))))))) pss_nil)
    (pss_cons (ps_set (i := 5) sc_l_tests.nd rfl (Or.inl rfl) (pe_ix ix_list (pv 3) (pe_un un_neg pe_int) (fun _ _ => rfl)))
    (pss_cons (ps_set (i := 6) sc_l_tests.nd rfl (Or.inl rfl) (pe_ix ix_list (pv 3) (pe_un un_neg pe_int) (fun _ _ => rfl)))
    (C8.pss_cut (ps_set (i := 7) sc_l_tests.nd rfl (Or.inl rfl) (pe_lst (pa_cons (pe_lst (pa_cons (pe_or (pe_cmpR op_lt (pv 5) pe_int (nomark _)) (pe_one (pe_cmpR op_gt (pv 5) (pe_op op_sub (pv 0) pe_int) (nomark _)))) (pa_cons (pe_strS (by decide +kernel)) (pa_cons (pv 5) pa_nil)))) pa_nil)))
    (C8.pss_cut (ps_expr (pe_bm PySem.F.plainAttrs_list PySem.F.slot_list_append PySem.F.type_list_append mt_append (pv 7) (pa_cons (pe_lst (pa_cons (pe_or (pe_cmpR op_lt (pv 6) (pv 5) (nomark _)) (pe_one (pe_cmpR op_gt (pv 6) (pe_op op_sub (pe_op op_add (pv 5) (pv 0)) pe_int) (nomark _)))) (pa_cons (pe_strS (by decide +kernel)) (pa_cons (pv 6) pa_nil)))) pa_nil)))
    (pss_cons (ps_if (pt_cmpR op_eq (pe_ix ix_list (pv 3) pe_int (fun _ _ => rfl)) (pe_strS (by decide +kernel)) (nomark _)) (pss_one (ps_ret (pe_op op_cat (pe_lst (pa_cons (pe_lst (pa_cons (pe_or (pe_cmpR op_lt (pe_ix ix_list (pv 3) pe_int (fun _ _ => rfl)) pe_int (nomark _)) (pe_one (pe_cmpR op_ge (pe_ix ix_list (pv 3) pe_int (fun _ _ => rfl)) (pv 4) (nomark _)))) (pa_cons (pe_strS (by decide +kernel)) (pa_cons (pe_ix ix_list (pv 3) pe_int (fun _ _ => rfl)) pa_nil)))) pa_nil)) (pv 7)))) pss_nil)
    (C8.pss_cut (ps_set (i := 8) sc_l_tests.nd rfl (Or.inl rfl) (pe_lst (pa_cons (pe_lst (pa_cons (pe_cmpR op_gt (pv 4) pe_int (nomark _)) (pa_cons (pe_strS (by decide +kernel)) (pa_cons pe_int (pa_cons pe_int pa_nil))))) (pa_cons (pe_lst (pa_cons (pe_cmpR op_notIn_seq (pe_ix ix_list (pv 3) pe_int (fun _ _ => rfl)) (pv 1) (by rfl)) (pa_cons (pe_strS (by decide +kernel)) (pa_cons (pe_ix ix_list (pv 3) pe_int (fun _ _ => rfl)) pa_nil)))) pa_nil))))
    (C8.pss_cut (ps_expr (pe_bm PySem.F.plainAttrs_list PySem.F.slot_list_append PySem.F.type_list_append mt_append (pv 8) (pa_cons (pe_lst (pa_cons (pe_cmpR op_notIn_seq (pe_ix ix_list (pv 3) pe_int (fun _ _ => rfl)) (pv 1) (by rfl)) (pa_cons (pe_strS (by decide +kernel)) (pa_cons (pe_ix ix_list (pv 3) pe_int (fun _ _ => rfl)) pa_nil)))) pa_nil)))
    (C8.pss_cut (ps_expr (pe_bm PySem.F.plainAttrs_list PySem.F.slot_list_append PySem.F.type_list_append mt_append (pv 8) (pa_cons (pe_lst (pa_cons (pe_cmpR op_eq (pe_ix ix_list (pv 3) pe_int (fun _ _ => rfl)) (pe_ix ix_list (pv 3) pe_int (fun _ _ => rfl)) (nomark _)) (pa_cons (pe_strS (by decide +kernel)) (pa_cons (pe_ix ix_list (pv 3) pe_int (fun _ _ => rfl)) pa_nil)))) pa_nil)))
    (pss_one (ps_ret (pe_op op_cat (pe_op op_cat (pv 8) (pv 7)) (pe_lst (pa_cons (pe_lst (pa_cons (pe_or (pe_cmpR op_lt (pe_ix ix_list (pv 3) pe_int (fun _ _ => rfl)) pe_int (nomark _)) (pe_one (pe_cmpR op_gt (pe_ix ix_list (pv 3) pe_int (fun _ _ => rfl)) pe_int (nomark _)))) (pa_cons (pe_strS (by decide +kernel)) (pa_cons (pe_ix ix_list (pv 3) pe_int (fun _ _ => rfl)) pa_nil)))) pa_nil))))))))))))))))
theorem sc_l_due : FnScope N_l_due ["_law_tests_here"] (defScope s_l_due) := ⟨rfl, rfl, rfl, by decide +kernel, rfl, by decide +kernel, by decide +kernel⟩
theorem ok_l_due {f : Addr} {fd : FuncData} (F : FunD K "_law_due" "_law_due" (defArgs s_l_due) (defBody s_l_due) (defScope s_l_due) [] [] f fd) (T : Txt K mg) : FnOk P w K mg base CX0 1 f fd ["_law_tests_here"] (sp_l_due K) := by
  refine F.ok sc_l_due (len_l_due K) (fun cdv A outer s H vs Q E hr h => ⟨t_l_due K, PSs.nox ?_, pure_l_due K vs H Q E h⟩)
  exact (pss_cons (ps_for PassesOwn.never rfl (pi_list (pv 0)) (pg_name (i := 1) sc_l_due.nd rfl (Or.inl rfl)) (pss_one (ps_if (pt_val (pe_ix ix_list (pv 1) pe_int (fun _ _ => rfl))) (pss_one (ps_ret (pe_slice sl_list (pv 1) (po_some pe_int) po_none))) pss_nil)))
    (pss_one (ps_ret (pe_lst pa_nil))))
theorem sc_Netcheck_number : FnScope N_Netcheck_number ["self", "number"] (defScope s_Netcheck_number) := ⟨rfl, rfl, rfl, by decide +kernel, rfl, by decide +kernel, by decide +kernel⟩
theorem ok_Netcheck_number {f : Addr} {fd : FuncData} (F : FunD K "_check_number" "Net._check_number" (defArgs s_Netcheck_number) (defBody s_Netcheck_number) (defScope s_Netcheck_number) [] [] f fd) (T : Txt K mg) (GX_UnknownSpan : XMk P w K mg base 1 "UnknownSpan" (C_UnknownSpan K) (spX (C_UnknownSpan K) ["number"])) : FnOk P w K mg base (L2.CX P w) 3 f fd ["self", "number"] (sp_Netcheck_number K) := by
  refine F.ok sc_Netcheck_number (len_Netcheck_number K) (fun cdv A outer s H vs Q E hr h => ⟨t_Netcheck_number K E, ?_, pure_Netcheck_number K vs H Q E h⟩)
  exact (pss_one (ps_if (pt_not (pt_chain op_le op_lt pe_int (pv 1) (pe_callB callLenSeq (by rfl) T.f_len (by decide +kernel) (pa_cons (pe_fldC T.cls_Net T.na_Net__spans (pv 0)) pa_nil)))) (pss_one (ps_rs GX_UnknownSpan hr (by omega) rfl tkOf (by rfl) (pa_cons (pv 1) pa_nil))) pss_nil))
theorem sc_Net_span : FnScope N_Net_span ["self", "number"] (defScope s_Net_span) := ⟨rfl, rfl, rfl, by decide +kernel, rfl, by decide +kernel, by decide +kernel⟩
theorem ok_Net_span {f : Addr} {fd : FuncData} (F : FunD K "span" "Net.span" (defArgs s_Net_span) (defBody s_Net_span) (defScope s_Net_span) [] [] f fd) (T : Txt K mg) (G_Netcheck_number : MetX P w K mg base 3 (C_Net K) "_check_number" (sp_Netcheck_number K) []) : FnOk P w K mg base (L2.CX P w) 4 f fd ["self", "number"] (sp_Net_span K) := by
  refine F.ok sc_Net_span (len_Net_span K) (fun cdv A outer s H vs Q E hr h => ⟨t_Net_span K E, ?_, pure_Net_span K vs H Q E h⟩)
  exact (pss_cons (ps_expr (pe_mtX G_Netcheck_number hr (by omega) pxOf (pv 0) (pa_cons (pv 1) pa_nil)))
    (pss_one (ps_ret (pe_ix ix_list (pe_fldC T.cls_Net T.na_Net__spans (pv 0)) (pv 1) (fun _ _ => rfl)))))
theorem sc_Net_with_span : FnScope N_Net_with_span ["self", "start", "end", "least", "most", "weight"] (defScope s_Net_with_span) := ⟨rfl, rfl, rfl, by decide +kernel, rfl, by decide +kernel, by decide +kernel⟩
theorem ok_Net_with_span {f : Addr} {fd : FuncData} (F : FunD K "with_span" "Net.with_span" (defArgs s_Net_with_span) (defBody s_Net_with_span) (defScope s_Net_with_span) [] [("weight", .int 1)] f fd) (T : Txt K mg) (G_Net_init : MakX P w K mg base 6 "Net" (C_Net K) (sp_Net_init K) []) : FnOk P w K mg base (L2.CX P w) 8 f fd ["self", "start", "end", "least", "most", "weight"] (sp_Net_with_span K) := by
  refine F.ok sc_Net_with_span (len_Net_with_span K) (fun cdv A outer s H vs Q E hr h => ⟨t_Net_with_span K E, ?_, pure_Net_with_span K vs H Q E h⟩)
  exact (pss_one (ps_ret (pe_mkX G_Net_init hr (by omega) (by rfl) pxOf (pa_cons (pe_fldC T.cls_Net T.na_Net__round_length (pv 0)) (pa_cons (pe_fldC T.cls_Net T.na_Net__events (pv 0)) (pa_cons (pe_lst (StX.pa_star (pe_fldC T.cls_Net T.na_Net__spans (pv 0)) (pa_cons (pe_tup (pa_cons (pv 1) (pa_cons (pv 2) (pa_cons (pv 3) (pa_cons (pv 4) (pa_cons (pv 5) pa_nil)))))) pa_nil))) pa_nil))))))
theorem sc_Net_without : FnScope N_Net_without ["self", "numbers"] (defScope s_Net_without) := ⟨rfl, rfl, rfl, by decide +kernel, rfl, by decide +kernel, by decide +kernel⟩
theorem ok_Net_without {f : Addr} {fd : FuncData} (F : FunD K "without" "Net.without" (defArgs s_Net_without) (defBody s_Net_without) (defScope s_Net_without) [] [] f fd) (T : Txt K mg) (G_Net_init : MakX P w K mg base 6 "Net" (C_Net K) (sp_Net_init K) []) (G_Netcheck_number : MetX P w K mg base 3 (C_Net K) "_check_number" (sp_Netcheck_number K) []) : FnR P w K mg base (L2.CX P w) 8 f (fun vs H Q E => ∃ ws rest, vs = ws ++ rest ∧ ws.length = [("self" : Str)].length ∧ rest.length ≤ sizeLine ∧ ∀ p, H p = none → (sp_Net_without K) (ws ++ [V.ref p]) (upd H p (.tup rest)) Q E) := by
  refine fun_starX F (ps := ["self"]) (pv := "numbers") sc_Net_without (fun kV doc pm an cdv ct => StX.bind_star1 (p1 := "self") (pv := "numbers") (B := fun us => bindArgs (PySem.W.fnOf "without" "Net.without" (defArgs s_Net_without) (defBody s_Net_without) (defScope s_Net_without) .none kV doc pm an cdv ct) ⟨us, []⟩) (fun _ => rfl) (fun _ _ _ => rfl)) (fun cdv A outer s H vs Q E hr h => ⟨t_Net_without K E, ?_, pure_Net_without K vs H Q E h⟩)
  exact (pss_cons (ps_for poOf rfl (pi_tup (pv 1)) (pg_name (i := 2) sc_Net_without.nd rfl (Or.inl rfl)) (pss_one (ps_expr (pe_mtX G_Netcheck_number hr (by omega) pxOf (pv 0) (pa_cons (pv 2) pa_nil)))))
    (pss_cons (ps_setLc (i := 3) (own := [("number", 2), ("span", 4)]) rfl sc_Net_without.nd rfl rfl (sw_true rfl rfl rfl (by decide +kernel)) (pi_enum rfl T.f_enumerate (pa_cons (pe_fldC T.cls_Net T.na_Net__spans (pv 0)) pa_nil)) (blkOk_by (N := N_Net_without) (sc := defScope s_Net_without) (by decide +kernel)) (fun _ _ _ _ _ => (pg_tup rfl (pgs_cons (pg_name (i := 2) sc_Net_without.nd rfl (Or.inl rfl)) (pgs_cons (pg_name (i := 4) sc_Net_without.nd rfl (Or.inl rfl)) pgs_nil)))) (fun _ _ _ _ _ => (pts_one (pt_cmpR op_notIn_seq (pv 2) (pv 1) (by rfl)))) (fun _ _ _ _ _ => (pv 4)))
    (pss_one (ps_ret (pe_mkX G_Net_init hr (by omega) (by rfl) pxOf (pa_cons (pe_fldC T.cls_Net T.na_Net__round_length (pv 0)) (pa_cons (pe_fldC T.cls_Net T.na_Net__events (pv 0)) (pa_cons (pv 3) pa_nil))))))))
theorem sc_Net_changed : FnScope N_Net_changed ["self", "number", "least", "most"] (defScope s_Net_changed) := ⟨rfl, rfl, rfl, by decide +kernel, rfl, by decide +kernel, by decide +kernel⟩
theorem ok_Net_changed {f : Addr} {fd : FuncData} (F : FunD K "changed" "Net.changed" (defArgs s_Net_changed) (defBody s_Net_changed) (defScope s_Net_changed) [] [] f fd) (T : Txt K mg) (G_Net_init : MakX P w K mg base 6 "Net" (C_Net K) (sp_Net_init K) []) (G_Net_span : MetX P w K mg base 4 (C_Net K) "span" (sp_Net_span K) []) : FnOk P w K mg base (L2.CX P w) 8 f fd ["self", "number", "least", "most"] (sp_Net_changed K) := by
  refine F.ok sc_Net_changed (len_Net_changed K) (fun cdv A outer s H vs Q E hr h => ⟨t_Net_changed K E, ?_, pure_Net_changed K vs H Q E h⟩)
  exact (pss_cons (ps_set (i := 4) sc_Net_changed.nd rfl (Or.inl rfl) (pe_mtX G_Net_span hr (by omega) pxOf (pv 0) (pa_cons (pv 1) pa_nil)))
    (pss_cons (ps_set (i := 5) sc_Net_changed.nd rfl (Or.inl rfl) (pe_callTy callListOf (by rfl) T.f_list (by decide +kernel) (pa_cons (pe_fldC T.cls_Net T.na_Net__spans (pv 0)) pa_nil)))
    (pss_cons (ps_asg (pe_tup (pa_cons (pe_ix ix_tup (pv 4) pe_int (fun _ _ => rfl)) (pa_cons (pe_ix ix_tup (pv 4) pe_int (fun _ _ => rfl)) (pa_cons (pv 2) (pa_cons (pv 3) (pa_cons (pe_ix ix_tup (pv 4) pe_int (fun _ _ => rfl)) pa_nil)))))) (pg_sub (pv 5) (pv 1) set_list))
    (pss_one (ps_ret (pe_mkX G_Net_init hr (by omega) (by rfl) pxOf (pa_cons (pe_fldC T.cls_Net T.na_Net__round_length (pv 0)) (pa_cons (pe_fldC T.cls_Net T.na_Net__events (pv 0)) (pa_cons (pv 5) pa_nil)))))))))
theorem sc_l_do : FnScope N_l_do ["_law_net", "_law_row"] (defScope s_l_do) := ⟨rfl, rfl, rfl, by decide +kernel, rfl, by decide +kernel, by decide +kernel⟩
theorem ok_l_do {f : Addr} {fd : FuncData} (F : FunD K "_law_do" "_law_do" (defArgs s_l_do) (defBody s_l_do) (defScope s_l_do) [] [] f fd) (T : Txt K mg) (G_Net_span : MetX P w K mg base 4 (C_Net K) "span" (sp_Net_span K) []) (GK_Net_with_span : MetKX P w K mg base 8 (C_Net K) "with_span" (sp_Net_with_span K) 5 ["weight"]) (G_Net_without : MetSX P w K mg base 8 (C_Net K) "without" (sp_Net_without K)) (GK_Net_changed : MetKX P w K mg base 8 (C_Net K) "changed" (sp_Net_changed K) 2 ["least", "most"]) : FnOk P w K mg base (L2.CX P w) 9 f fd ["_law_net", "_law_row"] (sp_l_do K) := by
  refine F.ok sc_l_do (len_l_do K) (fun cdv A outer s H vs Q E hr h => ⟨t_l_do K E, ?_, pure_l_do K vs H Q E h⟩)
  exact (pss_cons (ps_if (pt_cmpR op_eq (pe_ix ix_list (pv 1) pe_int (fun _ _ => rfl)) (pe_strS (by decide +kernel)) (nomark _)) (pss_one (ps_ret (pe_mtX G_Net_span hr (by omega) pxOf (pv 0) (pa_cons (pe_ix ix_list (pv 1) pe_int (fun _ _ => rfl)) pa_nil)))) pss_nil)
    (pss_cons (ps_if (PW.pt (pw_and (pt_cmpR op_eq (pe_ix ix_list (pv 1) pe_int (fun _ _ => rfl)) (pe_strS (by decide +kernel)) (nomark _)) (pw_and1 (pt_cmpR op_eq (pe_callB callLenSeq (by rfl) T.f_len (by decide +kernel) (pa_cons (pv 1) pa_nil)) pe_int (nomark _))))) (pss_one (ps_ret (pe_mtSX G_Net_without hr (by omega) pxOf (pv 0) (pa_cons (pe_ix ix_list (pv 1) pe_int (fun _ _ => rfl)) (pa_cons (pe_ix ix_list (pv 1) pe_int (fun _ _ => rfl)) (pa_cons (pe_ix ix_list (pv 1) pe_int (fun _ _ => rfl)) pa_nil)))))) pss_nil)
    (pss_cons (ps_if (pt_cmpR op_eq (pe_ix ix_list (pv 1) pe_int (fun _ _ => rfl)) (pe_strS (by decide +kernel)) (nomark _)) (pss_one (ps_ret (pe_mtSX G_Net_without hr (by omega) pxOf (pv 0) (pa_cons (pe_ix ix_list (pv 1) pe_int (fun _ _ => rfl)) (pa_cons (pe_ix ix_list (pv 1) pe_int (fun _ _ => rfl)) pa_nil))))) pss_nil)
    (pss_cons (ps_if (pt_cmpR op_eq (pe_ix ix_list (pv 1) pe_int (fun _ _ => rfl)) (pe_strS (by decide +kernel)) (nomark _)) (pss_one (ps_ret (pe_mtKX GK_Net_changed hr (by omega) pxOf (pv 0) (pa_cons (pe_ix ix_list (pv 1) pe_int (fun _ _ => rfl)) pa_nil) (pk_cons (pe_ix ix_list (pv 1) pe_int (fun _ _ => rfl)) (pk_cons (pe_ix ix_list (pv 1) pe_int (fun _ _ => rfl)) pk_nil))))) pss_nil)
    (pss_one (ps_ret (pe_mtKX GK_Net_with_span hr (by omega) pxOf (pv 0) (pa_cons (pe_ix ix_list (pv 1) pe_int (fun _ _ => rfl)) (pa_cons (pe_ix ix_list (pv 1) pe_int (fun _ _ => rfl)) (pa_cons (pe_ix ix_list (pv 1) pe_int (fun _ _ => rfl)) (pa_cons (pe_ix ix_list (pv 1) pe_int (fun _ _ => rfl)) pa_nil)))) (pk_cons (pe_ix ix_list (pv 1) pe_int (fun _ _ => rfl)) pk_nil))))))))
theorem sc_l_flags : FnScope N_l_flags ["_law_net", "_law_row"] (defScope s_l_flags) := ⟨rfl, rfl, rfl, by decide +kernel, rfl, by decide +kernel, by decide +kernel⟩
theorem ok_l_flags {f : Addr} {fd : FuncData} (F : FunD K "_law_flags" "_law_flags" (defArgs s_l_flags) (defBody s_l_flags) (defScope s_l_flags) [] [] f fd) (T : Txt K mg) (G_l_do : CalX P w K mg base (9) "_law_do" (sp_l_do K) []) : FnOk P w K mg base CX0 10 f fd ["_law_net", "_law_row"] (sp_l_flags K) := by
  refine F.ok sc_l_flags (len_l_flags K) (fun cdv A outer s H vs Q E hr h => ⟨t_l_flags K, PSs.nox ?_, pure_l_flags K T.xf vs H Q E h⟩)
  exact (pss_cons (ps_set (i := 2) sc_l_flags.nd rfl (Or.inl rfl) (pe_lst pa_nil))
    (pss_cons (ps_try_asm rfl rfl sc_l_flags.nd (i := 3) rfl rfl (fun W pn xe tk po => (pss_one (ps_expr (pe_cS G_l_do hr (by omega) (by rfl) tk (pa_cons (pv 0) (pa_cons (pv 1) pa_nil)))))) (HdA.cons ⟨by rfl, by decide, .inl T.g_MinuteError⟩ (fun a oe cls d pn hz hf => (pss_one (ps_set (i := 2) sc_l_flags.nd rfl (Or.inl rfl) (pe_lst (pa_cons (pe_callB (call_isX hz hf) (by rfl) T.f_isinstance (by decide +kernel) (pa_cons (pv 3) (pa_cons (pe_bltn (v := .ty "ValueError") (by rfl) T.f_ValueError (by decide +kernel) rfl) pa_nil))) (pa_cons (pe_callB (call_isX hz hf) (by rfl) T.f_isinstance (by decide +kernel) (pa_cons (pv 3) (pa_cons (pe_clsv (by rfl) T.g_BadNumber) pa_nil))) (pa_cons (pe_callB (call_isX hz hf) (by rfl) T.f_isinstance (by decide +kernel) (pa_cons (pv 3) (pa_cons (pe_clsv (by rfl) T.g_BrokenSpan) pa_nil))) (pa_cons (pe_callB (call_isX hz hf) (by rfl) T.f_isinstance (by decide +kernel) (pa_cons (pv 3) (pa_cons (pe_clsv (by rfl) T.g_DoubleEvent) pa_nil))) (pa_cons (pe_callB (call_isX hz hf) (by rfl) T.f_isinstance (by decide +kernel) (pa_cons (pv 3) (pa_cons (pe_clsv (by rfl) T.g_SameEvent) pa_nil))) (pa_cons (pe_callB (call_isX hz hf) (by rfl) T.f_isinstance (by decide +kernel) (pa_cons (pv 3) (pa_cons (pe_clsv (by rfl) T.g_TooMany) pa_nil))) (pa_cons (pe_callB (call_isX hz hf) (by rfl) T.f_isinstance (by decide +kernel) (pa_cons (pv 3) (pa_cons (pe_clsv (by rfl) T.g_UnknownEvent) pa_nil))) (pa_cons (pe_callB (call_isX hz hf) (by rfl) T.f_isinstance (by decide +kernel) (pa_cons (pv 3) (pa_cons (pe_clsv (by rfl) T.g_UnknownSpan) pa_nil))) (pa_cons (pe_callB (call_isX hz hf) (by rfl) T.f_isinstance (by decide +kernel) (pa_cons (pv 3) (pa_cons (pe_clsv (by rfl) T.g_WrongNames) pa_nil))) pa_nil))))))))))))) HdA.nil))
    (pss_one (ps_ret (pv 2)))))
theorem sc_l_told : FnScope N_l_told ["_law_net", "_law_row"] (defScope s_l_told) := ⟨rfl, rfl, rfl, by decide +kernel, rfl, by decide +kernel, by decide +kernel⟩
theorem ok_l_told {f : Addr} {fd : FuncData} (F : FunD K "_law_told" "_law_told" (defArgs s_l_told) (defBody s_l_told) (defScope s_l_told) [] [] f fd) (T : Txt K mg) (G_l_do : CalX P w K mg base (9) "_law_do" (sp_l_do K) []) : FnOk P w K mg base CX0 10 f fd ["_law_net", "_law_row"] (sp_l_told K) := by
  refine F.ok sc_l_told (len_l_told K) (fun cdv A outer s H vs Q E hr h => ⟨t_l_told K, PSs.nox ?_, pure_l_told K T.xf vs H Q E h⟩)
  exact (pss_cons (ps_set (i := 2) sc_l_told.nd rfl (Or.inl rfl) (pe_lst pa_nil))
    (pss_cons (ps_try_asm rfl rfl sc_l_told.nd (i := 3) rfl rfl (fun W pn xe tk po => (pss_one (ps_expr (pe_cS G_l_do hr (by omega) (by rfl) tk (pa_cons (pv 0) (pa_cons (pv 1) pa_nil)))))) (HdA.cons ⟨by rfl, by decide, .inl T.g_BadNumber⟩ (fun a oe cls d pn hz hf => (pss_one (ps_set (i := 2) sc_l_told.nd rfl (Or.inl rfl) (pe_lst (pa_cons (pe_xf T.xf_BadNumber T.na_BadNumber_number hz hf (pv 3)) pa_nil))))) (HdA.cons ⟨by rfl, by decide, .inl T.g_SameEvent⟩ (fun a oe cls d pn hz hf => (pss_one (ps_set (i := 2) sc_l_told.nd rfl (Or.inl rfl) (pe_lst (pa_cons (pe_xf T.xf_SameEvent T.na_SameEvent_name hz hf (pv 3)) pa_nil))))) (HdA.cons ⟨by rfl, by decide, .inl T.g_TooMany⟩ (fun a oe cls d pn hz hf => (pss_one (ps_set (i := 2) sc_l_told.nd rfl (Or.inl rfl) (pe_lst (pa_cons (pe_xf T.xf_TooMany T.na_TooMany_count hz hf (pv 3)) (pa_cons (pe_xf T.xf_TooMany T.na_TooMany_limit hz hf (pv 3)) pa_nil)))))) (HdA.cons ⟨by rfl, by decide, .inl T.g_UnknownEvent⟩ (fun a oe cls d pn hz hf => (pss_one (ps_set (i := 2) sc_l_told.nd rfl (Or.inl rfl) (pe_lst (pa_cons (pe_xf T.xf_UnknownEvent T.na_UnknownEvent_name hz hf (pv 3)) pa_nil))))) (HdA.cons ⟨by rfl, by decide, .inl T.g_UnknownSpan⟩ (fun a oe cls d pn hz hf => (pss_one (ps_set (i := 2) sc_l_told.nd rfl (Or.inl rfl) (pe_lst (pa_cons (pe_xf T.xf_UnknownSpan T.na_UnknownSpan_number hz hf (pv 3)) pa_nil))))) HdA.nil))))))
    (pss_one (ps_ret (pv 2)))))
theorem sc_l_outcome : FnScope N_l_outcome ["_law_spans_here", "_law_row"] (defScope s_l_outcome) := ⟨rfl, rfl, rfl, by decide +kernel, rfl, by decide +kernel, by decide +kernel⟩
theorem ok_l_outcome {f : Addr} {fd : FuncData} (F : FunD K "_law_outcome" "_law_outcome" (defArgs s_l_outcome) (defBody s_l_outcome) (defScope s_l_outcome) [] [] f fd) (T : Txt K mg) : FnOk P w K mg base CX0 1 f fd ["_law_spans_here", "_law_row"] (sp_l_outcome K) := by
  refine F.ok sc_l_outcome (len_l_outcome K) (fun cdv A outer s H vs Q E hr h => ⟨t_l_outcome K, PSs.nox ?_, pure_l_outcome K vs H Q E h⟩)
  exact (pss_cons (ps_if (pt_cmpR op_eq (pe_ix ix_list (pv 1) pe_int (fun _ _ => rfl)) (pe_strS (by decide +kernel)) (nomark _)) (pss_one (ps_ret (pe_lc (own := [("_law_k", 4)]) rfl sc_l_outcome.nd (pi_range1 rfl T.f_range (pa_cons (pe_callB callLenSeq (by rfl) T.f_len (by decide +kernel) (pa_cons (pv 0) pa_nil)) pa_nil)) (blkOk_by (N := N_l_outcome) (sc := defScope s_l_outcome) (by decide +kernel)) (fun _ _ _ _ _ => (pg_name (i := 4) sc_l_outcome.nd rfl (Or.inl rfl))) (fun _ _ _ _ _ => (pts_one (pt_cmpR op_notIn_seq (pv 4) (pe_slice sl_list (pv 1) (po_some pe_int) po_none) (by rfl)))) (fun _ _ _ _ _ => (pe_ix ix_list (pv 0) (pv 4) (fun _ _ => rfl)))))) pss_nil)
    (pss_cons (ps_if (pt_cmpR op_eq (pe_ix ix_list (pv 1) pe_int (fun _ _ => rfl)) (pe_strS (by decide +kernel)) (nomark _)) (pss_cons (ps_set (i := 2) sc_l_outcome.nd rfl (Or.inl rfl) (pe_ix ix_list (pv 0) (pe_ix ix_list (pv 1) pe_int (fun _ _ => rfl)) (fun _ _ => rfl)))
    (pss_cons (ps_set (i := 3) sc_l_outcome.nd rfl (Or.inl rfl) (pe_tup (pa_cons (pe_ix ix_tup (pv 2) pe_int (fun _ _ => rfl)) (pa_cons (pe_ix ix_tup (pv 2) pe_int (fun _ _ => rfl)) (pa_cons (pe_ix ix_list (pv 1) pe_int (fun _ _ => rfl)) (pa_cons (pe_ix ix_list (pv 1) pe_int (fun _ _ => rfl)) (pa_cons (pe_ix ix_tup (pv 2) pe_int (fun _ _ => rfl)) pa_nil)))))))
    (pss_one (ps_ret (pe_op op_cat (pe_op op_cat (pe_slice sl_list (pv 0) po_none (po_some (pe_ix ix_list (pv 1) pe_int (fun _ _ => rfl)))) (pe_lst (pa_cons (pv 3) pa_nil))) (pe_slice sl_list (pv 0) (po_some (pe_op op_add (pe_ix ix_list (pv 1) pe_int (fun _ _ => rfl)) pe_int)) po_none)))))) pss_nil)
    (pss_one (ps_ret (pe_op op_cat (pv 0) (pe_lst (pa_cons (pe_tup (pa_cons (pe_ix ix_list (pv 1) pe_int (fun _ _ => rfl)) (pa_cons (pe_ix ix_list (pv 1) pe_int (fun _ _ => rfl)) (pa_cons (pe_ix ix_list (pv 1) pe_int (fun _ _ => rfl)) (pa_cons (pe_ix ix_list (pv 1) pe_int (fun _ _ => rfl)) (pa_cons (pe_ix ix_list (pv 1) pe_int (fun _ _ => rfl)) pa_nil)))))) pa_nil)))))))
theorem sc_l_holds : FnScope N_l_holds ["_law_net", "_law_length_here", "_law_names_here", "_law_spans_here", "_law_row"] (defScope s_l_holds) := ⟨rfl, rfl, rfl, by decide +kernel, rfl, by decide +kernel, by decide +kernel⟩
theorem ok_l_holds {f : Addr} {fd : FuncData} (F : FunD K "_law_holds" "_law_holds" (defArgs s_l_holds) (defBody s_l_holds) (defScope s_l_holds) [] [] f fd) (T : Txt K mg) (G_Net_round_length : Prp P w K mg base 1 (C_Net K) "round_length" (sp_Net_round_length K)) (G_Net_events : Prp P w K mg base 1 (C_Net K) "events" (sp_Net_events K)) (G_Net_spans : Prp P w K mg base 1 (C_Net K) "spans" (sp_Net_spans K)) (G_l_same : C8.Cal P w K mg base (5) "_law_same" (sp_l_same K 3) []) (G_l_tests : C8.Cal P w K mg base (1) "_law_tests" (sp_l_tests K) []) (G_l_due : C8.Cal P w K mg base (1) "_law_due" (sp_l_due K) []) (G_l_do : CalX P w K mg base (9) "_law_do" (sp_l_do K) []) (G_l_flags : C8.Cal P w K mg base (10) "_law_flags" (sp_l_flags K) []) (G_l_told : C8.Cal P w K mg base (10) "_law_told" (sp_l_told K) []) (G_l_outcome : C8.Cal P w K mg base (1) "_law_outcome" (sp_l_outcome K) []) : FnOk P w K mg base CX0 11 f fd ["_law_net", "_law_length_here", "_law_names_here", "_law_spans_here", "_law_row"] (sp_l_holds K) := by
  refine F.ok sc_l_holds (len_l_holds K) (fun cdv A outer s H vs Q E hr h => ⟨t_l_holds K, PSs.nox ?_, pure_l_holds K vs H Q E h⟩)
  exact (pss_cons (ps_set (i := 5) sc_l_holds.nd rfl (Or.inr rfl) (C8.pe_c G_l_due hr (by omega) (by rfl) (pa_cons (C8.pe_c G_l_tests hr (by omega) (by rfl) (pa_cons (pv 1) (pa_cons (pv 2) (pa_cons (pv 3) (pa_cons (pv 4) pa_nil))))) pa_nil)))
    (pss_cons (ps_set (i := 6) sc_l_holds.nd rfl (Or.inl rfl) (C8.pe_c G_l_flags hr (by omega) (by rfl) (pa_cons (pv 0) (pa_cons (pv 4) pa_nil))))
    (pss_cons (ps_if (pt_cmpR (op_neD hr.units) (pv 5) (pe_lst pa_nil) (nomark _)) (pss_cons (ps_set (i := 7) sc_l_holds.nd rfl (Or.inl rfl) (pe_lst (pa_cons (pe_strS (by decide +kernel)) (pa_cons (pe_strS (by decide +kernel)) (pa_cons (pe_strS (by decide +kernel)) (pa_cons (pe_strS (by decide +kernel)) (pa_cons (pe_strS (by decide +kernel)) (pa_cons (pe_strS (by decide +kernel)) (pa_cons (pe_strS (by decide +kernel)) pa_nil)))))))))
    (pss_cons (ps_if (pt_cmpR (op_neD hr.units) (pv 6) (pe_op op_cat (pe_lst (pa_cons pe_bl pa_nil)) (pe_lc (own := [("_law_kind", 9)]) rfl sc_l_holds.nd (pi_list (pe_op op_cat (pv 7) (pe_lst (pa_cons (pe_strS (by decide +kernel)) pa_nil)))) (blkOk_by (N := N_l_holds) (sc := defScope s_l_holds) (by decide +kernel)) (fun _ _ _ _ _ => (pg_name (i := 9) sc_l_holds.nd rfl (Or.inl rfl))) (fun _ _ _ _ _ => pts_nil) (fun _ _ _ _ _ => (pe_cmpR op_eq (pv 9) (pe_ix ix_list (pv 5) pe_int (fun _ _ => rfl)) (nomark _))))) (nomark _)) (pss_one (ps_ret pe_bl)) pss_nil)
    (pss_one (ps_ret (C8.pe_c G_l_same hr (by omega) (by rfl) (pa_cons (C8.pe_c G_l_told hr (by omega) (by rfl) (pa_cons (pv 0) (pa_cons (pv 4) pa_nil))) (pa_cons (pe_slice sl_list (pv 5) (po_some pe_int) po_none) pa_nil))))))) pss_nil)
    (pss_cons (ps_if (pt_cmpR (op_neD hr.units) (pv 6) (pe_lst pa_nil) (nomark _)) (pss_one (ps_ret pe_bl)) pss_nil)
    (pss_cons (ps_set (i := 8) sc_l_holds.nd rfl (Or.inl rfl) (pe_cX G_l_do hr (by omega) (by rfl) passL (pa_cons (pv 0) (pa_cons (pv 4) pa_nil))))
    (pss_cons (ps_if (pt_cmpR op_eq (pe_ix ix_list (pv 4) pe_int (fun _ _ => rfl)) (pe_strS (by decide +kernel)) (nomark _)) (pss_one (ps_ret (C8.pe_c G_l_same hr (by omega) (by rfl) (pa_cons (pv 8) (pa_cons (pe_ix ix_list (pv 3) (pe_ix ix_list (pv 4) pe_int (fun _ _ => rfl)) (fun _ _ => rfl)) pa_nil))))) pss_nil)
    (pss_cons (ps_if (PW.pt (pw_or (pt_not (pt_val (C8.pe_c G_l_same hr (by omega) (by rfl) (pa_cons (pe_prp T.cls_Net G_Net_round_length hr (by omega) (pv 8)) (pa_cons (pv 1) pa_nil))))) (pw_or1 (pt_not (pt_val (C8.pe_c G_l_same hr (by omega) (by rfl) (pa_cons (pe_prp T.cls_Net G_Net_events hr (by omega) (pv 8)) (pa_cons (pv 2) pa_nil)))))))) (pss_one (ps_ret pe_bl)) pss_nil)
    (pss_one (ps_ret (C8.pe_c G_l_same hr (by omega) (by rfl) (pa_cons (pe_prp T.cls_Net G_Net_spans hr (by omega) (pv 8)) (pa_cons (C8.pe_c G_l_outcome hr (by omega) (by rfl) (pa_cons (pv 3) (pa_cons (pv 4) pa_nil))) pa_nil))))))))))))
theorem sc_law : FnScope N_law ["_law_script"] (defScope s_law) := ⟨rfl, rfl, rfl, by decide +kernel, rfl, by decide +kernel, by decide +kernel⟩
theorem ok_law {f : Addr} {fd : FuncData} (F : FunD K "law" "law" (defArgs s_law) (defBody s_law) (defScope s_law) [] [] f fd) (T : Txt K mg) (G_Net_init : MakX P w K mg base 6 "Net" (C_Net K) (sp_Net_init K) []) (G_Net_spans : Prp P w K mg base 1 (C_Net K) "spans" (sp_Net_spans K)) (G_l_pool : C8.Cal P w K mg base (1) "_law_pool" (sp_l_pool K) []) (G_l_draw : C8.Cal P w K mg base (1) "_law_draw" (sp_l_draw K) []) (G_l_names : C8.Cal P w K mg base (3) "_law_names" (sp_l_names K) []) (G_l_stranger : C8.Cal P w K mg base (3) "_law_stranger" (sp_l_stranger K) []) (G_l_length : C8.Cal P w K mg base (2) "_law_length" (sp_l_length K) []) (G_l_size : C8.Cal P w K mg base (2) "_law_size" (sp_l_size K) []) (G_l_spans : C8.Cal P w K mg base (4) "_law_spans" (sp_l_spans K) []) (G_l_same : C8.Cal P w K mg base (5) "_law_same" (sp_l_same K 3) []) (G_l_filled : C8.Cal P w K mg base (1) "_law_filled" (sp_l_filled K) []) (G_l_number : C8.Cal P w K mg base (2) "_law_number" (sp_l_number K) []) (G_l_bounds : C8.Cal P w K mg base (3) "_law_bounds" (sp_l_bounds K) []) (G_l_holds : C8.Cal P w K mg base (11) "_law_holds" (sp_l_holds K) []) : FnOk P w K mg base CX0 12 f fd ["_law_script"] (sp_law K) := by
  refine F.ok sc_law (len_law K) (fun cdv A outer s H vs Q E hr h => ⟨t_law K, PSs.nox ?_, pure_law K vs H Q E h⟩)
  exact (pss_cons (ps_set (i := 1) sc_law.nd rfl (Or.inl rfl) (C8.pe_c G_l_pool hr (by omega) (by rfl) (pa_cons (pv 0) pa_nil)))
    (pss_cons (ps_set (i := 2) sc_law.nd rfl (Or.inl rfl) (C8.pe_c G_l_length hr (by omega) (by rfl) (pa_cons (pv 1) (pa_cons pe_int pa_nil))))
    (pss_cons (ps_set (i := 3) sc_law.nd rfl (Or.inl rfl) (C8.pe_c G_l_names hr (by omega) (by rfl) (pa_cons (pv 1) (pa_cons (C8.pe_c G_l_size hr (by omega) (by rfl) (pa_cons (pv 1) (pa_cons pe_int pa_nil))) pa_nil))))
    (pss_cons (ps_set (i := 4) sc_law.nd rfl (Or.inl rfl) (C8.pe_c G_l_spans hr (by omega) (by rfl) (pa_cons (pv 1) (pa_cons (pv 2) (pa_cons (pv 3) (pa_cons pe_int pa_nil))))))
    (C8.pss_cut (ps_if (PW.pt (pw_and (pt_cmpR op_eq (C8.pe_c G_l_draw hr (by omega) (by rfl) (pa_cons (pv 1) (pa_cons pe_int pa_nil))) pe_int (nomark _)) (pw_and1 (pt_cmpR op_gt (pe_callB callLenSeq (by rfl) T.f_len (by decide +kernel) (pa_cons (pv 4) pa_nil)) pe_int (nomark _))))) (pss_one (ps_set (i := 4) sc_law.nd rfl (Or.inl rfl) (C8.pe_c G_l_filled hr (by omega) (by rfl) (pa_cons (pv 4) pa_nil)))) pss_nil)
    (pss_cons (ps_set (i := 5) sc_law.nd rfl (Or.inl rfl) (pe_op op_cat (pv 3) (pe_lst (pa_cons (C8.pe_c G_l_stranger hr (by omega) (by rfl) (pa_cons (pv 1) (pa_cons (pv 3) pa_nil))) pa_nil))))
    (pss_cons (ps_set (i := 6) sc_law.nd rfl (Or.inl rfl) (pe_mkX G_Net_init hr (by omega) (by rfl) passL (pa_cons (pv 2) (pa_cons (pe_callTy callListOf (by rfl) T.f_list (by decide +kernel) (pa_cons (pv 3) pa_nil)) (pa_cons (pe_callTy callListOf (by rfl) T.f_list (by decide +kernel) (pa_cons (pv 4) pa_nil)) pa_nil)))))
    (pss_cons (ps_set (i := 7) sc_law.nd rfl (Or.inl rfl) (pe_callB callLenSeq (by rfl) T.f_len (by decide +kernel) (pa_cons (pv 4) pa_nil)))
    (pss_cons (ps_set (i := 8) sc_law.nd rfl (Or.inl rfl) (pe_lst (pa_cons (pe_lst (pa_cons (pe_strS (by decide +kernel)) (pa_cons (C8.pe_c G_l_number hr (by omega) (by rfl) (pa_cons (pv 1) (pa_cons (pv 7) pa_nil))) pa_nil))) pa_nil)))
    (pss_cons (ps_set (i := 9) sc_law.nd rfl (Or.inl rfl) (C8.pe_c G_l_number hr (by omega) (by rfl) (pa_cons (pv 1) (pa_cons (pv 7) pa_nil))))
    (pss_cons (ps_set (i := 10) sc_law.nd rfl (Or.inl rfl) (C8.pe_c G_l_number hr (by omega) (by rfl) (pa_cons (pv 1) (pa_cons (pv 7) pa_nil))))
    (pss_cons (ps_set (i := 8) sc_law.nd rfl (Or.inl rfl) (pe_op op_cat (pv 8) (pe_lst (pa_cons (pe_lst (pa_cons (pe_strS (by decide +kernel)) (pa_cons (pv 9) (pa_cons (pv 10) pa_nil)))) (pa_cons (pe_lst (pa_cons (pe_strS (by decide +kernel)) (pa_cons (pv 10) (pa_cons (pv 9) pa_nil)))) (pa_cons (pe_lst (pa_cons (pe_strS (by decide +kernel)) (pa_cons (pv 9) (pa_cons (pv 10) (pa_cons (C8.pe_c G_l_number hr (by omega) (by rfl) (pa_cons (pv 1) (pa_cons (pv 7) pa_nil))) pa_nil))))) pa_nil))))))
    (pss_cons (ps_expr (pe_bm PySem.F.plainAttrs_list PySem.F.slot_list_append PySem.F.type_list_append mt_append (pv 8) (pa_cons (pe_op op_cat (pe_lst (pa_cons (pe_strS (by decide +kernel)) (pa_cons (C8.pe_c G_l_number hr (by omega) (by rfl) (pa_cons (pv 1) (pa_cons (pv 7) pa_nil))) pa_nil))) (C8.pe_c G_l_bounds hr (by omega) (by rfl) (pa_cons (pv 1) (pa_cons (pv 2) pa_nil)))) pa_nil)))
    (pss_cons (ps_set (i := 11) sc_law.nd rfl (Or.inl rfl) (C8.pe_c G_l_bounds hr (by omega) (by rfl) (pa_cons (pv 1) (pa_cons (pv 2) pa_nil))))
    (pss_cons (ps_set (i := 12) sc_law.nd rfl (Or.inl rfl) (pe_lst (pa_cons (pe_ix ix_list (pv 5) (C8.pe_c G_l_draw hr (by omega) (by rfl) (pa_cons (pv 1) (pa_cons (pe_callB callLenSeq (by rfl) T.f_len (by decide +kernel) (pa_cons (pv 5) pa_nil)) pa_nil))) (fun _ _ => rfl)) (pa_cons (pe_ix ix_list (pv 5) (C8.pe_c G_l_draw hr (by omega) (by rfl) (pa_cons (pv 1) (pa_cons (pe_callB callLenSeq (by rfl) T.f_len (by decide +kernel) (pa_cons (pv 5) pa_nil)) pa_nil))) (fun _ _ => rfl)) pa_nil))))
    (pss_cons (ps_expr (pe_bm PySem.F.plainAttrs_list PySem.F.slot_list_append PySem.F.type_list_append mt_append (pv 8) (pa_cons (pe_op op_cat (pe_op op_cat (pe_op op_cat (pe_lst (pa_cons (pe_strS (by decide +kernel)) pa_nil)) (pv 12)) (pe_lst (pa_cons (pe_ix ix_list (pe_lst (pa_cons (pe_un un_neg pe_int) (pa_cons pe_int (pa_cons pe_int (pa_cons pe_int (pa_cons pe_int pa_nil)))))) (C8.pe_c G_l_draw hr (by omega) (by rfl) (pa_cons (pv 1) (pa_cons pe_int pa_nil))) (fun _ _ => rfl)) pa_nil))) (pv 11)) pa_nil)))
    (pss_cons (ps_for PassesOwn.never rfl (pi_list (pv 8)) (pg_name (i := 13) sc_law.nd rfl (Or.inl rfl)) (pss_one (ps_if (PW.pt (pw_or (pt_not (pt_val (C8.pe_c G_l_holds hr (by omega) (by rfl) (pa_cons (pv 6) (pa_cons (pv 2) (pa_cons (pv 3) (pa_cons (pv 4) (pa_cons (pv 13) pa_nil)))))))) (pw_or1 (pt_not (pt_val (C8.pe_c G_l_same hr (by omega) (by rfl) (pa_cons (pe_prp T.cls_Net G_Net_spans hr (by omega) (pv 6)) (pa_cons (pv 4) pa_nil)))))))) (pss_one (ps_ret pe_bl)) pss_nil)))
    (pss_one (ps_ret pe_bl)))))))))))))))))))
abbrev N_BadName_init : List Str := ["self", "name"]
theorem sc_BadName_init : FnScope N_BadName_init ["self", "name"] (defScope s_BadName_init) := ⟨rfl, rfl, rfl, by decide +kernel, rfl, by decide +kernel, by decide +kernel⟩
theorem ok_BadName_init {f : Addr} {fd : FuncData} (F : FunD K "__init__" "BadName.__init__" (defArgs s_BadName_init) (defBody s_BadName_init) (defScope s_BadName_init) [] [] f fd) (T : Txt K mg) : FnOk P w K mg base CX0 1 f fd ["self", "name"] (spX (C_BadName K) ["name"]) := by
  refine F.ok sc_BadName_init (fun vs H Q E h => len_spX h) (fun cdv A outer s H vs Q E hr h => ⟨_, PSs.nox ?_, ini1 T.ox_BadName T.na_BadName_name h⟩)
  exact (pss_one (ps_ost (pv 0) (pv 1)))
abbrev N_BadNumber_init : List Str := ["self", "number"]
theorem sc_BadNumber_init : FnScope N_BadNumber_init ["self", "number"] (defScope s_BadNumber_init) := ⟨rfl, rfl, rfl, by decide +kernel, rfl, by decide +kernel, by decide +kernel⟩
theorem ok_BadNumber_init {f : Addr} {fd : FuncData} (F : FunD K "__init__" "BadNumber.__init__" (defArgs s_BadNumber_init) (defBody s_BadNumber_init) (defScope s_BadNumber_init) [] [] f fd) (T : Txt K mg) : FnOk P w K mg base CX0 1 f fd ["self", "number"] (spX (C_BadNumber K) ["number"]) := by
  refine F.ok sc_BadNumber_init (fun vs H Q E h => len_spX h) (fun cdv A outer s H vs Q E hr h => ⟨_, PSs.nox ?_, ini1 T.ox_BadNumber T.na_BadNumber_number h⟩)
  exact (pss_one (ps_ost (pv 0) (pv 1)))
abbrev N_DoubleEvent_init : List Str := ["self", "name"]
theorem sc_DoubleEvent_init : FnScope N_DoubleEvent_init ["self", "name"] (defScope s_DoubleEvent_init) := ⟨rfl, rfl, rfl, by decide +kernel, rfl, by decide +kernel, by decide +kernel⟩
theorem ok_DoubleEvent_init {f : Addr} {fd : FuncData} (F : FunD K "__init__" "DoubleEvent.__init__" (defArgs s_DoubleEvent_init) (defBody s_DoubleEvent_init) (defScope s_DoubleEvent_init) [] [] f fd) (T : Txt K mg) : FnOk P w K mg base CX0 1 f fd ["self", "name"] (spX (C_DoubleEvent K) ["name"]) := by
  refine F.ok sc_DoubleEvent_init (fun vs H Q E h => len_spX h) (fun cdv A outer s H vs Q E hr h => ⟨_, PSs.nox ?_, ini1 T.ox_DoubleEvent T.na_DoubleEvent_name h⟩)
  exact (pss_one (ps_ost (pv 0) (pv 1)))
abbrev N_SameEvent_init : List Str := ["self", "name"]
theorem sc_SameEvent_init : FnScope N_SameEvent_init ["self", "name"] (defScope s_SameEvent_init) := ⟨rfl, rfl, rfl, by decide +kernel, rfl, by decide +kernel, by decide +kernel⟩
theorem ok_SameEvent_init {f : Addr} {fd : FuncData} (F : FunD K "__init__" "SameEvent.__init__" (defArgs s_SameEvent_init) (defBody s_SameEvent_init) (defScope s_SameEvent_init) [] [] f fd) (T : Txt K mg) : FnOk P w K mg base CX0 1 f fd ["self", "name"] (spX (C_SameEvent K) ["name"]) := by
  refine F.ok sc_SameEvent_init (fun vs H Q E h => len_spX h) (fun cdv A outer s H vs Q E hr h => ⟨_, PSs.nox ?_, ini1 T.ox_SameEvent T.na_SameEvent_name h⟩)
  exact (pss_one (ps_ost (pv 0) (pv 1)))
abbrev N_TooMany_init : List Str := ["self", "count", "limit"]
theorem sc_TooMany_init : FnScope N_TooMany_init ["self", "count", "limit"] (defScope s_TooMany_init) := ⟨rfl, rfl, rfl, by decide +kernel, rfl, by decide +kernel, by decide +kernel⟩
theorem ok_TooMany_init {f : Addr} {fd : FuncData} (F : FunD K "__init__" "TooMany.__init__" (defArgs s_TooMany_init) (defBody s_TooMany_init) (defScope s_TooMany_init) [] [] f fd) (T : Txt K mg) : FnOk P w K mg base CX0 1 f fd ["self", "count", "limit"] (spX (C_TooMany K) ["count", "limit"]) := by
  refine F.ok sc_TooMany_init (fun vs H Q E h => len_spX h) (fun cdv A outer s H vs Q E hr h => ⟨_, PSs.nox ?_, ini2 T.ox_TooMany T.na_TooMany_count T.na_TooMany_limit h⟩)
  exact (pss_cons (ps_ost (pv 0) (pv 1)) (pss_one (ps_ost (pv 0) (pv 2))))
abbrev N_UnknownEvent_init : List Str := ["self", "name"]
theorem sc_UnknownEvent_init : FnScope N_UnknownEvent_init ["self", "name"] (defScope s_UnknownEvent_init) := ⟨rfl, rfl, rfl, by decide +kernel, rfl, by decide +kernel, by decide +kernel⟩
theorem ok_UnknownEvent_init {f : Addr} {fd : FuncData} (F : FunD K "__init__" "UnknownEvent.__init__" (defArgs s_UnknownEvent_init) (defBody s_UnknownEvent_init) (defScope s_UnknownEvent_init) [] [] f fd) (T : Txt K mg) : FnOk P w K mg base CX0 1 f fd ["self", "name"] (spX (C_UnknownEvent K) ["name"]) := by
  refine F.ok sc_UnknownEvent_init (fun vs H Q E h => len_spX h) (fun cdv A outer s H vs Q E hr h => ⟨_, PSs.nox ?_, ini1 T.ox_UnknownEvent T.na_UnknownEvent_name h⟩)
  exact (pss_one (ps_ost (pv 0) (pv 1)))
abbrev N_UnknownSpan_init : List Str := ["self", "number"]
theorem sc_UnknownSpan_init : FnScope N_UnknownSpan_init ["self", "number"] (defScope s_UnknownSpan_init) := ⟨rfl, rfl, rfl, by decide +kernel, rfl, by decide +kernel, by decide +kernel⟩
theorem ok_UnknownSpan_init {f : Addr} {fd : FuncData} (F : FunD K "__init__" "UnknownSpan.__init__" (defArgs s_UnknownSpan_init) (defBody s_UnknownSpan_init) (defScope s_UnknownSpan_init) [] [] f fd) (T : Txt K mg) : FnOk P w K mg base CX0 1 f fd ["self", "number"] (spX (C_UnknownSpan K) ["number"]) := by
  refine F.ok sc_UnknownSpan_init (fun vs H Q E h => len_spX h) (fun cdv A outer s H vs Q E hr h => ⟨_, PSs.nox ?_, ini1 T.ox_UnknownSpan T.na_UnknownSpan_number h⟩)
  exact (pss_one (ps_ost (pv 0) (pv 1)))
end
theorem facts {P : Program} {w : World} {K : PySem.W.Frag} {h : Heap} {mg : Str → Option Value} {f : Addr} (X : K.In h) (G : h.Ns mainGlobals mg) (hfa : mg ("law" : Str) = some (.ref f)) (c : SaysX bs fas fns K) :
    ∃ fd : FuncData, (∀ (s : Shared) (v : Value), BindsTo s fd ⟨[v], []⟩ [("_law_script", v)]) ∧ ∀ base : Heap, K.In base → base.Ns mainGlobals mg → FnOk P w K mg base CX0 12 f fd ["_law_script"] (sp_law K) := by
  obtain ⟨fd_check_range, F_check_range⟩ := c.def_ 0 (d := d_check_range) rfl
  have g_check_range := He.glo_ok X G (c.fact 0 (f := .glo "check_range") rfl)
  obtain ⟨fd_check_round_length, F_check_round_length⟩ := c.def_ 1 (d := d_check_round_length) rfl
  have g_check_round_length := He.glo_ok X G (c.fact 1 (f := .glo "check_round_length") rfl)
  obtain ⟨fd_check_count, F_check_count⟩ := c.def_ 2 (d := d_check_count) rfl
  have g_check_count := He.glo_ok X G (c.fact 2 (f := .glo "check_count") rfl)
  obtain ⟨fd_is_name, F_is_name⟩ := c.def_ 3 (d := d_is_name) rfl
  have g_is_name := He.glo_ok X G (c.fact 3 (f := .glo "is_name") rfl)
  obtain ⟨fd_check_name, F_check_name⟩ := c.def_ 4 (d := d_check_name) rfl
  have g_check_name := He.glo_ok X G (c.fact 4 (f := .glo "check_name") rfl)
  obtain ⟨fd_check_event, F_check_event⟩ := c.def_ 5 (d := d_check_event) rfl
  have g_check_event := He.glo_ok X G (c.fact 5 (f := .glo "check_event") rfl)
  obtain ⟨fd_check_known, F_check_known⟩ := c.def_ 6 (d := d_check_known) rfl
  have g_check_known := He.glo_ok X G (c.fact 6 (f := .glo "check_known") rfl)
  obtain ⟨fd_check_span, F_check_span⟩ := c.def_ 7 (d := d_check_span) rfl
  have g_check_span := He.glo_ok X G (c.fact 7 (f := .glo "check_span") rfl)
  obtain ⟨fd_check_net, F_check_net⟩ := c.def_ 8 (d := d_check_net) rfl
  have g_check_net := He.glo_ok X G (c.fact 8 (f := .glo "check_net") rfl)
  obtain ⟨fd_Net_init, F_Net_init⟩ := c.def_ 9 (d := d_Net_init) rfl
  have m_Net_init := He.mkr_ok (c.fact 9 (f := .mkr "Net") rfl)
  obtain ⟨fd_Net_spans, F_Net_spans⟩ := c.def_ 10 (d := d_Net_spans) rfl
  have m_Net_spans := bProp_ok (c.b 19 (f := bProp "Net" "spans") rfl)
  obtain ⟨fd_l_pool, F_l_pool⟩ := c.def_ 11 (d := d_l_pool) rfl
  have g_l_pool := He.glo_ok X G (c.fact 10 (f := .glo "_law_pool") rfl)
  obtain ⟨fd_l_draw, F_l_draw⟩ := c.def_ 12 (d := d_l_draw) rfl
  have g_l_draw := He.glo_ok X G (c.fact 11 (f := .glo "_law_draw") rfl)
  obtain ⟨fd_l_word, F_l_word⟩ := c.def_ 13 (d := d_l_word) rfl
  have g_l_word := He.glo_ok X G (c.fact 12 (f := .glo "_law_word") rfl)
  obtain ⟨fd_l_names, F_l_names⟩ := c.def_ 14 (d := d_l_names) rfl
  have g_l_names := He.glo_ok X G (c.fact 13 (f := .glo "_law_names") rfl)
  obtain ⟨fd_l_stranger, F_l_stranger⟩ := c.def_ 15 (d := d_l_stranger) rfl
  have g_l_stranger := He.glo_ok X G (c.fact 14 (f := .glo "_law_stranger") rfl)
  obtain ⟨fd_l_length, F_l_length⟩ := c.def_ 16 (d := d_l_length) rfl
  have g_l_length := He.glo_ok X G (c.fact 15 (f := .glo "_law_length") rfl)
  obtain ⟨fd_l_size, F_l_size⟩ := c.def_ 17 (d := d_l_size) rfl
  have g_l_size := He.glo_ok X G (c.fact 16 (f := .glo "_law_size") rfl)
  obtain ⟨fd_l_some, F_l_some⟩ := c.def_ 18 (d := d_l_some) rfl
  have g_l_some := He.glo_ok X G (c.fact 17 (f := .glo "_law_some") rfl)
  obtain ⟨fd_l_weight, F_l_weight⟩ := c.def_ 19 (d := d_l_weight) rfl
  have g_l_weight := He.glo_ok X G (c.fact 18 (f := .glo "_law_weight") rfl)
  obtain ⟨fd_l_span, F_l_span⟩ := c.def_ 20 (d := d_l_span) rfl
  have g_l_span := He.glo_ok X G (c.fact 19 (f := .glo "_law_span") rfl)
  obtain ⟨fd_l_spans, F_l_spans⟩ := c.def_ 21 (d := d_l_spans) rfl
  have g_l_spans := He.glo_ok X G (c.fact 20 (f := .glo "_law_spans") rfl)
  obtain ⟨fd_l_is_int, F_l_is_int⟩ := c.def_ 22 (d := d_l_is_int) rfl
  have g_l_is_int := He.glo_ok X G (c.fact 21 (f := .glo "_law_is_int") rfl)
  obtain ⟨fd_l_same, F_l_same⟩ := c.def_ 23 (d := d_l_same) rfl
  have g_l_same := He.glo_ok X G (c.fact 22 (f := .glo "_law_same") rfl)
  obtain ⟨fd_l_filled, F_l_filled⟩ := c.def_ 24 (d := d_l_filled) rfl
  have g_l_filled := He.glo_ok X G (c.fact 23 (f := .glo "_law_filled") rfl)
  obtain ⟨fd_l_number, F_l_number⟩ := c.def_ 25 (d := d_l_number) rfl
  have g_l_number := He.glo_ok X G (c.fact 24 (f := .glo "_law_number") rfl)
  obtain ⟨fd_l_bounds, F_l_bounds⟩ := c.def_ 26 (d := d_l_bounds) rfl
  have g_l_bounds := He.glo_ok X G (c.fact 25 (f := .glo "_law_bounds") rfl)
  obtain ⟨fd_Net_round_length, F_Net_round_length⟩ := c.def_ 27 (d := d_Net_round_length) rfl
  have m_Net_round_length := bProp_ok (c.b 20 (f := bProp "Net" "round_length") rfl)
  obtain ⟨fd_Net_events, F_Net_events⟩ := c.def_ 28 (d := d_Net_events) rfl
  have m_Net_events := bProp_ok (c.b 21 (f := bProp "Net" "events") rfl)
  obtain ⟨fd_l_tests, F_l_tests⟩ := c.def_ 29 (d := d_l_tests) rfl
  have g_l_tests := He.glo_ok X G (c.fact 26 (f := .glo "_law_tests") rfl)
  obtain ⟨fd_l_due, F_l_due⟩ := c.def_ 30 (d := d_l_due) rfl
  have g_l_due := He.glo_ok X G (c.fact 27 (f := .glo "_law_due") rfl)
  obtain ⟨fd_Netcheck_number, F_Netcheck_number⟩ := c.def_ 31 (d := d_Netcheck_number) rfl
  have m_Netcheck_number := He.meth_ok (c.fact 28 (f := .meth "Net" "_check_number") rfl)
  obtain ⟨fd_Net_span, F_Net_span⟩ := c.def_ 32 (d := d_Net_span) rfl
  have m_Net_span := He.meth_ok (c.fact 29 (f := .meth "Net" "span") rfl)
  obtain ⟨fd_Net_with_span, F_Net_with_span⟩ := c.def_ 33 (d := d_Net_with_span) rfl
  have F_Net_with_span : FunD K "with_span" "Net.with_span" (defArgs s_Net_with_span) (defBody s_Net_with_span) (defScope s_Net_with_span) [] [("weight", .int 1)] _ fd_Net_with_span := F_Net_with_span
  have m_Net_with_span := He.meth_ok (c.fact 30 (f := .meth "Net" "with_span") rfl)
  obtain ⟨fd_Net_without, F_Net_without⟩ := c.def_ 34 (d := d_Net_without) rfl
  have m_Net_without := He.meth_ok (c.fact 31 (f := .meth "Net" "without") rfl)
  obtain ⟨fd_Net_changed, F_Net_changed⟩ := c.def_ 35 (d := d_Net_changed) rfl
  have m_Net_changed := He.meth_ok (c.fact 32 (f := .meth "Net" "changed") rfl)
  obtain ⟨fd_l_do, F_l_do⟩ := c.def_ 36 (d := d_l_do) rfl
  have g_l_do := He.glo_ok X G (c.fact 33 (f := .glo "_law_do") rfl)
  obtain ⟨fd_l_flags, F_l_flags⟩ := c.def_ 37 (d := d_l_flags) rfl
  have g_l_flags := He.glo_ok X G (c.fact 34 (f := .glo "_law_flags") rfl)
  obtain ⟨fd_l_told, F_l_told⟩ := c.def_ 38 (d := d_l_told) rfl
  have g_l_told := He.glo_ok X G (c.fact 35 (f := .glo "_law_told") rfl)
  obtain ⟨fd_l_outcome, F_l_outcome⟩ := c.def_ 39 (d := d_l_outcome) rfl
  have g_l_outcome := He.glo_ok X G (c.fact 36 (f := .glo "_law_outcome") rfl)
  obtain ⟨fd_l_holds, F_l_holds⟩ := c.def_ 40 (d := d_l_holds) rfl
  have g_l_holds := He.glo_ok X G (c.fact 37 (f := .glo "_law_holds") rfl)
  obtain ⟨fd_law, F_law⟩ := c.def_ 41 (d := d_law) rfl
  have g_law := He.glo_ok X G (c.fact 38 (f := .glo "law") rfl)
  obtain ⟨fd_BadName_init, F_BadName_init⟩ := c.def_ 42 (d := d_BadName_init) rfl
  have m_BadName_init := He.meth_ok (c.fact 39 (f := .meth "BadName" "__init__") rfl)
  obtain ⟨fd_BadNumber_init, F_BadNumber_init⟩ := c.def_ 43 (d := d_BadNumber_init) rfl
  have m_BadNumber_init := He.meth_ok (c.fact 40 (f := .meth "BadNumber" "__init__") rfl)
  obtain ⟨fd_DoubleEvent_init, F_DoubleEvent_init⟩ := c.def_ 44 (d := d_DoubleEvent_init) rfl
  have m_DoubleEvent_init := He.meth_ok (c.fact 41 (f := .meth "DoubleEvent" "__init__") rfl)
  obtain ⟨fd_SameEvent_init, F_SameEvent_init⟩ := c.def_ 45 (d := d_SameEvent_init) rfl
  have m_SameEvent_init := He.meth_ok (c.fact 42 (f := .meth "SameEvent" "__init__") rfl)
  obtain ⟨fd_TooMany_init, F_TooMany_init⟩ := c.def_ 46 (d := d_TooMany_init) rfl
  have m_TooMany_init := He.meth_ok (c.fact 43 (f := .meth "TooMany" "__init__") rfl)
  obtain ⟨fd_UnknownEvent_init, F_UnknownEvent_init⟩ := c.def_ 47 (d := d_UnknownEvent_init) rfl
  have m_UnknownEvent_init := He.meth_ok (c.fact 44 (f := .meth "UnknownEvent" "__init__") rfl)
  obtain ⟨fd_UnknownSpan_init, F_UnknownSpan_init⟩ := c.def_ 48 (d := d_UnknownSpan_init) rfl
  have m_UnknownSpan_init := He.meth_ok (c.fact 45 (f := .meth "UnknownSpan" "__init__") rfl)
  have t_f_len := He.free_ok X G (c.fact 46 (f := .free "len") rfl)
  have t_f_list := He.free_ok X G (c.fact 47 (f := .free "list") rfl)
  have t_cls_Net := He.cls_ok (c.fact 48 (f := .cls "Net") rfl)
  have t_na_Net__round_length := He.noat_ok (c.fact 49 (f := .noat "Net" "_round_length") rfl)
  have t_na_Net__events := He.noat_ok (c.fact 50 (f := .noat "Net" "_events") rfl)
  have t_na_Net__spans := He.noat_ok (c.fact 51 (f := .noat "Net" "_spans") rfl)
  have t_g_Net := He.glo_ok X G (c.fact 52 (f := .glo "Net") rfl)
  have t_rd_Net := bRead_ok (c.b 0 (f := bRead "Net") rfl)
  have t_cv_Net_EVENTS := bCval_ok (c.b 1 (f := bCval "Net" "EVENTS" 12) rfl)
  have t_f_enumerate := He.free_ok X G (c.fact 53 (f := .free "enumerate") rfl)
  have t_cv_Net_SPANS := bCval_ok (c.b 2 (f := bCval "Net" "SPANS" 24) rfl)
  have t_cv_Net_LONGEST := bCval_ok (c.b 3 (f := bCval "Net" "LONGEST" 120) rfl)
  have t_cv_Net_SHORTEST := bCval_ok (c.b 4 (f := bCval "Net" "SHORTEST" 3) rfl)
  have t_g_BadNumber := He.glo_ok X G (c.fact 54 (f := .glo "BadNumber") rfl)
  have t_ox_BadNumber := bOex_ok (c.b 5 (f := bOex "BadNumber") rfl)
  have t_na_BadNumber_number := He.noat_ok (c.fact 55 (f := .noat "BadNumber" "number") rfl)
  have t_g_TooMany := He.glo_ok X G (c.fact 56 (f := .glo "TooMany") rfl)
  have t_ox_TooMany := bOex_ok (c.b 6 (f := bOex "TooMany") rfl)
  have t_na_TooMany_count := He.noat_ok (c.fact 57 (f := .noat "TooMany" "count") rfl)
  have t_na_TooMany_limit := He.noat_ok (c.fact 58 (f := .noat "TooMany" "limit") rfl)
  have t_g_DoubleEvent := He.glo_ok X G (c.fact 59 (f := .glo "DoubleEvent") rfl)
  have t_ox_DoubleEvent := bOex_ok (c.b 7 (f := bOex "DoubleEvent") rfl)
  have t_na_DoubleEvent_name := He.noat_ok (c.fact 60 (f := .noat "DoubleEvent" "name") rfl)
  have t_g_BadName := He.glo_ok X G (c.fact 61 (f := .glo "BadName") rfl)
  have t_ox_BadName := bOex_ok (c.b 8 (f := bOex "BadName") rfl)
  have t_na_BadName_name := He.noat_ok (c.fact 62 (f := .noat "BadName" "name") rfl)
  have t_c_LONGEST_NAME : ∃ u, mg "LONGEST_NAME" = some u ∧ RelV (.int 8) u := (He.int_ok X G (c.fact 63 (f := .int "LONGEST_NAME" (8)) rfl)).elim fun t e => ⟨_, e, ⟨t, rfl⟩⟩
  have z_c_LETTERS : ("abcdefghijklmnopqrstuvwxyz" : Str) = S Z26 := by decide +kernel
  have t_c_LETTERS : ∃ u, mg "LETTERS" = some u ∧ RelV (.str (S Z26)) u := (He.str_ok X G (c.fact 64 (f := .str "LETTERS" "abcdefghijklmnopqrstuvwxyz") rfl)).elim fun t e => ⟨_, e, ⟨t, by rw [z_c_LETTERS]⟩⟩
  have z_c_DIGITS : ("0123456789" : Str) = S Z10 := by decide +kernel
  have t_c_DIGITS : ∃ u, mg "DIGITS" = some u ∧ RelV (.str (S Z10)) u := (He.str_ok X G (c.fact 65 (f := .str "DIGITS" "0123456789") rfl)).elim fun t e => ⟨_, e, ⟨t, by rw [z_c_DIGITS]⟩⟩
  have t_f_all := He.free_ok X G (c.fact 66 (f := .free "all") rfl)
  have t_g_SameEvent := He.glo_ok X G (c.fact 67 (f := .glo "SameEvent") rfl)
  have t_ox_SameEvent := bOex_ok (c.b 9 (f := bOex "SameEvent") rfl)
  have t_na_SameEvent_name := He.noat_ok (c.fact 68 (f := .noat "SameEvent" "name") rfl)
  have t_cv_Net_HEAVIEST := bCval_ok (c.b 10 (f := bCval "Net" "HEAVIEST" 99) rfl)
  have t_g_UnknownEvent := He.glo_ok X G (c.fact 69 (f := .glo "UnknownEvent") rfl)
  have t_ox_UnknownEvent := bOex_ok (c.b 11 (f := bOex "UnknownEvent") rfl)
  have t_na_UnknownEvent_name := He.noat_ok (c.fact 70 (f := .noat "UnknownEvent" "name") rfl)
  have t_f_int := He.free_ok X G (c.fact 71 (f := .free "int") rfl)
  have t_f_range := He.free_ok X G (c.fact 72 (f := .free "range") rfl)
  have t_f_str := He.free_ok X G (c.fact 73 (f := .free "str") rfl)
  have t_f_min := He.free_ok X G (c.fact 74 (f := .free "min") rfl)
  have t_f_max := He.free_ok X G (c.fact 75 (f := .free "max") rfl)
  have t_f_bool := He.free_ok X G (c.fact 76 (f := .free "bool") rfl)
  have t_f_isinstance := He.free_ok X G (c.fact 77 (f := .free "isinstance") rfl)
  have t_f_dict := He.free_ok X G (c.fact 78 (f := .free "dict") rfl)
  have t_f_tuple := He.free_ok X G (c.fact 79 (f := .free "tuple") rfl)
  have t_g_UnknownSpan := He.glo_ok X G (c.fact 80 (f := .glo "UnknownSpan") rfl)
  have t_ox_UnknownSpan := bOex_ok (c.b 12 (f := bOex "UnknownSpan") rfl)
  have t_na_UnknownSpan_number := He.noat_ok (c.fact 81 (f := .noat "UnknownSpan" "number") rfl)
  have t_g_MinuteError := He.glo_ok X G (c.fact 82 (f := .glo "MinuteError") rfl)
  have t_g_WrongNames := He.glo_ok X G (c.fact 83 (f := .glo "WrongNames") rfl)
  have t_g_BrokenSpan := He.glo_ok X G (c.fact 84 (f := .glo "BrokenSpan") rfl)
  have t_f_ValueError := He.free_ok X G (c.fact 85 (f := .free "ValueError") rfl)
  have t_xf_BadNumber := bXf_ok (c.b 13 (f := bXf "BadNumber") rfl)
  have t_xf_SameEvent := bXf_ok (c.b 14 (f := bXf "SameEvent") rfl)
  have t_xf_TooMany := bXf_ok (c.b 15 (f := bXf "TooMany") rfl)
  have t_xf_UnknownEvent := bXf_ok (c.b 16 (f := bXf "UnknownEvent") rfl)
  have t_xf_UnknownSpan := bXf_ok (c.b 17 (f := bXf "UnknownSpan") rfl)
  have t_xf := bXall_ok (c.b 18 (f := bXall exs) rfl)
  have T : Txt K mg := ⟨t_f_len, t_f_list, t_cls_Net, t_na_Net__round_length, t_na_Net__events, t_na_Net__spans, t_g_Net, t_rd_Net, t_cv_Net_EVENTS, t_f_enumerate, t_cv_Net_SPANS, t_cv_Net_LONGEST, t_cv_Net_SHORTEST, t_g_BadNumber, t_ox_BadNumber, t_na_BadNumber_number, t_g_TooMany, t_ox_TooMany, t_na_TooMany_count, t_na_TooMany_limit, t_g_DoubleEvent, t_ox_DoubleEvent, t_na_DoubleEvent_name, t_g_BadName, t_ox_BadName, t_na_BadName_name, t_c_LONGEST_NAME, t_c_LETTERS, t_c_DIGITS, t_f_all, t_g_SameEvent, t_ox_SameEvent, t_na_SameEvent_name, t_cv_Net_HEAVIEST, t_g_UnknownEvent, t_ox_UnknownEvent, t_na_UnknownEvent_name, t_f_int, t_f_range, t_f_str, t_f_min, t_f_max, t_f_bool, t_f_isinstance, t_f_dict, t_f_tuple, t_g_UnknownSpan, t_ox_UnknownSpan, t_na_UnknownSpan_number, t_g_MinuteError, t_g_WrongNames, t_g_BrokenSpan, t_f_ValueError, t_xf_BadNumber, t_xf_SameEvent, t_xf_TooMany, t_xf_UnknownEvent, t_xf_UnknownSpan, t_xf⟩
  have e := hfa.symm.trans g_law
  cases e
  have b := FunD.bindsA (ps := ["_law_script"]) F_law fun _ _ _ _ _ _ us hl => match us, hl with | [_], _ => rfl
  refine ⟨fd_law, fun s v => b s [v] rfl, fun base _ _ => ?_⟩
  have GX_BadName : XMk P w K mg base 1 "BadName" (C_BadName K) (spX (C_BadName K) ["name"]) := ⟨_, fd_BadName_init, _, ⟨t_ox_BadName, m_BadName_init.at_, beq_iff_eq.mp m_BadName_init.fn⟩, ok_BadName_init F_BadName_init T, F_BadName_init.bindsN (ps := ["self", "name"]) (fun _ _ _ _ _ _ us hl => match us, hl with | [_, _], _ => rfl), t_g_BadName⟩
  have GX_BadNumber : XMk P w K mg base 1 "BadNumber" (C_BadNumber K) (spX (C_BadNumber K) ["number"]) := ⟨_, fd_BadNumber_init, _, ⟨t_ox_BadNumber, m_BadNumber_init.at_, beq_iff_eq.mp m_BadNumber_init.fn⟩, ok_BadNumber_init F_BadNumber_init T, F_BadNumber_init.bindsN (ps := ["self", "number"]) (fun _ _ _ _ _ _ us hl => match us, hl with | [_, _], _ => rfl), t_g_BadNumber⟩
  have GX_DoubleEvent : XMk P w K mg base 1 "DoubleEvent" (C_DoubleEvent K) (spX (C_DoubleEvent K) ["name"]) := ⟨_, fd_DoubleEvent_init, _, ⟨t_ox_DoubleEvent, m_DoubleEvent_init.at_, beq_iff_eq.mp m_DoubleEvent_init.fn⟩, ok_DoubleEvent_init F_DoubleEvent_init T, F_DoubleEvent_init.bindsN (ps := ["self", "name"]) (fun _ _ _ _ _ _ us hl => match us, hl with | [_, _], _ => rfl), t_g_DoubleEvent⟩
  have GX_SameEvent : XMk P w K mg base 1 "SameEvent" (C_SameEvent K) (spX (C_SameEvent K) ["name"]) := ⟨_, fd_SameEvent_init, _, ⟨t_ox_SameEvent, m_SameEvent_init.at_, beq_iff_eq.mp m_SameEvent_init.fn⟩, ok_SameEvent_init F_SameEvent_init T, F_SameEvent_init.bindsN (ps := ["self", "name"]) (fun _ _ _ _ _ _ us hl => match us, hl with | [_, _], _ => rfl), t_g_SameEvent⟩
  have GX_TooMany : XMk P w K mg base 1 "TooMany" (C_TooMany K) (spX (C_TooMany K) ["count", "limit"]) := ⟨_, fd_TooMany_init, _, ⟨t_ox_TooMany, m_TooMany_init.at_, beq_iff_eq.mp m_TooMany_init.fn⟩, ok_TooMany_init F_TooMany_init T, F_TooMany_init.bindsN (ps := ["self", "count", "limit"]) (fun _ _ _ _ _ _ us hl => match us, hl with | [_, _, _], _ => rfl), t_g_TooMany⟩
  have GX_UnknownEvent : XMk P w K mg base 1 "UnknownEvent" (C_UnknownEvent K) (spX (C_UnknownEvent K) ["name"]) := ⟨_, fd_UnknownEvent_init, _, ⟨t_ox_UnknownEvent, m_UnknownEvent_init.at_, beq_iff_eq.mp m_UnknownEvent_init.fn⟩, ok_UnknownEvent_init F_UnknownEvent_init T, F_UnknownEvent_init.bindsN (ps := ["self", "name"]) (fun _ _ _ _ _ _ us hl => match us, hl with | [_, _], _ => rfl), t_g_UnknownEvent⟩
  have GX_UnknownSpan : XMk P w K mg base 1 "UnknownSpan" (C_UnknownSpan K) (spX (C_UnknownSpan K) ["number"]) := ⟨_, fd_UnknownSpan_init, _, ⟨t_ox_UnknownSpan, m_UnknownSpan_init.at_, beq_iff_eq.mp m_UnknownSpan_init.fn⟩, ok_UnknownSpan_init F_UnknownSpan_init T, F_UnknownSpan_init.bindsN (ps := ["self", "number"]) (fun _ _ _ _ _ _ us hl => match us, hl with | [_, _], _ => rfl), t_g_UnknownSpan⟩
  have G_check_range : CalX P w K mg base (3) "check_range" (sp_check_range K) [] := ⟨_, fd_check_range, _, [], ok_check_range F_check_range T GX_BadNumber, g_check_range, F_check_range.kp, F_check_range.bindsN (ps := ["number", "low", "high"]) (fun _ _ _ _ _ _ us hl => match us, hl with | [_, _, _], _ => rfl), .nil⟩
  have G_check_round_length : CalX P w K mg base (4) "check_round_length" (sp_check_round_length K) [] := ⟨_, fd_check_round_length, _, [], ok_check_round_length F_check_round_length T G_check_range, g_check_round_length, F_check_round_length.kp, F_check_round_length.bindsN (ps := ["round_length"]) (fun _ _ _ _ _ _ us hl => match us, hl with | [_], _ => rfl), .nil⟩
  have G_check_count : CalX P w K mg base (3) "check_count" (sp_check_count K) [] := ⟨_, fd_check_count, _, [], ok_check_count F_check_count T GX_TooMany, g_check_count, F_check_count.kp, F_check_count.bindsN (ps := ["count", "limit"]) (fun _ _ _ _ _ _ us hl => match us, hl with | [_, _], _ => rfl), .nil⟩
  have G_is_name : C8.Cal P w K mg base (1) "is_name" (sp_is_name K) [] := ⟨_, fd_is_name, _, [], ok_is_name F_is_name T , g_is_name, F_is_name.kp, F_is_name.bindsN (ps := ["text"]) (fun _ _ _ _ _ _ us hl => match us, hl with | [_], _ => rfl), .nil⟩
  have G_check_name : CalX P w K mg base (3) "check_name" (sp_check_name K) [] := ⟨_, fd_check_name, _, [], ok_check_name F_check_name T GX_BadName G_is_name, g_check_name, F_check_name.kp, F_check_name.bindsN (ps := ["text"]) (fun _ _ _ _ _ _ us hl => match us, hl with | [_], _ => rfl), .nil⟩
  have G_check_event : CalX P w K mg base (4) "check_event" (sp_check_event K) [] := ⟨_, fd_check_event, _, [], ok_check_event F_check_event T GX_DoubleEvent G_check_name, g_check_event, F_check_event.kp, F_check_event.bindsN (ps := ["name", "before"]) (fun _ _ _ _ _ _ us hl => match us, hl with | [_, _], _ => rfl), .nil⟩
  have G_check_known : CalX P w K mg base (3) "check_known" (sp_check_known K) [] := ⟨_, fd_check_known, _, [], ok_check_known F_check_known T GX_UnknownEvent, g_check_known, F_check_known.kp, F_check_known.bindsN (ps := ["names", "known"]) (fun _ _ _ _ _ _ us hl => match us, hl with | [_, _], _ => rfl), .nil⟩
  have G_check_span : CalX P w K mg base (4) "check_span" (sp_check_span K) [] := ⟨_, fd_check_span, _, [], ok_check_span F_check_span T GX_SameEvent G_check_range G_check_known, g_check_span, F_check_span.kp, F_check_span.bindsN (ps := ["round_length", "events", "span"]) (fun _ _ _ _ _ _ us hl => match us, hl with | [_, _, _], _ => rfl), .nil⟩
  have G_check_net : CalX P w K mg base (5) "check_net" (sp_check_net K) [] := ⟨_, fd_check_net, _, [], ok_check_net F_check_net T G_check_round_length G_check_count G_check_event G_check_span, g_check_net, F_check_net.kp, F_check_net.bindsN (ps := ["round_length", "events", "spans"]) (fun _ _ _ _ _ _ us hl => match us, hl with | [_, _, _], _ => rfl), .nil⟩
  have G_Net_init : MakX P w K mg base 6 "Net" (C_Net K) (sp_Net_init K) [] := ⟨_, fd_Net_init, _, [], m_Net_init, ok_Net_init F_Net_init T G_check_net, t_g_Net, F_Net_init.bindsN (ps := ["self", "round_length", "events", "spans"]) (fun _ _ _ _ _ _ us hl => match us, hl with | [_, _, _, _], _ => rfl), .nil⟩
  have G_Net_spans : Prp P w K mg base 1 (C_Net K) "spans" (sp_Net_spans K) := ⟨_, _, fd_Net_spans, _, m_Net_spans, ok_Net_spans F_Net_spans T , F_Net_spans.bindsN (ps := ["self"]) (fun _ _ _ _ _ _ us hl => match us, hl with | [_], _ => rfl)⟩
  have G_l_pool : C8.Cal P w K mg base (1) "_law_pool" (sp_l_pool K) [] := ⟨_, fd_l_pool, _, [], ok_l_pool F_l_pool T , g_l_pool, F_l_pool.kp, F_l_pool.bindsN (ps := ["_law_script"]) (fun _ _ _ _ _ _ us hl => match us, hl with | [_], _ => rfl), .nil⟩
  have G_l_draw : C8.Cal P w K mg base (1) "_law_draw" (sp_l_draw K) [] := ⟨_, fd_l_draw, _, [], ok_l_draw F_l_draw T , g_l_draw, F_l_draw.kp, F_l_draw.bindsN (ps := ["_law_pool_here", "_law_many"]) (fun _ _ _ _ _ _ us hl => match us, hl with | [_, _], _ => rfl), .nil⟩
  have G_l_word : C8.Cal P w K mg base (2) "_law_word" (sp_l_word K) [] := ⟨_, fd_l_word, _, [], ok_l_word F_l_word T G_l_draw, g_l_word, F_l_word.kp, F_l_word.bindsN (ps := ["_law_pool_here", "_law_size_here"]) (fun _ _ _ _ _ _ us hl => match us, hl with | [_, _], _ => rfl), .nil⟩
  have G_l_names : C8.Cal P w K mg base (3) "_law_names" (sp_l_names K) [] := ⟨_, fd_l_names, _, [], ok_l_names F_l_names T G_l_draw G_l_word, g_l_names, F_l_names.kp, F_l_names.bindsN (ps := ["_law_pool_here", "_law_many"]) (fun _ _ _ _ _ _ us hl => match us, hl with | [_, _], _ => rfl), .nil⟩
  have G_l_stranger : C8.Cal P w K mg base (3) "_law_stranger" (sp_l_stranger K) [] := ⟨_, fd_l_stranger, _, [], ok_l_stranger F_l_stranger T G_l_draw G_l_word, g_l_stranger, F_l_stranger.kp, F_l_stranger.bindsN (ps := ["_law_pool_here", "_law_names_here"]) (fun _ _ _ _ _ _ us hl => match us, hl with | [_, _], _ => rfl), .nil⟩
  have G_l_length : C8.Cal P w K mg base (2) "_law_length" (sp_l_length K) [] := ⟨_, fd_l_length, _, [], ok_l_length F_l_length T G_l_draw, g_l_length, F_l_length.kp, F_l_length.bindsN (ps := ["_law_pool_here", "_law_limit"]) (fun _ _ _ _ _ _ us hl => match us, hl with | [_, _], _ => rfl), .nil⟩
  have G_l_size : C8.Cal P w K mg base (2) "_law_size" (sp_l_size K) [] := ⟨_, fd_l_size, _, [], ok_l_size F_l_size T G_l_draw, g_l_size, F_l_size.kp, F_l_size.bindsN (ps := ["_law_pool_here", "_law_limit"]) (fun _ _ _ _ _ _ us hl => match us, hl with | [_, _], _ => rfl), .nil⟩
  have G_l_some : C8.Cal P w K mg base (2) "_law_some" (sp_l_some K) [] := ⟨_, fd_l_some, _, [], ok_l_some F_l_some T G_l_draw, g_l_some, F_l_some.kp, F_l_some.bindsN (ps := ["_law_pool_here", "_law_limit"]) (fun _ _ _ _ _ _ us hl => match us, hl with | [_, _], _ => rfl), .nil⟩
  have G_l_weight : C8.Cal P w K mg base (2) "_law_weight" (sp_l_weight K) [] := ⟨_, fd_l_weight, _, [], ok_l_weight F_l_weight T G_l_draw, g_l_weight, F_l_weight.kp, F_l_weight.bindsN (ps := ["_law_pool_here"]) (fun _ _ _ _ _ _ us hl => match us, hl with | [_], _ => rfl), .nil⟩
  have G_l_span : C8.Cal P w K mg base (3) "_law_span" (sp_l_span K) [] := ⟨_, fd_l_span, _, [], ok_l_span F_l_span T G_l_draw G_l_some G_l_weight, g_l_span, F_l_span.kp, F_l_span.bindsN (ps := ["_law_pool_here", "_law_length_here", "_law_names_here"]) (fun _ _ _ _ _ _ us hl => match us, hl with | [_, _, _], _ => rfl), .nil⟩
  have G_l_spans : C8.Cal P w K mg base (4) "_law_spans" (sp_l_spans K) [] := ⟨_, fd_l_spans, _, [], ok_l_spans F_l_spans T G_l_draw G_l_size G_l_span, g_l_spans, F_l_spans.kp, F_l_spans.bindsN (ps := ["_law_pool_here", "_law_length_here", "_law_names_here", "_law_limit"]) (fun _ _ _ _ _ _ us hl => match us, hl with | [_, _, _, _], _ => rfl), .nil⟩
  have G_l_is_int : C8.Cal P w K mg base (1) "_law_is_int" (sp_l_is_int K) [] := ⟨_, fd_l_is_int, _, [], ok_l_is_int F_l_is_int T , g_l_is_int, F_l_is_int.kp, F_l_is_int.bindsN (ps := ["_law_thing"]) (fun _ _ _ _ _ _ us hl => match us, hl with | [_], _ => rfl), .nil⟩
  have B_l_same := F_l_same.bindsN (ps := ["_law_actual", "_law_due_here"]) (fun _ _ _ _ _ _ us hl => match us, hl with | [_, _], _ => rfl)
  have R_l_same : ∀ n : Nat, C8.Cal P w K mg base (2 + n) "_law_same" (sp_l_same K n) [] := fun n => by
    induction n with
    | zero => exact ⟨_, fd_l_same, _, [], ok0_l_same F_l_same, g_l_same, F_l_same.kp, B_l_same, .nil⟩
    | succ n ih => exact ⟨_, fd_l_same, _, [], ok_l_same F_l_same T G_l_is_int n ih, g_l_same, F_l_same.kp, B_l_same, .nil⟩
  have G_l_same : C8.Cal P w K mg base (5) "_law_same" (sp_l_same K 3) [] := R_l_same 3
  have G_l_filled : C8.Cal P w K mg base (1) "_law_filled" (sp_l_filled K) [] := ⟨_, fd_l_filled, _, [], ok_l_filled F_l_filled T , g_l_filled, F_l_filled.kp, F_l_filled.bindsN (ps := ["_law_spans_here"]) (fun _ _ _ _ _ _ us hl => match us, hl with | [_], _ => rfl), .nil⟩
  have G_l_number : C8.Cal P w K mg base (2) "_law_number" (sp_l_number K) [] := ⟨_, fd_l_number, _, [], ok_l_number F_l_number T G_l_draw, g_l_number, F_l_number.kp, F_l_number.bindsN (ps := ["_law_pool_here", "_law_count"]) (fun _ _ _ _ _ _ us hl => match us, hl with | [_, _], _ => rfl), .nil⟩
  have G_l_bounds : C8.Cal P w K mg base (3) "_law_bounds" (sp_l_bounds K) [] := ⟨_, fd_l_bounds, _, [], ok_l_bounds F_l_bounds T G_l_draw G_l_some, g_l_bounds, F_l_bounds.kp, F_l_bounds.bindsN (ps := ["_law_pool_here", "_law_length_here"]) (fun _ _ _ _ _ _ us hl => match us, hl with | [_, _], _ => rfl), .nil⟩
  have G_Net_round_length : Prp P w K mg base 1 (C_Net K) "round_length" (sp_Net_round_length K) := ⟨_, _, fd_Net_round_length, _, m_Net_round_length, ok_Net_round_length F_Net_round_length T , F_Net_round_length.bindsN (ps := ["self"]) (fun _ _ _ _ _ _ us hl => match us, hl with | [_], _ => rfl)⟩
  have G_Net_events : Prp P w K mg base 1 (C_Net K) "events" (sp_Net_events K) := ⟨_, _, fd_Net_events, _, m_Net_events, ok_Net_events F_Net_events T , F_Net_events.bindsN (ps := ["self"]) (fun _ _ _ _ _ _ us hl => match us, hl with | [_], _ => rfl)⟩
  have G_l_tests : C8.Cal P w K mg base (1) "_law_tests" (sp_l_tests K) [] := ⟨_, fd_l_tests, _, [], ok_l_tests F_l_tests T , g_l_tests, F_l_tests.kp, F_l_tests.bindsN (ps := ["_law_length_here", "_law_names_here", "_law_spans_here", "_law_row"]) (fun _ _ _ _ _ _ us hl => match us, hl with | [_, _, _, _], _ => rfl), .nil⟩
  have G_l_due : C8.Cal P w K mg base (1) "_law_due" (sp_l_due K) [] := ⟨_, fd_l_due, _, [], ok_l_due F_l_due T , g_l_due, F_l_due.kp, F_l_due.bindsN (ps := ["_law_tests_here"]) (fun _ _ _ _ _ _ us hl => match us, hl with | [_], _ => rfl), .nil⟩
  have G_Netcheck_number : MetX P w K mg base 3 (C_Net K) "_check_number" (sp_Netcheck_number K) [] := ⟨_, fd_Netcheck_number, _, [], t_cls_Net, m_Netcheck_number, ok_Netcheck_number F_Netcheck_number T GX_UnknownSpan, F_Netcheck_number.bindsN (ps := ["self", "number"]) (fun _ _ _ _ _ _ us hl => match us, hl with | [_, _], _ => rfl), .nil⟩
  have G_Net_span : MetX P w K mg base 4 (C_Net K) "span" (sp_Net_span K) [] := ⟨_, fd_Net_span, _, [], t_cls_Net, m_Net_span, ok_Net_span F_Net_span T G_Netcheck_number, F_Net_span.bindsN (ps := ["self", "number"]) (fun _ _ _ _ _ _ us hl => match us, hl with | [_, _], _ => rfl), .nil⟩
  have GK_Net_with_span : MetKX P w K mg base 8 (C_Net K) "with_span" (sp_Net_with_span K) 5 ["weight"] := ⟨_, fd_Net_with_span, _, t_cls_Net, m_Net_with_span, ok_Net_with_span F_Net_with_span T G_Net_init, kbn_all F_Net_with_span 5 ["weight"] (ps := ["self", "start", "end", "least", "most", "weight"]) (fun _ _ _ _ _ _ us ws h1 h2 => match us, h1, ws, h2 with | [_, _, _, _, _], _, [_], _ => rfl)⟩
  have G_Net_without : MetSX P w K mg base 8 (C_Net K) "without" (sp_Net_without K) := MetSX.of (p0 := "self") t_cls_Net m_Net_without (ok_Net_without F_Net_without T G_Net_init G_Netcheck_number)
  have GK_Net_changed : MetKX P w K mg base 8 (C_Net K) "changed" (sp_Net_changed K) 2 ["least", "most"] := ⟨_, fd_Net_changed, _, t_cls_Net, m_Net_changed, ok_Net_changed F_Net_changed T G_Net_init G_Net_span, kbn_all F_Net_changed 2 ["least", "most"] (ps := ["self", "number", "least", "most"]) (fun _ _ _ _ _ _ us ws h1 h2 => match us, h1, ws, h2 with | [_, _], _, [_, _], _ => rfl)⟩
  have G_l_do : CalX P w K mg base (9) "_law_do" (sp_l_do K) [] := ⟨_, fd_l_do, _, [], ok_l_do F_l_do T G_Net_span GK_Net_with_span G_Net_without GK_Net_changed, g_l_do, F_l_do.kp, F_l_do.bindsN (ps := ["_law_net", "_law_row"]) (fun _ _ _ _ _ _ us hl => match us, hl with | [_, _], _ => rfl), .nil⟩
  have G_l_flags : C8.Cal P w K mg base (10) "_law_flags" (sp_l_flags K) [] := ⟨_, fd_l_flags, _, [], ok_l_flags F_l_flags T G_l_do, g_l_flags, F_l_flags.kp, F_l_flags.bindsN (ps := ["_law_net", "_law_row"]) (fun _ _ _ _ _ _ us hl => match us, hl with | [_, _], _ => rfl), .nil⟩
  have G_l_told : C8.Cal P w K mg base (10) "_law_told" (sp_l_told K) [] := ⟨_, fd_l_told, _, [], ok_l_told F_l_told T G_l_do, g_l_told, F_l_told.kp, F_l_told.bindsN (ps := ["_law_net", "_law_row"]) (fun _ _ _ _ _ _ us hl => match us, hl with | [_, _], _ => rfl), .nil⟩
  have G_l_outcome : C8.Cal P w K mg base (1) "_law_outcome" (sp_l_outcome K) [] := ⟨_, fd_l_outcome, _, [], ok_l_outcome F_l_outcome T , g_l_outcome, F_l_outcome.kp, F_l_outcome.bindsN (ps := ["_law_spans_here", "_law_row"]) (fun _ _ _ _ _ _ us hl => match us, hl with | [_, _], _ => rfl), .nil⟩
  have G_l_holds : C8.Cal P w K mg base (11) "_law_holds" (sp_l_holds K) [] := ⟨_, fd_l_holds, _, [], ok_l_holds F_l_holds T G_Net_round_length G_Net_events G_Net_spans G_l_same G_l_tests G_l_due G_l_do G_l_flags G_l_told G_l_outcome, g_l_holds, F_l_holds.kp, F_l_holds.bindsN (ps := ["_law_net", "_law_length_here", "_law_names_here", "_law_spans_here", "_law_row"]) (fun _ _ _ _ _ _ us hl => match us, hl with | [_, _, _, _, _], _ => rfl), .nil⟩
  exact ok_law F_law T G_Net_init G_Net_spans G_l_pool G_l_draw G_l_names G_l_stranger G_l_length G_l_size G_l_spans G_l_same G_l_filled G_l_number G_l_bounds G_l_holds
end RM
open PySem PySem.W PySem.Calls PyProof.Rows
set_option maxRecDepth 100000 in
set_option maxHeartbeats 0 in
theorem PySem.Challenge.cw_roundminutes_k07_net_changes_refused_holds : PySem.Challenge.rw_roundminutes_k07_net_changes_refused.Holds := by
  w_on; o_law
  refine HandSHeadRun.head_any (r := OpenLaw.row PySem.Challenge.rw_roundminutes_k07_net_changes_refused) (q := view RM.Rw.prog [51]) (H := RM.hk) (ob := RM.ob) (M := 8000) (loose := RM.loose)
    (d := HandSHeadRun.topDef RM.Rw.prog 51) (kwd := []) RM.ob_ok
    (by kernel_rfl) (fun s => by kernel_rfl) RM.run (by kernel_rfl) (by kernel_rfl) (by kernel_rfl) (by rfl) (by first | assumption | decide +kernel) (by decide +kernel) ⟨rfl, rfl, rfl, rfl, rfl, by decide +kernel⟩ ?hw ?hc
  case hw => w_witness2
  case hc =>
    refine L2.walk_ofE (l := PySem.Challenge.rw_roundminutes_k07_net_changes_refused) (n := 63) (k := 12) (x := "_law_script") (CX := L2.CX0) rfl (by decide) (by kernel_rfl) ⟨rfl, by decide, by decide⟩ ?F (fun _ _ _ _ z => z)
    intro w mg fa h Y G hmg0
    obtain ⟨K, KX, c⟩ := Y
    have hmg : mg ("law" : PySem.Str) = some (.ref fa) := by
      have e : (HandSHeadRun.topDef RM.Rw.prog 51).name = ("law" : PySem.Str) := by kernel_rfl
      rw [← e]
      exact hmg0
    obtain ⟨fd, hb, hF⟩ := RM.facts (P := PySem.Challenge.rw_roundminutes_k07_net_changes_refused.prog) (w := w) KX G hmg c
    exact ⟨K, fd, RM.sp_law K, KX, hb, fun H a ns hl _ hS => ⟨a, ns, rfl, hS, hl, fun _ => rfl⟩, hF⟩
