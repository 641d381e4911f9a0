import PyProof.Rows.All
import Wide.All
import OpenK.AllK
import Wide.FinOn
import HandS.ForMost
import HandS.ForExc
import HandS.Codes
import HandS.Steps
import HandS.Walk
import HandS.IsInst
import HandS.Defaults
import HandS.More
import HandS.Small
import HandS.AnyAll
import HandS.Head0
import HandS.Head1
import HandS.Head2
import HandS.HeadEnd
import HandS.HeadHook1
import HandS.HeadHook2
import HandS.OwnEq
import HandS.OwnIter
import HandS.IterNext
import HandS.IterVal
import HandS.ClsMeth
import HandS.Property
import HandS.Star
import HandS.MapObj
import HandS.ListItems
import HandS.DictComp
import HandS.SetKeys
import KE.KDictList
import HandS.Wide
import HandS.Conv
import HandS.SortKw
import HandS.ExcInit
import HandS.ExcField
import HandS.ExcOwn
import HandS.WordsExc
import KE.KExcIs
import HandS.Style
import HandS.TupAny
import HandS.Flow
import HandS.TryOnly
import PySem.Challenge.RW_roundminutes_k43_room_by_a_plain_table
set_option Elab.async false
set_option linter.all false
set_option maxRecDepth 100000
set_option maxHeartbeats 4000000
namespace RM
open PySem PySem.Spec PyProof.Rows L2 C8
/-! ### texts as lists of signs -/
abbrev S (l : List Nat) : Str := ⟨l.toArray⟩
theorem S_tl (x : Str) : S x.cps.toList = x := SX.S_tl x
theorem S_inj {a b : List Nat} (h : S a = S b) : a = b := SX.S_inj h
theorem S_len (a : List Nat) : (S a).length = a.length := SX.S_len a
theorem S_cat (a b : List Nat) : S a ++ S b = S (a ++ b) := SX.S_cat a b
abbrev sv (l : List Nat) : V := .str (S l)
def Z26 : List Nat := [97, 98, 99, 100, 101, 102, 103, 104, 105, 106, 107, 108, 109, 110, 111, 112, 113, 114, 115, 116, 117, 118, 119, 120, 121, 122]
def Z10 : List Nat := [48, 49, 50, 51, 52, 53, 54, 55, 56, 57]
def Z36 : List Nat := [97, 98, 99, 100, 101, 102, 103, 104, 105, 106, 107, 108, 109, 110, 111, 112, 113, 114, 115, 116, 117, 118, 119, 120, 121, 122, 48, 49, 50, 51, 52, 53, 54, 55, 56, 57]
/-- a letter; a letter or a digit -/
def LT (c : Nat) : Prop := 97 ≤ c ∧ c ≤ 122
def LD (c : Nat) : Prop := (97 ≤ c ∧ c ≤ 122) ∨ (48 ≤ c ∧ c ≤ 57)
instance (c : Nat) : Decidable (LT c) := by unfold LT; infer_instance
instance (c : Nat) : Decidable (LD c) := by unfold LD; infer_instance
theorem z26 {c : Nat} : c ∈ Z26 ↔ LT c := by
  constructor
  · intro h
    exact (by decide : ∀ c ∈ Z26, LT c) c h
  · intro ⟨h1, h2⟩
    obtain ⟨k, rfl⟩ : ∃ k, c = 97 + k := ⟨c - 97, by omega⟩
    exact (by decide : ∀ k, k < 26 → 97 + k ∈ Z26) k (by omega)
theorem z10 {c : Nat} : c ∈ Z10 ↔ (48 ≤ c ∧ c ≤ 57) := by
  constructor
  · intro h
    exact (by decide : ∀ c ∈ Z10, 48 ≤ c ∧ c ≤ 57) c h
  · intro ⟨h1, h2⟩
    obtain ⟨k, rfl⟩ : ∃ k, c = 48 + k := ⟨c - 48, by omega⟩
    exact (by decide : ∀ k, k < 10 → 48 + k ∈ Z10) k (by omega)
theorem z36 {c : Nat} : c ∈ Z36 ↔ LD c := by
  have e : Z36 = Z26 ++ Z10 := rfl
  rw [e, List.mem_append, z26, z10]
  rfl
/-- a name -/
def isNm (l : List Nat) : Bool := decide (1 ≤ l.length) && (decide (l.length ≤ 8) && ((match l with | [] => false | c :: _ => decide (LT c)) && l.all fun c => decide (LD c)))
structure Nm (l : List Nat) : Prop where
  len : l.length ≤ 8
  first : ∃ c r, l = c :: r ∧ LT c
  all : ∀ c ∈ l, LD c
theorem Nm.pos {l : List Nat} (h : Nm l) : 1 ≤ l.length := by
  obtain ⟨c, r, rfl, _⟩ := h.first
  simp
theorem nm_iff {l : List Nat} : isNm l = true ↔ Nm l := by
  unfold isNm
  constructor
  · intro h
    simp only [Bool.and_eq_true, decide_eq_true_eq, List.all_eq_true] at h
    obtain ⟨h1, h2, h3, h4⟩ := h
    cases l with
    | nil => simp at h1
    | cons c r => exact ⟨h2, ⟨c, r, rfl, by simpa using h3⟩, h4⟩
  · intro h
    obtain ⟨h2, ⟨c, r, rfl, h3⟩, h4⟩ := h
    simp only [Bool.and_eq_true, decide_eq_true_eq, List.all_eq_true]
    exact ⟨by simp, h2, by simpa using h3, h4⟩
/-- the digits of j as a text -/
def dg (j : Nat) : List Nat := ((toString ((j : Nat) : Int) : String) : Str).cps.toList
def zn (j : Nat) : List Nat := [122] ++ dg j
theorem zn_nm {j : Nat} (h : j < 13) : Nm (zn j) := nm_iff.mp ((by decide +kernel : ∀ j, j < 13 → isNm (zn j) = true) j h)
theorem zn_nodup : ((List.range 13).map zn).Nodup := by decide +kernel
theorem nodup_sub {α : Type} [DecidableEq α] : ∀ {l m : List α}, l.Nodup → (∀ x ∈ l, x ∈ m) → l.length ≤ m.length
  | [], _, _, _ => Nat.zero_le _
  | x :: l, m, hn, hs => by
    have hx := hs x List.mem_cons_self
    obtain ⟨h1, h2⟩ := List.nodup_cons.mp hn
    have ih := nodup_sub (l := l) (m := m.erase x) h2 fun y hy => by
      have ne : y ≠ x := fun e => h1 (e ▸ hy)
      exact (List.mem_erase_of_ne ne).mpr (hs y (List.mem_cons_of_mem _ hy))
    rw [List.length_erase_of_mem hx] at ih
    have : 0 < m.length := List.length_pos_of_mem hx
    rw [List.length_cons]
    omega
theorem zn_out {ns : List (List Nat)} (h : ∀ i, i < 13 → zn i ∈ ns) : 13 ≤ ns.length := by
  have z := nodup_sub zn_nodup (m := ns) fun x hx => by
    obtain ⟨i, hi, rfl⟩ := List.mem_map.mp hx
    exact h i (List.mem_range.mp hi)
  simpa using z
/-- a slice -/
def cutG {α : Type} (xs : List α) (lo hi : Option Int) : List α := (xs.drop (HT.sIx xs.length 0 lo)).take (HT.sIx xs.length xs.length hi - HT.sIx xs.length 0 lo)
theorem six_nat {n d k : Nat} (h : k ≤ n) : HT.sIx n d (some (k : Int)) = k := by
  unfold HT.sIx
  simp only []
  split <;> omega
theorem cutG_to {α : Type} {xs : List α} {k : Nat} (h : k ≤ xs.length) : cutG xs none (some (k : Int)) = xs.take k := by
  unfold cutG
  rw [six_nat h]
  show (xs.drop 0).take (k - 0) = xs.take k
  simp
theorem cutG_from {α : Type} {xs : List α} {k : Nat} (h : k ≤ xs.length) : cutG xs (some (k : Int)) none = xs.drop k := by
  unfold cutG
  rw [six_nat h]
  show (xs.drop k).take (xs.length - k) = xs.drop k
  rw [← List.length_drop, List.take_length]
/-! ### short names of readings -/
def rAddStr : R2 := fun x y H Q => ∃ i j, x = .str i ∧ y = .str j ∧ i.length + j.length ≤ sizeLine ∧ Q (.str (i ++ j)) H
def rLtStr : R2 := fun x y H Q => ∃ i j, x = .str i ∧ y = .str j ∧ Q (.bl (decide (i.cps.toList < j.cps.toList))) H
def rLenStr : List V → Hp → VK → Prop := fun xs H Q => ∃ z, xs = [.str z] ∧ z.length ≤ sizeLine ∧ Q (.int z.length) H
def rLenS (K : PySem.W.Frag) : List V → Hp → VK → Prop := fun xs H Q => ∃ p ys, xs = [.ref p] ∧ (SqL K H p ys ∨ SqT K H p ys) ∧ Q (.int ys.length) H
def rListS (K : PySem.W.Frag) : List V → Hp → VK → Prop := fun xs H Q => ∃ p ys, xs = [.ref p] ∧ (SqL K H p ys ∨ SqT K H p ys) ∧ ∀ l, H l = none → Q (.ref l) (upd H l (.lst ys))
def rInt1 : List V → Hp → VK → Prop := fun xs H Q => (∃ i, xs = [.int i] ∧ Q (.int i) H) ∨ ∃ k, xs = [.bl k] ∧ Q (.int (if k then 1 else 0)) H
def rStrInt : List V → Hp → VK → Prop := fun xs H Q => ∃ i, xs = [.int i] ∧ i.natAbs.log2 < 1920 ∧ Q (.str (toString i)) H
def rMin2 : List V → Hp → VK → Prop := fun xs H Q => ∃ i j, xs = [.int i, .int j] ∧ Q (.int (if j < i then j else i)) H
def rMax2 : List V → Hp → VK → Prop := fun xs H Q => ∃ i j, xs = [.int i, .int j] ∧ Q (.int (if j > i then j else i)) H
def rAbs : List V → Hp → VK → Prop := fun xs H Q => ∃ i, xs = [.int i] ∧ Q (.int (if i < 0 then -i else i)) H
def rFind : V → List V → Hp → VK → Prop := fun x xs H Q => ∃ a b, x = .str a ∧ xs = [.str b] ∧ Q (.int (Txt.find a b)) H

section
variable {X : Cx}
theorem opAddStr : OpR X (binaryOp .Add) rAddStr := op_add_str
theorem opLtStr : OpR X (compareOp .Lt) rLtStr := op_lt_str
theorem callLenStr : CallR X (.builtin "len") rLenStr := call_len_str
theorem callLenSeq : CallR X (.builtin "len") (rLenS X.K) := call_len_seq
theorem callListOf : CallR X (.type "list") (rListS X.K) := call_list_of
theorem callInt1 : CallR X (.type "int") rInt1 := call_int1
theorem callStrInt : CallR X (.type "str") rStrInt := call_str_int
theorem callMin2 (hc : X.calm = true) : CallR X (.builtin "min") rMin2 := call_min2 hc
theorem callMax2 (hc : X.calm = true) : CallR X (.builtin "max") rMax2 := call_max2 hc
theorem callAbs : CallR X (.builtin "abs") rAbs := call_abs
theorem mtFind : MtR X "str.find" rFind := mt_find
end
theorem Same.new {H : Hp} {p : Addr} {o : HO} (h : H p = none) : Same H (upd H p o) := fun a u e => by
  rw [upd_ne (ne_of_none e h)]
  exact e
theorem Same.mut {H H' : Hp} {p : Addr} {o : HO} (e : Same H H') (h : H p = none) : Same H (upd H' p o) := fun a u ha => by
  rw [upd_ne (ne_of_none ha h)]
  exact e a u ha
theorem szl {n : Nat} (h : n ≤ 100000) : n ≤ sizeLine := Nat.le_trans h (by decide)
theorem szlt {n : Nat} (h : n < 100000) : n < sizeLine := Nat.lt_of_lt_of_le h (by decide)
/-! ### readings from the head -/
section
variable {σ : L2.St} {H : Hp} {Q : VK} {i : Nat} {v : V} {ta tb tc : TE} {tl : TA} {t u : TT} {s1 s2 : TS} {D : Ends} {K : PySem.W.Frag} {r r' : R2} {sp : Sp} {E : XK} {QA : List V → Hp → Prop} {QT : Bool → Hp → Prop}
theorem wp_var (h : σ[i]? = some (some v)) (q : Q v H) : tVar i σ H Q := ⟨v, h, q⟩
theorem wp_c (q : Q v H) : tC v σ H Q := q
theorem wp_op (h : ta σ H fun x H1 => tb σ H1 fun y H2 => r x y H2 Q) : tOp r ta tb σ H Q := h
theorem wp_un {r : V → Hp → VK → Prop} (h : ta σ H fun x H1 => r x H1 Q) : tUn r ta σ H Q := h
theorem wp_nil (h : QA [] H) : tNil σ H QA := h
theorem wp_cons (h : ta σ H fun x H1 => tl σ H1 fun xs H2 => QA (x :: xs) H2) : tCons ta tl σ H QA := h
theorem wp_call (h : tl σ H fun vs H1 => sp vs H1 Q E) : tCall sp [] E tl σ H Q := by
  show tl σ H fun vs H1 => sp (vs ++ []) H1 Q E
  simpa only [List.append_nil] using h
theorem wp_cb {r : List V → Hp → VK → Prop} (h : tl σ H fun vs H1 => r vs H1 Q) : tCB r tl σ H Q := h
theorem wp_tup (h : tl σ H fun xs H1 => xs.length ≤ sizeLine ∧ ∀ p, H1 p = none → Q (.ref p) (upd H1 p (.tup xs))) : tTup tl σ H Q := h
theorem wp_lst (h : tl σ H fun xs H1 => xs.length ≤ sizeLine ∧ ∀ p, H1 p = none → Q (.ref p) (upd H1 p (.lst xs))) : tLst tl σ H Q := h
theorem wp_test (h : ta σ H fun x H1 => ∃ k, x = .bl k ∧ QT k H1) : tTest ta σ H QT := h
theorem wp_B (h : ta σ H fun x H1 => ∃ k, x = .bl k ∧ QT k H1) : tB ta σ H QT := h
theorem wp_bl {k : Bool} {R : Bool → Prop} (h : R k) : ∃ k', V.bl k = .bl k' ∧ R k' := ⟨k, rfl, h⟩
theorem wp_not (h : t σ H fun c H1 => QT (!c) H1) : tNot t σ H QT := h
theorem wp_and (h : t σ H fun c H1 => if c = true then u σ H1 QT else QT false H1) : tAnd t u σ H QT := h
theorem wp_or (h : t σ H fun c H1 => if c = true then QT true H1 else u σ H1 QT) : tOr t u σ H QT := h
theorem wp_notV (h : ta σ H fun x H1 => ∃ c, x = .bl c ∧ Q (.bl (!c)) H1) : tNotV ta σ H Q := h
theorem wp_andV (h : ta σ H fun x H1 => ∃ c, x = .bl c ∧ if c = true then tb σ H1 Q else Q (.bl false) H1) : tAndV ta tb σ H Q := h
theorem wp_orV (h : ta σ H fun x H1 => ∃ c, x = .bl c ∧ if c = true then Q (.bl true) H1 else tb σ H1 Q) : tOrV ta tb σ H Q := h
theorem wp_ifE (h : t σ H fun c H1 => if c = true then ta σ H1 Q else tb σ H1 Q) : tIf t ta tb σ H Q := h
theorem wp_chain (h : ta σ H fun x H1 => tb σ H1 fun y H2 => r x y H2 fun z H3 => ∃ k, z = .bl k ∧ (if k = true then tc σ H3 fun w' H4 => r' y w' H4 Q else Q (.bl false) H3)) : tChain r r' ta tb tc σ H Q := h
theorem wp_slice {r : V → Option Int → Option Int → Hp → VK → Prop} {tlo thi : TO} (h : ta σ H fun x H1 => tlo σ H1 fun l H2 => thi σ H2 fun u H3 => r x l u H3 Q) : tSl r ta tlo thi σ H Q := h
theorem wp_noPart {QO : Option Int → Hp → Prop} (h : QO none H) : tNoPart σ H QO := h
theorem wp_part {QO : Option Int → Hp → Prop} (h : ta σ H fun x H1 => ∃ i, x = .int i ∧ QO (some i) H1) : tPart ta σ H QO := h
theorem wp_partI {k : Int} {R : Int → Prop} (h : R k) : ∃ i, V.int k = .int i ∧ R i := ⟨k, rfl, h⟩
theorem wp_bm {T : String} {r : V → List V → Hp → VK → Prop} (h : ta σ H fun x H1 => tyV K T x H1 ∧ tl σ H1 fun xs H2 => r x xs H2 Q) : tBM K T r ta tl σ H Q := h
theorem wp_bm0 {T : String} {r : V → List V → Hp → VK → Prop} (h : ta σ H fun x H1 => tyV K T x H1 ∧ r x [] H1 Q) : tBM0 K T r ta σ H Q := h
/- operations -/
theorem wp_rI0 {g : Int → Int → V} {a b : Int} (h : Q (g a b) H) : rI0 g (.int a) (.int b) H Q := ⟨a, b, rfl, rfl, h⟩
theorem wp_rI {C : Int → Int → Prop} {g : Int → Int → V} {a b : Int} (hc : C a b) (h : Q (g a b) H) : rI C g (.int a) (.int b) H Q := ⟨a, b, rfl, rfl, hc, h⟩
theorem wp_rU {g : Int → V} {a : Int} (h : Q (g a) H) : rU g (.int a) H Q := ⟨a, rfl, h⟩
theorem wp_eqI {a b : Int} (h : Q (.bl (decide (a = b))) H) : rEq (.int a) (.int b) H Q := ⟨rfl, by
  have e : decide (V.int a = V.int b) = decide (a = b) := by simp
  rw [e]; exact h⟩
theorem wp_eqS {a b : Str} (h : Q (.bl (decide (a = b))) H) : rEq (.str a) (.str b) H Q := ⟨rfl, by
  have e : decide (V.str a = V.str b) = decide (a = b) := by simp
  rw [e]; exact h⟩
theorem wp_eqB {a b : Bool} (h : Q (.bl (decide (a = b))) H) : rEq (.bl a) (.bl b) H Q := ⟨rfl, by
  have e : decide (V.bl a = V.bl b) = decide (a = b) := by simp
  rw [e]; exact h⟩
theorem wp_neI {a b : Int} (h : Q (.bl (!decide (a = b))) H) : rNe (.int a) (.int b) H Q := ⟨rfl, by
  have e : decide (V.int a = V.int b) = decide (a = b) := by simp
  rw [e]; exact h⟩
theorem wp_neS {a b : Str} (h : Q (.bl (!decide (a = b))) H) : rNe (.str a) (.str b) H Q := ⟨rfl, by
  have e : decide (V.str a = V.str b) = decide (a = b) := by simp
  rw [e]; exact h⟩
theorem wp_addStr {a b : Str} (hl : a.length + b.length ≤ 100000) (h : Q (.str (a ++ b)) H) : rAddStr (.str a) (.str b) H Q := ⟨a, b, rfl, rfl, Nat.le_trans hl (by decide), h⟩
theorem wp_ixL {a : Addr} {k : Int} {xs : List V} (hx : SqL K H a xs) (ha : atI xs k = some v) (h : Q v H) : rIxL K (.ref a) (.int k) H Q := ⟨a, xs, k, v, rfl, rfl, hx, ha, h⟩
theorem wp_ixT {a : Addr} {k : Int} {xs : List V} (hx : SqT K H a xs) (ha : atI xs k = some v) (h : Q v H) : rIxT K (.ref a) (.int k) H Q := ⟨a, xs, k, v, rfl, rfl, hx, ha, h⟩
theorem wp_ixS {z : Str} {k : Int} {c : Nat} (hz : z.length ≤ 100000) (ha : atI z.cps.toList k = some c) (h : Q (.str ⟨#[c]⟩) H) : rIxS (.str z) (.int k) H Q := ⟨z, k, c, rfl, rfl, Nat.le_trans hz (by decide), ha, h⟩
theorem wp_inS {c : Nat} {z : Str} (h : Q (.bl (decide (c ∈ z.cps.toList))) H) : rInS (.str ⟨#[c]⟩) (.str z) H Q := ⟨c, z, rfl, rfl, h⟩
theorem wp_notInS {c : Nat} {z : Str} (h : Q (.bl (!decide (c ∈ z.cps.toList))) H) : rNotInS (.str ⟨#[c]⟩) (.str z) H Q := ⟨c, z, rfl, rfl, h⟩
theorem wp_inL {a : Addr} {x : V} {xs : List V} (hx : SqL K H a xs) (h1 : flatV x = true) (h2 : xs.all flatV = true) (h : Q (.bl (inV x xs)) H) : rIn K false x (.ref a) H Q := ⟨a, xs, rfl, .inl hx, h1, h2, h⟩
theorem wp_notInL {a : Addr} {x : V} {xs : List V} (hx : SqL K H a xs) (h1 : flatV x = true) (h2 : xs.all flatV = true) (h : Q (.bl (!inV x xs)) H) : rIn K true x (.ref a) H Q := ⟨a, xs, rfl, .inl hx, h1, h2, h⟩
theorem wp_int1 {a : Int} (h : Q (.int a) H) : rInt1 [.int a] H Q := .inl ⟨a, rfl, h⟩
theorem wp_strInt {a : Int} (hl : a.natAbs.log2 < 1920) (h : Q (.str (toString a)) H) : rStrInt [.int a] H Q := ⟨a, rfl, hl, h⟩
theorem wp_lenStr {z : Str} (hz : z.length ≤ 100000) (h : Q (.int z.length) H) : rLenStr [.str z] H Q := ⟨z, rfl, Nat.le_trans hz (by decide), h⟩
theorem wp_lenL {a : Addr} {xs : List V} (hx : SqL K H a xs) (h : Q (.int xs.length) H) : rLenS K [.ref a] H Q := ⟨a, xs, rfl, .inl hx, h⟩
theorem wp_lenT {a : Addr} {xs : List V} (hx : SqT K H a xs) (h : Q (.int xs.length) H) : rLenS K [.ref a] H Q := ⟨a, xs, rfl, .inr hx, h⟩
theorem wp_min2 {a b : Int} (h : Q (.int (if b < a then b else a)) H) : rMin2 [.int a, .int b] H Q := ⟨a, b, rfl, h⟩
theorem wp_max2 {a b : Int} (h : Q (.int (if b > a then b else a)) H) : rMax2 [.int a, .int b] H Q := ⟨a, b, rfl, h⟩
theorem wp_find {a b : Str} (h : Q (.int (Txt.find a b)) H) : rFind (.str a) [.str b] H Q := ⟨a, b, rfl, rfl, h⟩
theorem wp_listL {a : Addr} {xs : List V} (hx : SqL K H a xs) (h : ∀ l, H l = none → Q (.ref l) (upd H l (.lst xs))) : rListS K [.ref a] H Q := ⟨a, xs, rfl, .inl hx, h⟩
theorem wp_append {a : Addr} {x : V} {xs : List V} (hx : H a = some (.lst xs)) (hl : xs.length < 100000) (h : Q .non (upd H a (.lst (xs ++ [x])))) : rAppend (.ref a) [x] H Q := ⟨a, xs, x, rfl, rfl, hx, Nat.lt_of_lt_of_le hl (by decide), h⟩
theorem ty_list {a : Addr} {xs : List V} {R : Prop} (hx : SqL K H a xs) (h : R) : tyV K "list" (.ref a) H ∧ R := ⟨.inl ⟨rfl, xs, hx⟩, h⟩
theorem ty_str {z : Str} {R : Prop} (h : R) : tyV K "str" (.str z) H ∧ R := ⟨rfl, h⟩
theorem wp_isi {x : V} {n : String} {tv : Value} {b : Bool} (ty : TyX K H x tv) (e : PySem.W.kitOne K tv (.type n) = some b) (h : Q (.bl b) H) : rIsi K [x, .ty n] H Q := ⟨x, .ty n, tv, .type n, b, rfl, .ty n, ty, e, h⟩
theorem pe_strS {X : Cx} {x : Str} {j : Nat} {pos : Pos} {l : List Nat} (h : x = S l) : PE X (.Constant (.str x) j pos) (tC (.str (S l))) := by
  rw [h]
  exact pe_str
theorem wp_addS {a b : List Nat} (hl : a.length + b.length ≤ 100000) (h : Q (.str (S (a ++ b))) H) : rAddStr (.str (S a)) (.str (S b)) H Q := by
  refine wp_addStr (by rw [S_len, S_len]; exact hl) ?_
  rw [S_cat]
  exact h
theorem wp_ixSM {z : List Nat} {k : Int} (hz : z.length ≤ 100000) (h0 : 0 ≤ k) (h1 : k < z.length) (h : ∀ c, c ∈ z → z[k.toNat]? = some c → Q (.str (S [c])) H) : rIxS (.str (S z)) (.int k) H Q := by
  have hl : k.toNat < z.length := by omega
  have e : k = ((k.toNat : Nat) : Int) := by omega
  have y := atI_nat (List.getElem?_eq_getElem hl)
  rw [← e] at y
  exact wp_ixS (by rw [S_len]; exact hz) y (h _ (List.getElem_mem hl) (List.getElem?_eq_getElem hl))
theorem wp_lenS {z : List Nat} (hz : z.length ≤ 100000) (h : Q (.int z.length) H) : rLenStr [.str (S z)] H Q := by
  refine wp_lenStr (by rw [S_len]; exact hz) ?_
  rw [S_len]
  exact h
theorem wp_strIntS {j : Nat} (hj : j < 1000000) (h : Q (.str (S (dg j))) H) : rStrInt [.int j] H Q := by
  refine wp_strInt ?_ ?_
  · have e : (j : Int).natAbs = j := Int.natAbs_natCast j
    rw [e]
    have : j.log2 ≤ j := Nat.log2_le_self j
    by_cases hz : j = 0
    · subst hz; decide
    · exact Nat.lt_trans ((Nat.log2_lt hz).mpr (show j < 2 ^ 20 by omega)) (by decide)
  · have e : (S (dg j)) = ((toString ((j : Nat) : Int) : String) : Str) := S_tl _
    rw [e] at h
    exact h
theorem inV_sv {a : List Nat} {ns : List (List Nat)} : inV (sv a) (ns.map sv) = decide (a ∈ ns) := by
  unfold inV
  rw [List.any_map, Bool.eq_iff_iff, List.any_eq_true, decide_eq_true_eq]
  constructor
  · rintro ⟨x, hx, e⟩
    have e2 : (S x == S a) = true := e
    rw [SX.S_beq_eq, decide_eq_true_eq] at e2
    rw [← e2]; exact hx
  · intro h
    refine ⟨a, h, ?_⟩
    show (S a == S a) = true
    exact beq_self_eq_true _
theorem flat_sv {ns : List (List Nat)} : (ns.map sv).all flatV = true := by
  rw [List.all_map, List.all_eq_true]
  intro x _
  rfl
theorem wp_inSv {p : Addr} {a : List Nat} {ns : List (List Nat)} (hx : SqL K H p (ns.map sv)) (h : Q (.bl (decide (a ∈ ns))) H) : rIn K false (.str (S a)) (.ref p) H Q := by
  refine wp_inL hx rfl flat_sv ?_
  show Q (.bl (inV (sv a) (ns.map sv))) H
  rw [inV_sv]; exact h
theorem wp_notInSv {p : Addr} {a : List Nat} {ns : List (List Nat)} (hx : SqL K H p (ns.map sv)) (h : Q (.bl (!decide (a ∈ ns))) H) : rIn K true (.str (S a)) (.ref p) H Q := by
  refine wp_notInL hx rfl flat_sv ?_
  show Q (.bl (!inV (sv a) (ns.map sv))) H
  rw [inV_sv]; exact h
theorem wp_minL {a : Addr} {ns : List Int} (hx : SqL K H a (ns.map V.int)) (h0 : 0 < ns.length) (h : ∀ m, m ∈ ns → (∀ y ∈ ns, m ≤ y) → Q (.int m) H) : rMin K [.ref a] H Q := ⟨a, ns, rfl, hx, h0, h⟩
theorem wp_maxL {a : Addr} {ns : List Int} (hx : SqL K H a (ns.map V.int)) (h0 : 0 < ns.length) (h : ∀ m, m ∈ ns → (∀ y ∈ ns, y ≤ m) → Q (.int m) H) : rMax K [.ref a] H Q := ⟨a, ns, rfl, hx, h0, h⟩
theorem wp_allL {a : Addr} {bs : List Bool} (hx : SqL K H a (bs.map V.bl)) (h : Q (.bl (bs.all id)) H) : rAll K [.ref a] H Q := ⟨a, bs, rfl, hx, h⟩
theorem wp_anyL {a : Addr} {bs : List Bool} (hx : SqL K H a (bs.map V.bl)) (h : Q (.bl (bs.any id)) H) : rAny K [.ref a] H Q := ⟨a, bs, rfl, hx, h⟩
theorem wp_isiB {b : Bool} (h : Q (.bl true) H) : rIsi K [.bl b, .ty "bool"] H Q := wp_isi (.base (.bl b)) (by unfold PySem.W.kitOne; rw [if_pos (by decide)]) h
theorem wp_sliceS {z : List Nat} {lo hi : Option Int} (hz : z.length ≤ 100000) (h : Q (.str (S (cutG z lo hi))) H) : rSlS (.str (S z)) lo hi H Q := by
  refine ⟨S z, rfl, szl (by rw [S_len]; exact hz), ?_⟩
  have e : cutS (S z) lo hi = S (cutG z lo hi) := by
    unfold cutS cutG
    rw [S_len]
  rw [e]
  exact h
/- statements -/
theorem wp_seq (h : s1 { D with nx := s2 D } σ H) : tSeq s1 s2 D σ H := h
theorem wp_next (h : D.nx σ H) : tNext D σ H := h
theorem wp_brk (h : D.bk σ H) : tBreak D σ H := h
theorem wp_cont (h : D.ct σ H) : tCont D σ H := h
theorem wp_ret (h : ta σ H D.rt) : tRet ta D σ H := h
theorem wp_drop (h : ta σ H fun _ H1 => D.nx σ H1) : tDrop ta D σ H := h
theorem wp_asg {g : TG} (h : ta σ H fun x H1 => g x σ H1 D.nx) : tAsg ta g D σ H := h
theorem wp_gname {QS : L2.St → Hp → Prop} (h : QS (σ.set i (some v)) H) : gName i v σ H QS := h
theorem wp_gsub {ts : TSet} {QS : L2.St → Hp → Prop} (h : ta σ H fun o H1 => tb σ H1 fun k H2 => ts o k v H2 fun H3 => QS σ H3) : gSub ta tb ts v σ H QS := h
theorem wp_setL {QH : Hp → Prop} {a : Addr} {k : Int} {j : Nat} {xs : List V} (hx : H a = some (.lst xs)) (hj : ixN xs.length k = some j) (h : QH (upd H a (.lst (xs.set j v)))) : rSetL (.ref a) (.int k) v H QH := ⟨a, xs, k, j, rfl, rfl, hx, hj, h⟩
theorem wp_setL0 {QH : Hp → Prop} {a : Addr} {x : V} {xs : List V} (hx : H a = some (.lst (x :: xs))) (h : QH (upd H a (.lst (v :: xs)))) : rSetL (.ref a) (.int 0) v H QH :=
  ⟨a, x :: xs, 0, 0, rfl, rfl, hx, by unfold ixN; simp only [List.length_cons]; rw [if_pos (by omega), if_pos (by omega)]; rfl, h⟩
theorem wp_setL1 {QH : Hp → Prop} {a : Addr} {x y : V} {xs : List V} (hx : H a = some (.lst (x :: y :: xs))) (h : QH (upd H a (.lst (x :: v :: xs)))) : rSetL (.ref a) (.int 1) v H QH :=
  ⟨a, x :: y :: xs, 1, 1, rfl, rfl, hx, by unfold ixN; simp only [List.length_cons]; rw [if_pos (by omega), if_pos (by omega)]; rfl, h⟩
theorem is_isi {xs : List V} (h : rIsi K xs H Q) : rIsi K xs H Q := h
theorem is_var (h : tVar i σ H Q) : tVar i σ H Q := h
theorem is_gname {QS : L2.St → Hp → Prop} (h : gName i v σ H QS) : gName i v σ H QS := h
theorem wp_ixLM {a : Addr} {k : Int} {xs : List V} (hx : SqL K H a xs) (h0 : 0 ≤ k) (h1 : k < xs.length) (h : ∀ v, v ∈ xs → xs[k.toNat]? = some v → Q v H) : rIxL K (.ref a) (.int k) H Q := by
  have hl : k.toNat < xs.length := by omega
  have e : k = ((k.toNat : Nat) : Int) := by omega
  have z := atI_nat (List.getElem?_eq_getElem hl)
  rw [← e] at z
  exact wp_ixL hx z (h _ (List.getElem_mem hl) (List.getElem?_eq_getElem hl))
theorem wp_ixLI {a : Addr} {k : Int} {cs : List Int} (hx : SqL K H a (cs.map V.int)) (h0 : 0 ≤ k) (h1 : k < (cs.map V.int).length) (h : ∀ c, c ∈ cs → Q (.int c) H) : rIxL K (.ref a) (.int k) H Q :=
  wp_ixLM hx h0 h1 fun v hv _ => by
    obtain ⟨c, hc, rfl⟩ := List.mem_map.mp hv
    exact h c hc
theorem wp_cut {s1 s2 : TS} (Mid : L2.St → Hp → Prop) (h1 : s1 { D with nx := Mid } σ H) (h2 : ∀ σ' H', Mid σ' H' → s2 D σ' H') : C8.tCut s1 s2 D σ H := ⟨Mid, h1, h2⟩
theorem wp_ifS (h : t σ H fun b H1 => if b = true then s1 D σ H1 else s2 D σ H1) : tIfS t s1 s2 D σ H := h
/- loops -/
def ForW (J : It) (g : TG) (tb : TS) (D : Ends) (σ : L2.St) (H : Hp) : Prop := tFor (fun _ H1 R => R J H1) g tb D σ H
theorem wp_for1 {g : TG} {tb : TS} (h : tl σ H fun vs H1 => ∃ j : Int, vs = [.int j] ∧ -(2 ^ 62) ≤ j ∧ j < 2 ^ 62 ∧ ForW (Itr 0 j.toNat) g tb D σ H1) : tFor (iRng1 tl) g tb D σ H := h
theorem wp_for2 {g : TG} {tb : TS} (h : tl σ H fun vs H1 => ∃ i j : Int, vs = [.int i, .int j] ∧ (-(2 ^ 62) ≤ i ∧ i < 2 ^ 62 ∧ -(2 ^ 62) ≤ j ∧ j < 2 ^ 62) ∧ ForW (Itr i (j - i).toNat) g tb D σ H1) : tFor (iRng2 tl) g tb D σ H := h
theorem wp_forL {g : TG} {tb : TS} (h : ta σ H fun x H1 => ∃ a, x = .ref a ∧ (∃ xs, SqL K H1 a xs) ∧ ForW (Itl K a) g tb D σ H1) : tFor (iList K ta) g tb D σ H := h
theorem wp_forT {g : TG} {tb : TS} (h : ta σ H fun x H1 => ∃ a, x = .ref a ∧ (∃ xs, SqT K H1 a xs) ∧ ForW (Itt K a) g tb D σ H1) : tFor (iTup K ta) g tb D σ H := h
theorem wp_forS {g : TG} {tb : TS} (h : ta σ H fun v H1 => ∃ x, v = .str x ∧ ForW (Its x) g tb D σ H1) : tFor (iStr ta) g tb D σ H := h
theorem loop1 {g : TG} {tb : TS} {n : Int} (b : -4611686018427387904 ≤ n ∧ n < 4611686018427387904) (Pv : Nat → L2.St → Hp → Prop) (h0 : Pv 0 σ H)
    (hs : ∀ (i : Nat) σ' H', (i : Int) < n → Pv i σ' H' → g (.int ((i : Nat) : Int)) σ' H' fun σ2 H2 => tb { D with nx := Pv (i + 1), ct := Pv (i + 1), bk := D.nx } σ2 H2) (hd : ∀ σ' H', Pv n.toNat σ' H' → D.nx σ' H') :
    ∃ j : Int, [V.int n] = [V.int j] ∧ -(2 ^ 62) ≤ j ∧ j < 2 ^ 62 ∧ ForW (Itr 0 j.toNat) g tb D σ H := by
  refine ⟨n, rfl, by omega, by omega, for_range Pv h0 (fun i σ' H' hi p => ?_) hd⟩
  have e0 : (0 : Int) + (i : Int) = (i : Int) := Int.zero_add _
  rw [e0]
  exact hs i σ' H' (by omega) p
theorem loop2 {g : TG} {tb : TS} {lo n : Int} (b : -4611686018427387904 ≤ lo ∧ lo < 4611686018427387904 ∧ -4611686018427387904 ≤ n ∧ n < 4611686018427387904) (Pv : Nat → L2.St → Hp → Prop) (h0 : Pv 0 σ H)
    (hs : ∀ (i : Nat) σ' H', lo + (i : Int) < n → Pv i σ' H' → g (.int (lo + ((i : Nat) : Int))) σ' H' fun σ2 H2 => tb { D with nx := Pv (i + 1), ct := Pv (i + 1), bk := D.nx } σ2 H2) (hd : ∀ σ' H', Pv (n - lo).toNat σ' H' → D.nx σ' H') :
    ∃ i j : Int, [V.int lo, V.int n] = [V.int i, V.int j] ∧ (-(2 ^ 62) ≤ i ∧ i < 2 ^ 62 ∧ -(2 ^ 62) ≤ j ∧ j < 2 ^ 62) ∧ ForW (Itr i (j - i).toNat) g tb D σ H :=
  ⟨lo, n, rfl, ⟨by omega, by omega, by omega, by omega⟩, for_range Pv h0 (fun i σ' H' hi p => hs i σ' H' (by omega) p) hd⟩
theorem loopL {g : TG} {tb : TS} {a : Addr} {xs : List V} (hx : SqL K H a xs) (Pv : Nat → L2.St → Hp → Prop) (h0 : Pv 0 σ H) (hl : ∀ i σ' H', i ≤ xs.length → Pv i σ' H' → SqL K H' a xs)
    (hs : ∀ i x σ' H', xs[i]? = some x → Pv i σ' H' → g x σ' H' fun σ2 H2 => tb { D with nx := Pv (i + 1), ct := Pv (i + 1), bk := D.nx } σ2 H2) (hd : ∀ σ' H', Pv xs.length σ' H' → D.nx σ' H') :
    ∃ b, V.ref a = .ref b ∧ (∃ xs, SqL K H b xs) ∧ ForW (Itl K b) g tb D σ H := ⟨a, rfl, ⟨xs, hx⟩, for_list Pv h0 hl hs hd⟩
theorem loopT {g : TG} {tb : TS} {a : Addr} {xs : List V} (hx : SqT K H a xs) (Pv : Nat → L2.St → Hp → Prop) (h0 : Pv 0 σ H) (hl : ∀ i σ' H', i ≤ xs.length → Pv i σ' H' → SqT K H' a xs)
    (hs : ∀ i x σ' H', xs[i]? = some x → Pv i σ' H' → g x σ' H' fun σ2 H2 => tb { D with nx := Pv (i + 1), ct := Pv (i + 1), bk := D.nx } σ2 H2) (hd : ∀ σ' H', Pv xs.length σ' H' → D.nx σ' H') :
    ∃ b, V.ref a = .ref b ∧ (∃ xs, SqT K H b xs) ∧ ForW (Itt K b) g tb D σ H := ⟨a, rfl, ⟨xs, hx⟩, for_tup Pv h0 hl hs hd⟩
theorem loopS {g : TG} {tb : TS} {l : List Nat} (Pv : Nat → L2.St → Hp → Prop) (h0 : Pv 0 σ H)
    (hs : ∀ i c σ' H', l[i]? = some c → Pv i σ' H' → g (.str (S [c])) σ' H' fun σ2 H2 => tb { D with nx := Pv (i + 1), ct := Pv (i + 1), bk := D.nx } σ2 H2) (hd : ∀ σ' H', Pv l.length σ' H' → D.nx σ' H') :
    ∃ x, V.str (S l) = .str x ∧ ForW (Its x) g tb D σ H := by
  refine ⟨S l, rfl, for_it (walk_str (z := S l)) Pv h0 (fun _ _ _ _ _ => trivial) (fun i x σ' H1 H2 hi p y => ?_) (fun σ' H' p => ?_)⟩
  · obtain ⟨rfl, c, hc, rfl⟩ := y
    exact hs i c σ' H2 (by simpa using hc) p
  · exact hd σ' H' (by simpa using p)
/- comprehensions: each item's value, nothing else changed -/
def LcW (J : It) (g : TG) (tt : TT) (te : TE) (vs : List Nat) (σ : L2.St) (H1 : Hp) (Q : VK) : Prop := tLc (fun _ H R => R J H) g tt te vs σ H1 Q
theorem wp_lcL {g : TG} {tt : TT} {te : TE} {vs : List Nat} (h : ta σ H fun x H1 => ∃ a, x = .ref a ∧ (∃ xs, SqL K H1 a xs) ∧ LcW (Itl K a) g tt te vs σ H1 Q) : tLc (iList K ta) g tt te vs σ H Q := h
theorem wp_lcT {g : TG} {tt : TT} {te : TE} {vs : List Nat} (h : ta σ H fun x H1 => ∃ a, x = .ref a ∧ (∃ xs, SqT K H1 a xs) ∧ LcW (Itt K a) g tt te vs σ H1 Q) : tLc (iTup K ta) g tt te vs σ H Q := h
theorem wp_lcS {g : TG} {tt : TT} {te : TE} {vs : List Nat} (h : ta σ H fun v H1 => ∃ x, v = .str x ∧ LcW (Its x) g tt te vs σ H1 Q) : tLc (iStr ta) g tt te vs σ H Q := h
theorem wp_lc1 {g : TG} {tt : TT} {te : TE} {vs : List Nat} (h : tl σ H fun us H1 => ∃ j : Int, us = [.int j] ∧ -(2 ^ 62) ≤ j ∧ j < 2 ^ 62 ∧ LcW (Itr 0 j.toNat) g tt te vs σ H1 Q) : tLc (iRng1 tl) g tt te vs σ H Q := h
/-- a walk by items, an element that changes nothing: the list of their values -/
theorem lcMap {J : It} {n : Nat} {it : Nat → V} {Gd : Hp → Prop} (w : Walk J n Gd (fun i H x H' => H' = H ∧ x = it i)) (hn : n ≤ 100000) {g : TG} {te : TE} {vs : List Nat} (hG : ∀ H', Same H H' → Gd H') (f : Nat → V)
    (he : ∀ i H2, i < n → Same H H2 → ∀ R : VK, (∀ H3, Same H2 H3 → R (f i) H3) → g (it i) (wipe σ vs) H2 fun σ2 H3 => wipe σ2 vs = wipe σ vs ∧ te σ2 H3 R)
    (hq : ∀ D H2, H D = none → Same H H2 → H2 D = some (.lst ((List.range n).map f)) → Q (.ref D) H2) : LcW J g tYes te vs σ H Q := by
  intro D hD
  refine lc_it w (fun i H2 => Same H H2 ∧ H2 D = some (.lst ((List.range i).map f))) ⟨Same.new hD, upd_same⟩ (fun i H2 _ p => hG H2 p.1) (fun i x H2 H3 hi p y => ?_) (fun H2 p => hq D H2 hD p.1 p.2)
  obtain ⟨rfl, rfl⟩ := y
  have z := he i H3 hi p.1 (fun y H4 => ∃ acc, H4 D = some (.lst acc) ∧ acc.length < sizeLine ∧ (Same H (upd H4 D (.lst (acc ++ [y]))) ∧ upd H4 D (.lst (acc ++ [y])) D = some (.lst ((List.range (i + 1)).map f)))) (fun H4 s4 => ?_)
  · exact z
  · refine ⟨_, s4 _ _ p.2, ?_, Same.mut (p.1.trans s4) hD, ?_⟩
    · rw [List.length_map, List.length_range]
      exact szlt (by omega)
    · rw [List.range_succ, List.map_append]
      exact upd_same
theorem lcMapL {a : Addr} {xs : List V} {j : Nat} {te : TE} (hx : SqL K H a xs) (hn : xs.length ≤ 100000) (σx : V → L2.St) (hw : ∀ x, (wipe σ [j]).set j (some x) = σx x ∧ wipe (σx x) [j] = wipe σ [j]) (f : V → V)
    (he : ∀ x H2, x ∈ xs → Same H H2 → ∀ R : VK, (∀ H3, Same H2 H3 → R (f x) H3) → te (σx x) H2 R)
    (hq : ∀ D H2, H D = none → Same H H2 → H2 D = some (.lst (xs.map f)) → Q (.ref D) H2) : ∃ b, V.ref a = .ref b ∧ (∃ ys, SqL K H b ys) ∧ LcW (Itl K b) (gName j) tYes te [j] σ H Q := by
  refine ⟨a, rfl, ⟨xs, hx⟩, ?_⟩
  intro D hD
  refine lc_list (xs := xs) (fun i H2 => Same H H2 ∧ H2 D = some (.lst ((xs.take i).map f))) ⟨Same.new hD, upd_same⟩ (fun i H2 _ p => Same.seq p.1 hx) (fun i x H3 hi p => ?_) (fun H2 p => hq D H2 hD p.1 (by have q := p.2; rw [List.take_length] at q; exact q))
  obtain ⟨hl, ex⟩ := List.getElem?_eq_some_iff.mp hi
  show wipe ((wipe σ [j]).set j (some x)) [j] = wipe σ [j] ∧ te ((wipe σ [j]).set j (some x)) H3 fun y H4 => ∃ acc, H4 D = some (.lst acc) ∧ acc.length < sizeLine ∧ (Same H (upd H4 D (.lst (acc ++ [y]))) ∧ upd H4 D (.lst (acc ++ [y])) D = some (.lst ((xs.take (i + 1)).map f)))
  rw [(hw x).1]
  refine ⟨(hw x).2, he x H3 (ex ▸ List.getElem_mem hl) p.1 _ fun H4 s4 => ⟨_, s4 _ _ p.2, ?_, Same.mut (p.1.trans s4) hD, ?_⟩⟩
  · rw [List.length_map, List.length_take]
    exact szlt (by omega)
  · rw [← List.take_append_getElem hl, List.map_append, ex]
    exact upd_same
theorem lcMapS {l : List Nat} {j : Nat} {te : TE} (hn : l.length ≤ 100000) (σx : V → L2.St) (hw : ∀ x, (wipe σ [j]).set j (some x) = σx x ∧ wipe (σx x) [j] = wipe σ [j]) (f : Nat → V)
    (he : ∀ c H2, c ∈ l → Same H H2 → ∀ R : VK, (∀ H3, Same H2 H3 → R (f c) H3) → te (σx (.str (S [c]))) H2 R)
    (hq : ∀ D H2, H D = none → Same H H2 → H2 D = some (.lst (l.map f)) → Q (.ref D) H2) : ∃ x, V.str (S l) = .str x ∧ LcW (Its x) (gName j) tYes te [j] σ H Q := by
  refine ⟨S l, rfl, ?_⟩
  intro D hD
  have e0 : (S l).cps.size = l.length := by simp
  refine lc_it (walk_str (z := S l)) (fun i H2 => Same H H2 ∧ H2 D = some (.lst ((l.take i).map f))) ⟨Same.new hD, upd_same⟩ (fun _ _ _ _ => trivial) (fun i x H2 H3 hi p y => ?_) (fun H2 p => hq D H2 hD p.1 (by have q := p.2; rw [e0, List.take_length] at q; exact q))
  obtain ⟨rfl, c, hc, rfl⟩ := y
  have hc : l[i]? = some c := by simpa using hc
  obtain ⟨hl, ex⟩ := List.getElem?_eq_some_iff.mp hc
  show wipe ((wipe σ [j]).set j (some (V.str (S [c])))) [j] = wipe σ [j] ∧ te ((wipe σ [j]).set j (some (V.str (S [c])))) H3 fun y H4 => ∃ acc, H4 D = some (.lst acc) ∧ acc.length < sizeLine ∧ (Same H (upd H4 D (.lst (acc ++ [y]))) ∧ upd H4 D (.lst (acc ++ [y])) D = some (.lst ((l.take (i + 1)).map f)))
  rw [(hw _).1]
  refine ⟨(hw _).2, he c H3 (ex ▸ List.getElem_mem hl) p.1 _ fun H4 s4 => ⟨_, s4 _ _ p.2, ?_, Same.mut (p.1.trans s4) hD, ?_⟩⟩
  · rw [List.length_map, List.length_take]
    exact szlt (by omega)
  · rw [← List.take_append_getElem hl, List.map_append, ex]
    exact upd_same
/- ways -/
theorem ite_dec {c A B : Prop} {dc : Decidable c} (h1 : c → A) (h2 : ¬ c → B) : if decide c = true then A else B := by
  by_cases h : c
  · rw [decide_eq_true h]; exact h1 h
  · rw [decide_eq_false h]; exact h2 h
theorem ite_ndec {c A B : Prop} {dc : Decidable c} (h1 : ¬ c → A) (h2 : c → B) : if (!decide c) = true then A else B := by
  by_cases h : c
  · rw [decide_eq_true h]; exact h2 h
  · rw [decide_eq_false h]; exact h1 h
theorem ite_T {c A B : Prop} {dc : Decidable c} (hc : c) (h : A) : if decide c = true then A else B := by
  rw [decide_eq_true hc]; exact h
theorem ite_F {c A B : Prop} {dc : Decidable c} (hc : ¬ c) (h : B) : if decide c = true then A else B := by
  rw [decide_eq_false hc]; exact h
theorem ite_nT {c A B : Prop} {dc : Decidable c} (hc : ¬ c) (h : A) : if (!decide c) = true then A else B := by
  rw [decide_eq_false hc]; exact h
theorem ite_nF {c A B : Prop} {dc : Decidable c} (hc : c) (h : B) : if (!decide c) = true then A else B := by
  rw [decide_eq_true hc]; exact h
theorem ite_t {A B : Prop} (h : A) : if true = true then A else B := by rw [if_pos rfl]; exact h
theorem ite_f {A B : Prop} (h : B) : if false = true then A else B := by rw [if_neg Bool.false_ne_true]; exact h
theorem ite_nt {A B : Prop} (h : B) : if (!true) = true then A else B := by rw [if_neg (by decide)]; exact h
theorem ite_nff {A B : Prop} (h : A) : if (!false) = true then A else B := by rw [if_pos (by decide)]; exact h
theorem ite_b {b : Bool} {A B : Prop} (h1 : b = true → A) (h2 : b = false → B) : if b = true then A else B := by
  cases b
  · exact h2 rfl
  · exact h1 rfl
theorem ite_nb {b : Bool} {A B : Prop} (h1 : b = false → A) (h2 : b = true → B) : if (!b) = true then A else B := by
  cases b
  · exact h1 rfl
  · exact h2 rfl
end
/- slots -/
section
variable {v : V} {H : Hp} {QS : L2.St → Hp → Prop} {r : L2.St}
theorem wp_g0 {a0 : Option V} (h : QS (some v :: r) H) : gName 0 v (a0 :: r) H QS := h
theorem wp_g1 {a0 a1 : Option V} (h : QS (a0 :: some v :: r) H) : gName 1 v (a0 :: a1 :: r) H QS := h
theorem wp_g2 {a0 a1 a2 : Option V} (h : QS (a0 :: a1 :: some v :: r) H) : gName 2 v (a0 :: a1 :: a2 :: r) H QS := h
theorem wp_g3 {a0 a1 a2 a3 : Option V} (h : QS (a0 :: a1 :: a2 :: some v :: r) H) : gName 3 v (a0 :: a1 :: a2 :: a3 :: r) H QS := h
theorem wp_g4 {a0 a1 a2 a3 a4 : Option V} (h : QS (a0 :: a1 :: a2 :: a3 :: some v :: r) H) : gName 4 v (a0 :: a1 :: a2 :: a3 :: a4 :: r) H QS := h
theorem wp_g5 {a0 a1 a2 a3 a4 a5 : Option V} (h : QS (a0 :: a1 :: a2 :: a3 :: a4 :: some v :: r) H) : gName 5 v (a0 :: a1 :: a2 :: a3 :: a4 :: a5 :: r) H QS := h
theorem wp_g6 {a0 a1 a2 a3 a4 a5 a6 : Option V} (h : QS (a0 :: a1 :: a2 :: a3 :: a4 :: a5 :: some v :: r) H) : gName 6 v (a0 :: a1 :: a2 :: a3 :: a4 :: a5 :: a6 :: r) H QS := h
theorem wp_g7 {a0 a1 a2 a3 a4 a5 a6 a7 : Option V} (h : QS (a0 :: a1 :: a2 :: a3 :: a4 :: a5 :: a6 :: some v :: r) H) : gName 7 v (a0 :: a1 :: a2 :: a3 :: a4 :: a5 :: a6 :: a7 :: r) H QS := h
theorem wp_g8 {a0 a1 a2 a3 a4 a5 a6 a7 a8 : Option V} (h : QS (a0 :: a1 :: a2 :: a3 :: a4 :: a5 :: a6 :: a7 :: some v :: r) H) : gName 8 v (a0 :: a1 :: a2 :: a3 :: a4 :: a5 :: a6 :: a7 :: a8 :: r) H QS := h
theorem wp_g9 {a0 a1 a2 a3 a4 a5 a6 a7 a8 a9 : Option V} (h : QS (a0 :: a1 :: a2 :: a3 :: a4 :: a5 :: a6 :: a7 :: a8 :: some v :: r) H) : gName 9 v (a0 :: a1 :: a2 :: a3 :: a4 :: a5 :: a6 :: a7 :: a8 :: a9 :: r) H QS := h
theorem wp_g10 {a0 a1 a2 a3 a4 a5 a6 a7 a8 a9 a10 : Option V} (h : QS (a0 :: a1 :: a2 :: a3 :: a4 :: a5 :: a6 :: a7 :: a8 :: a9 :: some v :: r) H) : gName 10 v (a0 :: a1 :: a2 :: a3 :: a4 :: a5 :: a6 :: a7 :: a8 :: a9 :: a10 :: r) H QS := h
theorem wp_g11 {a0 a1 a2 a3 a4 a5 a6 a7 a8 a9 a10 a11 : Option V} (h : QS (a0 :: a1 :: a2 :: a3 :: a4 :: a5 :: a6 :: a7 :: a8 :: a9 :: a10 :: some v :: r) H) : gName 11 v (a0 :: a1 :: a2 :: a3 :: a4 :: a5 :: a6 :: a7 :: a8 :: a9 :: a10 :: a11 :: r) H QS := h
theorem wp_g12 {a0 a1 a2 a3 a4 a5 a6 a7 a8 a9 a10 a11 a12 : Option V} (h : QS (a0 :: a1 :: a2 :: a3 :: a4 :: a5 :: a6 :: a7 :: a8 :: a9 :: a10 :: a11 :: some v :: r) H) : gName 12 v (a0 :: a1 :: a2 :: a3 :: a4 :: a5 :: a6 :: a7 :: a8 :: a9 :: a10 :: a11 :: a12 :: r) H QS := h
theorem wp_g13 {a0 a1 a2 a3 a4 a5 a6 a7 a8 a9 a10 a11 a12 a13 : Option V} (h : QS (a0 :: a1 :: a2 :: a3 :: a4 :: a5 :: a6 :: a7 :: a8 :: a9 :: a10 :: a11 :: a12 :: some v :: r) H) : gName 13 v (a0 :: a1 :: a2 :: a3 :: a4 :: a5 :: a6 :: a7 :: a8 :: a9 :: a10 :: a11 :: a12 :: a13 :: r) H QS := h
theorem wp_g14 {a0 a1 a2 a3 a4 a5 a6 a7 a8 a9 a10 a11 a12 a13 a14 : Option V} (h : QS (a0 :: a1 :: a2 :: a3 :: a4 :: a5 :: a6 :: a7 :: a8 :: a9 :: a10 :: a11 :: a12 :: a13 :: some v :: r) H) : gName 14 v (a0 :: a1 :: a2 :: a3 :: a4 :: a5 :: a6 :: a7 :: a8 :: a9 :: a10 :: a11 :: a12 :: a13 :: a14 :: r) H QS := h
theorem wp_g15 {a0 a1 a2 a3 a4 a5 a6 a7 a8 a9 a10 a11 a12 a13 a14 a15 : Option V} (h : QS (a0 :: a1 :: a2 :: a3 :: a4 :: a5 :: a6 :: a7 :: a8 :: a9 :: a10 :: a11 :: a12 :: a13 :: a14 :: some v :: r) H) : gName 15 v (a0 :: a1 :: a2 :: a3 :: a4 :: a5 :: a6 :: a7 :: a8 :: a9 :: a10 :: a11 :: a12 :: a13 :: a14 :: a15 :: r) H QS := h
theorem wp_g16 {a0 a1 a2 a3 a4 a5 a6 a7 a8 a9 a10 a11 a12 a13 a14 a15 a16 : Option V} (h : QS (a0 :: a1 :: a2 :: a3 :: a4 :: a5 :: a6 :: a7 :: a8 :: a9 :: a10 :: a11 :: a12 :: a13 :: a14 :: a15 :: some v :: r) H) : gName 16 v (a0 :: a1 :: a2 :: a3 :: a4 :: a5 :: a6 :: a7 :: a8 :: a9 :: a10 :: a11 :: a12 :: a13 :: a14 :: a15 :: a16 :: r) H QS := h
theorem wp_g17 {a0 a1 a2 a3 a4 a5 a6 a7 a8 a9 a10 a11 a12 a13 a14 a15 a16 a17 : Option V} (h : QS (a0 :: a1 :: a2 :: a3 :: a4 :: a5 :: a6 :: a7 :: a8 :: a9 :: a10 :: a11 :: a12 :: a13 :: a14 :: a15 :: a16 :: some v :: r) H) : gName 17 v (a0 :: a1 :: a2 :: a3 :: a4 :: a5 :: a6 :: a7 :: a8 :: a9 :: a10 :: a11 :: a12 :: a13 :: a14 :: a15 :: a16 :: a17 :: r) H QS := h
theorem wp_g18 {a0 a1 a2 a3 a4 a5 a6 a7 a8 a9 a10 a11 a12 a13 a14 a15 a16 a17 a18 : Option V} (h : QS (a0 :: a1 :: a2 :: a3 :: a4 :: a5 :: a6 :: a7 :: a8 :: a9 :: a10 :: a11 :: a12 :: a13 :: a14 :: a15 :: a16 :: a17 :: some v :: r) H) : gName 18 v (a0 :: a1 :: a2 :: a3 :: a4 :: a5 :: a6 :: a7 :: a8 :: a9 :: a10 :: a11 :: a12 :: a13 :: a14 :: a15 :: a16 :: a17 :: a18 :: r) H QS := h
theorem wp_g19 {a0 a1 a2 a3 a4 a5 a6 a7 a8 a9 a10 a11 a12 a13 a14 a15 a16 a17 a18 a19 : Option V} (h : QS (a0 :: a1 :: a2 :: a3 :: a4 :: a5 :: a6 :: a7 :: a8 :: a9 :: a10 :: a11 :: a12 :: a13 :: a14 :: a15 :: a16 :: a17 :: a18 :: some v :: r) H) : gName 19 v (a0 :: a1 :: a2 :: a3 :: a4 :: a5 :: a6 :: a7 :: a8 :: a9 :: a10 :: a11 :: a12 :: a13 :: a14 :: a15 :: a16 :: a17 :: a18 :: a19 :: r) H QS := h
theorem wp_g20 {a0 a1 a2 a3 a4 a5 a6 a7 a8 a9 a10 a11 a12 a13 a14 a15 a16 a17 a18 a19 a20 : Option V} (h : QS (a0 :: a1 :: a2 :: a3 :: a4 :: a5 :: a6 :: a7 :: a8 :: a9 :: a10 :: a11 :: a12 :: a13 :: a14 :: a15 :: a16 :: a17 :: a18 :: a19 :: some v :: r) H) : gName 20 v (a0 :: a1 :: a2 :: a3 :: a4 :: a5 :: a6 :: a7 :: a8 :: a9 :: a10 :: a11 :: a12 :: a13 :: a14 :: a15 :: a16 :: a17 :: a18 :: a19 :: a20 :: r) H QS := h
theorem wp_g21 {a0 a1 a2 a3 a4 a5 a6 a7 a8 a9 a10 a11 a12 a13 a14 a15 a16 a17 a18 a19 a20 a21 : Option V} (h : QS (a0 :: a1 :: a2 :: a3 :: a4 :: a5 :: a6 :: a7 :: a8 :: a9 :: a10 :: a11 :: a12 :: a13 :: a14 :: a15 :: a16 :: a17 :: a18 :: a19 :: a20 :: some v :: r) H) : gName 21 v (a0 :: a1 :: a2 :: a3 :: a4 :: a5 :: a6 :: a7 :: a8 :: a9 :: a10 :: a11 :: a12 :: a13 :: a14 :: a15 :: a16 :: a17 :: a18 :: a19 :: a20 :: a21 :: r) H QS := h
theorem wp_g22 {a0 a1 a2 a3 a4 a5 a6 a7 a8 a9 a10 a11 a12 a13 a14 a15 a16 a17 a18 a19 a20 a21 a22 : Option V} (h : QS (a0 :: a1 :: a2 :: a3 :: a4 :: a5 :: a6 :: a7 :: a8 :: a9 :: a10 :: a11 :: a12 :: a13 :: a14 :: a15 :: a16 :: a17 :: a18 :: a19 :: a20 :: a21 :: some v :: r) H) : gName 22 v (a0 :: a1 :: a2 :: a3 :: a4 :: a5 :: a6 :: a7 :: a8 :: a9 :: a10 :: a11 :: a12 :: a13 :: a14 :: a15 :: a16 :: a17 :: a18 :: a19 :: a20 :: a21 :: a22 :: r) H QS := h
theorem wp_g23 {a0 a1 a2 a3 a4 a5 a6 a7 a8 a9 a10 a11 a12 a13 a14 a15 a16 a17 a18 a19 a20 a21 a22 a23 : Option V} (h : QS (a0 :: a1 :: a2 :: a3 :: a4 :: a5 :: a6 :: a7 :: a8 :: a9 :: a10 :: a11 :: a12 :: a13 :: a14 :: a15 :: a16 :: a17 :: a18 :: a19 :: a20 :: a21 :: a22 :: some v :: r) H) : gName 23 v (a0 :: a1 :: a2 :: a3 :: a4 :: a5 :: a6 :: a7 :: a8 :: a9 :: a10 :: a11 :: a12 :: a13 :: a14 :: a15 :: a16 :: a17 :: a18 :: a19 :: a20 :: a21 :: a22 :: a23 :: r) H QS := h
theorem wp_g24 {a0 a1 a2 a3 a4 a5 a6 a7 a8 a9 a10 a11 a12 a13 a14 a15 a16 a17 a18 a19 a20 a21 a22 a23 a24 : Option V} (h : QS (a0 :: a1 :: a2 :: a3 :: a4 :: a5 :: a6 :: a7 :: a8 :: a9 :: a10 :: a11 :: a12 :: a13 :: a14 :: a15 :: a16 :: a17 :: a18 :: a19 :: a20 :: a21 :: a22 :: a23 :: some v :: r) H) : gName 24 v (a0 :: a1 :: a2 :: a3 :: a4 :: a5 :: a6 :: a7 :: a8 :: a9 :: a10 :: a11 :: a12 :: a13 :: a14 :: a15 :: a16 :: a17 :: a18 :: a19 :: a20 :: a21 :: a22 :: a23 :: a24 :: r) H QS := h
theorem wp_g25 {a0 a1 a2 a3 a4 a5 a6 a7 a8 a9 a10 a11 a12 a13 a14 a15 a16 a17 a18 a19 a20 a21 a22 a23 a24 a25 : Option V} (h : QS (a0 :: a1 :: a2 :: a3 :: a4 :: a5 :: a6 :: a7 :: a8 :: a9 :: a10 :: a11 :: a12 :: a13 :: a14 :: a15 :: a16 :: a17 :: a18 :: a19 :: a20 :: a21 :: a22 :: a23 :: a24 :: some v :: r) H) : gName 25 v (a0 :: a1 :: a2 :: a3 :: a4 :: a5 :: a6 :: a7 :: a8 :: a9 :: a10 :: a11 :: a12 :: a13 :: a14 :: a15 :: a16 :: a17 :: a18 :: a19 :: a20 :: a21 :: a22 :: a23 :: a24 :: a25 :: r) H QS := h
end
section
variable {v : V} {H : Hp} {Q : VK} {r : L2.St}
theorem wp_v0 (q : Q v H) : tVar 0 (some v :: r) H Q := ⟨v, rfl, q⟩
theorem wp_v1 {a0 : Option V} (q : Q v H) : tVar 1 (a0 :: some v :: r) H Q := ⟨v, rfl, q⟩
theorem wp_v2 {a0 a1 : Option V} (q : Q v H) : tVar 2 (a0 :: a1 :: some v :: r) H Q := ⟨v, rfl, q⟩
theorem wp_v3 {a0 a1 a2 : Option V} (q : Q v H) : tVar 3 (a0 :: a1 :: a2 :: some v :: r) H Q := ⟨v, rfl, q⟩
theorem wp_v4 {a0 a1 a2 a3 : Option V} (q : Q v H) : tVar 4 (a0 :: a1 :: a2 :: a3 :: some v :: r) H Q := ⟨v, rfl, q⟩
theorem wp_v5 {a0 a1 a2 a3 a4 : Option V} (q : Q v H) : tVar 5 (a0 :: a1 :: a2 :: a3 :: a4 :: some v :: r) H Q := ⟨v, rfl, q⟩
theorem wp_v6 {a0 a1 a2 a3 a4 a5 : Option V} (q : Q v H) : tVar 6 (a0 :: a1 :: a2 :: a3 :: a4 :: a5 :: some v :: r) H Q := ⟨v, rfl, q⟩
theorem wp_v7 {a0 a1 a2 a3 a4 a5 a6 : Option V} (q : Q v H) : tVar 7 (a0 :: a1 :: a2 :: a3 :: a4 :: a5 :: a6 :: some v :: r) H Q := ⟨v, rfl, q⟩
theorem wp_v8 {a0 a1 a2 a3 a4 a5 a6 a7 : Option V} (q : Q v H) : tVar 8 (a0 :: a1 :: a2 :: a3 :: a4 :: a5 :: a6 :: a7 :: some v :: r) H Q := ⟨v, rfl, q⟩
theorem wp_v9 {a0 a1 a2 a3 a4 a5 a6 a7 a8 : Option V} (q : Q v H) : tVar 9 (a0 :: a1 :: a2 :: a3 :: a4 :: a5 :: a6 :: a7 :: a8 :: some v :: r) H Q := ⟨v, rfl, q⟩
theorem wp_v10 {a0 a1 a2 a3 a4 a5 a6 a7 a8 a9 : Option V} (q : Q v H) : tVar 10 (a0 :: a1 :: a2 :: a3 :: a4 :: a5 :: a6 :: a7 :: a8 :: a9 :: some v :: r) H Q := ⟨v, rfl, q⟩
theorem wp_v11 {a0 a1 a2 a3 a4 a5 a6 a7 a8 a9 a10 : Option V} (q : Q v H) : tVar 11 (a0 :: a1 :: a2 :: a3 :: a4 :: a5 :: a6 :: a7 :: a8 :: a9 :: a10 :: some v :: r) H Q := ⟨v, rfl, q⟩
theorem wp_v12 {a0 a1 a2 a3 a4 a5 a6 a7 a8 a9 a10 a11 : Option V} (q : Q v H) : tVar 12 (a0 :: a1 :: a2 :: a3 :: a4 :: a5 :: a6 :: a7 :: a8 :: a9 :: a10 :: a11 :: some v :: r) H Q := ⟨v, rfl, q⟩
theorem wp_v13 {a0 a1 a2 a3 a4 a5 a6 a7 a8 a9 a10 a11 a12 : Option V} (q : Q v H) : tVar 13 (a0 :: a1 :: a2 :: a3 :: a4 :: a5 :: a6 :: a7 :: a8 :: a9 :: a10 :: a11 :: a12 :: some v :: r) H Q := ⟨v, rfl, q⟩
theorem wp_v14 {a0 a1 a2 a3 a4 a5 a6 a7 a8 a9 a10 a11 a12 a13 : Option V} (q : Q v H) : tVar 14 (a0 :: a1 :: a2 :: a3 :: a4 :: a5 :: a6 :: a7 :: a8 :: a9 :: a10 :: a11 :: a12 :: a13 :: some v :: r) H Q := ⟨v, rfl, q⟩
theorem wp_v15 {a0 a1 a2 a3 a4 a5 a6 a7 a8 a9 a10 a11 a12 a13 a14 : Option V} (q : Q v H) : tVar 15 (a0 :: a1 :: a2 :: a3 :: a4 :: a5 :: a6 :: a7 :: a8 :: a9 :: a10 :: a11 :: a12 :: a13 :: a14 :: some v :: r) H Q := ⟨v, rfl, q⟩
theorem wp_v16 {a0 a1 a2 a3 a4 a5 a6 a7 a8 a9 a10 a11 a12 a13 a14 a15 : Option V} (q : Q v H) : tVar 16 (a0 :: a1 :: a2 :: a3 :: a4 :: a5 :: a6 :: a7 :: a8 :: a9 :: a10 :: a11 :: a12 :: a13 :: a14 :: a15 :: some v :: r) H Q := ⟨v, rfl, q⟩
theorem wp_v17 {a0 a1 a2 a3 a4 a5 a6 a7 a8 a9 a10 a11 a12 a13 a14 a15 a16 : Option V} (q : Q v H) : tVar 17 (a0 :: a1 :: a2 :: a3 :: a4 :: a5 :: a6 :: a7 :: a8 :: a9 :: a10 :: a11 :: a12 :: a13 :: a14 :: a15 :: a16 :: some v :: r) H Q := ⟨v, rfl, q⟩
theorem wp_v18 {a0 a1 a2 a3 a4 a5 a6 a7 a8 a9 a10 a11 a12 a13 a14 a15 a16 a17 : Option V} (q : Q v H) : tVar 18 (a0 :: a1 :: a2 :: a3 :: a4 :: a5 :: a6 :: a7 :: a8 :: a9 :: a10 :: a11 :: a12 :: a13 :: a14 :: a15 :: a16 :: a17 :: some v :: r) H Q := ⟨v, rfl, q⟩
theorem wp_v19 {a0 a1 a2 a3 a4 a5 a6 a7 a8 a9 a10 a11 a12 a13 a14 a15 a16 a17 a18 : Option V} (q : Q v H) : tVar 19 (a0 :: a1 :: a2 :: a3 :: a4 :: a5 :: a6 :: a7 :: a8 :: a9 :: a10 :: a11 :: a12 :: a13 :: a14 :: a15 :: a16 :: a17 :: a18 :: some v :: r) H Q := ⟨v, rfl, q⟩
theorem wp_v20 {a0 a1 a2 a3 a4 a5 a6 a7 a8 a9 a10 a11 a12 a13 a14 a15 a16 a17 a18 a19 : Option V} (q : Q v H) : tVar 20 (a0 :: a1 :: a2 :: a3 :: a4 :: a5 :: a6 :: a7 :: a8 :: a9 :: a10 :: a11 :: a12 :: a13 :: a14 :: a15 :: a16 :: a17 :: a18 :: a19 :: some v :: r) H Q := ⟨v, rfl, q⟩
theorem wp_v21 {a0 a1 a2 a3 a4 a5 a6 a7 a8 a9 a10 a11 a12 a13 a14 a15 a16 a17 a18 a19 a20 : Option V} (q : Q v H) : tVar 21 (a0 :: a1 :: a2 :: a3 :: a4 :: a5 :: a6 :: a7 :: a8 :: a9 :: a10 :: a11 :: a12 :: a13 :: a14 :: a15 :: a16 :: a17 :: a18 :: a19 :: a20 :: some v :: r) H Q := ⟨v, rfl, q⟩
theorem wp_v22 {a0 a1 a2 a3 a4 a5 a6 a7 a8 a9 a10 a11 a12 a13 a14 a15 a16 a17 a18 a19 a20 a21 : Option V} (q : Q v H) : tVar 22 (a0 :: a1 :: a2 :: a3 :: a4 :: a5 :: a6 :: a7 :: a8 :: a9 :: a10 :: a11 :: a12 :: a13 :: a14 :: a15 :: a16 :: a17 :: a18 :: a19 :: a20 :: a21 :: some v :: r) H Q := ⟨v, rfl, q⟩
theorem wp_v23 {a0 a1 a2 a3 a4 a5 a6 a7 a8 a9 a10 a11 a12 a13 a14 a15 a16 a17 a18 a19 a20 a21 a22 : Option V} (q : Q v H) : tVar 23 (a0 :: a1 :: a2 :: a3 :: a4 :: a5 :: a6 :: a7 :: a8 :: a9 :: a10 :: a11 :: a12 :: a13 :: a14 :: a15 :: a16 :: a17 :: a18 :: a19 :: a20 :: a21 :: a22 :: some v :: r) H Q := ⟨v, rfl, q⟩
theorem wp_v24 {a0 a1 a2 a3 a4 a5 a6 a7 a8 a9 a10 a11 a12 a13 a14 a15 a16 a17 a18 a19 a20 a21 a22 a23 : Option V} (q : Q v H) : tVar 24 (a0 :: a1 :: a2 :: a3 :: a4 :: a5 :: a6 :: a7 :: a8 :: a9 :: a10 :: a11 :: a12 :: a13 :: a14 :: a15 :: a16 :: a17 :: a18 :: a19 :: a20 :: a21 :: a22 :: a23 :: some v :: r) H Q := ⟨v, rfl, q⟩
theorem wp_v25 {a0 a1 a2 a3 a4 a5 a6 a7 a8 a9 a10 a11 a12 a13 a14 a15 a16 a17 a18 a19 a20 a21 a22 a23 a24 : Option V} (q : Q v H) : tVar 25 (a0 :: a1 :: a2 :: a3 :: a4 :: a5 :: a6 :: a7 :: a8 :: a9 :: a10 :: a11 :: a12 :: a13 :: a14 :: a15 :: a16 :: a17 :: a18 :: a19 :: a20 :: a21 :: a22 :: a23 :: a24 :: some v :: r) H Q := ⟨v, rfl, q⟩
end
/-! ### small words about heaps -/
theorem sq_of {K : PySem.W.Frag} {H : Hp} {a : Addr} {xs : List V} (h : H a = some (.lst xs)) : SqL K H a xs := SqL.of h
theorem st_of {K : PySem.W.Frag} {H : Hp} {a : Addr} {xs : List V} (h : H a = some (.tup xs)) : SqT K H a xs := SqT.of h
theorem at_in {α : Type} {xs : List α} {i : Int} (h0 : 0 ≤ i) (h1 : i < xs.length) : ∃ v, atI xs i = some v ∧ v ∈ xs ∧ xs[i.toNat]? = some v := by
  have hl : i.toNat < xs.length := by omega
  have e : i = ((i.toNat : Nat) : Int) := by omega
  have h := atI_nat (List.getElem?_eq_getElem hl)
  rw [← e] at h
  exact ⟨_, h, List.getElem_mem hl, List.getElem?_eq_getElem hl⟩
theorem at0 {α : Type} {x : α} {xs : List α} : atI (x :: xs) 0 = some x := atI_nat (j := 0) rfl
theorem at1 {α : Type} {x y : α} {xs : List α} : atI (x :: y :: xs) 1 = some y := atI_nat (j := 1) rfl
/-! ### the pool: what a draw may change -/
structure Pl where
  p : Addr
  l : Addr
  cs : List Int
/-- the pool stands at P.p, its cells at P.l; G: all that is known besides, P.p not among it -/
structure Sees (P : Pl) (G H : Hp) : Prop where
  pool : ∃ (n c : Int), H P.p = some (.lst [.int n, .int c, .ref P.l])
  cell : G P.l = some (.lst (P.cs.map V.int))
  few : P.cs.length ≤ 63
  free : G P.p = none
  sub : Same G H
theorem Sees.more {P : Pl} {G G' H : Hp} (s : Sees P G H) (g : Same G G') (h : Same G' H) (hp : G' P.p = none) : Sees P G' H :=
  ⟨s.pool, g _ _ s.cell, s.few, hp, h⟩
/-- a thing outside of G that stands in H is known too -/
theorem Sees.with {P : Pl} {q : Addr} {o : HO} {G H : Hp} (s : Sees P G H) (hq : G q = none) (hH : H q = some o) (hqp : q ≠ P.p) : Sees P (upd G q o) H := by
  refine s.more (Same.new hq) (fun a u e => ?_) (by rw [upd_ne hqp.symm]; exact s.free)
  by_cases h : a = q
  · subst h; rw [upd_same] at e; cases e; exact hH
  · rw [upd_ne h] at e; exact s.sub _ _ e
/-- .. and may be forgotten behind a call -/
theorem Sees.back {P : Pl} {q : Addr} {o : HO} {G H H' : Hp} (s : Sees P (upd G q o) H') (s0 : Sees P G H) (hq : G q = none) : Sees P G H' ∧ H' q = some o :=
  ⟨⟨s.pool, s0.cell, s.few, s0.free, Same.trans (Same.new hq) s.sub⟩, s.sub _ _ upd_same⟩
theorem Sees.fresh {P : Pl} {q : Addr} {G H : Hp} (s : Sees P G H) (hq : H q = none) : G q = none ∧ q ≠ P.p := by
  refine ⟨s.sub.free hq, fun e => ?_⟩
  obtain ⟨n, c, h⟩ := s.pool
  rw [e, h] at hq
  cases hq
/-- a local object is made, or changed -/
theorem Sees.set {P : Pl} {q : Addr} {o : HO} {G H : Hp} (s : Sees P G H) (hq : G q = none) (hqp : q ≠ P.p) : Sees P G (upd H q o) := by
  obtain ⟨n, c, h⟩ := s.pool
  exact ⟨⟨n, c, by rw [upd_ne hqp.symm]; exact h⟩, s.cell, s.few, s.free, Same.mut s.sub hq⟩
/-- .. and known for good -/
theorem Sees.new {P : Pl} {q : Addr} {o : HO} {G H : Hp} (s : Sees P G H) (hq : H q = none) : Sees P (upd G q o) (upd H q o) := by
  obtain ⟨h1, h2⟩ := s.fresh hq
  exact (s.set h1 h2).with h1 upd_same h2
theorem Sees.drawn {P : Pl} {G H : Hp} (s : Sees P G H) (n c : Int) : Sees P G (upd H P.p (.lst [.int n, .int c, .ref P.l])) :=
  ⟨⟨n, c, upd_same⟩, s.cell, s.few, s.free, Same.mut s.sub s.free⟩
/-- what a call that leaves all as it was leaves -/
theorem Sees.same {P : Pl} {G H H' : Hp} (s : Sees P G H) (h : Same H H') : Sees P G H' := by
  obtain ⟨n, c, e⟩ := s.pool
  exact ⟨⟨n, c, h _ _ e⟩, s.cell, s.few, s.free, s.sub.trans h⟩
end RM
namespace RM
open PySem PySem.Spec PyProof.Rows L2
/-! ### own classes: the operators that the text defines -/
section
variable {X : Cx} {pins : List (Addr × Obj)} {σ : L2.St} {H : Hp} {s : Shared} {n : Nat} {A : Around} {f C : Addr} {fd : FuncData} {ps : List Str} {sp : Sp}
/-- a def run somewhere below the body -/
theorem run_at {E' : Value → Shared → Prop} (sb : Sub X n A) (F : FnOk X.prog X.w X.K X.mg X.base CX0 n f fd ps sp) (hb : Binds X.K fd ps []) (I : Inv X pins σ H s) {us : List Value} {vs : List V} {Q : VK} (r : Vals vs us) (h : sp vs H Q E0) :
    wpAny (model X.prog X.w) A (call (.ref f) us) (EP X pins σ Q) E' s := by
  have e0 : Env0 X.prog X.w X.K X.mg X.base A X.stack s H := by
    have e := I.env0
    exact ⟨by rw [sb.fr]; exact e.frames, e.mod, e.bs, e.bsz, e.funs, e.frf, e.hok, e.bare⟩
  have hl := F.len _ _ _ _ h
  have hl2 : (us ++ ([] : List Value)).length = ps.length := by rw [List.append_nil, ← r.length]; exact hl
  have bt := hb s us I.kIn hl2
  rw [List.append_nil] at bt
  refine wpAny_call (codeAny_mono (F.run A X.stack s H ⟨us, []⟩ us vs Q E0 sb.room e0 bt r h) fun r s' hq => ?_)
  cases r with
  | error e => exact False.elim hq
  | ok fl =>
    cases fl with
    | ret u => exact I.after hq
    | next => exact False.elim hq
    | brk => exact False.elim hq
    | cont => exact False.elim hq
/-- a class's method by a special name -/
structure Spc (P : Program) (w : World) (K : PySem.W.Frag) (mg : Str → Option Value) (base : Heap) (n : Nat) (C : Addr) (nm : Str) (sp : Sp) : Prop where
  ex : ∃ (f : Addr) (fd : FuncData) (ps : List Str), PySem.W.findIn K (.ref C) nm = some (some (.ref f)) ∧ PySem.W.isFn K (.ref f) = true ∧ FnOk P w K mg base CX0 n f fd ps sp ∧ Binds K fd ps []
theorem inst_of {a dx : Addr} {fs : List (Str × V)} (I : Inv X pins σ H s) (ha : H a = some (.ins C dx fs)) : ∃ od, PySem.W.InstAt s.heap a (PySem.W.instObj C dx) C (some od) := by
  obtain ⟨mA, J, _⟩ := ins_get I.hok ha
  obtain ⟨od, J, _⟩ := J.look
  exact ⟨od, J⟩
/-- len(o) -/
def rLenOwn (C : Addr) (sp : Sp) : List V → Hp → VK → Prop := fun xs H Q => ∃ a dx fs, xs = [.ref a] ∧ H a = some (.ins C dx fs) ∧ sp [.ref a] H (fun v H' => ∃ k : Int, v = .int k ∧ 0 ≤ k ∧ k < 100000 ∧ Q (.int k) H') E0
theorem call_lenOwn (S : Spc X.prog X.w X.K X.mg X.base n C "__len__" sp) (hr : Room (n + 1) X.A) : CallR X (.builtin "len") (rLenOwn C sp) := by
  obtain ⟨f, fd, ps, hs, hf, F, hb⟩ := S.ex
  intro pins s σ H xs us Q I r h
  obtain ⟨a, dx, fs, rfl, ha, h⟩ := h
  obtain ⟨u, rfl, ru⟩ := r.one
  cases ru
  obtain ⟨od, J⟩ := inst_of I ha
  obtain ⟨m, hF⟩ := I.fr
  refine PySem.W.len_K hF I.ok.mod.kin J hs hf ?_
  refine wpAny_mono (run_at (us := [.ref a]) (vs := [.ref a]) (Sub.in1 ⟨hr, rfl⟩) F hb I (.cons rfl .nil) h) (fun v s' hv => ?_) fun _ _ e => e
  obtain ⟨x, H', I', rx, k, rfl, h0, h1, q⟩ := hv
  obtain ⟨t, rfl⟩ := rx
  refine ⟨⟨h0, by omega⟩, .int k, H', I'.tok _, ⟨_, rfl⟩, q⟩
/-- x in o, x not in o -/
def rInOwn (C : Addr) (sp : Sp) (neg : Bool) : R2 := fun x y H Q => ∃ a dx fs, y = .ref a ∧ H a = some (.ins C dx fs) ∧ sp [.ref a, x] H (fun v H' => ∃ k : Bool, v = .bl k ∧ Q (.bl (if neg then !k else k)) H') E0
theorem op_inOwn (S : Spc X.prog X.w X.K X.mg X.base n C "__contains__" sp) (hr : Room n X.A) : OpR X (compareOp .In) (rInOwn C sp false) := by
  obtain ⟨f, fd, ps, hs, hf, F, hb⟩ := S.ex
  intro pins s σ H x y v u Q I rx ry h
  obtain ⟨a, dx, fs, rfl, ha, h⟩ := h
  cases ry
  obtain ⟨od, J⟩ := inst_of I ha
  obtain ⟨m, hF⟩ := I.fr
  refine PySem.W.in_K hF I.ok.mod.kin J hs hf ?_
  refine wpAny_mono (run_at (us := [.ref a, v]) (vs := [.ref a, x]) ⟨hr, rfl⟩ F hb I (.cons rfl (.cons rx .nil)) h) (fun v s' hv => ?_) fun _ _ e => e
  obtain ⟨z, H', I', rz, k, rfl, q⟩ := hv
  cases rz
  exact wpAny_truthy_bool ⟨.bl k, H', I', rfl, q⟩
theorem op_notInOwn (S : Spc X.prog X.w X.K X.mg X.base n C "__contains__" sp) (hr : Room n X.A) : OpR X (compareOp .NotIn) (rInOwn C sp true) := by
  obtain ⟨f, fd, ps, hs, hf, F, hb⟩ := S.ex
  intro pins s σ H x y v u Q I rx ry h
  obtain ⟨a, dx, fs, rfl, ha, h⟩ := h
  cases ry
  obtain ⟨od, J⟩ := inst_of I ha
  obtain ⟨m, hF⟩ := I.fr
  refine PySem.W.notIn_K hF I.ok.mod.kin J hs hf ?_
  refine wpAny_mono (run_at (us := [.ref a, v]) (vs := [.ref a, x]) ⟨hr, rfl⟩ F hb I (.cons rfl (.cons rx .nil)) h) (fun v s' hv => ?_) fun _ _ e => e
  obtain ⟨z, H', I', rz, k, rfl, q⟩ := hv
  cases rz
  exact wpAny_truthy_bool ⟨.bl (!k), H', I', rfl, q⟩
/-- o == p, two instances of one class -/
def rEqOwn (C : Addr) (sp : Sp) : R2 := fun x y H Q => ∃ a dx fs b dy gs, x = .ref a ∧ H a = some (.ins C dx fs) ∧ y = .ref b ∧ H b = some (.ins C dy gs) ∧ sp [.ref a, .ref b] H (fun v H' => ∃ k : Bool, v = .bl k ∧ Q (.bl k) H') E0
theorem op_eqOwn (S : Spc X.prog X.w X.K X.mg X.base n C "__eq__" sp) (hr : Room n X.A) : OpR X (compareOp .Eq) (rEqOwn C sp) := by
  obtain ⟨f, fd, ps, hs, hf, F, hb⟩ := S.ex
  intro pins s σ H x y v u Q I rx ry h
  obtain ⟨a, dx, fs, b, dy, gs, rfl, ha, rfl, hb', h⟩ := h
  cases rx
  cases ry
  obtain ⟨od, J⟩ := inst_of I ha
  obtain ⟨od', J'⟩ := inst_of I hb'
  obtain ⟨m, hF⟩ := I.fr
  show wpAny (model X.prog X.w) X.A (richCompare .Eq (.ref a) (.ref b)) (EP X pins σ Q) X.xe s
  refine PySem.W.cmp_K (op := .Eq) (tb := .ref C) hr.units0 hF I.ok.mod.kin J J'.type (by simp [PySem.W.notFirst]) hs hf ?_
  refine wpAny_mono (run_at (us := [.ref a, .ref b]) (vs := [.ref a, .ref b]) ⟨hr, rfl⟩ F hb I (.cons rfl (.cons rfl .nil)) h) (fun v s' hv => ?_) fun _ _ e => e
  obtain ⟨z, H', I', rz, k, rfl, q⟩ := hv
  cases rz
  exact ⟨.bl k, H', I', rfl, q⟩
end
end RM
namespace RM
open PySem PySem.Spec PyProof.Rows L2
/-! ### list(o), o of an own class whose __iter__ hands out a list's iterator and that has a __len__ -/
/-- at it an iterator over the list at l, the next place is i (its object left open) -/
def ItS (l it : Addr) (i : Nat) : HO := .ext fun h => h.IsListIter it l i
section
variable {X : Cx} {pins : List (Addr × Obj)} {σ : L2.St} {H : Hp} {s : Shared} {n : Nat} {A : Around} {f C l it q : Addr} {fd : FuncData} {ps : List Str} {sp : Sp} {i : Nat}
theorem itS_ok {P : Program} {w : World} {h : Heap} (e : h.IsListIter it l i) : ObjOk P w H h it (ItS l it i) := by
  obtain ⟨o, ho, hr⟩ := id e
  refine ⟨e, ⟨o, ho⟩, fun h1 h2 x k => ?_⟩
  obtain ⟨o1, ho1, hr1⟩ := x
  exact ⟨o1, k _ ho1, hr1⟩
theorem itS_get (I : Inv X pins σ H s) (e : H it = some (ItS l it i)) : s.heap.IsListIter it l i := (I.hok it _ e).1
theorem endit {Q : Option Value → Shared → Prop} {items : Array Value} {E : Value → Shared → Prop} {prog : Program} {w : World} (hh : A.handled = none) (hit : s.heap.IsListIter it l i) (hl : s.heap.IsList l items) (hx : items[i]? = none)
    (hQ : ∀ h', (∃ o, h'.get? it = some o) → (∀ b o, b ≠ it → s.heap.get? b = some o → h'.get? b = some o) → Q none { s with heap := h' }) : wpAny (model prog w) A (pyNext (.ref it)) Q E s := by
  obtain ⟨o, ho, hc, hd⟩ := id hit
  obtain ⟨ol, hol, _, nl, hdl⟩ := hl
  unfold pyNext
  refine wpAny_bind (wpAny_attempt (wpAny_callSpecial?_slot (name := Str.ofString "__next__") hit.typeIs slot_listiter_next
    (wpAny_call_entry slot_listiter_next hit.typeIs entry_listiter_next ?_ (args_listiter_next _))))
  show wpAny _ _ (field (.ref it) 0 >>= _) _ _ s
  refine wpAny_bind (wpAny_field ho hd (x := .ref l) rfl ?_)
  show wpAny _ _ (if (Value.ref l == Value.none) = true then _ else _) _ _ s
  rw [if_neg (show ¬ ((Value.ref l == Value.none) = true) from Bool.false_ne_true)]
  show wpAny _ _ (field (.ref it) 1 >>= _) _ _ s
  refine wpAny_bind (wpAny_field ho hd (x := .int i 0) rfl ?_)
  show wpAny _ _ (seqItems? (.ref l) >>= _) _ _ s
  refine wpAny_bind (wpAny_seqItems hol hdl ?_)
  simp only [Int.toNat_natCast, hx]
  refine wpAny_bind (wpAny_rule (wpAny_bind (wpAny_setField ho hd (by simp) ?_)))
  show wpAny _ _ (newExc (.type "StopIteration") [] >>= _) _ _ _
  refine wpAny_bind ?_
  simp only [newExc, newTuple]
  refine wpAny_bind (wpAny_newObj_type ?_ (by size_fits))
  refine wpAny_bind (m := firstArgMember _ _) (wpAny_of_eq (a := Value.none) (by first | rfl | (simp only [firstArgMember]; rfl)) ?_)
  refine wpAny_newObj_type ?_ (by size_fits)
  simp only [raiseNew]
  refine wpAny_bind (wpAny_handled ?_)
  rw [show A.in1.handled = none from hh]
  refine wpAny_bind (wpAny_pure (wpAny_throw ?_))
  refine wpAny_bind (wpAny_isInstance (T := "StopIteration") (b := true) ⟨_, Heap.get?_push_size _ rfl, rfl⟩ isSubtype_stop ?_)
  have nf : (Obj.mapFields (fun x => x.setIfInBounds 0 Value.none) o).isFreed = false := by
    obtain ⟨oc, od, dt, sl⟩ := o
    simp only at hc hd
    subst hc hd
    rfl
  refine wpAny_pure (hQ _ ⟨_, Heap.get?_push_of_some _ (Heap.get?_push_of_some _ (Heap.get?_update_self _ ho nf))⟩ fun b o hb e => Heap.get?_push_of_some _ (Heap.get?_push_of_some _ ?_))
  exact (Heap.get?_update_other _ _ (Ne.symm hb)).trans e
/-- the loop that fills the list at q from the iterator at it -/
theorem it_loop {zs : List V} {Rs : Result → Shared → Prop} (hh : A.in1.handled = none) (hz : zs.length < 100000) (hlq : l ≠ q) (hli : l ≠ it) (hiq : it ≠ q)
    (hdone : ∀ H' s', Inv X pins σ H' s' → (∀ b o, b ≠ it → b ≠ q → H b = some o → H' b = some o) → H' q = some (.lst zs) → Rs (.ok (.ret .none)) s') :
    ∀ (m i : Nat) (H' : Hp) (s : Shared), zs.length - i = m → i ≤ zs.length → Inv X pins σ H' s → (∀ b o, b ≠ it → b ≠ q → H b = some o → H' b = some o) → SqL X.K H' l zs → H' it = some (ItS l it i) → H' q = some (.lst (zs.take i)) →
      codeAny (model X.prog X.w) A (.builtin "list.extend.loop" ⟨[.ref q, .ref it, .none], []⟩) Rs s := by
  intro m
  induction m with
  | zero =>
    intro i H' s hm hi I hk hl hI hq
    have ei : i = zs.length := by omega
    refine codeAny_builtin PySem.F.entry_extend_loop ?_
    rw [Around.under_plainId PySem.F.plain_extend_loop _]
    show wpAny _ A.in1 (pyNext (.ref it) >>= _) _ _ s
    obtain ⟨its, rv, pl, _⟩ := I.list hl
    refine wpAny_bind (endit hh (itS_get I hI) pl.isList (by rw [List.getElem?_toArray]; exact List.getElem?_eq_none (by rw [← rv.length]; omega)) fun h' he hk' => ?_)
    refine wpAny_pure ?_
    obtain ⟨oe, heo⟩ := he
    have mu : Mut (H' it) := by rw [hI]; exact True.intro
    have ok2 : ObjOk X.prog X.w (upd H' it (.ext fun h => ∃ o, h.get? it = some o)) h' it (.ext fun h => ∃ o, h.get? it = some o) := ⟨⟨oe, heo⟩, ⟨oe, heo⟩, fun h1 h2 ⟨o, x⟩ k => ⟨o, k _ x⟩⟩
    have I2 := I.write (x := it) (e := it) (t' := s.toks) mu (.inl rfl) (fun b u hb e => hk' b u hb e) ⟨oe, heo⟩ ok2
    refine hdone _ _ I2 (fun b o h1 h2 e => by rw [upd_ne h1]; exact hk b o h1 h2 e) ?_
    rw [upd_ne (Ne.symm hiq), hq, ei, List.take_length]
  | succ m ih =>
    intro i H' s hm hi I hk hl hI hq
    have hlt : i < zs.length := by omega
    refine codeAny_builtin PySem.F.entry_extend_loop ?_
    rw [Around.under_plainId PySem.F.plain_extend_loop _]
    show wpAny _ A.in1 (pyNext (.ref it) >>= _) _ _ s
    obtain ⟨its, rv, pl, _⟩ := I.list hl
    obtain ⟨u, hu, ru⟩ := rv.get (List.getElem?_eq_getElem hlt)
    refine wpAny_bind (wpAny_pyNext_list_item (itS_get I hI) pl.isList (x := u) (by rw [List.getElem?_toArray]; exact hu) fun h' st sb => ?_)
    have mu : Mut (H' it) := by rw [hI]; exact True.intro
    obtain ⟨oe, heo, hoe⟩ := id st
    have I2 := I.write (x := it) (e := it) (t' := s.toks) mu (.inl rfl) (fun b o hb e => (sb.2 b hb).trans e) ⟨oe, heo⟩ (itS_ok (H := upd H' it (ItS l it (i + 1))) (P := X.prog) (w := X.w) st)
    have hq2 : upd H' it (ItS l it (i + 1)) q = some (.lst (zs.take i)) := by rw [upd_ne (Ne.symm hiq)]; exact hq
    show wpAny _ A.in1 (updateSeq q (·.push u) >>= _) _ _ _
    obtain ⟨z, its2, k2, r2, hl2, e2⟩ := I2.lstM hq2
    have hz2 : its2.length = i := by rw [← hl2, List.length_take]; omega
    refine wpAny_bind (wpAny_updateSeq e2 rfl (wpAny_pure ⟨plainId_quiet PySem.F.plain_extend_loop _, ?_⟩) (by rw [List.size_toArray, hz2]; exact Nat.le_trans (Nat.le_of_lt hlt) (szl (by omega))) (by show (its2.toArray.push u).size ≤ sizeLine + 1; rw [Array.size_push, List.size_toArray, hz2]; exact Nat.succ_le_succ (szl (by omega))))
    have I3 := I2.lset (f := (·.push u)) (its' := its2 ++ [u]) (ys := zs.take i ++ [zs[i]]) (t' := s.toks) hq2 e2 (by simp) (r2.append (.cons ru .nil)) (by rw [List.length_append, List.length_take]; exact szl (by show _ + 1 ≤ _; omega))
    refine ih (i + 1) _ _ (by omega) hlt I3 (fun b o h1 h2 e => by rw [upd_ne h2, upd_ne h1]; exact hk b o h1 h2 e) ?_ ?_ ?_
    · have e1 : upd (upd H' it (ItS l it (i + 1))) q (.lst (zs.take i ++ [zs[i]])) l = H' l := by rw [upd_ne hlq, upd_ne hli]
      unfold SqL Rd at hl ⊢
      simp only [e1]
      exact hl
    · rw [upd_ne hiq]; exact upd_same
    · rw [List.take_append_getElem]; exact upd_same
/-- list(o) -/
def rListOwn (K : PySem.W.Frag) (C : Addr) (spI spL : Sp) : List V → Hp → VK → Prop := fun xs H Q => ∃ a dx fs, xs = [.ref a] ∧ H a = some (.ins C dx fs) ∧ ∀ q, H q = none →
  spI [.ref a] (upd H q (.lst [])) (fun v H1 => ∃ it l zs, v = .ref it ∧ H1 it = some (ItO l it 0) ∧ SqL K H1 l zs ∧ zs.length < 100000 ∧ l ≠ q ∧ l ≠ it ∧ it ≠ q ∧ H1 q = some (.lst []) ∧ H1 a = some (.ins C dx fs) ∧
    spL [.ref a] H1 (fun v2 H2 => ∃ k : Int, v2 = .int k ∧ 0 ≤ k ∧ k < 100000 ∧ H2 = H1 ∧ ∀ H3, (∀ b o, b ≠ it → b ≠ q → H1 b = some o → H3 b = some o) → H3 q = some (.lst zs) → Q (.ref q) H3) E0) E0
theorem call_listIt {spI spL : Sp} (SI : Spc X.prog X.w X.K X.mg X.base n C "__iter__" spI) (SL : Spc X.prog X.w X.K X.mg X.base n C "__len__" spL) (hr : Room (n + 3) X.A) : CallR X (.type "list") (rListOwn X.K C spI spL) := by
  obtain ⟨fI, fdI, psI, hsI, hfI, FI, bI⟩ := SI.ex
  obtain ⟨fL, fdL, psL, hsL, hfL, FL, bL⟩ := SL.ex
  intro pins s σ H xs us Q I rv h
  obtain ⟨a, dx, fs, rfl, ha, h⟩ := h
  obtain ⟨u, rfl, ru⟩ := rv.one
  cases ru
  have sb : Sub X (n + 1) X.A.in1.in1 := Sub.in1 (Sub.in1 (⟨hr, rfl⟩ : Sub X (n + 3) X.A))
  refine callType_codes (Q₁ := fun obj s₁ => obj = .ref s.heap.objs.size ∧ s₁ = { s with heap := s.heap.push { cls := .type "list", data := .seq #[] } }) PySem.F.called_list (PySem.F.typeCall_list_1 _) PySem.F.entry_list_init
    (code_list_new _ ⟨rfl, rfl⟩) fun obj s₁ h₁ => ?_
  obtain ⟨rfl, rfl⟩ := h₁
  have hS : (s.heap.push { cls := .type "list", data := .seq #[] }).get? s.heap.objs.size = some { cls := .type "list", data := .seq #[] } := Heap.get?_push_size _ rfl
  refine ⟨⟨_, hS, rfl⟩, PySem.F.args_list_init_2 _ _, ?_⟩
  have fr : H s.heap.objs.size = none := I.hok.fresh (Nat.le_refl _)
  have h := h _ fr
  generalize hqe : s.heap.objs.size = q at *
  have I1 : Inv X pins σ (upd H q (.lst [])) { s with heap := s.heap.push { cls := .type "list", data := .seq #[] } } := by
    have z := I.lnew (its := []) (ys := []) (t' := s.toks) .nil (Nat.zero_le _)
    rw [hqe] at z
    exact z
  show wpAny _ _ (do let old ← Builtin.List.listItems (.ref q); Builtin.List.listUpdate (.ref q) (fun _ => #[]); letGo old.toList.reverse; Builtin.List.listExtendWith (.ref q) (.ref a) .none) _ _ _
  refine wpAny_bind ?_
  unfold Builtin.List.listItems
  refine wpAny_bind (wpAny_seqItems hS rfl (wpAny_pure ?_))
  show wpAny _ _ (updateSeq q (fun _ => #[]) >>= fun _ => letGo (#[] : Array Value).toList.reverse >>= fun _ => Builtin.List.listExtendWith (.ref q) (.ref a) .none) _ _ _
  refine wpAny_bind (wpAny_updateSeq hS rfl ?_)
  have I2 := I1.lset (f := fun _ => #[]) (its := []) (its' := []) (ys := []) (t' := s.toks) upd_same hS rfl .nil (Nat.zero_le _)
  rw [upd_upd] at I2
  refine wpAny_bind (wpAny_letGo ?_)
  have ha2 : upd H q (.lst []) a = some (.ins C dx fs) := by rw [upd_ne (ne_of_none ha fr)]; exact ha
  have hne : q ≠ a := ne_of (H := upd H q (.lst [])) upd_same ha2 (fun z => nomatch z)
  obtain ⟨od, J⟩ := inst_of I2 ha2
  obtain ⟨m0, hF⟩ := I2.fr
  show wpAny _ X.A.in1.in1 (Builtin.List.listExtendWith (.ref q) (.ref a) .none) _ _ _
  unfold Builtin.List.listExtendWith
  refine wpAny_bind (J.type.here ?_)
  have h1 : Builtin.List.listSameRef (.ref q) (.ref a) = false := by simp [Builtin.List.listSameRef, hne]
  have h2 : (Value.ref C == Value.type "list") = false := rfl
  have h3 : (Value.ref C == Value.type "tuple") = false := rfl
  simp only [h1, h2, h3, Bool.or_false, Bool.false_eq_true, if_false]
  refine wpAny_bind (PySem.W.owit_iter hF I2.ok.mod.kin J hsI hfI ?_)
  refine wpAny_mono (run_at (us := [.ref a]) (vs := [.ref a]) (sb.mono (Nat.le_succ _)) FI bI I2 (.cons rfl .nil) h) (fun u s' hu => ?_) (fun _ _ e => e)
  obtain ⟨v, H1, I3, rv3, it, l, zs, rfl, hit, hlz, hz, n1, n2, n3, hq1, ha3, hL⟩ := hu
  cases rv3
  have ito := itO_get I3 hit
  have hT : s'.TypeIs (.ref it) "list_iterator" := ⟨_, ito, rfl⟩
  unfold PySem.W.OwitIt
  show wpAny _ _ (typeOf (.ref it) >>= fun t => typeLookup t "__next__") _ _ _
  refine wpAny_bind (wpAny_typeOf hT (wpAny_of_eq slot_listiter_next.lookup ?_))
  show wpAny _ _ _ _ _ _
  obtain ⟨od', J'⟩ := inst_of I3 ha3
  obtain ⟨m1, hF'⟩ := I3.fr
  refine wpAny_bind (wpAny_holding ?_)
  unfold Builtin.List.listLengthHint
  refine wpAny_bind (wpAny_bind (J'.type.here ((PySem.W.looks_findIn I3.kIn hsL).here ?_)))
  refine PySem.W.KFB.if_not rfl ?_
  refine PySem.W.KFB.if_so rfl ?_
  refine wpAny_bind (wpAny_rule (wpAny_bind (wpAny_attempt ?_)))
  refine PySem.W.len_K hF' I3.ok.mod.kin J' hsL hfL ?_
  refine wpAny_mono (run_at (E' := fun _ _ => False) (us := [.ref a]) (vs := [.ref a]) sb.in1 FL bL I3 (.cons rfl .nil) hL) (fun u s2 hu => ?_) fun _ _ e => e.elim
  obtain ⟨v2, H2, I4, rv4, k, rfl, k0, k1, e2, hend⟩ := hu
  obtain ⟨tk, rfl⟩ := rv4
  subst e2
  refine ⟨⟨k0, by omega⟩, ?_⟩
  have I5 := I4.tok (s2.toks + 1)
  refine wpAny_bind (wpAny_of_eq (a := some k) rfl ?_)
  refine PySem.W.KFB.if_not (notLongL (szl (by omega))) ?_
  refine wpAny_pure ?_
  have st := itS_ok (H := upd H2 it (ItS l it 0)) (P := X.prog) (w := X.w) (i := 0) (⟨_, itO_get I5 hit, rfl, rfl⟩ : Heap.IsListIter _ it l 0)
  have mu : Mut (H2 it) := by rw [hit]; exact True.intro
  have I6 := I5.write (x := it) (e := it) (t' := s2.toks + 1) mu (.inl rfl) (fun _ _ _ e => e) ⟨_, itO_get I5 hit⟩ st
  have fin : ∀ (t' : Nat) (s3 : Shared), Inv X pins σ (upd H2 it (ItS l it 0)) s3 → codeAny (model X.prog X.w) X.A.in1 (.builtin "list.extend.loop" ⟨[.ref q, .ref it, .none], []⟩) (wants (fun r s₂ => r = .none ∧ EP X pins σ Q (.ref q) s₂) X.xe) s3 := fun t' s3 I7 => by
    have kk : ∀ b o, b ≠ it → b ≠ q → H2 b = some o → upd H2 it (ItS l it 0) b = some o := fun b o h1 _ e => by rw [upd_ne h1]; exact e
    refine it_loop (A := X.A.in1) (H := H2) (zs := zs) (hr.hd) hz n1 n2 n3 (fun H3 s4 I8 hk3 hq3 => ⟨rfl, .ref q, H3, I8, rfl, hend H3 hk3 hq3⟩) zs.length 0 _ s3 rfl (Nat.zero_le _) I7 kk ?_ upd_same ?_
    · have e1 : upd H2 it (ItS l it 0) l = H2 l := upd_ne n2
      unfold SqL Rd at hlz ⊢
      simp only [e1]
      exact hlz
    · rw [upd_ne (Ne.symm n3)]; exact hq1
  refine wpAny_ite_split (fun _ => ?_) (fun _ => wpAny_pure ⟨plainId_quiet PySem.F.plain_extend_loop _, fin 0 _ I6⟩)
  have hq6 : upd H2 it (ItS l it 0) q = some (.lst []) := by rw [upd_ne (Ne.symm n3)]; exact hq1
  obtain ⟨z, its, k3, r3, hl3, e3⟩ := I6.lstM hq6
  cases r3
  refine wpAny_bind (wpAny_rule ?_)
  refine wpAny_bind ?_
  show wpAny _ _ (updateSeq q (·.push .none) >>= fun _ => updateSeq q (·.pop)) _ _ _
  refine wpAny_bind (wpAny_updateSeq e3 rfl ?_)
  have I7 := I6.lset (f := (·.push Value.none)) (its' := [Value.none]) (ys := [.non]) (t' := s2.toks + 1) hq6 e3 (by simp) (.cons rfl .nil) (by rw [List.length_singleton, sizeLine_eq]; decide)
  obtain ⟨z4, its4, k4, r4, hl4, e4⟩ := I7.lstM upd_same
  obtain ⟨u4, rfl, ru4⟩ := r4.one
  refine wpAny_updateSeq e4 rfl ?_ (by show 1 ≤ sizeLine; rw [sizeLine_eq]; decide) (by show 0 ≤ sizeLine + 1; exact Nat.zero_le _)
  refine wpAny_pure ⟨plainId_quiet PySem.F.plain_extend_loop _, fin 0 _ ?_⟩
  have I8 := I7.lset (f := (·.pop)) (its := [u4]) (its' := []) (ys := []) (t' := s2.toks + 1) upd_same e4 (by rfl) .nil (Nat.zero_le _)
  rw [upd_upd] at I8
  have hH : upd (upd H2 it (ItS l it 0)) q (.lst []) = upd H2 it (ItS l it 0) := by
    funext b
    by_cases hb : b = q
    · rw [hb, upd_same, hq6]
    · rw [upd_ne hb]
  rw [hH] at I8
  exact I8
end
end RM
namespace RM
open PySem PySem.Spec PyProof.Rows L2
/-! ### attributes, properties, class values: readings that ask nothing of the written part -/
section
variable {X : Cx} {C : Addr} {o e value : Expr} {f : Str} {pos pos' : Pos} {ta tv : TE}
theorem pe_imp {t t' : TE} (h : PE X e t) (k : ∀ σ H Q, t' σ H Q → t σ H Q) : PE X e t' := ⟨fun pins s σ H Q I q => h.run pins s σ H Q I (k σ H Q q)⟩
def tFldC (C : Addr) (ta : TE) (f : Str) : TE := fun σ H Q => ta σ H fun x H1 => ∃ a dx fs v, x = .ref a ∧ H1 a = some (.ins C dx fs) ∧ fs.lookup f = some v ∧ Q v H1
def sFldC (C : Addr) (ta tv : TE) (f : Str) : TS := fun D σ H => tv σ H fun y H1 => ta σ H1 fun x H2 => ∃ a dx fs, x = .ref a ∧ H2 a = some (.ins C dx fs) ∧ fs.length < 1000 ∧ D.nx σ (upd H2 a (.ins C dx (putF f y fs)))
theorem pe_fldC (c : Cls X.K C) (n : NoAttr X.K C f) (he : PE X e ta) (hb : attributeBase e f X.env (eval e X.env) = eval e X.env := by rfl) : PE X (.Attribute e f pos) (tFldC C ta f) := by
  refine ⟨fun pins s σ H Q I h => ?_⟩
  refine attr_of hb (thn (he.run pins s σ H _ I h) fun u s1 hu => ?_)
  obtain ⟨x, H1, I1, rx, a, dx, fs, v, ex, ea, l, q⟩ := hu
  subst ex
  obtain rfl : u = Value.ref a := rx
  exact getattr_ok I1 ea c n l fun u' s2 I2 ru => ⟨v, H1, I2, ru, q⟩
theorem ps_fldC (c : Cls X.K C) (n : NoAttr X.K C f) (ha : PE X o ta) (hv : PE X value tv) (hs : swapsWith value (some (.Attribute o f pos')) pos.line X.env = pure false := by rfl) : PS X (.Assign [.Attribute o f pos'] value pos) (sFldC C ta tv f) := by
  refine ⟨fun pins s σ H D I h => ?_⟩
  refine plainObj_wpAny_Assign_Attribute (thn (hv.run pins s σ H _ I h) fun u s1 hu => ?_) hs
  obtain ⟨y, H1, I1, ry, q⟩ := hu
  refine thn (ha.run pins s1 σ H1 _ I1 q) fun ov s2 ho => ?_
  obtain ⟨x, H2, I2, rx, a, dx, fs, ex, ea, l, q2⟩ := ho
  subst ex
  obtain rfl : ov = Value.ref a := rx
  exact setattr_ok I2 ea c n l ry fun s3 I3 => ⟨σ, _, I3, q2⟩
/-- a class's name as a value; an int that stands in the class -/
theorem pe_clsv {x : Str} (hg : Gl X x) (hm : X.mg x = some (.ref C)) (hd : (x == ("__debug__" : Str)) = false := by decide) : PE X (.Name x pos) (tC (.ref C)) := pe_glob hg hm rfl hd
theorem pe_cint {x : Str} {i : Int} {p : Pos} (hg : Gl X x) (hm : X.mg x = some (.ref C)) (r : ClX.CRead X.K C (.type "type")) (k : ∃ u, ClX.CVal X.K C (.type "type") f (.int i) u) (hd : (x == ("__debug__" : Str)) = false := by decide)
    (hb : attributeBase (.Name x p) f X.env (eval (.Name x p) X.env) = eval (.Name x p) X.env := by rfl) : PE X (.Attribute (.Name x p) f pos) (tC (.int i)) :=
  pe_imp (ClX.pe_cval (pe_clsv hg hm hd) hb) fun σ H Q q => by
    obtain ⟨u, k⟩ := k
    exact ⟨C, .type "type", .int i, u, rfl, r, k, q⟩
/-- a property of the class, read -/
structure Prp (P : Program) (w : World) (K : PySem.W.Frag) (mg : Str → Option Value) (base : Heap) (k : Nat) (C : Addr) (f : Str) (sp : Sp) : Prop where
  ex : ∃ (p g : Addr) (fd : FuncData) (ps : List Str), PropOf K C f p g ∧ FnOk P w K mg base CX0 k g fd ps sp ∧ Binds K fd ps []
theorem pe_prp {k j : Nat} {sp : Sp} (c : Cls X.K C) (p : Prp X.prog X.w X.K X.mg X.base k C f sp) (hr : Room j X.A) (hk : k + 1 ≤ j) (he : PE X e ta) (hab : attributeBase e f X.env (eval e X.env) = eval e X.env := by rfl) :
    PE X (.Attribute e f pos) (tProp C sp [] E0 ta) := by
  obtain ⟨pa, g, fd, ps, hp, F, hb⟩ := p.ex
  exact pe_prop he c hp F (hr.mono hk) hb .nil (fun _ _ _ _ _ _ _ h => h.elim) hab
end
/-! ### isinstance against built-in types and one own class -/
section
variable {X : Cx} {K : PySem.W.Frag} {H : Hp} {Q : VK}
def rIsC (C : Addr) : List V → Hp → VK → Prop := fun xs H Q => ∃ a dx fs, xs = [.ref a, .ref C] ∧ H a = some (.ins C dx fs) ∧ Q (.bl true) H
theorem callIsC {C : Addr} (c : C8.InsC X.K C) : CallR X (.builtin "isinstance") (rIsC C) := C8.call_isC c
theorem isi_of {x : V} {a b : String} {r : Bool} (ty : TyOf K H x (.type a)) (h : kitB a b = some r) (q : Q (.bl r) H) : rIsi K [x, .ty b] H Q := wp_isi (.base ty) (kit_ty h) q
theorem is_non_int (q : Q (.bl false) H) : rIsi K [.non, .ty "int"] H Q := isi_of (.non) (by decide +kernel) q
theorem is_non_bool (q : Q (.bl false) H) : rIsi K [.non, .ty "bool"] H Q := isi_of (.non) (by decide +kernel) q
theorem is_non_str (q : Q (.bl false) H) : rIsi K [.non, .ty "str"] H Q := isi_of (.non) (by decide +kernel) q
theorem is_non_dict (q : Q (.bl false) H) : rIsi K [.non, .ty "dict"] H Q := isi_of (.non) (by decide +kernel) q
theorem is_non_list (q : Q (.bl false) H) : rIsi K [.non, .ty "list"] H Q := isi_of (.non) (by decide +kernel) q
theorem is_non_tuple (q : Q (.bl false) H) : rIsi K [.non, .ty "tuple"] H Q := isi_of (.non) (by decide +kernel) q
theorem is_bl_int {b : Bool} (q : Q (.bl true) H) : rIsi K [.bl b, .ty "int"] H Q := isi_of (.bl b) (by decide +kernel) q
theorem is_bl_bool {b : Bool} (q : Q (.bl true) H) : rIsi K [.bl b, .ty "bool"] H Q := isi_of (.bl b) (by decide +kernel) q
theorem is_bl_str {b : Bool} (q : Q (.bl false) H) : rIsi K [.bl b, .ty "str"] H Q := isi_of (.bl b) (by decide +kernel) q
theorem is_bl_dict {b : Bool} (q : Q (.bl false) H) : rIsi K [.bl b, .ty "dict"] H Q := isi_of (.bl b) (by decide +kernel) q
theorem is_bl_list {b : Bool} (q : Q (.bl false) H) : rIsi K [.bl b, .ty "list"] H Q := isi_of (.bl b) (by decide +kernel) q
theorem is_bl_tuple {b : Bool} (q : Q (.bl false) H) : rIsi K [.bl b, .ty "tuple"] H Q := isi_of (.bl b) (by decide +kernel) q
theorem is_int_int {i : Int} (q : Q (.bl true) H) : rIsi K [.int i, .ty "int"] H Q := isi_of (.int i) (by decide +kernel) q
theorem is_int_bool {i : Int} (q : Q (.bl false) H) : rIsi K [.int i, .ty "bool"] H Q := isi_of (.int i) (by decide +kernel) q
theorem is_int_str {i : Int} (q : Q (.bl false) H) : rIsi K [.int i, .ty "str"] H Q := isi_of (.int i) (by decide +kernel) q
theorem is_int_dict {i : Int} (q : Q (.bl false) H) : rIsi K [.int i, .ty "dict"] H Q := isi_of (.int i) (by decide +kernel) q
theorem is_int_list {i : Int} (q : Q (.bl false) H) : rIsi K [.int i, .ty "list"] H Q := isi_of (.int i) (by decide +kernel) q
theorem is_int_tuple {i : Int} (q : Q (.bl false) H) : rIsi K [.int i, .ty "tuple"] H Q := isi_of (.int i) (by decide +kernel) q
theorem is_str_int {z : Str} (q : Q (.bl false) H) : rIsi K [.str z, .ty "int"] H Q := isi_of (.str z) (by decide +kernel) q
theorem is_str_bool {z : Str} (q : Q (.bl false) H) : rIsi K [.str z, .ty "bool"] H Q := isi_of (.str z) (by decide +kernel) q
theorem is_str_str {z : Str} (q : Q (.bl true) H) : rIsi K [.str z, .ty "str"] H Q := isi_of (.str z) (by decide +kernel) q
theorem is_str_dict {z : Str} (q : Q (.bl false) H) : rIsi K [.str z, .ty "dict"] H Q := isi_of (.str z) (by decide +kernel) q
theorem is_str_list {z : Str} (q : Q (.bl false) H) : rIsi K [.str z, .ty "list"] H Q := isi_of (.str z) (by decide +kernel) q
theorem is_str_tuple {z : Str} (q : Q (.bl false) H) : rIsi K [.str z, .ty "tuple"] H Q := isi_of (.str z) (by decide +kernel) q
theorem is_lst_int {a : Addr} {xs : List V} (e : H a = some (.lst xs)) (q : Q (.bl false) H) : rIsi K [.ref a, .ty "int"] H Q := isi_of (.lst e) (by decide +kernel) q
theorem is_lst_bool {a : Addr} {xs : List V} (e : H a = some (.lst xs)) (q : Q (.bl false) H) : rIsi K [.ref a, .ty "bool"] H Q := isi_of (.lst e) (by decide +kernel) q
theorem is_lst_str {a : Addr} {xs : List V} (e : H a = some (.lst xs)) (q : Q (.bl false) H) : rIsi K [.ref a, .ty "str"] H Q := isi_of (.lst e) (by decide +kernel) q
theorem is_lst_dict {a : Addr} {xs : List V} (e : H a = some (.lst xs)) (q : Q (.bl false) H) : rIsi K [.ref a, .ty "dict"] H Q := isi_of (.lst e) (by decide +kernel) q
theorem is_lst_list {a : Addr} {xs : List V} (e : H a = some (.lst xs)) (q : Q (.bl true) H) : rIsi K [.ref a, .ty "list"] H Q := isi_of (.lst e) (by decide +kernel) q
theorem is_lst_tuple {a : Addr} {xs : List V} (e : H a = some (.lst xs)) (q : Q (.bl false) H) : rIsi K [.ref a, .ty "tuple"] H Q := isi_of (.lst e) (by decide +kernel) q
theorem is_tup_int {a : Addr} {xs : List V} (e : H a = some (.tup xs)) (q : Q (.bl false) H) : rIsi K [.ref a, .ty "int"] H Q := isi_of (.tup e) (by decide +kernel) q
theorem is_tup_bool {a : Addr} {xs : List V} (e : H a = some (.tup xs)) (q : Q (.bl false) H) : rIsi K [.ref a, .ty "bool"] H Q := isi_of (.tup e) (by decide +kernel) q
theorem is_tup_str {a : Addr} {xs : List V} (e : H a = some (.tup xs)) (q : Q (.bl false) H) : rIsi K [.ref a, .ty "str"] H Q := isi_of (.tup e) (by decide +kernel) q
theorem is_tup_dict {a : Addr} {xs : List V} (e : H a = some (.tup xs)) (q : Q (.bl false) H) : rIsi K [.ref a, .ty "dict"] H Q := isi_of (.tup e) (by decide +kernel) q
theorem is_tup_list {a : Addr} {xs : List V} (e : H a = some (.tup xs)) (q : Q (.bl false) H) : rIsi K [.ref a, .ty "list"] H Q := isi_of (.tup e) (by decide +kernel) q
theorem is_tup_tuple {a : Addr} {xs : List V} (e : H a = some (.tup xs)) (q : Q (.bl true) H) : rIsi K [.ref a, .ty "tuple"] H Q := isi_of (.tup e) (by decide +kernel) q
theorem is_dK_int {a : Addr} {kvs : List (Key × V)} (e : H a = some (.dK kvs)) (q : Q (.bl false) H) : rIsi K [.ref a, .ty "int"] H Q := isi_of (.dK e) (by decide +kernel) q
theorem is_dK_bool {a : Addr} {kvs : List (Key × V)} (e : H a = some (.dK kvs)) (q : Q (.bl false) H) : rIsi K [.ref a, .ty "bool"] H Q := isi_of (.dK e) (by decide +kernel) q
theorem is_dK_str {a : Addr} {kvs : List (Key × V)} (e : H a = some (.dK kvs)) (q : Q (.bl false) H) : rIsi K [.ref a, .ty "str"] H Q := isi_of (.dK e) (by decide +kernel) q
theorem is_dK_dict {a : Addr} {kvs : List (Key × V)} (e : H a = some (.dK kvs)) (q : Q (.bl true) H) : rIsi K [.ref a, .ty "dict"] H Q := isi_of (.dK e) (by decide +kernel) q
theorem is_dK_list {a : Addr} {kvs : List (Key × V)} (e : H a = some (.dK kvs)) (q : Q (.bl false) H) : rIsi K [.ref a, .ty "list"] H Q := isi_of (.dK e) (by decide +kernel) q
theorem is_dK_tuple {a : Addr} {kvs : List (Key × V)} (e : H a = some (.dK kvs)) (q : Q (.bl false) H) : rIsi K [.ref a, .ty "tuple"] H Q := isi_of (.dK e) (by decide +kernel) q
end
/-! ### what the head tells, by Bools -/
section
open PySem.W
def gAd (K : Frag) (C : Addr) (f : Str) : Addr := match recIn K (He.ma K C f) "property" with
  | some (.ref g :: _) => g
  | _ => 0
def bProp (x f : Str) (K : Frag) : Bool :=
  He.eqO (findIn K (.ref (He.ga K x)) f) (some (some (.ref (He.ma K (He.ga K x) f)))) && (He.eqO (specialIn K (.ref (He.ma K (He.ga K x) f)) "__get__") (some (some (.builtin "property.__get__"))) &&
    (decide (takesIn K (.ref (He.ma K (He.ga K x) f)) = some true) && (match recIn K (He.ma K (He.ga K x) f) "property" with
      | some (.ref _ :: _) => true
      | _ => false)))
theorem bProp_ok {x f : Str} {K : Frag} (h : bProp x f K = true) : PropOf K (He.ga K x) f (He.ma K (He.ga K x) f) (gAd K (He.ga K x) f) := by
  obtain ⟨h1, h⟩ := He.ba h
  obtain ⟨h2, h⟩ := He.ba h
  obtain ⟨h3, h4⟩ := He.ba h
  refine ⟨He.eqO_ok h1, He.eqO_ok h2, of_decide_eq_true h3, ?_⟩
  unfold gAd
  cases e : recIn K (He.ma K (He.ga K x) f) "property" with
  | none => rw [e] at h4; cases h4
  | some l =>
    rw [e] at h4
    cases l with
    | nil => cases h4
    | cons v r =>
      cases v with
      | ref g => exact ⟨r, rfl⟩
      | _ => cases h4
def bRead (x : Str) (K : Frag) : Bool := readsIn K (He.ga K x) (.type "type") && He.eqO (specialIn K (.ref (He.ga K x)) "__getattribute__") (some (some (.builtin "type.__getattribute__")))
theorem bRead_ok {x : Str} {K : Frag} (h : bRead x K = true) : ClX.CRead K (He.ga K x) (.type "type") := by
  obtain ⟨h1, h2⟩ := He.ba h
  exact ⟨h1, He.eqO_ok h2⟩
def bCval (x f : Str) (i : Int) (K : Frag) : Bool := match findCls K (.ref (He.ga K x)) (.type "type") f with
  | some (.val (.int j _)) => decide (j = i)
  | _ => false
theorem bCval_ok {x f : Str} {i : Int} {K : Frag} (h : bCval x f i K = true) : ∃ u, ClX.CVal K (He.ga K x) (.type "type") f (.int i) u := by
  unfold bCval at h
  cases e : findCls K (.ref (He.ga K x)) (.type "type") f with
  | none => rw [e] at h; cases h
  | some c =>
    rw [e] at h
    cases c with
    | val u =>
      cases u with
      | int j t =>
        have ej : j = i := of_decide_eq_true h
        subst ej
        exact ⟨_, e, ⟨t, rfl⟩⟩
      | _ => cases h
    | _ => cases h
def bIns (x : Str) (K : Frag) : Bool := He.eqO (findIn K (.ref (He.ga K x)) "__class__") (some (some (.builtin "object.__class__"))) && (He.eqO (specialIn K (.builtin "object.__class__") "__get__") (some (some (.builtin "getset_descriptor.__get__"))) &&
  (decide (takesIn K (.builtin "object.__class__") = some true) && decide (mroIn K (He.ga K x) (.type "object") = some true)))
theorem bIns_ok {x : Str} {K : Frag} (c : Cls K (He.ga K x)) (h : bIns x K = true) : C8.InsC K (He.ga K x) := by
  obtain ⟨h1, h⟩ := He.ba h
  obtain ⟨h2, h⟩ := He.ba h
  obtain ⟨h3, h4⟩ := He.ba h
  exact ⟨c, He.eqO_ok h1, He.eqO_ok h2, of_decide_eq_true h3, of_decide_eq_true h4, by unfold kitOne; rw [if_pos (by simp)]⟩
/-- a def of the text, by a way to its address -/
structure DX where
  at_ : Frag → Addr
  name : Str
  qual : Str
  params : Arguments
  body : List Stmt
  scope : Scope
  dfl : List He.Dv := []
  kwd : List (Str × He.Dv) := []
def fnX (K : Frag) (a : Addr) : He.FnW := match K.lookup a with
  | some ⟨_, _, .func fd, _⟩ => some (fd.name, fd.qualname, fd.params, fd.body, fd.scope, fd.globals, fd.closure, fd.builtins)
  | _ => none
def DX.val (d : DX) : He.FnW := some (d.name, d.qual, d.params, .stmts d.body, d.scope, mainGlobals, [], builtinsNs)
def DX.ok (K : Frag) (d : DX) : Bool := keepIn K (.ref (d.at_ K)) && (match K.lookup (d.at_ K) with
  | some ⟨_, _, .func fd, _⟩ => codeIn K fd.code d.qual && (He.dflB K fd.defaults (d.dfl.map (He.Dv.v K)) && He.kwdB K fd.kwdefaults (d.kwd.map fun q => (q.1, q.2.v K)))
  | _ => false)
theorem DX.funD {K : Frag} {d : DX} (e : fnX K (d.at_ K) = d.val) (c : d.ok K = true) : ∃ fd, FunD K d.name d.qual d.params d.body d.scope (d.dfl.map (He.Dv.v K)) (d.kwd.map fun q => (q.1, q.2.v K)) (d.at_ K) fd := by
  obtain ⟨kp, c2⟩ := He.ba c
  unfold fnX at e
  split at e
  · rename_i oc od fd osl q
    rw [q] at c2
    obtain ⟨k1, k2⟩ := He.ba c2
    obtain ⟨k3, k4⟩ := He.ba k2
    obtain ⟨n1, n2, n3, n4, n5, n6, n7, n8, n9, n10, n11, n12, n13, n14, n15⟩ := fd
    unfold DX.val at e
    simp only [Option.some.injEq, Prod.mk.injEq] at e
    obtain ⟨h1, h2, h3, h4, h5, h6, h7, h8⟩ := e
    subst h1 h2 h3 h4 h5 h6 h7 h8
    exact ⟨_, ⟨oc, od, n8, n9, n10, n11, n12, n13, n14, osl, rfl, q, k1, He.dflB_ok k3, He.kwdB_ok k4⟩, kp⟩
  · cases e
abbrev AlX : Type := Bool × List He.FnW
def obsX (bs : List (Frag → Bool)) (fa : List He.Fa) (fn : List DX) (K : Frag) : AlX := ((bs.all fun b => b K) && ((fa.all fun f => f.ok K) && fn.all fun d => d.ok K), fn.map fun d => fnX K (d.at_ K))
def valX (fn : List DX) : AlX := (true, fn.map DX.val)
def SaysX (bs : List (Frag → Bool)) (fa : List He.Fa) (fn : List DX) (K : Frag) : Prop := obsX bs fa fn K = valX fn
def obsXG (n : Nat) (bs : List (Frag → Bool)) (fa : List He.Fa) (fn : List DX) (g : Addr → Option Obj) : AlX := obsX bs fa fn (He.frG g (cStatics :: He.asD g n))
def hookX (n : Nat) (bs : List (Frag → Bool)) (fa : List He.Fa) (fn : List DX) : Hook where
  α := AlX
  obs := fun s => obsXG n bs fa fn s.heap.get?
  val := fun _ => valX fn
  says := fun _ h => ∃ K : Frag, K.In h ∧ SaysX bs fa fn K
  of := fun _ _ e => ⟨_, He.frG_in, e⟩
  keeps := fun _ _ _ ⟨K, hK, c⟩ k => ⟨K, Frag.In.keeps hK k, c⟩
theorem obsXG_eq {n : Nat} {bs : List (Frag → Bool)} {fa : List He.Fa} {fn : List DX} {g : Addr → Option Obj} {s : Shared} (h : ∀ a, g a = s.heap.get? a) : obsXG n bs fa fn g = (hookX n bs fa fn).obs s := by
  have e : g = s.heap.get? := funext h
  rw [e] <;> rfl
variable {bs : List (Frag → Bool)} {fa : List He.Fa} {fn : List DX} {K : Frag}
theorem SaysX.b (c : SaysX bs fa fn K) (i : Nat) {f : Frag → Bool} (h : bs[i]? = some f := by rfl) : f K = true :=
  List.all_eq_true.mp (He.ba (show ((bs.all fun b => b K) && ((fa.all fun f => f.ok K) && fn.all fun d => d.ok K)) = true from congrArg (fun z : AlX => z.1) c)).1 f (List.mem_of_getElem? h)
theorem SaysX.fact (c : SaysX bs fa fn K) (i : Nat) {f : He.Fa} (h : fa[i]? = some f := by rfl) : f.ok K = true :=
  List.all_eq_true.mp (He.ba (He.ba (show ((bs.all fun b => b K) && ((fa.all fun f => f.ok K) && fn.all fun d => d.ok K)) = true from congrArg (fun z : AlX => z.1) c)).2).1 f (List.mem_of_getElem? h)
theorem SaysX.def_ (c : SaysX bs fa fn K) (i : Nat) {d : DX} (h : fn[i]? = some d := by rfl) : ∃ fd, FunD K d.name d.qual d.params d.body d.scope (d.dfl.map (He.Dv.v K)) (d.kwd.map fun q => (q.1, q.2.v K)) (d.at_ K) fd := by
  have c2 := (He.ba (He.ba (show ((bs.all fun b => b K) && ((fa.all fun f => f.ok K) && fn.all fun d => d.ok K)) = true from congrArg (fun z : AlX => z.1) c)).2).2
  have e : fn.map (fun d => fnX K (d.at_ K)) = fn.map DX.val := congrArg (fun z : AlX => z.2) c
  have e2 : (fn.map fun d => fnX K (d.at_ K))[i]? = (fn.map DX.val)[i]? := by rw [e]
  rw [List.getElem?_map, List.getElem?_map, h] at e2
  exact DX.funD (Option.some.inj e2) (List.all_eq_true.mp c2 d (List.mem_of_getElem? h))
end
end RM
namespace RM
open PySem PySem.Spec PyProof.Rows L2
/-! ### defs that raise -/
section
variable {P : Program} {w : World} {K : PySem.W.Frag} {mg : Str → Option Value} {base : Heap} {N : List Str} {qual : Str} {scope : Scope} {f : Addr} {cd : Value} {A : Around} {outer : List Env} {s : Shared} {H : Hp} {E : XK}
/-- the wish about exceptions inside a def -/
theorem tkOf : Takes (cxOf (L2.CX P w) P w K mg base N qual scope f cd A outer s H E) (fun cls d _ H => E cls d H) := takes_of rfl rfl rfl rfl
theorem pxOf : Passes (L2.CX P w) (cxOf (L2.CX P w) P w K mg base N qual scope f cd A outer s H E) E := passes_call tkOf fun _ _ _ _ h => h
theorem poOf : PassesOwn (model P w) (A.deeper (envOfC qual scope s.heap.objs.size f cd)) (envOfC qual scope s.heap.objs.size f cd) (cxOf (L2.CX P w) P w K mg base N qual scope f cd A outer s H E).xe := passes_of rfl
end
/-! ### an exception with fields -/
/-- it was raised: class C, these fields, all else as it was -/
def Rzd (C : Addr) (fs : List (Str × V)) (E : XK) (H : Hp) : Prop := ∀ (d : Addr) (H' : Hp), Same H H' → H d = none → H' d = some (.xd fs) → E (.ref C) (some d) H'
theorem Rzd.mono {C : Addr} {fs : List (Str × V)} {E : XK} {H H2 : Hp} (h : Rzd C fs E H) (s : Same H H2) : Rzd C fs E H2 := fun d H' s2 hd hx => h d H' (s.trans s2) (s.free hd) hx
/-- what an exception class must say -/
structure ExK (K : PySem.W.Frag) (C fI : Addr) : Prop where
  o : OexC K C
  i : PySem.W.findIn K (.ref C) "__init__" = some (some (.ref fI))
  t : PySem.W.typeIn K (.ref fI) = some (.type "function")
/-- an exception class that may be made: sp is its __init__ -/
structure XMk (P : Program) (w : World) (K : PySem.W.Frag) (mg : Str → Option Value) (base : Heap) (k : Nat) (x : Str) (C : Addr) (sp : Sp) : Prop where
  ex : ∃ (fI : Addr) (fd : FuncData) (ps : List Str), ExK K C fI ∧ FnOk P w K mg base CX0 k fI fd ps sp ∧ Binds K fd ps [] ∧ mg x = some (.ref C)
/-- the promise of an __init__ that stores its arguments -/
def spX (C : Addr) (fs : List Str) : Sp := fun vs H Q _ => ∃ (a : Addr) (ws : List V), vs = .ref a :: ws ∧ ws.length = fs.length ∧ H a = some (exo a C none) ∧
  ∀ (dx : Addr) (H' : Hp), H dx = none → dx ≠ a → (∀ b o, b ≠ a → b ≠ dx → H b = some o → H' b = some o) → H' a = some (exo a C (some dx)) → H' dx = some (exd dx (fs.zip ws).reverse) → Q .non H'
theorem len_spX {C : Addr} {fs : List Str} {vs : List V} {H : Hp} {Q : VK} {E : XK} (h : spX C fs vs H Q E) : vs.length = fs.length + 1 := by
  obtain ⟨a, ws, rfl, hl, _⟩ := h
  rw [List.length_cons, hl]
section
variable {K : PySem.W.Frag} {C : Addr} {f g p0 p1 p2 : Str} {vs : List V} {H : Hp} {Q : VK} {E : XK}
theorem ini1 (o : OexC K C) (n : PySem.W.findIn K (.ref C) f = some none) (h : spX C [f] vs H Q E) : tOst K f (tVar 0) (tVar 1) { nx := fun _ H' => Q .non H', rt := Q } (L2.start [p0, p1] vs) H := by
  obtain ⟨a, ws, rfl, hl, ha, k⟩ := h
  match ws, hl with
  | [v], _ =>
    refine ⟨v, rfl, .ref a, rfl, a, C, rfl, o, n, .inl ⟨ha, fun dx hdx nd => k dx _ hdx nd (fun b u h1 h2 hb => ?_) upd_same (by rw [upd_ne nd]; exact upd_same)⟩⟩
    rw [upd_ne h1, upd_ne h2]; exact hb
theorem ini2 (o : OexC K C) (n : PySem.W.findIn K (.ref C) f = some none) (n2 : PySem.W.findIn K (.ref C) g = some none) (h : spX C [f, g] vs H Q E) :
    tSeq (tOst K f (tVar 0) (tVar 1)) (tOst K g (tVar 0) (tVar 2)) { nx := fun _ H' => Q .non H', rt := Q } (L2.start [p0, p1, p2] vs) H := by
  obtain ⟨a, ws, rfl, hl, ha, k⟩ := h
  match ws, hl with
  | [v, z], _ =>
    refine ⟨v, rfl, .ref a, rfl, a, C, rfl, o, n, .inl ⟨ha, fun dx hdx nd => ?_⟩⟩
    refine ⟨z, rfl, .ref a, rfl, a, C, rfl, o, n2, .inr ⟨dx, _, upd_same, by rw [upd_ne nd]; exact upd_same, by simp, ?_⟩⟩
    refine k dx _ hdx nd (fun b u h1 h2 hb => ?_) (by rw [upd_ne nd.symm]; exact upd_same) upd_same
    rw [upd_ne h2, upd_ne h1, upd_ne h2]; exact hb
end
/-- raise C(..): the made exception flies -/
def RsW (C : Addr) (fs : List Str) (E : XK) (vs : List V) (H1 : Hp) : Prop := vs.length ≤ 1000 ∧ ∀ a, H1 a = none → spX C fs (.ref a :: (vs ++ [])) (upd H1 a (exo a C none))
  (fun v H2 => v = .non ∧ ∃ (d : Addr) (gs : List (Str × V)), H2 a = some (exo a C (some d)) ∧ H2 d = some (exd d gs) ∧ H1 d = none ∧ E (.ref C) (some d) (upd (L2.del H2 a) d (.xd gs))) (fun _ _ _ => False)
def tRs (C : Addr) (fs : List Str) (E : XK) (ta : TA) : TS := fun _ σ H => ta σ H fun vs H1 => RsW C fs E vs H1
theorem rs_of {C : Addr} {fs : List Str} {E : XK} {vs : List V} {H1 : Hp} (hl : vs.length = fs.length) (hf : fs.length ≤ 1000) (h : Rzd C (fs.zip vs).reverse E H1) : RsW C fs E vs H1 := by
  refine ⟨by omega, fun a ha => ⟨a, vs, by rw [List.append_nil], hl, upd_same, fun dx H' hdx nd hk h1 h2 => ⟨rfl, dx, _, h1, h2, ?_, ?_⟩⟩⟩
  · rw [upd_ne nd] at hdx; exact hdx
  · rw [upd_ne nd] at hdx
    refine h dx _ (fun b o hb => ?_) hdx upd_same
    have nb : b ≠ a := ne_of_none hb ha
    have nd2 : b ≠ dx := ne_of_none hb hdx
    rw [upd_ne nd2, L2.del_ne nb]
    exact hk b o nb nd2 (by rw [upd_ne nb]; exact hb)
section
variable {X : Cx} {k j : Nat} {x : Str} {C : Addr} {fs : List Str} {e : Expr} {es : List Expr} {p pos pos' : Pos} {ta : TA} {t : TA} {E : XK} {W : WX} {sp : Sp} {dvs : List V}
theorem ps_rs (c : XMk X.prog X.w X.K X.mg X.base k x C (spX C fs)) (hr : Room j X.A) (hk : k + 1 ≤ j) (calm : X.calm = true) (tk : Takes X (fun cls d _ H => E cls d H)) (hg : Gl X x) (ha : PA X (e :: es) ta)
    (hdb : (x == ("__debug__" : Str)) = false := by decide) (he : starEach (e :: es) X.env = (false, eval e X.env) :: starEach es X.env := by rfl) (hpl : (backTo pos (starEach es X.env)).any (·.1) = false := by rfl) :
    PS X (.Raise (some (.Call (.Name x p) (e :: es) [] pos)) none pos') (tRs C fs E ta) := by
  obtain ⟨fI, fd, ps, q, F, hb, hm⟩ := c.ex
  have mk := pmk_oex (p := p) (pos := pos) (dvs := []) (ds := []) q.o q.i q.t F (hr.mono hk) hb .nil C8.pass0 hg hm ha hdb he hpl
  exact ps_raise (pos := pos') calm tk mk
/-! ### calls of what may raise -/
structure CalX (P : Program) (w : World) (K : PySem.W.Frag) (mg : Str → Option Value) (base : Heap) (k : Nat) (x : Str) (sp : Sp) (dvs : List V) : Prop where
  ex : ∃ (f : Addr) (fd : FuncData) (ps : List Str) (ds : List Value), FnOk P w K mg base (L2.CX P w) k f fd ps sp ∧ mg x = some (.ref f) ∧ PySem.W.keepIn K (.ref f) = true ∧ Binds K fd ps ds ∧ Vals dvs ds
structure MakX (P : Program) (w : World) (K : PySem.W.Frag) (mg : Str → Option Value) (base : Heap) (k : Nat) (x : Str) (C : Addr) (sp : Sp) (dvs : List V) : Prop where
  ex : ∃ (f : Addr) (fd : FuncData) (ps : List Str) (ds : List Value), Mk K C f ∧ FnOk P w K mg base (L2.CX P w) k f fd ps sp ∧ mg x = some (.ref C) ∧ Binds K fd ps ds ∧ Vals dvs ds
theorem pe_cX (c : CalX X.prog X.w X.K X.mg X.base k x sp dvs) (hr : Room j X.A) (hk : k ≤ j) (hg : Gl X x) (hx : Passes (L2.CX X.prog X.w) X E) (ha : PA X (e :: es) t)
    (hdb : (x == ("__debug__" : Str)) = false := by decide) (he : starEach (e :: es) X.env = (false, eval e X.env) :: starEach es X.env := by rfl) (hpl : (backTo pos (starEach es X.env)).any (·.1) = false := by rfl) :
    PE X (.Call (.Name x p) (e :: es) [] pos) (tCall sp dvs E t) := by
  obtain ⟨f, fd, ps, ds, F, hm, kp, b, d⟩ := c.ex
  exact pe_call F (hr.mono hk) hg hm kp b d hx ha hdb he hpl
theorem pe_mkX (c : MakX X.prog X.w X.K X.mg X.base k x C sp dvs) (hr : Room j X.A) (hk : k + 1 ≤ j) (hg : Gl X x) (hx : Passes (L2.CX X.prog X.w) X E) (ha : PA X (e :: es) t)
    (hdb : (x == ("__debug__" : Str)) = false := by decide) (he : starEach (e :: es) X.env = (false, eval e X.env) :: starEach es X.env := by rfl) (hpl : (backTo pos (starEach es X.env)).any (·.1) = false := by rfl) :
    PE X (.Call (.Name x p) (e :: es) [] pos) (tMake C sp dvs E t) := by
  obtain ⟨f, fd, ps, ds, M, F, hm, b, d⟩ := c.ex
  exact pe_make M F (hr.mono hk) hg hm b d hx ha hdb he hpl
/-! ### the same inside a try: the wish may speak of the slots -/
theorem pe_cS (c : CalX X.prog X.w X.K X.mg X.base k x sp []) (hr : Room j X.A) (hk : k ≤ j) (hg : Gl X x) (tk : Takes X W) (ha : PA X (e :: es) t)
    (hdb : (x == ("__debug__" : Str)) = false := by decide) (he : starEach (e :: es) X.env = (false, eval e X.env) :: starEach es X.env := by rfl) (hpl : (backTo pos (starEach es X.env)).any (·.1) = false := by rfl) :
    PE X (.Call (.Name x p) (e :: es) [] pos) (tCallS sp (WE W) t) := by
  obtain ⟨f, fd, ps, ds, F, hm, kp, b, d⟩ := c.ex
  cases d
  exact pe_callS F (hr.mono hk) hg hm kp b (passAt tk) ha hdb he hpl
def tMakeS (C : Addr) (sp : Sp) (E : L2.St → XK) (t : TA) : TE := fun σ H Q => t σ H fun vs H1 => ∀ x dx, H1 x = none → H1 dx = none → dx ≠ x → sp (.ref x :: vs) (upd (upd H1 dx (.own x)) x (.ins C dx [])) (fun v H2 => v = .non ∧ Q (.ref x) H2) (E σ)
theorem run_mkS {pins : List (Addr × Obj)} {σ : L2.St} {H : Hp} {s : Shared} {Q : VK} {us : List Value} {vs : List V} {f : Addr} {fd : FuncData} {ps : List Str} (M : Mk X.K C f) (F : FnOk X.prog X.w X.K X.mg X.base (L2.CX X.prog X.w) k f fd ps sp) (hr : Room (k + 1) X.A) (hb : Binds X.K fd ps []) (tk : Takes X W)
    (I : Inv X pins σ H s) (r : Vals vs us) (h : ∀ x dx, H x = none → H dx = none → dx ≠ x → sp (.ref x :: vs) (upd (upd H dx (.own x)) x (.ins C dx [])) (fun v H2 => v = .non ∧ Q (.ref x) H2) (WE W σ)) :
    wpAny (model X.prog X.w) X.A (call (.ref C) us) (EP X pins σ Q) X.xe s := by
  have want := h (s.heap.objs.size + 1) s.heap.objs.size (I.hok.fresh (Nat.le_succ _)) (I.hok.fresh (Nat.le_refl _)) (Nat.ne_of_lt (Nat.lt_succ_self _))
  have J := Inv.made (C := C) I
  have rel : Vals (V.ref (s.heap.objs.size + 1) :: vs) (Value.ref (s.heap.objs.size + 1) :: us) := .cons rfl r
  have cnt : (Value.ref (s.heap.objs.size + 1) :: us ++ ([] : List Value)).length = ps.length := by
    rw [List.append_nil, ← rel.length]
    exact F.len _ _ _ _ want
  have bnd := hb _ (Value.ref (s.heap.objs.size + 1) :: us) J.kIn cnt
  rw [List.append_nil] at bnd
  refine wpAny_call (make_map (f := f) I.kIn M.makes M.init (beq_iff_eq.mp M.fn) (codeAny_mono (F.run _ X.stack _ _ ⟨_, []⟩ _ _ _ _ (hr.make C us []) (J.env0.make C us []) bnd rel want) fun r s' z => ?_))
  match r with
  | .error e => exact passAt tk σ pins _ _ e s' J z
  | .ok (.ret u) =>
    obtain ⟨v, H', I3, rv, ev, q3⟩ := J.after z
    subst ev
    exact ⟨rv, V.ref (s.heap.objs.size + 1), H', I3, rfl, q3⟩
  | .ok .next => exact z.elim
  | .ok .brk => exact z.elim
  | .ok .cont => exact z.elim
theorem pe_mkS (c : MakX X.prog X.w X.K X.mg X.base k x C sp []) (hr : Room j X.A) (hk : k + 1 ≤ j) (hg : Gl X x) (tk : Takes X W) (ha : PA X (e :: es) t)
    (hdb : (x == ("__debug__" : Str)) = false := by decide) (he : starEach (e :: es) X.env = (false, eval e X.env) :: starEach es X.env := by rfl) (hpl : (backTo pos (starEach es X.env)).any (·.1) = false := by rfl) :
    PE X (.Call (.Name x p) (e :: es) [] pos) (tMakeS C sp (WE W) t) := by
  obtain ⟨f, fd, ps, ds, M, F, hm, b, d⟩ := c.ex
  cases d
  refine ⟨fun pins s σ H Q I h => wpAny_Call_Name_kw (ld_glob I hg hm ?_ hdb)⟩
  refine PySem.W.callWith_K (h₀ := X.base) I.ok.mod.kin M.kp (thn (ha.run pos pins s σ H _ I h) fun us s1 ⟨vs, H1, I1, r, q⟩ => ⟨I1.kIn, ?_⟩) he hpl
  exact run_mkS M F (hr.mono hk) b tk I1 r q
end
/-! ### try: body, some clauses 'except x as n' with one name n -/
abbrev Sui := Addr → Value → Option Addr → TS
def wAsM (K : PySem.W.Frag) (i : Nat) (Wout : WX) (D : Ends) : List (Value × Sui) → WX
  | [] => Wout
  | (c, ts) :: r => fun cls d σ H => ∃ b, PySem.W.exmOne K cls c = some b ∧
      (b = true → ∀ a, H a = none → ts a cls d { nx := fun σ' H' => D.nx (σ'.set i none) H', rt := D.rt, bk := fun σ' H' => D.bk (σ'.set i none) H', ct := fun σ' H' => D.ct (σ'.set i none) H' } (σ.set i (some (.ref a))) H) ∧ (b = false → wAsM K i Wout D r cls d σ H)
def tTry (K : PySem.W.Frag) (i : Nat) (tb : WX → TS) (l : List (Value × Sui)) : TS := fun D σ H => tb (wAsM K i (fun _ _ _ _ => False) D l) D σ H
inductive HdA (X : Cx) (n : Str) : List ExceptHandler → List (Value × Sui) → Prop
  | nil : HdA X n [] []
  | cons {x : Str} {c : Value} {ts : Sui} {b0 : Stmt} {more : List Stmt} {np hp : Pos} {hds : List ExceptHandler} {l : List (Value × Sui)} (nm : Names X x c)
      (su : ∀ (a : Addr) (oe : Obj) (cls : Value) (d : Option Addr) (pn : List (Addr × Obj)), Zc cls d oe → (∃ vs, oe.data = .fields vs) → PSs (X.suite a ((a, oe) :: pn)) (b0 :: more) (ts a cls d)) (r : HdA X n hds l) :
      HdA X n (.ExceptHandler (some (.Name x np)) (some n) (b0 :: more) hp :: hds) ((c, ts) :: l)
section
variable {X : Cx} {body : List Stmt} {h0 : ExceptHandler} {hds : List ExceptHandler} {l : List (Value × Sui)} {pos : Pos} {tb : WX → TS} {n : Str} {i : Nat}
theorem ps_try_asm (stk : X.stack = X.env :: X.outer) (frm : X.env.frame = some X.env.locals) (nod : X.N.Nodup) (at_ : X.N[i]? = some n) (loc : X.env.kindOf n = some .local)
    (hb : ∀ (W : WX) (pn : List (Addr × Obj)) (xe : Value → Shared → Prop), Takes (X.tr pn xe) W → PassesOwn (model X.prog X.w) X.A X.env xe → PSs (X.tr pn xe) body (tb W))
    (hh : HdA X n (h0 :: hds) l) : PS X (.Try body (h0 :: hds) [] [] pos) (tTry X.K i tb l) := by
  refine ⟨fun pins s σ H D I h => ?_⟩
  have ok := I.ok
  have frs' : X.A.frames = some (X.env :: X.outer) := by rw [ok.frames, stk]
  refine wpAny_Try_except ?_
  have runs := (hb (wAsM X.K i (fun _ _ _ _ => False) D l) (X.pn ++ pins) (fun e s₁ => wpAny (model X.prog X.w) X.A (noteFrame e X.env) (fun _ s₂ => wpAny (model X.prog X.w) X.A (setFlight e none) (fun _ s₃ =>
    wpAny (model X.prog X.w) X.A (handleBy e X.env (h0 :: hds)) (SP X pins D) X.xe s₃) X.xe s₂) X.xe s₁) ?_ PassesOwn.looking).run [] s σ H D (I.toTry _) h
  · refine wpAny_mono runs (fun f s1 z => ?_) fun _ _ z => z
    match f with
    | .next => exact z.elim fun σ' z => z.elim fun H' z => wpAny_execs_nil ⟨σ', H', z.1.ofTry ok, z.2⟩
    | .brk => exact z.elim fun σ' z => z.elim fun H' z => ⟨σ', H', z.1.ofTry ok, z.2⟩
    | .cont => exact z.elim fun σ' z => z.elim fun H' z => ⟨σ', H', z.1.ofTry ok, z.2⟩
    | .ret u => exact z.elim fun v z => z.elim fun σ' z => z.elim fun H' z => ⟨v, σ', H', z.1.ofTry ok, z.2.1, z.2.2⟩
  · rintro u s' ⟨a, B, sI, pins', σ', H', cls, d, rfl, J0, nb, up, sky, na, os, ag, wish⟩
    have J : Inv X pins σ' H' sI := J0.ofTry ok
    rw [show (X.tr (X.pn ++ pins) _).stack = X.env :: X.outer from stk] at sky
    show wpAny (model X.prog X.w) X.A (noteFrame (.ref a) X.env) _ _ _
    refine Sky.land Zc.steady frs' frm sky fun h3 fl3 up3 => ?_
    have J3 : Inv X pins σ' H' { s' with heap := h3 } := J.landed nb fl3.1 (up.trans up3) os ag
    obtain ⟨oe3, vs3, he3, hz3, hd3⟩ := fl3.there
    have out : a ∉ frs (X.env :: X.outer) := fun hm => by
      obtain ⟨_, o', e', no⟩ := fl3.2.2.1.mem hm
      rw [he3] at e'
      cases e'
      exact no _ hd3
    have nL : a ≠ X.env.locals := fun z => out (List.mem_filterMap.mpr ⟨X.env, List.mem_cons_self, by rw [frm, z]⟩)
    have nF : a ∉ X.fs := fun hm => (List.mem_filterMap.mp hm).elim fun e z => out (List.mem_filterMap.mpr ⟨e, List.mem_cons_of_mem _ z.1, z.2⟩)
    have S3 := J3.suite he3 hd3 na nL nF
    have go : ∀ {hs' : List ExceptHandler} {l' : List (Value × Sui)}, HdA X n hs' l' → wAsM X.K i (fun _ _ _ _ => False) D l' cls d σ' H' →
        wpAny (model X.prog X.w) X.A (handleBy (.ref a) X.env hs') (SP X pins D) X.xe { s' with heap := h3 } := by
      intro hs' l' hk
      induction hk with
      | nil => exact fun z => z.elim
      | @cons x c ts b0 more np hp hds2 l2 nm su r ih =>
        rintro ⟨b, hb1, yes, no⟩
        refine wpAny_handleBy_cons (codeAny_handlers_test ?_) (by intro q; cases q)
        have lt : PySem.W.Looks (model X.prog X.w) h3 (typeOf (.ref a)) cls := fun A Q E s k q => wpAny_typeOf_ref (k _ _ he3) (by rw [hz3.1]; exact q)
        have lm := PySem.W.exm_one (M := model X.prog X.w) J3.kIn lt hb1
        have nam : ∀ {Q : Value → Shared → Prop} {E : Value → Shared → Prop}, Q c { s' with heap := h3 } → wpAny (model X.prog X.w) (X.A.mark (some (.ref a))) (eval (.Name x np) X.env) Q E { s' with heap := h3 } := fun {Q E} q => by
          rcases nm with ⟨n1, n2, n3 | ⟨n3, n4, n5⟩⟩
          · exact ld_glob (X := X.suite a ((a, oe3) :: (X.pn ++ pins))) S3 n1 n3 q n2
          · exact ld_blt (X := X.suite a ((a, oe3) :: (X.pn ++ pins))) S3 n1 n3 n4 q n5 n2
        refine nam (lm.here ?_)
        match b, yes, no with
        | false, _, no => exact ih (no rfl)
        | true, yes, _ =>
          refine codeAny_handlers_suite_as ?_
          refine HandSPX.lands_againZ fl3 fun h4 fl4 up4 => ?_
          have J4 : Inv X pins σ' H' { s' with heap := h4 } := J.landed nb fl4.1 ((up.trans up3).trans up4) os ag
          obtain ⟨oe4, vs4, he4, hz4, hd4⟩ := fl4.there
          refine store_ok (X := X.suite a ((a, oe4) :: (X.pn ++ pins))) (v := .ref a) (J4.suite he4 hd4 na nL nF) nod at_ (.inl loc) rfl (fun s5 S5 => ?_) (.inr loc)
          refine wpAny_mono ((su a oe4 cls d (X.pn ++ pins) hz4 ⟨_, hd4⟩).run [] s5 _ H' _ S5 (yes rfl a na)) (fun f s6 z => ?_) (fun _ _ z => z.elim)
          have over : ∀ {σ6 : L2.St} {H6 : Hp} {Q : Shared → Prop}, Inv (X.suite a ((a, oe4) :: (X.pn ++ pins))) [] σ6 H6 s6 → (∀ s7, Inv X pins (σ6.set i none) H6 s7 → Q s7) →
              wpAny (model X.prog X.w) X.A (do bindName X.env n .none; unbindBehindTheSuite X.env n hp) (fun _ s7 => Q s7) X.xe s6 := fun S6 hq => gone_ok (S6.unsuite ok) nod at_ loc hq
          match f with
          | .next => exact z.elim fun σ6 z => z.elim fun H6 z => over z.1 fun s7 J7 => ⟨_, _, J7, z.2⟩
          | .brk => exact z.elim fun σ6 z => z.elim fun H6 z => over z.1 fun s7 J7 => ⟨_, _, J7, z.2⟩
          | .cont => exact z.elim fun σ6 z => z.elim fun H6 z => over z.1 fun s7 J7 => ⟨_, _, J7, z.2⟩
          | .ret u => exact z.elim fun v z => z.elim fun σ6 z => z.elim fun H6 z => over z.1 fun s7 J7 => ⟨_, _, _, J7, z.2.1, z.2.2⟩
    exact go hh wish
end
/-! ### isinstance(e, T) in an except suite -/
structure ExI (K : PySem.W.Frag) (D : Addr) : Prop where
  cl : (PySem.W.clsIn K D).isSome = true
  hg : PySem.W.findIn K (.ref D) "__getattribute__" = some (some (.builtin "BaseException.__getattribute__"))
  hk : PySem.W.findIn K (.ref D) "__getattr__" = some none
  hs : PySem.W.subIn K (.ref D) (.type "BaseException") = some true
  ha : PySem.W.findIn K (.ref D) "__class__" = some (some (.builtin "object.__class__"))
  hn : PySem.W.specialIn K (.builtin "object.__class__") "__get__" = some (some (.builtin "getset_descriptor.__get__"))
  ht : PySem.W.takesIn K (.builtin "object.__class__") = some true
  hm : PySem.W.mroIn K D (.type "object") = some true
def rIsX (K : PySem.W.Frag) (a : Addr) (cls : Value) (d : Option Addr) : List V → Hp → VK → Prop := fun xs H Q => ∃ (D dd : Addr) (fs : List (Str × V)) (c : V) (cv : Value) (b : Bool), xs = [.ref a, c] ∧ cls = .ref D ∧ d = some dd ∧ ExI K D ∧ H dd = some (.xd fs) ∧ (∀ u, RelV c u → u = cv) ∧ PySem.W.kitOne K (.ref D) cv = some b ∧ Q (.bl b) H
theorem call_isX {X : Cx} {a : Addr} {oe : Obj} {cls : Value} {d : Option Addr} {pn : List (Addr × Obj)} (hz : Zc cls d oe) (hf : ∃ vs, oe.data = .fields vs) : CallR (X.suite a ((a, oe) :: pn)) (.builtin "isinstance") (rIsX X.K a cls d) := by
  intro pins s σ H xs us Q I r h
  obtain ⟨D, dd, fs, c, cv, b, rfl, rfl, rfl, C, hdd, hcv, e, q⟩ := h
  obtain ⟨u, z, rfl, ru, rz⟩ := vals2 r
  cases ru
  have ez := hcv _ rz
  subst ez
  obtain ⟨hget, _⟩ := I.pin (a, oe) (List.mem_append.mpr (.inl List.mem_cons_self))
  obtain ⟨vs, hv⟩ := hf
  have hx : ObjOk X.prog X.w H s.heap dd (.xd fs) := I.hok dd _ hdd
  obtain ⟨mA, hns, _⟩ := hx
  obtain ⟨od, ho, _⟩ := lookIn_ns hns
  have J : PySem.W.InstAt s.heap a oe D (some od) := ⟨hget, hz.1, by unfold PySem.W.notCls; rw [hv] <;> rfl, by rw [hz.2]; exact ho⟩
  exact PySem.W.kia_one (PySem.W.kitx_exc C.cl C.hg C.hk C.hs C.ha C.hn C.ht C.hm) I.kIn J e (fun z => nomatch z) fun tk => ⟨.bl b, H, I.kept (t' := tk) fun _ _ z => z, rfl, q⟩
/-! ### what the head tells of exception classes -/
section
open PySem.W
def mroVE (C : Addr) : List Value → Bool
  | .ref a :: bm => decide (a = C) && HandSPX.refsVE bm
  | _ => false
theorem mroVE_ok {C : Addr} {l : List Value} (h : mroVE C l = true) : ∃ bm, l = .ref C :: bm ∧ HandSPX.refsVE bm = true := by
  cases l with
  | nil => exact absurd h Bool.false_ne_true
  | cons v bm =>
    cases v with
    | ref a =>
      obtain ⟨z1, z2⟩ := He.ba h
      exact ⟨bm, by rw [of_decide_eq_true z1], z2⟩
    | _ => exact absurd h Bool.false_ne_true
def sixVE : List (Option Value) → Bool
  | [_, _, _, _, k4, _] => decide (k4 = some (.builtin "ValueError.__new__"))
  | _ => false
theorem sixVE_ok : ∀ {l : List (Option Value)}, sixVE l = true → ∃ k0 k1 k2 k3 k5, l = [k0, k1, k2, k3, some (.builtin "ValueError.__new__"), k5]
  | [k0, k1, k2, k3, k4, k5], h => ⟨k0, k1, k2, k3, k5, by rw [show k4 = some (.builtin "ValueError.__new__") from of_decide_eq_true h]⟩
def clsVE (C : Addr) : Option Obj → Bool
  | some ⟨c, _, .cls cd, sl⟩ => decide (c = .type "type") && (cd.hasDict && (!cd.hasDel && (mroVE C cd.mro && sixVE sl.toList)))
  | _ => false
theorem clsVE_ok {C : Addr} {o : Option Obj} (h : clsVE C o = true) : ∃ nm q N bs bm sn sub ab col dd k0 k1 k2 k3 k5, o = some (excClassObj nm q C N bs bm true sn sub ab col dd k0 k1 k2 k3 k5 "ValueError.__new__") ∧ HandSPX.refsVE bm = true := by
  cases o with
  | none => exact absurd h Bool.false_ne_true
  | some ob =>
    obtain ⟨c, dd, da, sl⟩ := ob
    cases da with
    | cls cd =>
      obtain ⟨nm, bs, mro, N, qn, hd, sn, sb, ab, co, del⟩ := cd
      obtain ⟨q1, h⟩ := He.ba h
      obtain ⟨q2, h⟩ := He.ba h
      obtain ⟨q3, h⟩ := He.ba h
      obtain ⟨q4, q5⟩ := He.ba h
      have q2 : hd = true := q2
      have q3 : (!del) = true := q3
      have q4 : mroVE C mro = true := q4
      obtain ⟨bm, e4, r4⟩ := mroVE_ok q4
      obtain ⟨k0, k1, k2, k3, k5, e5⟩ := sixVE_ok q5
      have e1 : c = .type "type" := of_decide_eq_true q1
      have e3 : del = false := by
        cases del
        · rfl
        · cases q3
      have esl : sl = #[k0, k1, k2, k3, some (.builtin "ValueError.__new__"), k5] := by
        rw [← Array.toArray_toList (xs := sl), e5]
      rw [e1, q2, e3, e4, esl]
      exact ⟨nm, qn, N, bs, bm, sn, sb, ab, co, dd, k0, k1, k2, k3, k5, rfl, r4⟩
    | _ => exact absurd h Bool.false_ne_true
def bOex (x : Str) (K : Frag) : Bool := clsVE (He.ga K x) (K.lookup (He.ga K x)) && (He.eqO (findIn K (.ref (He.ga K x)) "__setattr__") (some (some (.builtin "object.__setattr__"))) && (decide (subIn K (.ref (He.ga K x)) (.type "BaseException") = some true) && (decide (typeIn K (.ref (He.ga K x)) = some (.type "type")) && keepIn K (.ref (He.ga K x)))))
theorem bOex_ok {x : Str} {K : Frag} (h : bOex x K = true) : OexC K (He.ga K x) := by
  obtain ⟨h1, h⟩ := He.ba h
  obtain ⟨h2, h⟩ := He.ba h
  obtain ⟨h3, h⟩ := He.ba h
  obtain ⟨h4, h5⟩ := He.ba h
  exact ⟨clsVE_ok h1, He.eqO_ok h2, of_decide_eq_true h3, of_decide_eq_true h4, h5⟩
def bExi (x : Str) (K : Frag) : Bool := (clsIn K (He.ga K x)).isSome && (He.eqO (findIn K (.ref (He.ga K x)) "__getattribute__") (some (some (.builtin "BaseException.__getattribute__"))) && (He.eqO (findIn K (.ref (He.ga K x)) "__getattr__") (some none) &&
  (decide (subIn K (.ref (He.ga K x)) (.type "BaseException") = some true) && (He.eqO (findIn K (.ref (He.ga K x)) "__class__") (some (some (.builtin "object.__class__"))) && (He.eqO (specialIn K (.builtin "object.__class__") "__get__") (some (some (.builtin "getset_descriptor.__get__"))) &&
  (decide (takesIn K (.builtin "object.__class__") = some true) && decide (mroIn K (He.ga K x) (.type "object") = some true)))))))
theorem bExi_ok {x : Str} {K : Frag} (h : bExi x K = true) : ExI K (He.ga K x) := by
  obtain ⟨h1, h⟩ := He.ba h
  obtain ⟨h2, h⟩ := He.ba h
  obtain ⟨h3, h⟩ := He.ba h
  obtain ⟨h4, h⟩ := He.ba h
  obtain ⟨h5, h⟩ := He.ba h
  obtain ⟨h6, h⟩ := He.ba h
  obtain ⟨h7, h8⟩ := He.ba h
  exact ⟨h1, He.eqO_ok h2, He.eqO_ok h3, of_decide_eq_true h4, He.eqO_ok h5, He.eqO_ok h6, of_decide_eq_true h7, of_decide_eq_true h8⟩
/-- what is asked of the exception classes ns -/
structure XFacts (K : Frag) (ns : List Str) : Prop where
  i : ∀ x ∈ ns, ExI K (He.ga K x)
  v : ∀ x ∈ ns, kitOne K (.ref (He.ga K x)) (.type "ValueError") = some true
  b : ∀ x ∈ ns, exmOne K (.ref (He.ga K x)) (.ref (He.ga K "MinuteError")) = some true
  m : ∀ x ∈ ns, ∀ y ∈ ns, exmOne K (.ref (He.ga K x)) (.ref (He.ga K y)) = some (decide (x = y))
  k : ∀ x ∈ ns, ∀ y ∈ ns, kitOne K (.ref (He.ga K x)) (.ref (He.ga K y)) = some (decide (x = y))
def bXall (ns : List Str) (K : Frag) : Bool := ns.all fun x => bExi x K && (decide (kitOne K (.ref (He.ga K x)) (.type "ValueError") = some true) && (decide (exmOne K (.ref (He.ga K x)) (.ref (He.ga K "MinuteError")) = some true) &&
  ns.all fun y => decide (exmOne K (.ref (He.ga K x)) (.ref (He.ga K y)) = some (decide (x = y))) && decide (kitOne K (.ref (He.ga K x)) (.ref (He.ga K y)) = some (decide (x = y)))))
theorem bXall_ok {ns : List Str} {K : Frag} (h : bXall ns K = true) : XFacts K ns := by
  have h2 := List.all_eq_true.mp h
  have p : ∀ x ∈ ns, bExi x K = true ∧ kitOne K (.ref (He.ga K x)) (.type "ValueError") = some true ∧ exmOne K (.ref (He.ga K x)) (.ref (He.ga K "MinuteError")) = some true ∧
      ∀ y ∈ ns, exmOne K (.ref (He.ga K x)) (.ref (He.ga K y)) = some (decide (x = y)) ∧ kitOne K (.ref (He.ga K x)) (.ref (He.ga K y)) = some (decide (x = y)) := fun x hx => by
    obtain ⟨a1, a⟩ := He.ba (h2 x hx)
    obtain ⟨a2, a⟩ := He.ba a
    obtain ⟨a3, a4⟩ := He.ba a
    refine ⟨a1, of_decide_eq_true a2, of_decide_eq_true a3, fun y hy => ?_⟩
    obtain ⟨b1, b2⟩ := He.ba (List.all_eq_true.mp a4 y hy)
    exact ⟨of_decide_eq_true b1, of_decide_eq_true b2⟩
  exact ⟨fun x hx => bExi_ok (p x hx).1, fun x hx => (p x hx).2.1, fun x hx => (p x hx).2.2.1, fun x hx y hy => ((p x hx).2.2.2 y hy).1, fun x hx y hy => ((p x hx).2.2.2 y hy).2⟩
def bXf (x : Str) (K : Frag) : Bool := xfB K (He.ga K x)
theorem bXf_ok {x : Str} {K : Frag} (h : bXf x K = true) : XfC K (He.ga K x) := xfB_ok h
end
/-! ### what is asked of own operators -/
def okR (o : Option (Option Value)) : Bool := match o with
  | some none => true
  | some (some (.ref _)) => true
  | _ => false
theorem okR_ok {o : Option (Option Value)} (h : okR o = true) : ∃ rc, o = some rc ∧ (rc = none ∨ ∃ g : Addr, rc = some (.ref g)) := by
  unfold okR at h
  split at h
  · exact ⟨_, rfl, .inl rfl⟩
  · exact ⟨_, rfl, .inr ⟨_, rfl⟩⟩
  · cases h
def bBinI (x nm rn : Str) (K : PySem.W.Frag) : Bool := PySem.W.selfFirst K (He.ga K x) && (okR (PySem.W.findIn K (.ref (He.ga K x)) rn) && ((PySem.W.findIn K (.type "int") nm).isSome && ((PySem.W.findIn K (.type "int") rn).isSome && decide (PySem.W.subIn K (.type "int") (.ref (He.ga K x)) = some false))))
def bSelf (x : Str) (K : PySem.W.Frag) : Bool := PySem.W.selfFirst K (He.ga K x)
def isRf (o : Option (Option Value)) : Bool := match o with
  | some (some (.ref _)) => true
  | _ => false
theorem isRf_ok {o : Option (Option Value)} (h : isRf o = true) : ∃ g : Addr, o = some (some (.ref g)) := by
  unfold isRf at h
  split at h
  · exact ⟨_, rfl⟩
  · cases h
def bRefI (x : Str) (K : PySem.W.Frag) : Bool := PySem.W.selfFirst K (He.ga K x) && (isRf (PySem.W.findIn K (.ref (He.ga K x)) "__mul__") && decide (PySem.W.subIn K (.ref (He.ga K x)) (.type "int") = some false))
def bBin2 (x y nm rn : Str) (K : PySem.W.Frag) : Bool := PySem.W.selfFirst K (He.ga K x) && (PySem.W.selfFirst K (He.ga K y) && (okR (PySem.W.findIn K (.ref (He.ga K x)) rn) && (isRf (PySem.W.findIn K (.ref (He.ga K y)) nm) && (okR (PySem.W.findIn K (.ref (He.ga K y)) rn) && (decide (PySem.W.subIn K (.ref (He.ga K y)) (.ref (He.ga K x)) = some false) && decide (He.ga K x ≠ He.ga K y))))))
end RM
namespace RM
open PySem PySem.Spec PyProof.Rows L2
/-- the record of a classmethod, its def -/
def cmP (K : PySem.W.Frag) (C : Addr) (m : Str) : Addr := match PySem.W.findCls K (.ref C) (.type "type") m with
  | some (.get _ (.ref p) _ _) => p
  | _ => 0
def cmG (K : PySem.W.Frag) (C : Addr) (m : Str) : Addr := match PySem.W.recIn K (cmP K C m) "classmethod" with
  | some (.ref g :: _) => g
  | _ => 0
def isCM (K : PySem.W.Frag) (C : Addr) (m : Str) : Bool := match PySem.W.findCls K (.ref C) (.type "type") m with
  | some (.get (.builtin z) (.ref _) .none (.ref C')) => decide (z = "classmethod.__get__") && decide (C' = C)
  | _ => false
def isCG (K : PySem.W.Frag) (C : Addr) (m : Str) : Bool := match PySem.W.recIn K (cmP K C m) "classmethod" with
  | some (.ref _ :: _) => true
  | _ => false
def bCMet (x m : Str) (K : PySem.W.Frag) : Bool := isCM K (He.ga K x) m && (isCG K (He.ga K x) m && PySem.W.fnIn K (cmG K (He.ga K x) m))
theorem bCMet_ok {x m : Str} {K : PySem.W.Frag} (h : bCMet x m K = true) : ClX.CMet K (He.ga K x) (.type "type") m (cmP K (He.ga K x) m) (cmG K (He.ga K x) m) := by
  obtain ⟨h1, h⟩ := He.ba h
  obtain ⟨h2, h3⟩ := He.ba h
  refine ⟨?_, ?_, h3⟩
  · unfold isCM at h1
    unfold cmP
    split at h1
    · rename_i z p C' e
      obtain ⟨q1, q2⟩ := He.ba h1
      rw [e, of_decide_eq_true q1, of_decide_eq_true q2]
    · exact absurd h1 Bool.false_ne_true
  · unfold isCG at h2
    unfold cmG
    split at h2
    · rename_i g r e
      rw [e]
      exact ⟨r, rfl⟩
    · exact absurd h2 Bool.false_ne_true
end RM
namespace RM
open PySem PySem.Spec PyProof.Rows L2
abbrev C_MinuteError (K : PySem.W.Frag) : Addr := He.ga K "MinuteError"
abbrev C_BadNumber (K : PySem.W.Frag) : Addr := He.ga K "BadNumber"
abbrev C_WrongNames (K : PySem.W.Frag) : Addr := He.ga K "WrongNames"
abbrev C_BrokenSpan (K : PySem.W.Frag) : Addr := He.ga K "BrokenSpan"
abbrev C_Net (K : PySem.W.Frag) : Addr := He.ga K "Net"
abbrev C_Base (K : PySem.W.Frag) : Addr := He.ga K "Base"
abbrev C_Island (K : PySem.W.Frag) : Addr := He.ga K "Island"
abbrev C_Times (K : PySem.W.Frag) : Addr := He.ga K "Times"
def exs : List Str := ["BadNumber", "WrongNames", "BrokenSpan"]
/-! the top's observation over addresses that are written out -/
def obsAG (as : List Addr) (bs : List (PySem.W.Frag → Bool)) (fa : List He.Fa) (fn : List DX) (g : Addr → Option Obj) : AlX := obsX bs fa fn (He.frG g as)
def hookA (as : List Addr) (bs : List (PySem.W.Frag → Bool)) (fa : List He.Fa) (fn : List DX) : PySem.W.Hook where
  α := AlX
  obs := fun s => obsAG as bs fa fn s.heap.get?
  val := fun _ => valX fn
  says := fun _ h => ∃ K : PySem.W.Frag, K.In h ∧ SaysX bs fa fn K
  of := fun _ _ e => ⟨_, He.frG_in, e⟩
  keeps := fun _ _ _ ⟨K, hK, c⟩ k => ⟨K, PySem.W.Frag.In.keeps hK k, c⟩
theorem obsAG_eq {as : List Addr} {bs : List (PySem.W.Frag → Bool)} {fa : List He.Fa} {fn : List DX} {g : Addr → Option Obj} {s : Shared} (h : ∀ a, g a = s.heap.get? a) : obsAG as bs fa fn g = (hookA as bs fa fn).obs s := by
  have e : g = s.heap.get? := funext h
  rw [e] <;> rfl
def top (i : Nat) : Stmt := PySem.Challenge.pw_roundminutes_k43_room_by_a_plain_table.main.body.getD i (.Pass ⟨0, 0, 0, 0⟩)
def inClass (st : Stmt) (j : Nat) : Stmt := (C8.clsBody st).getD j (.Pass ⟨0, 0, 0, 0⟩)
abbrev s_check_range : Stmt := top 19
abbrev s_check_round_length : Stmt := top 20
abbrev s_check_count : Stmt := top 21
abbrev s_is_name : Stmt := top 16
abbrev s_check_name : Stmt := top 17
abbrev s_check_event : Stmt := top 22
abbrev s_Net_contains : Stmt := inClass (top 28) 13
abbrev s_check_known : Stmt := top 23
abbrev s_check_span : Stmt := top 24
abbrev s_check_net : Stmt := top 25
abbrev s_Net_init : Stmt := inClass (top 28) 5
abbrev s_Net_round_length : Stmt := inClass (top 28) 7
abbrev s_Net_spans : Stmt := inClass (top 28) 9
abbrev s_Times_round_length : Stmt := inClass (top 47) 2
abbrev s_Times_contains : Stmt := inClass (top 47) 7
abbrev s_check_names : Stmt := top 30
abbrev s_Times_getitem : Stmt := inClass (top 47) 4
abbrev s_on_span : Stmt := top 31
abbrev s_on_all_spans : Stmt := top 32
abbrev s_kept_minutes : Stmt := top 33
abbrev s_arcs_of : Stmt := top 36
abbrev s_walk_along : Stmt := top 37
abbrev s_least_walks : Stmt := top 38
abbrev s_joined : Stmt := top 26
abbrev s_tree_of : Stmt := top 40
abbrev s_Netcheck_number : Stmt := inClass (top 28) 15
abbrev s_Net_span : Stmt := inClass (top 28) 16
abbrev s_Base_path : Stmt := inClass (top 41) 6
abbrev s_Basebase_ring : Stmt := inClass (top 41) 1
abbrev s_Base_init : Stmt := inClass (top 41) 0
abbrev s_Base_rings : Stmt := inClass (top 41) 4
abbrev s_sum_over : Stmt := top 35
abbrev s_turn_of : Stmt := top 42
abbrev s_rounds_on : Stmt := top 43
abbrev s_Island_init : Stmt := inClass (top 45) 0
abbrev s_Island_room : Stmt := inClass (top 45) 9
abbrev s_Times_init : Stmt := inClass (top 47) 0
abbrev s_l_pool : Stmt := top 49
abbrev s_l_draw : Stmt := top 50
abbrev s_l_word : Stmt := top 52
abbrev s_l_names : Stmt := top 53
abbrev s_l_length : Stmt := top 54
abbrev s_l_changes : Stmt := top 56
abbrev s_l_weight : Stmt := top 55
abbrev s_l_some : Stmt := top 51
abbrev s_l_window : Stmt := top 57
abbrev s_l_span : Stmt := top 58
abbrev s_l_case : Stmt := top 59
abbrev s_l_minutes : Stmt := top 60
abbrev s_l_is_int : Stmt := top 61
abbrev s_l_same : Stmt := top 62
abbrev s_l_gone : Stmt := top 63
abbrev s_l_all_gone : Stmt := top 64
abbrev s_l_nearer : Stmt := top 66
abbrev s_l_rooms : Stmt := top 65
abbrev s_law : Stmt := top 67
abbrev s_BadNumber_init : Stmt := inClass (top 4) 0
abbrev s_BrokenSpan_init : Stmt := inClass (top 10) 0
abbrev s_WrongNames_init : Stmt := inClass (top 8) 0
abbrev s_Net_iter : Stmt := inClass (top 28) 12
abbrev s_Times_iter : Stmt := inClass (top 47) 6
def d_check_range : DX := ⟨fun K => He.ga K "check_range", "check_range", "check_range", defArgs s_check_range, defBody s_check_range, defScope s_check_range, [], []⟩
def d_check_round_length : DX := ⟨fun K => He.ga K "check_round_length", "check_round_length", "check_round_length", defArgs s_check_round_length, defBody s_check_round_length, defScope s_check_round_length, [], []⟩
def d_check_count : DX := ⟨fun K => He.ga K "check_count", "check_count", "check_count", defArgs s_check_count, defBody s_check_count, defScope s_check_count, [], []⟩
def d_is_name : DX := ⟨fun K => He.ga K "is_name", "is_name", "is_name", defArgs s_is_name, defBody s_is_name, defScope s_is_name, [], []⟩
def d_check_name : DX := ⟨fun K => He.ga K "check_name", "check_name", "check_name", defArgs s_check_name, defBody s_check_name, defScope s_check_name, [], []⟩
def d_check_event : DX := ⟨fun K => He.ga K "check_event", "check_event", "check_event", defArgs s_check_event, defBody s_check_event, defScope s_check_event, [], []⟩
def d_Net_contains : DX := ⟨fun K => He.ma K (He.ga K "Net") "__contains__", "__contains__", "Net.__contains__", defArgs s_Net_contains, defBody s_Net_contains, defScope s_Net_contains, [], []⟩
def d_check_known : DX := ⟨fun K => He.ga K "check_known", "check_known", "check_known", defArgs s_check_known, defBody s_check_known, defScope s_check_known, [], []⟩
def d_check_span : DX := ⟨fun K => He.ga K "check_span", "check_span", "check_span", defArgs s_check_span, defBody s_check_span, defScope s_check_span, [], []⟩
def d_check_net : DX := ⟨fun K => He.ga K "check_net", "check_net", "check_net", defArgs s_check_net, defBody s_check_net, defScope s_check_net, [], []⟩
def d_Net_init : DX := ⟨fun K => He.ma K (He.ga K "Net") "__init__", "__init__", "Net.__init__", defArgs s_Net_init, defBody s_Net_init, defScope s_Net_init, [], []⟩
def d_Net_round_length : DX := ⟨fun K => gAd K (He.ga K "Net") "round_length", "round_length", "Net.round_length", defArgs s_Net_round_length, defBody s_Net_round_length, defScope s_Net_round_length, [], []⟩
def d_Net_spans : DX := ⟨fun K => gAd K (He.ga K "Net") "spans", "spans", "Net.spans", defArgs s_Net_spans, defBody s_Net_spans, defScope s_Net_spans, [], []⟩
def d_Times_round_length : DX := ⟨fun K => gAd K (He.ga K "Times") "round_length", "round_length", "Times.round_length", defArgs s_Times_round_length, defBody s_Times_round_length, defScope s_Times_round_length, [], []⟩
def d_Times_contains : DX := ⟨fun K => He.ma K (He.ga K "Times") "__contains__", "__contains__", "Times.__contains__", defArgs s_Times_contains, defBody s_Times_contains, defScope s_Times_contains, [], []⟩
def d_check_names : DX := ⟨fun K => He.ga K "check_names", "check_names", "check_names", defArgs s_check_names, defBody s_check_names, defScope s_check_names, [], []⟩
def d_Times_getitem : DX := ⟨fun K => He.ma K (He.ga K "Times") "__getitem__", "__getitem__", "Times.__getitem__", defArgs s_Times_getitem, defBody s_Times_getitem, defScope s_Times_getitem, [], []⟩
def d_on_span : DX := ⟨fun K => He.ga K "on_span", "on_span", "on_span", defArgs s_on_span, defBody s_on_span, defScope s_on_span, [], []⟩
def d_on_all_spans : DX := ⟨fun K => He.ga K "on_all_spans", "on_all_spans", "on_all_spans", defArgs s_on_all_spans, defBody s_on_all_spans, defScope s_on_all_spans, [], []⟩
def d_kept_minutes : DX := ⟨fun K => He.ga K "kept_minutes", "kept_minutes", "kept_minutes", defArgs s_kept_minutes, defBody s_kept_minutes, defScope s_kept_minutes, [], []⟩
def d_arcs_of : DX := ⟨fun K => He.ga K "arcs_of", "arcs_of", "arcs_of", defArgs s_arcs_of, defBody s_arcs_of, defScope s_arcs_of, [], []⟩
def d_walk_along : DX := ⟨fun K => He.ga K "walk_along", "walk_along", "walk_along", defArgs s_walk_along, defBody s_walk_along, defScope s_walk_along, [], []⟩
def d_least_walks : DX := ⟨fun K => He.ga K "least_walks", "least_walks", "least_walks", defArgs s_least_walks, defBody s_least_walks, defScope s_least_walks, [], []⟩
def d_joined : DX := ⟨fun K => He.ga K "joined", "joined", "joined", defArgs s_joined, defBody s_joined, defScope s_joined, [], []⟩
def d_tree_of : DX := ⟨fun K => He.ga K "tree_of", "tree_of", "tree_of", defArgs s_tree_of, defBody s_tree_of, defScope s_tree_of, [], []⟩
def d_Netcheck_number : DX := ⟨fun K => He.ma K (He.ga K "Net") "_check_number", "_check_number", "Net._check_number", defArgs s_Netcheck_number, defBody s_Netcheck_number, defScope s_Netcheck_number, [], []⟩
def d_Net_span : DX := ⟨fun K => He.ma K (He.ga K "Net") "span", "span", "Net.span", defArgs s_Net_span, defBody s_Net_span, defScope s_Net_span, [], []⟩
def d_Base_path : DX := ⟨fun K => He.ma K (He.ga K "Base") "path", "path", "Base.path", defArgs s_Base_path, defBody s_Base_path, defScope s_Base_path, [], []⟩
def d_Basebase_ring : DX := ⟨fun K => He.ma K (He.ga K "Base") "_base_ring", "_base_ring", "Base._base_ring", defArgs s_Basebase_ring, defBody s_Basebase_ring, defScope s_Basebase_ring, [], []⟩
def d_Base_init : DX := ⟨fun K => He.ma K (He.ga K "Base") "__init__", "__init__", "Base.__init__", defArgs s_Base_init, defBody s_Base_init, defScope s_Base_init, [], []⟩
def d_Base_rings : DX := ⟨fun K => gAd K (He.ga K "Base") "rings", "rings", "Base.rings", defArgs s_Base_rings, defBody s_Base_rings, defScope s_Base_rings, [], []⟩
def d_sum_over : DX := ⟨fun K => He.ga K "sum_over", "sum_over", "sum_over", defArgs s_sum_over, defBody s_sum_over, defScope s_sum_over, [], []⟩
def d_turn_of : DX := ⟨fun K => He.ga K "turn_of", "turn_of", "turn_of", defArgs s_turn_of, defBody s_turn_of, defScope s_turn_of, [], []⟩
def d_rounds_on : DX := ⟨fun K => He.ga K "rounds_on", "rounds_on", "rounds_on", defArgs s_rounds_on, defBody s_rounds_on, defScope s_rounds_on, [], []⟩
def d_Island_init : DX := ⟨fun K => He.ma K (He.ga K "Island") "__init__", "__init__", "Island.__init__", defArgs s_Island_init, defBody s_Island_init, defScope s_Island_init, [], []⟩
def d_Island_room : DX := ⟨fun K => He.ma K (He.ga K "Island") "room", "room", "Island.room", defArgs s_Island_room, defBody s_Island_room, defScope s_Island_room, [], []⟩
def d_Times_init : DX := ⟨fun K => He.ma K (He.ga K "Times") "__init__", "__init__", "Times.__init__", defArgs s_Times_init, defBody s_Times_init, defScope s_Times_init, [], []⟩
def d_l_pool : DX := ⟨fun K => He.ga K "_law_pool", "_law_pool", "_law_pool", defArgs s_l_pool, defBody s_l_pool, defScope s_l_pool, [], []⟩
def d_l_draw : DX := ⟨fun K => He.ga K "_law_draw", "_law_draw", "_law_draw", defArgs s_l_draw, defBody s_l_draw, defScope s_l_draw, [], []⟩
def d_l_word : DX := ⟨fun K => He.ga K "_law_word", "_law_word", "_law_word", defArgs s_l_word, defBody s_l_word, defScope s_l_word, [], []⟩
def d_l_names : DX := ⟨fun K => He.ga K "_law_names", "_law_names", "_law_names", defArgs s_l_names, defBody s_l_names, defScope s_l_names, [], []⟩
def d_l_length : DX := ⟨fun K => He.ga K "_law_length", "_law_length", "_law_length", defArgs s_l_length, defBody s_l_length, defScope s_l_length, [], []⟩
def d_l_changes : DX := ⟨fun K => He.ga K "_law_changes", "_law_changes", "_law_changes", defArgs s_l_changes, defBody s_l_changes, defScope s_l_changes, [], []⟩
def d_l_weight : DX := ⟨fun K => He.ga K "_law_weight", "_law_weight", "_law_weight", defArgs s_l_weight, defBody s_l_weight, defScope s_l_weight, [], []⟩
def d_l_some : DX := ⟨fun K => He.ga K "_law_some", "_law_some", "_law_some", defArgs s_l_some, defBody s_l_some, defScope s_l_some, [], []⟩
def d_l_window : DX := ⟨fun K => He.ga K "_law_window", "_law_window", "_law_window", defArgs s_l_window, defBody s_l_window, defScope s_l_window, [], []⟩
def d_l_span : DX := ⟨fun K => He.ga K "_law_span", "_law_span", "_law_span", defArgs s_l_span, defBody s_l_span, defScope s_l_span, [], []⟩
def d_l_case : DX := ⟨fun K => He.ga K "_law_case", "_law_case", "_law_case", defArgs s_l_case, defBody s_l_case, defScope s_l_case, [], []⟩
def d_l_minutes : DX := ⟨fun K => He.ga K "_law_minutes", "_law_minutes", "_law_minutes", defArgs s_l_minutes, defBody s_l_minutes, defScope s_l_minutes, [], []⟩
def d_l_is_int : DX := ⟨fun K => He.ga K "_law_is_int", "_law_is_int", "_law_is_int", defArgs s_l_is_int, defBody s_l_is_int, defScope s_l_is_int, [], []⟩
def d_l_same : DX := ⟨fun K => He.ga K "_law_same", "_law_same", "_law_same", defArgs s_l_same, defBody s_l_same, defScope s_l_same, [], []⟩
def d_l_gone : DX := ⟨fun K => He.ga K "_law_gone", "_law_gone", "_law_gone", defArgs s_l_gone, defBody s_l_gone, defScope s_l_gone, [], []⟩
def d_l_all_gone : DX := ⟨fun K => He.ga K "_law_all_gone", "_law_all_gone", "_law_all_gone", defArgs s_l_all_gone, defBody s_l_all_gone, defScope s_l_all_gone, [], []⟩
def d_l_nearer : DX := ⟨fun K => He.ga K "_law_nearer", "_law_nearer", "_law_nearer", defArgs s_l_nearer, defBody s_l_nearer, defScope s_l_nearer, [], []⟩
def d_l_rooms : DX := ⟨fun K => He.ga K "_law_rooms", "_law_rooms", "_law_rooms", defArgs s_l_rooms, defBody s_l_rooms, defScope s_l_rooms, [], []⟩
def d_law : DX := ⟨fun K => He.ga K "law", "law", "law", defArgs s_law, defBody s_law, defScope s_law, [], []⟩
def d_Net_iter : DX := ⟨fun K => He.ma K (He.ga K "Net") "__iter__", "__iter__", "Net.__iter__", defArgs s_Net_iter, defBody s_Net_iter, defScope s_Net_iter, [], []⟩
def d_Times_iter : DX := ⟨fun K => He.ma K (He.ga K "Times") "__iter__", "__iter__", "Times.__iter__", defArgs s_Times_iter, defBody s_Times_iter, defScope s_Times_iter, [], []⟩
def d_BadNumber_init : DX := ⟨fun K => He.ma K (He.ga K "BadNumber") "__init__", "__init__", "BadNumber.__init__", defArgs s_BadNumber_init, defBody s_BadNumber_init, defScope s_BadNumber_init, [], []⟩
def d_BrokenSpan_init : DX := ⟨fun K => He.ma K (He.ga K "BrokenSpan") "__init__", "__init__", "BrokenSpan.__init__", defArgs s_BrokenSpan_init, defBody s_BrokenSpan_init, defScope s_BrokenSpan_init, [], []⟩
def d_WrongNames_init : DX := ⟨fun K => He.ma K (He.ga K "WrongNames") "__init__", "__init__", "WrongNames.__init__", defArgs s_WrongNames_init, defBody s_WrongNames_init, defScope s_WrongNames_init, [], []⟩
def fns : List DX := [d_check_range, d_check_round_length, d_check_count, d_is_name, d_check_name, d_check_event, d_Net_contains, d_check_known, d_check_span, d_check_net, d_Net_init, d_Net_round_length, d_Net_spans, d_Times_round_length, d_Times_contains, d_check_names, d_Times_getitem, d_on_span, d_on_all_spans, d_kept_minutes, d_arcs_of, d_walk_along, d_least_walks, d_joined, d_tree_of, d_Netcheck_number, d_Net_span, d_Base_path, d_Basebase_ring, d_Base_init, d_Base_rings, d_sum_over, d_turn_of, d_rounds_on, d_Island_init, d_Island_room, d_Times_init, d_l_pool, d_l_draw, d_l_word, d_l_names, d_l_length, d_l_changes, d_l_weight, d_l_some, d_l_window, d_l_span, d_l_case, d_l_minutes, d_l_is_int, d_l_same, d_l_gone, d_l_all_gone, d_l_nearer, d_l_rooms, d_law, d_Net_iter, d_Times_iter, d_BadNumber_init, d_BrokenSpan_init, d_WrongNames_init]
def bs : List (PySem.W.Frag → Bool) := [bRead "Net", bCval "Net" "EVENTS" 12, bCval "Net" "SPANS" 24, bCval "Net" "LONGEST" 120, bCval "Net" "SHORTEST" 3, bCval "Net" "HEAVIEST" 99, bOex "BrokenSpan", bOex "BadNumber", bOex "WrongNames", bXall exs, bProp "Net" "round_length", bProp "Net" "spans", bProp "Times" "round_length", bProp "Base" "rings"]
def fas : List He.Fa := [.glo "check_range", .glo "check_round_length", .glo "check_count", .glo "is_name", .glo "check_name", .glo "check_event", .meth "Net" "__contains__", .glo "check_known", .glo "check_span", .glo "check_net", .mkr "Net", .meth "Times" "__contains__", .glo "check_names", .meth "Times" "__getitem__", .glo "on_span", .glo "on_all_spans", .glo "kept_minutes", .glo "arcs_of", .glo "walk_along", .glo "least_walks", .glo "joined", .glo "tree_of", .meth "Net" "_check_number", .meth "Net" "span", .meth "Base" "path", .meth "Base" "_base_ring", .mkr "Base", .glo "sum_over", .glo "turn_of", .glo "rounds_on", .mkr "Island", .meth "Island" "room", .mkr "Times", .glo "_law_pool", .glo "_law_draw", .glo "_law_word", .glo "_law_names", .glo "_law_length", .glo "_law_changes", .glo "_law_weight", .glo "_law_some", .glo "_law_window", .glo "_law_span", .glo "_law_case", .glo "_law_minutes", .glo "_law_is_int", .glo "_law_same", .glo "_law_gone", .glo "_law_all_gone", .glo "_law_nearer", .glo "_law_rooms", .glo "law", .meth "Net" "__iter__", .meth "Times" "__iter__", .meth "BadNumber" "__init__", .meth "BrokenSpan" "__init__", .meth "WrongNames" "__init__", .free "len", .free "max", .free "dict", .free "list", .cls "Net", .noat "Net" "_round_length", .noat "Net" "_events", .noat "Net" "_spans", .glo "Net", .free "enumerate", .int "LONGEST_NAME" (8), .str "LETTERS" "abcdefghijklmnopqrstuvwxyz", .str "DIGITS" "0123456789", .free "all", .cls "Island", .noat "Island" "_net", .noat "Island" "_times", .cls "Base", .noat "Island" "_rings", .noat "Island" "_rounds", .free "zip", .noat "Island" "_forward", .noat "Island" "_backward", .noat "Island" "_rooms", .noat "Island" "_last", .free "iter", .glo "BrokenSpan", .noat "BrokenSpan" "number", .cls "Times", .glo "BadNumber", .noat "BadNumber" "number", .glo "WrongNames", .noat "WrongNames" "name", .noat "Times" "_round_length", .noat "Times" "_minutes", .noat "Base" "_net", .noat "Base" "_tree", .free "range", .noat "Base" "_closing", .noat "Base" "_arcs", .noat "Base" "_rings", .free "sum", .free "int", .free "str", .free "min", .free "bool", .free "isinstance", .free "tuple", .glo "MinuteError", .glo "Base", .glo "Island", .glo "Times"]
abbrev Rw : PySem.W.OpenRow := PySem.W.OpenLaw.row PySem.Challenge.rw_roundminutes_k43_room_by_a_plain_table
def adr : List Nat := [2, 3, 6, 4, 21, 31, 51, 70, 89, 108, 127, 146, 165, 184, 203, 210, 217, 224, 231, 238, 245, 252, 259, 266, 271, 276, 406, 417, 424, 429, 436, 441, 448, 455, 462, 467, 525, 534, 539, 656, 774, 783, 790, 797, 804, 811, 818, 825, 832, 839, 846, 851, 858, 865, 872, 879, 884, 891, 898, 905, 0, 20, 30, 50, 69, 88, 107, 126, 145, 164, 183, 202, 209, 216, 223, 230, 237, 244, 251, 258, 265, 270, 275, 405, 416, 423, 428, 435, 440, 447, 454, 461, 466, 524, 533, 538, 655, 773, 782, 789, 796, 803, 810, 817, 824, 831, 838, 845, 850, 857, 864, 871, 878, 883, 890, 897, 904, 15, 16, 17, 18, 19, 29, 32, 48, 49, 67, 68, 86, 87, 105, 106, 124, 125, 143, 144, 162, 163, 181, 182, 200, 201, 206, 207, 208, 211, 212, 213, 214, 215, 218, 219, 220, 221, 222, 225, 226, 227, 228, 229, 232, 233, 234, 235, 236, 239, 240, 241, 242, 243, 246, 247, 248, 249, 250, 253, 254, 255, 256, 257, 260, 261, 262, 263, 264, 267, 268, 269, 272, 273, 274, 290, 299, 308, 316, 324, 332, 339, 346, 353, 360, 367, 374, 382, 389, 396, 403, 404, 407, 408, 411, 412, 413, 414, 415, 418, 419, 420, 421, 422, 425, 426, 427, 430, 431, 432, 433, 434, 437, 438, 439, 442, 443, 444, 445, 446, 449, 450, 451, 452, 453, 456, 457, 458, 459, 460, 463, 464, 465, 479, 486, 494, 502, 508, 515, 522, 523, 526, 527, 530, 531, 532, 535, 536, 537, 551, 559, 567, 575, 583, 590, 597, 604, 611, 618, 625, 632, 639, 646, 653, 654, 657, 658, 674, 683, 692, 700, 707, 714, 721, 728, 735, 740, 745, 752, 757, 764, 771, 772, 775, 776, 779, 780, 781, 784, 785, 786, 787, 788, 791, 792, 793, 794, 795, 798, 799, 800, 801, 802, 805, 806, 807, 808, 809, 812, 813, 814, 815, 816, 819, 820, 821, 822, 823, 826, 827, 828, 829, 830, 833, 834, 835, 836, 837, 840, 841, 842, 843, 844, 847, 848, 849, 852, 853, 854, 855, 856, 859, 860, 861, 862, 863, 866, 867, 868, 869, 870, 873, 874, 875, 876, 877, 880, 881, 882, 885, 886, 887, 888, 889, 892, 893, 894, 895, 896, 899, 900, 901, 902, 903, 47, 66, 85, 104, 123, 142, 161, 180, 199, 289, 297, 298, 307, 315, 323, 331, 338, 345, 352, 359, 366, 373, 381, 375, 388, 395, 402, 478, 485, 493, 501, 507, 514, 521, 550, 558, 566, 574, 582, 589, 596, 603, 610, 617, 624, 631, 638, 645, 652, 673, 681, 682, 691, 699, 706, 713, 720, 727, 734, 739, 744, 751, 756, 763, 770, 42, 43, 44, 45, 46, 61, 62, 63, 64, 65, 80, 81, 82, 83, 84, 99, 100, 101, 102, 103, 118, 119, 120, 121, 122, 137, 138, 139, 140, 141, 156, 157, 158, 159, 160, 175, 176, 177, 178, 179, 194, 195, 196, 197, 198, 284, 285, 286, 287, 288, 296, 300, 306, 314, 322, 330, 333, 334, 335, 336, 337, 340, 341, 342, 343, 344, 347, 348, 349, 350, 351, 354, 355, 356, 357, 358, 361, 362, 363, 364, 365, 368, 369, 370, 371, 372, 376, 377, 378, 379, 380, 383, 384, 385, 386, 387, 390, 391, 392, 393, 394, 397, 398, 399, 400, 401, 475, 476, 477, 480, 481, 482, 483, 484, 492, 500, 506, 509, 510, 511, 512, 513, 516, 517, 518, 519, 520, 547, 548, 549, 557, 565, 573, 581, 584, 585, 586, 587, 588, 591, 592, 593, 594, 595, 598, 599, 600, 601, 602, 605, 606, 607, 608, 609, 612, 613, 614, 615, 616, 619, 620, 621, 622, 623, 626, 627, 628, 629, 630, 633, 634, 635, 636, 637, 640, 641, 642, 643, 644, 647, 648, 649, 650, 651, 668, 669, 670, 671, 672, 680, 684, 690, 698, 701, 702, 703, 704, 705, 708, 709, 710, 711, 712, 715, 716, 717, 718, 719, 722, 723, 724, 725, 726, 729, 730, 731, 732, 733, 736, 737, 738, 741, 742, 743, 746, 747, 748, 749, 750, 753, 754, 755, 758, 759, 760, 761, 762, 765, 766, 767, 768, 769]
abbrev hk : PySem.W.Hook := hookA adr bs fas fns
def ob (s : PySem.W.SharedT) : AlX := obsAG adr bs fas fns (HandSHeadRun.getT s)
theorem ob_ok (s : PySem.W.SharedT) : ob s = hk.obs s.abs := obsAG_eq (HandSHeadRun.getT_eq s)
def loose : List Str := [("_wall" : Str), ("MinuteError" : Str), ("BadName" : Str), ("BadNumber" : Str), ("UnknownEvent" : Str), ("DoubleEvent" : Str), ("SameEvent" : Str), ("WrongNames" : Str), ("UnknownSpan" : Str), ("BrokenSpan" : Str), ("TooMany" : Str), ("LETTERS" : Str), ("DIGITS" : Str), ("LONGEST_NAME" : Str), ("is_name" : Str), ("check_name" : Str), ("check_range" : Str), ("check_round_length" : Str), ("check_count" : Str), ("check_event" : Str), ("check_known" : Str), ("check_span" : Str), ("check_net" : Str), ("joined" : Str), ("pieces_of" : Str), ("Net" : Str), ("check_names" : Str), ("on_span" : Str), ("on_all_spans" : Str), ("kept_minutes" : Str), ("sum_over" : Str), ("arcs_of" : Str), ("walk_along" : Str), ("least_walks" : Str), ("tree_of" : Str), ("Base" : Str), ("turn_of" : Str), ("rounds_on" : Str), ("Island" : Str), ("Times" : Str), ("_law_pool" : Str), ("_law_draw" : Str), ("_law_some" : Str), ("_law_word" : Str), ("_law_names" : Str), ("_law_length" : Str), ("_law_weight" : Str), ("_law_changes" : Str), ("_law_window" : Str), ("_law_span" : Str), ("_law_case" : Str), ("_law_minutes" : Str), ("_law_is_int" : Str), ("_law_same" : Str), ("_law_gone" : Str), ("_law_all_gone" : Str), ("_law_rooms" : Str), ("_law_nearer" : Str)]
theorem run (w : World) : HandSHeadRun.RunEq Rw (PySem.W.view Rw.prog [67]) hk ob 8000 loose w := by
  intro os
  kernel_rfl
end RM
namespace RM
open PySem PySem.Spec PyProof.Rows L2
/-! ### readings of classes, tuples, lists -/
section
variable {σ : L2.St} {H : Hp} {Q : VK} {v : V} {ta tb tc : TE} {tl : TA} {t u : TT} {D : Ends} {K : PySem.W.Frag} {sp : Sp} {E : XK} {QA : List V → Hp → Prop} {C : Addr} {f m : Str}
theorem wp_fldC (h : ta σ H fun x H1 => ∃ a dx fs v, x = .ref a ∧ H1 a = some (.ins C dx fs) ∧ fs.lookup f = some v ∧ Q v H1) : tFldC C ta f σ H Q := h
theorem fld_at {a dx : Addr} {fs : List (Str × V)} {R : V → Prop} (ha : H a = some (.ins C dx fs)) (hl : fs.lookup f = some v) (q : R v) : ∃ a' dx fs v, V.ref a = .ref a' ∧ H a' = some (.ins C dx fs) ∧ fs.lookup f = some v ∧ R v := ⟨a, dx, fs, v, rfl, ha, hl, q⟩
theorem wp_sfldC {v : TE} (h : v σ H fun y H1 => ta σ H1 fun x H2 => ∃ a dx fs, x = .ref a ∧ H2 a = some (.ins C dx fs) ∧ fs.length < 1000 ∧ D.nx σ (upd H2 a (.ins C dx (putF f y fs)))) : sFldC C ta v f D σ H := h
theorem sfld_at {a dx : Addr} {fs gs : List (Str × V)} {R : Hp → Prop} (ha : H a = some (.ins C dx fs)) (hl : fs.length < 1000) (e : putF f v fs = gs) (q : R (upd H a (.ins C dx gs))) : ∃ a' dx fs, V.ref a = .ref a' ∧ H a' = some (.ins C dx fs) ∧ fs.length < 1000 ∧ R (upd H a' (.ins C dx (putF f v fs))) := ⟨a, dx, fs, rfl, ha, hl, by rw [e]; exact q⟩
theorem wp_prop (h : ta σ H fun x H1 => ∃ a dx fs, x = .ref a ∧ H1 a = some (.ins C dx fs) ∧ sp [.ref a] H1 Q E) : tProp C sp [] E ta σ H Q := h
theorem own_at {a dx : Addr} {fs : List (Str × V)} {R : Addr → Prop} (ha : H a = some (.ins C dx fs)) (q : R a) : ∃ a' dx fs, V.ref a = .ref a' ∧ H a' = some (.ins C dx fs) ∧ R a' := ⟨a, dx, fs, rfl, ha, q⟩
def MetW (C : Addr) (m : Str) (sp : Sp) (E : XK) (t : TA) (σ : L2.St) (Q : VK) (x : V) (H1 : Hp) : Prop := ∃ a dx fs, x = .ref a ∧ H1 a = some (.ins C dx fs) ∧ fs.lookup m = none ∧ t σ H1 fun vs H2 => sp (x :: (vs ++ [])) H2 Q E
theorem wp_meth (h : ta σ H fun x H1 => MetW C m sp E tl σ Q x H1) : tMeth C m sp [] E ta tl σ H Q := h
theorem met_at {a dx : Addr} {fs : List (Str × V)} (ha : H a = some (.ins C dx fs)) (hl : fs.lookup m = none) (q : tl σ H fun vs H2 => sp (.ref a :: vs) H2 Q E) : MetW C m sp E tl σ Q (.ref a) H := ⟨a, dx, fs, rfl, ha, hl, by simpa only [List.append_nil] using q⟩
def MkW (C : Addr) (sp : Sp) (E : XK) (Q : VK) (vs : List V) (H1 : Hp) : Prop := ∀ x dx, H1 x = none → H1 dx = none → dx ≠ x → sp (.ref x :: vs) (upd (upd H1 dx (.own x)) x (.ins C dx [])) (fun v H2 => v = .non ∧ Q (.ref x) H2) E
theorem wp_make (h : tl σ H fun vs H1 => MkW C sp E Q vs H1) : tMake C sp [] E tl σ H Q := by
  show tl σ H fun vs H1 => ∀ x dx, H1 x = none → H1 dx = none → dx ≠ x → sp (.ref x :: (vs ++ [])) (upd (upd H1 dx (.own x)) x (.ins C dx [])) (fun v H2 => v = .non ∧ Q (.ref x) H2) E
  simp only [List.append_nil]
  exact h
theorem wp_gtup {n : Nat} {a : Addr} {xs : List V} {gs : TGs} {QS : L2.St → Hp → Prop} (hx : SqT K H a xs) (hn : xs.length = n) (h : gs xs σ H QS) : gTup K n gs (.ref a) σ H QS := ⟨a, xs, rfl, hx, hn, h⟩
theorem wp_gcons {g : TG} {gs : TGs} {r : List V} {QS : L2.St → Hp → Prop} (h : g v σ H fun σ' H' => gs r σ' H' QS) : gCons g gs (v :: r) σ H QS := ⟨v, r, rfl, h⟩
theorem wp_gnil {QS : L2.St → Hp → Prop} (h : QS σ H) : gNil [] σ H QS := ⟨rfl, h⟩
theorem wp_enum {g : TG} {tb : TS} (h : tl σ H fun vs H1 => ∃ a xs, vs = [.ref a] ∧ SqL K H1 a xs ∧ ForW (Ite K a) g tb D σ H1) : tFor (iEnum K tl) g tb D σ H := h
theorem loopE {g : TG} {tb : TS} {a : Addr} {xs : List V} (hx : SqL K H a xs) (Pv : Nat → L2.St → Hp → Prop) (h0 : Pv 0 σ H) (hl : ∀ i σ' H', i ≤ xs.length → Pv i σ' H' → SqL K H' a xs)
    (hs : ∀ i x T σ' H', xs[i]? = some x → Pv i σ' H' → H' T = none → g (.ref T) σ' (upd H' T (.tup [.int (i : Nat), x])) fun σ2 H2 => tb { D with nx := Pv (i + 1), ct := Pv (i + 1), bk := D.nx } σ2 H2) (hd : ∀ σ' H', Pv xs.length σ' H' → D.nx σ' H') :
    ∃ b ys, [V.ref a] = [.ref b] ∧ SqL K H b ys ∧ ForW (Ite K b) g tb D σ H := by
  refine ⟨a, xs, rfl, hx, for_it walk_enum Pv h0 hl (fun i v σ' H1 H2 hi p y => ?_) hd⟩
  obtain ⟨T, x, y', h1, h2, h3, h4, h5⟩ := y
  subst h1
  cases h4
  rw [h3]
  exact hs i y' T σ' H1 h5 p h2
theorem wp_cat {l b : Addr} {xs zs : List V} (h1 : H l = some (.lst xs)) (h2 : H b = some (.lst zs)) (hl : xs.length + zs.length ≤ 100000) (k : ∀ p, H p = none → Q (.ref p) (upd H p (.lst (xs ++ zs)))) : rCat (.ref l) (.ref b) H Q := ⟨l, b, xs, zs, rfl, rfl, h1, h2, szl hl, k⟩
theorem wp_sliceL {a : Addr} {xs : List V} {lo hi : Option Int} (hx : SqL K H a xs) (k : ∀ p, H p = none → Q (.ref p) (upd H p (.lst (cutG xs lo hi)))) : rSlL K (.ref a) lo hi H Q := ⟨a, xs, rfl, hx, k⟩
theorem wp_rixL {a : Addr} {k : Int} {xs : List V} (hx : SqL K H a xs) (ha : atI xs k = some v) (h : Q v H) : rIx K (.ref a) (.int k) H Q := .inl ⟨a, xs, k, v, rfl, rfl, hx, ha, h⟩
theorem wp_rixT {a : Addr} {k : Int} {xs : List V} (hx : SqT K H a xs) (ha : atI xs k = some v) (h : Q v H) : rIx K (.ref a) (.int k) H Q := .inr (.inl ⟨a, xs, k, v, rfl, rfl, hx, ha, h⟩)
theorem wp_isN {x : V} (h : Q (.bl (decide (x = .non))) H) : rIsN x .non H Q := ⟨rfl, h⟩
theorem wp_isC {a dx : Addr} {fs : List (Str × V)} (ha : H a = some (.ins C dx fs)) (h : Q (.bl true) H) : rIsC C [.ref a, .ref C] H Q := ⟨a, dx, fs, rfl, ha, h⟩
theorem wp_iterL {l : Addr} {zs : List V} (hx : SqL K H l zs) (h : ∀ it, H it = none → Q (.ref it) (upd H it (ItO l it 0))) : rIter K [.ref l] H Q := ⟨l, zs, rfl, hx, h⟩
theorem at_nth {α : Type} {xs : List α} {i : Nat} {x : α} (h : xs[i]? = some x) : atI xs (i : Int) = some x := atI_nat h
end
/-! ### the same data, told by the law -/
def Sc (v : V) : Prop := v = .non ∨ (∃ b, v = .bl b) ∨ (∃ i, v = .int i) ∨ ∃ z, v = .str z
def Sm (H : Hp) : Nat → V → V → Prop
  | 0, _, _ => False
  | n + 1, u, v => (u = v ∧ Sc u) ∨ ∃ (a b : Addr) (xs ys : List V), u = .ref a ∧ v = .ref b ∧ ((H a = some (.lst xs) ∧ H b = some (.lst ys)) ∨ (H a = some (.tup xs) ∧ H b = some (.tup ys))) ∧
      xs.length = ys.length ∧ ys.length ≤ 1000 ∧ ∀ (i : Nat) (x y : V), xs[i]? = some x → ys[i]? = some y → Sm H n x y
theorem Sm.mono {H H' : Hp} (e : Same H H') : ∀ {n : Nat} {u v : V}, Sm H n u v → Sm H' n u v
  | 0, _, _, h => h.elim
  | n + 1, u, v, h => by
    rcases h with h | ⟨a, b, xs, ys, h1, h2, h3, h4, h5, h6⟩
    · exact .inl h
    · refine .inr ⟨a, b, xs, ys, h1, h2, ?_, h4, h5, fun i x y hx hy => Sm.mono e (h6 i x y hx hy)⟩
      rcases h3 with ⟨p, q⟩ | ⟨p, q⟩
      · exact .inl ⟨e _ _ p, e _ _ q⟩
      · exact .inr ⟨e _ _ p, e _ _ q⟩
section
variable {H : Hp} {n : Nat}
theorem sm_int {i : Int} : Sm H (n + 1) (.int i) (.int i) := .inl ⟨rfl, .inr (.inr (.inl ⟨i, rfl⟩))⟩
theorem sm_str {z : Str} : Sm H (n + 1) (.str z) (.str z) := .inl ⟨rfl, .inr (.inr (.inr ⟨z, rfl⟩))⟩
theorem sm_bl {b : Bool} : Sm H (n + 1) (.bl b) (.bl b) := .inl ⟨rfl, .inr (.inl ⟨b, rfl⟩)⟩
theorem sm_non : Sm H (n + 1) .non .non := .inl ⟨rfl, .inl rfl⟩
theorem sm_lst {a b : Addr} {xs : List V} (h1 : H a = some (.lst xs)) (h2 : H b = some (.lst xs)) (hl : xs.length ≤ 1000) (h : ∀ x ∈ xs, Sm H n x x) : Sm H (n + 1) (.ref a) (.ref b) :=
  .inr ⟨a, b, xs, xs, rfl, rfl, .inl ⟨h1, h2⟩, rfl, hl, fun i x y hx hy => by
    rw [hx] at hy
    cases hy
    exact h x (List.mem_of_getElem? hx)⟩
theorem sm_tup {a b : Addr} {xs : List V} (h1 : H a = some (.tup xs)) (h2 : H b = some (.tup xs)) (hl : xs.length ≤ 1000) (h : ∀ x ∈ xs, Sm H n x x) : Sm H (n + 1) (.ref a) (.ref b) :=
  .inr ⟨a, b, xs, xs, rfl, rfl, .inr ⟨h1, h2⟩, rfl, hl, fun i x y hx hy => by
    rw [hx] at hy
    cases hy
    exact h x (List.mem_of_getElem? hx)⟩
theorem sm_names {a b : Addr} {ns : List (List Nat)} (h1 : H a = some (.lst (ns.map sv))) (h2 : H b = some (.lst (ns.map sv))) (hl : ns.length ≤ 1000) : Sm H (n + 2) (.ref a) (.ref b) :=
  sm_lst h1 h2 (by simpa using hl) fun x hx => by
    obtain ⟨l, _, rfl⟩ := List.mem_map.mp hx
    exact sm_str
end
/-! ### rows: the spans -/
structure Row where
  u : List Nat
  v : List Nat
  lo : Int
  hi : Int
  w : Int
deriving DecidableEq
def rowV (r : Row) : List V := [sv r.u, sv r.v, .int r.lo, .int r.hi, .int r.w]
structure OkR (T : Int) (ns : List (List Nat)) (r : Row) : Prop where
  u : r.u ∈ ns
  v : r.v ∈ ns
  ne : r.u ≠ r.v
  l0 : 0 ≤ r.lo
  l1 : r.lo ≤ T - 1
  h0 : r.lo ≤ r.hi
  h1 : r.hi ≤ r.lo + T - 3
  w0 : 0 ≤ r.w
  w1 : r.w ≤ 99
def IsRow (H : Hp) (x : V) (r : Row) : Prop := ∃ p, x = .ref p ∧ H p = some (.tup (rowV r))
def IsSp (H : Hp) (T : Int) (ns : List (List Nat)) (x : V) : Prop := ∃ r, IsRow H x r ∧ OkR T ns r
theorem IsRow.mono {H H' : Hp} (e : Same H H') {x : V} {r : Row} (h : IsRow H x r) : IsRow H' x r := by
  obtain ⟨p, h1, h2⟩ := h
  exact ⟨p, h1, e _ _ h2⟩
theorem IsSp.mono {H H' : Hp} (e : Same H H') {T : Int} {ns : List (List Nat)} {x : V} (h : IsSp H T ns x) : IsSp H' T ns x := by
  obtain ⟨r, h1, h2⟩ := h
  exact ⟨r, h1.mono e, h2⟩
theorem sm_row {H : Hp} {n : Nat} {x : V} {r : Row} (h : IsRow H x r) : Sm H (n + 2) x x := by
  obtain ⟨p, rfl, h⟩ := h
  refine sm_tup h h (by simp [rowV]) fun y hy => ?_
  simp only [rowV, List.mem_cons, List.not_mem_nil, or_false] at hy
  rcases hy with rfl | rfl | rfl | rfl | rfl
  · exact sm_str
  · exact sm_str
  · exact sm_int
  · exact sm_int
  · exact sm_int
theorem sm_spans {H : Hp} {n : Nat} {a b : Addr} {T : Int} {ns : List (List Nat)} {ss : List V} (h1 : H a = some (.lst ss)) (h2 : H b = some (.lst ss)) (hl : ss.length ≤ 1000) (h : ∀ x ∈ ss, IsSp H T ns x) : Sm H (n + 3) (.ref a) (.ref b) :=
  sm_lst h1 h2 hl fun x hx => by
    obtain ⟨r, h, _⟩ := h x hx
    exact sm_row h
/-- what a net may be made of -/
structure OkNs (T : Int) (ns : List (List Nat)) : Prop where
  t0 : 3 ≤ T
  t1 : T ≤ 120
  few : ns.length ≤ 12
  nodup : ns.Nodup
  nm : ∀ l ∈ ns, Nm l
structure OkSp (H : Hp) (T : Int) (ns : List (List Nat)) (ss : List V) : Prop where
  few : ss.length ≤ 24
  sp : ∀ x ∈ ss, IsSp H T ns x
theorem OkSp.mono {H H' : Hp} (e : Same H H') {T : Int} {ns : List (List Nat)} {ss : List V} (h : OkSp H T ns ss) : OkSp H' T ns ss := ⟨h.few, fun x hx => (h.sp x hx).mono e⟩
/-! ### == of names and rows -/
def nD (ns : List (List Nat)) : List PyData := ns.map fun l => .str (S l)
def rD (r : Row) : PyData := .tuple [.str (S r.u), .str (S r.v), .int r.lo, .int r.hi, .int r.w]
theorem S_beq (a b : List Nat) : (S a == S b) = decide (a = b) := SX.S_beq_eq ..
theorem eqv_names : ∀ {a b : List (List Nat)}, PyData.eqvAll (nD a) (nD b) = decide (a = b)
  | [], [] => rfl
  | [], _ :: _ => rfl
  | _ :: _, [] => rfl
  | x :: a, y :: b => by
    show ((S x == S y) && PyData.eqvAll (nD a) (nD b)) = _
    rw [eqv_names, S_beq, ← Bool.decide_and]
    exact decide_eq_decide.mpr (by simp)
theorem eqv_row {a b : Row} : PyData.eqv (rD a) (rD b) = decide (a = b) := by
  show ((S a.u == S b.u) && ((S a.v == S b.v) && ((a.lo == b.lo) && ((a.hi == b.hi) && ((a.w == b.w) && true))))) = _
  rw [S_beq, S_beq, Bool.eq_iff_iff]
  obtain ⟨u, v, l, h, w⟩ := a
  obtain ⟨u', v', l', h', w'⟩ := b
  simp
theorem eqv_rows : ∀ {a b : List Row}, PyData.eqvAll (a.map rD) (b.map rD) = decide (a = b)
  | [], [] => rfl
  | [], _ :: _ => rfl
  | _ :: _, [] => rfl
  | x :: a, y :: b => by
    show (PyData.eqv (rD x) (rD y) && PyData.eqvAll (a.map rD) (b.map rD)) = _
    rw [eqv_rows, eqv_row, ← Bool.decide_and]
    exact decide_eq_decide.mpr (by simp)
inductive Rws (H : Hp) : List V → List Row → Prop
  | nil : Rws H [] []
  | cons {x : V} {r : Row} {xs : List V} {rs : List Row} : IsRow H x r → Rws H xs rs → Rws H (x :: xs) (r :: rs)
theorem rws_ex {H : Hp} {T : Int} {ns : List (List Nat)} : ∀ {ss : List V}, (∀ x ∈ ss, IsSp H T ns x) → ∃ rs, Rws H ss rs
  | [], _ => ⟨[], .nil⟩
  | x :: ss, h => by
    obtain ⟨rs, h2⟩ := rws_ex fun y hy => h y (List.mem_cons_of_mem _ hy)
    obtain ⟨r, h1, _⟩ := h x List.mem_cons_self
    exact ⟨r :: rs, .cons h1 h2⟩
theorem Rws.mono {H H' : Hp} (e : Same H H') : ∀ {ss : List V} {rs : List Row}, Rws H ss rs → Rws H' ss rs
  | _, _, .nil => .nil
  | _, _, .cons h t => .cons (h.mono e) (t.mono e)
theorem Rws.len {H : Hp} : ∀ {ss : List V} {rs : List Row}, Rws H ss rs → ss.length = rs.length
  | _, _, .nil => rfl
  | _, _, .cons _ t => by rw [List.length_cons, List.length_cons, t.len]
theorem Rws.at {H : Hp} : ∀ {ss : List V} {rs : List Row} {i : Nat} {x : V}, Rws H ss rs → ss[i]? = some x → ∃ r, rs[i]? = some r ∧ IsRow H x r
  | _, _, 0, x, .cons h _, e => by
    cases e
    exact ⟨_, rfl, h⟩
  | _, _, i + 1, x, .cons _ t, e => Rws.at (i := i) t e
theorem IsRow.inj {H : Hp} {x : V} {a b : Row} (h : IsRow H x a) (k : IsRow H x b) : a = b := by
  obtain ⟨p, rfl, h⟩ := h
  obtain ⟨q, e, k⟩ := k
  cases e
  rw [h] at k
  obtain ⟨u, v, l, h, w⟩ := a
  obtain ⟨u', v', l', h', w'⟩ := b
  simp only [rowV, Option.some.injEq, HO.tup.injEq, List.cons.injEq, V.str.injEq, V.int.injEq, and_true] at k
  obtain ⟨k1, k2, k3, k4, k5⟩ := k
  rw [S_inj k1, S_inj k2, k3, k4, k5]
section
variable {K : PySem.W.Frag} {H : Hp}
theorem dp_names : ∀ ns : List (List Nat), DpAll K H (ns.map sv) (nD ns)
  | [] => .nil
  | l :: ns => .cons (.str _) (dp_names ns)
theorem dp_row {x : V} {r : Row} (h : IsRow H x r) : Dp K H x (rD r) := by
  obtain ⟨p, rfl, h⟩ := h
  exact .tup (st_of h) (.cons (.str _) (.cons (.str _) (.cons (.int _) (.cons (.int _) (.cons (.int _) .nil)))))
theorem dp_rows : ∀ {ss : List V} {rs : List Row}, Rws H ss rs → DpAll K H ss (rs.map rD)
  | _, _, .nil => .nil
  | _, _, .cons h t => .cons (dp_row h) (dp_rows t)
end
def Asc (l : List Nat) : Prop := ∀ c ∈ l, c < 127
theorem nm_asc {l : List Nat} (h : Nm l) : Asc l := fun c hc => by rcases h.all c hc with h | h <;> omega
theorem asc_ok {l : List Nat} (h : Asc l) : PyData.strOk (S l) = true := by
  unfold PyData.strOk
  rw [show (S l).cps = l.toArray from rfl, List.all_toArray, List.all_eq_true]
  intro c hc
  have := h c hc
  exact decide_eq_true (by omega)
theorem lay_names : ∀ {ns : List (List Nat)}, (∀ l ∈ ns, Asc l) → PyData.canLayAll0 (nD ns) = true ∧ PyData.depthAll (nD ns) = 0
  | [], _ => ⟨rfl, rfl⟩
  | l :: ns, h => by
    obtain ⟨h1, h2⟩ := lay_names (ns := ns) fun x hx => h x (List.mem_cons_of_mem _ hx)
    refine ⟨?_, ?_⟩
    · show (PyData.strOk (S l) && PyData.canLayAll0 (nD ns)) = true
      rw [asc_ok (h l List.mem_cons_self), h1]
      rfl
    · show max 0 (PyData.depthAll (nD ns)) = 0
      rw [h2]
      rfl
theorem sh_names {ns : List (List Nat)} (h : ∀ l ∈ ns, Asc l) : SeqAt.shaped (.list (nD ns)) = true := by
  obtain ⟨h1, h2⟩ := lay_names h
  show (PyData.canLayAll0 (nD ns) && decide (PyData.depthAll (nD ns) + 1 ≤ 64)) = true
  rw [h1, h2]
  rfl
structure AscR (r : Row) : Prop where
  u : Asc r.u
  v : Asc r.v
theorem lay_row {r : Row} (h : AscR r) : PyData.canLay0 (rD r) = true ∧ PyData.depth (rD r) = 1 := by
  refine ⟨?_, rfl⟩
  show (PyData.strOk (S r.u) && (PyData.strOk (S r.v) && _)) = true
  rw [asc_ok h.u, asc_ok h.v]
  rfl
theorem sh_row {r : Row} (h : AscR r) : SeqAt.shaped (rD r) = true := by
  obtain ⟨h1, h2⟩ := lay_row h
  show (PyData.canLay0 (rD r) && decide (PyData.depth (rD r) ≤ 64)) = true
  rw [h1, h2]
  rfl
theorem lay_rows : ∀ {rs : List Row}, (∀ r ∈ rs, AscR r) → PyData.canLayAll0 (rs.map rD) = true ∧ PyData.depthAll (rs.map rD) ≤ 1
  | [], _ => ⟨rfl, Nat.zero_le _⟩
  | l :: ns, h => by
    obtain ⟨h1, h2⟩ := lay_rows (rs := ns) fun x hx => h x (List.mem_cons_of_mem _ hx)
    obtain ⟨h3, h4⟩ := lay_row (h l List.mem_cons_self)
    refine ⟨?_, ?_⟩
    · show (PyData.canLay0 (rD l) && PyData.canLayAll0 (ns.map rD)) = true
      rw [h3, h1]
      rfl
    · show max (PyData.depth (rD l)) (PyData.depthAll (ns.map rD)) ≤ 1
      omega
theorem sh_rows {rs : List Row} (h : ∀ r ∈ rs, AscR r) : SeqAt.shaped (.list (rs.map rD)) = true := by
  obtain ⟨h1, h2⟩ := lay_rows h
  show (PyData.canLayAll0 (rs.map rD) && decide (PyData.depthAll (rs.map rD) + 1 ≤ 64)) = true
  rw [h1]
  exact decide_eq_true (by omega)
theorem Rws.all {H : Hp} {T : Int} {ns : List (List Nat)} (hn : ∀ l ∈ ns, Nm l) {ss : List V} {rs : List Row} (h : ∀ x ∈ ss, IsSp H T ns x) (t : Rws H ss rs) : ∀ r ∈ rs, OkR T ns r ∧ AscR r := by
  induction t with
  | nil => simp
  | @cons x r xs rs h1 t ih =>
    intro q hq
    rcases List.mem_cons.mp hq with rfl | hq
    · obtain ⟨r', k1, k2⟩ := h x List.mem_cons_self
      have e := k1.inj h1
      subst e
      exact ⟨k2, nm_asc (hn _ k2.u), nm_asc (hn _ k2.v)⟩
    · exact ih (fun y hy => h y (List.mem_cons_of_mem _ hy)) q hq
section
variable {K : PySem.W.Frag} {H : Hp} {Q : VK} {a b : Addr}
theorem wp_eqN {ns ms : List (List Nat)} (h1 : H a = some (.lst (ns.map sv))) (h2 : H b = some (.lst (ms.map sv))) (k1 : ∀ l ∈ ns, Asc l) (k2 : ∀ l ∈ ms, Asc l) (q : Q (.bl (decide (ns = ms))) H) : rEqD K (.ref a) (.ref b) H Q := by
  refine ⟨.list (nD ns), .list (nD ms), .lst (sq_of h1) (dp_names _), .lst (sq_of h2) (dp_names _), sh_names k1, sh_names k2, ?_⟩
  show Q (.bl (PyData.eqvAll (nD ns) (nD ms))) H
  rw [eqv_names]
  exact q
theorem wp_neN {ns ms : List (List Nat)} (h1 : H a = some (.lst (ns.map sv))) (h2 : H b = some (.lst (ms.map sv))) (k1 : ∀ l ∈ ns, Asc l) (k2 : ∀ l ∈ ms, Asc l) (q : Q (.bl (!decide (ns = ms))) H) : rNeD K (.ref a) (.ref b) H Q := by
  refine ⟨.list (nD ns), .list (nD ms), .lst (sq_of h1) (dp_names _), .lst (sq_of h2) (dp_names _), sh_names k1, sh_names k2, ?_⟩
  show Q (.bl (!PyData.eqvAll (nD ns) (nD ms))) H
  rw [eqv_names]
  exact q
theorem wp_eqR {ss ts : List V} {rs qs : List Row} (h1 : H a = some (.lst ss)) (h2 : H b = some (.lst ts)) (r1 : Rws H ss rs) (r2 : Rws H ts qs) (k1 : ∀ r ∈ rs, AscR r) (k2 : ∀ r ∈ qs, AscR r) (q : Q (.bl (decide (rs = qs))) H) : rEqD K (.ref a) (.ref b) H Q := by
  refine ⟨.list (rs.map rD), .list (qs.map rD), .lst (sq_of h1) (dp_rows r1), .lst (sq_of h2) (dp_rows r2), sh_rows k1, sh_rows k2, ?_⟩
  show Q (.bl (PyData.eqvAll (rs.map rD) (qs.map rD))) H
  rw [eqv_rows]
  exact q
theorem wp_neR {ss ts : List V} {rs qs : List Row} (h1 : H a = some (.lst ss)) (h2 : H b = some (.lst ts)) (r1 : Rws H ss rs) (r2 : Rws H ts qs) (k1 : ∀ r ∈ rs, AscR r) (k2 : ∀ r ∈ qs, AscR r) (q : Q (.bl (!decide (rs = qs))) H) : rNeD K (.ref a) (.ref b) H Q := by
  refine ⟨.list (rs.map rD), .list (qs.map rD), .lst (sq_of h1) (dp_rows r1), .lst (sq_of h2) (dp_rows r2), sh_rows k1, sh_rows k2, ?_⟩
  show Q (.bl (!PyData.eqvAll (rs.map rD) (qs.map rD))) H
  rw [eqv_rows]
  exact q
theorem wp_neRow {x y : V} {r s : Row} (h1 : IsRow H x r) (h2 : IsRow H y s) (k1 : AscR r) (k2 : AscR s) (q : Q (.bl (!decide (r = s))) H) : rNeD K x y H Q := by
  refine ⟨rD r, rD s, dp_row h1, dp_row h2, sh_row k1, sh_row k2, ?_⟩
  rw [eqv_row]
  exact q
end
/-! ### nets -/
abbrev netF (T : Int) (le ls : Addr) : List (Str × V) := [("_round_length", .int T), ("_events", .ref le), ("_spans", .ref ls)]
def IsNet (C : Addr) (H : Hp) (a : Addr) (T : Int) (ns : List (List Nat)) (ss : List V) : Prop := ∃ dx le ls, H a = some (.ins C dx (netF T le ls)) ∧ H le = some (.lst (ns.map sv)) ∧ H ls = some (.lst ss)
theorem IsNet.mono {C : Addr} {H H' : Hp} (e : Same H H') {a : Addr} {T : Int} {ns : List (List Nat)} {ss : List V} (h : IsNet C H a T ns ss) : IsNet C H' a T ns ss := by
  obtain ⟨dx, le, ls, h1, h2, h3⟩ := h
  exact ⟨dx, le, ls, e _ _ h1, e _ _ h2, e _ _ h3⟩
theorem lk_T {T : Int} {le ls : Addr} : (netF T le ls).lookup ("_round_length" : Str) = some (.int T) := rfl
theorem lk_e {T : Int} {le ls : Addr} : (netF T le ls).lookup ("_events" : Str) = some (.ref le) := rfl
theorem lk_s {T : Int} {le ls : Addr} : (netF T le ls).lookup ("_spans" : Str) = some (.ref ls) := rfl
abbrev netF1 (T : Int) : List (Str × V) := [("_round_length", .int T)]
abbrev netF2 (T : Int) (le : Addr) : List (Str × V) := [("_round_length", .int T), ("_events", .ref le)]
theorem pt_1 {T : Int} : putF "_round_length" (.int T) [] = netF1 T := rfl
theorem pt_2 {T : Int} {le : Addr} : putF "_events" (.ref le) (netF1 T) = netF2 T le := by
  unfold putF
  rw [if_neg (by decide)]
  rfl
theorem pt_3 {T : Int} {le ls : Addr} : putF "_spans" (.ref ls) (netF2 T le) = netF T le ls := by
  unfold putF
  rw [if_neg (by decide)]
  unfold putF
  rw [if_neg (by decide)]
  rfl
/-- all but one thing -/
def rmv (G : Hp) (q : Addr) : Hp := fun a => if a = q then none else G a
theorem rmv_same {G : Hp} {q : Addr} : rmv G q q = none := by unfold rmv; rw [if_pos rfl]
theorem rmv_ne {G : Hp} {q a : Addr} (h : a ≠ q) : rmv G q a = G a := by unfold rmv; rw [if_neg h]
theorem rmv_sub {G : Hp} {q : Addr} : Same (rmv G q) G := fun a o h => by
  by_cases e : a = q
  · rw [e, rmv_same] at h; cases h
  · rw [rmv_ne e] at h; exact h
theorem Same.rmv {G G' : Hp} {q : Addr} (s : Same G G') (h : G q = none) : Same G (rmv G' q) := fun a o ha => by
  rw [rmv_ne (ne_of_none ha h)]
  exact s _ _ ha
theorem Sees.less {P : Pl} {G H : Hp} {q : Addr} {ys : List V} (s : Sees P G H) (hq : G q = some (.lst ys)) (hc : q ≠ P.l) : Sees P (rmv G q) H :=
  ⟨s.pool, by rw [rmv_ne hc.symm]; exact s.cell, s.few, by
    by_cases e : P.p = q
    · rw [e]; exact rmv_same
    · rw [rmv_ne e]; exact s.free, Same.trans rmv_sub s.sub⟩
theorem IsRow.rmv {G : Hp} {q : Addr} {ys : List V} {x : V} {r : Row} (hq : G q = some (.lst ys)) (h : IsRow G x r) : IsRow (rmv G q) x r := by
  obtain ⟨p, rfl, hp⟩ := h
  exact ⟨p, rfl, by rw [rmv_ne (fun e => by rw [e, hq] at hp; cases hp)]; exact hp⟩
theorem IsSp.rmv {G : Hp} {q : Addr} {ys : List V} {T : Int} {ns : List (List Nat)} {x : V} (hq : G q = some (.lst ys)) (h : IsSp G T ns x) : IsSp (rmv G q) T ns x := by
  obtain ⟨r, h1, h2⟩ := h
  exact ⟨r, h1.rmv hq, h2⟩
/-- a list of one's own that is changed: outside of G -/
structure Lcl (P : Pl) (L : Addr) (xs : List V) (G H : Hp) : Prop where
  s : Sees P G H
  h : H L = some (.lst xs)
  g : G L = none
  ne : L ≠ P.p
theorem Lcl.new {P : Pl} {L q : Addr} {xs : List V} {G H : Hp} {o : HO} (l : Lcl P L xs G H) (hq : H q = none) : Lcl P L xs (upd G q o) (upd H q o) :=
  have e : L ≠ q := ne_of_none l.h hq
  ⟨l.s.new hq, by rw [upd_ne e]; exact l.h, by rw [upd_ne e]; exact l.g, l.ne⟩
theorem Lcl.put {P : Pl} {L : Addr} {xs ys : List V} {G H : Hp} (l : Lcl P L xs G H) : Lcl P L ys G (upd H L (.lst ys)) := ⟨l.s.set l.g l.ne, upd_same, l.g, l.ne⟩
theorem Lcl.in_ {P : Pl} {L : Addr} {xs : List V} {G H : Hp} (l : Lcl P L xs G H) : Sees P (upd G L (.lst xs)) H := l.s.with l.g l.h l.ne
theorem Lcl.out {P : Pl} {L : Addr} {xs : List V} {G H H' : Hp} (l : Lcl P L xs G H) (s : Sees P (upd G L (.lst xs)) H') : Lcl P L xs G H' :=
  have z := s.back l.s l.g
  ⟨z.1, z.2, l.g, l.ne⟩
/-! ### rows in parts of lists -/
theorem Rws.app {H : Hp} : ∀ {a : List V} {ra : List Row} {b : List V} {rb : List Row}, Rws H a ra → Rws H b rb → Rws H (a ++ b) (ra ++ rb)
  | _, _, _, _, .nil, k => k
  | _, _, _, _, .cons h t, k => .cons h (t.app k)
theorem Rws.take {H : Hp} : ∀ {a : List V} {ra : List Row} (n : Nat), Rws H a ra → Rws H (a.take n) (ra.take n)
  | _, _, 0, _ => .nil
  | _, _, _ + 1, .nil => .nil
  | _, _, n + 1, .cons h t => .cons h (t.take n)
theorem Rws.drop {H : Hp} : ∀ {a : List V} {ra : List Row} (n : Nat), Rws H a ra → Rws H (a.drop n) (ra.drop n)
  | _, _, 0, h => h
  | _, _, _ + 1, .nil => .nil
  | _, _, n + 1, .cons _ t => t.drop n
theorem IsSp.up {H : Hp} {T T' : Int} {ns ns' : List (List Nat)} {x : V} (h : IsSp H T ns x) (e : T ≤ T') (m : ∀ l ∈ ns, l ∈ ns') : IsSp H T' ns' x := by
  obtain ⟨r, h1, h2⟩ := h
  exact ⟨r, h1, m _ h2.u, m _ h2.v, h2.ne, h2.l0, by have := h2.l1; omega, h2.h0, by have := h2.h1; omega, h2.w0, h2.w1⟩
theorem six_neg {n d : Nat} (h : 0 < n) : HT.sIx n d (some (-1)) = n - 1 := by
  unfold HT.sIx
  simp only []
  split <;> omega
theorem cutG_last {α : Type} {xs : List α} (h : 0 < xs.length) : cutG xs none (some (-1)) = xs.take (xs.length - 1) := by
  unfold cutG
  rw [six_neg h]
  show (xs.drop 0).take (xs.length - 1 - 0) = _
  simp
theorem cutG_to1 {α : Type} {xs : List α} {k : Int} (h0 : 0 ≤ k) (h : k ≤ xs.length) : cutG xs none (some k) = xs.take k.toNat := by
  obtain ⟨j, rfl⟩ : ∃ j : Nat, k = j := ⟨k.toNat, by omega⟩
  rw [cutG_to (by omega), Int.toNat_natCast]
theorem cutG_from1 {α : Type} {xs : List α} {k : Int} (h0 : 0 ≤ k) (h : k ≤ xs.length) : cutG xs (some k) none = xs.drop k.toNat := by
  obtain ⟨j, rfl⟩ : ∃ j : Nat, k = j := ⟨k.toNat, by omega⟩
  rw [cutG_from (by omega), Int.toNat_natCast]
theorem cut_set {α : Type} {xs : List α} {k : Nat} {y : α} (h : k < xs.length) : (xs.take k ++ [y] ++ xs.drop (k + 1))[k]? = some y := by
  have : (xs.take k).length = k := by rw [List.length_take]; omega
  rw [List.append_assoc, List.getElem?_append_right (by omega), this]
  simp
theorem at2 {α : Type} {a b c : α} {xs : List α} : atI (a :: b :: c :: xs) 2 = some c := atI_nat (j := 2) rfl
theorem at3 {α : Type} {a b c d : α} {xs : List α} : atI (a :: b :: c :: d :: xs) 3 = some d := atI_nat (j := 3) rfl
theorem at4 {α : Type} {a b c d e : α} {xs : List α} : atI (a :: b :: c :: d :: e :: xs) 4 = some e := atI_nat (j := 4) rfl
theorem mem_cut {α : Type} {xs : List α} {k m : Nat} {ys : List α} {x : α} (h : x ∈ xs.take k ++ ys ++ xs.drop m) : x ∈ xs ∨ x ∈ ys := by
  rcases List.mem_append.mp h with h | h
  · rcases List.mem_append.mp h with h | h
    · exact .inl (List.mem_of_mem_take h)
    · exact .inr h
  · exact .inl (List.mem_of_mem_drop h)
theorem cut_set2 {α : Type} {xs ys : List α} {k m : Nat} {y : α} (h : k < xs.length) : (xs.take k ++ (y :: ys) ++ xs.drop m)[k]? = some y := by
  have : (xs.take k).length = k := by rw [List.length_take]; omega
  rw [List.append_assoc, List.getElem?_append_right (by omega), this]
  simp
/-! ### comprehensions with tests and tuple targets -/
section
variable {σ : L2.St} {H : Hp} {Q : VK} {K : PySem.W.Frag} {g : TG} {tt : TT} {te : TE} {vs : List Nat}
theorem lcGen {J : It} {n : Nat} {Gd : Hp → Prop} {Y : Nat → Hp → V → Hp → Prop} (w : Walk J n Gd Y) (hn : n ≤ 100000) (hG : ∀ H', Same H H' → Gd H') (hY : ∀ i H2 x H3, Y i H2 x H3 → Same H2 H3) (accs : Nat → List V) (h0 : accs 0 = []) (hlen : ∀ i, (accs i).length ≤ i)
    (hs : ∀ i x H2 H3 (R : VK) (R0 : Hp → Prop), i < n → Same H H2 → Y i H2 x H3 → (∀ y H6, Same H3 H6 → accs (i + 1) = accs i ++ [y] → R y H6) → (∀ H5, Same H3 H5 → accs (i + 1) = accs i → R0 H5) → g x (wipe σ vs) H3 fun σ2 H4 => wipe σ2 vs = wipe σ vs ∧ tt σ2 H4 fun b H5 => if b = true then te σ2 H5 R else R0 H5)
    (hq : ∀ D H2, H D = none → Same H H2 → H2 D = some (.lst (accs n)) → Q (.ref D) H2) : LcW J g tt te vs σ H Q := by
  intro D hD
  refine lc_it w (fun i H2 => Same H H2 ∧ H2 D = some (.lst (accs i))) ⟨Same.new hD, by rw [h0]; exact upd_same⟩ (fun i H2 _ p => hG H2 p.1) (fun i x H2 H3 hi p y => ?_) (fun H2 p => hq D H2 hD p.1 p.2)
  have s3 := hY i H2 x H3 y
  exact hs i x H2 H3 (fun y H4 => ∃ acc, H4 D = some (.lst acc) ∧ acc.length < sizeLine ∧ (Same H (upd H4 D (.lst (acc ++ [y]))) ∧ upd H4 D (.lst (acc ++ [y])) D = some (.lst (accs (i + 1))))) (fun H' => Same H H' ∧ H' D = some (.lst (accs (i + 1)))) hi p.1 y
    (fun y H6 s6 e => ⟨accs i, s6 _ _ (s3 _ _ p.2), szlt (by have := hlen i; omega), Same.mut (p.1.trans (s3.trans s6)) hD, by rw [e]; exact upd_same⟩)
    (fun H5 s5 e => ⟨p.1.trans (s3.trans s5), by rw [e]; exact s5 _ _ (s3 _ _ p.2)⟩)
theorem lcGL {a : Addr} {xs : List V} (hx : SqL K H a xs) (hn : xs.length ≤ 100000) (accs : Nat → List V) (h0 : accs 0 = []) (hlen : ∀ i, (accs i).length ≤ i)
    (hs : ∀ i x H2 (R : VK) (R0 : Hp → Prop), xs[i]? = some x → Same H H2 → (∀ y H6, Same H2 H6 → accs (i + 1) = accs i ++ [y] → R y H6) → (∀ H5, Same H2 H5 → accs (i + 1) = accs i → R0 H5) → g x (wipe σ vs) H2 fun σ2 H4 => wipe σ2 vs = wipe σ vs ∧ tt σ2 H4 fun b H5 => if b = true then te σ2 H5 R else R0 H5)
    (hq : ∀ D H2, H D = none → Same H H2 → H2 D = some (.lst (accs xs.length)) → Q (.ref D) H2) : ∃ b, V.ref a = .ref b ∧ (∃ ys, SqL K H b ys) ∧ LcW (Itl K b) g tt te vs σ H Q :=
  ⟨a, rfl, ⟨xs, hx⟩, lcGen walk_list hn (fun H' s => Same.seq s hx) (fun i H2 x H3 y => by rw [y.1]; exact Same.refl _) accs h0 hlen (fun i x H2 H3 R R0 _ s2 y k1 k0 => by
    obtain ⟨e, hi⟩ := y
    subst e
    exact hs i x _ R R0 hi s2 k1 k0) hq⟩
theorem lcGE {a : Addr} {xs : List V} (hx : SqL K H a xs) (hn : xs.length ≤ 100000) (accs : Nat → List V) (h0 : accs 0 = []) (hlen : ∀ i, (accs i).length ≤ i)
    (hs : ∀ i x T H2 (R : VK) (R0 : Hp → Prop), xs[i]? = some x → Same H H2 → H2 T = some (.tup [.int (i : Nat), x]) → (∀ y H6, Same H2 H6 → accs (i + 1) = accs i ++ [y] → R y H6) → (∀ H5, Same H2 H5 → accs (i + 1) = accs i → R0 H5) → g (.ref T) (wipe σ vs) H2 fun σ2 H4 => wipe σ2 vs = wipe σ vs ∧ tt σ2 H4 fun b H5 => if b = true then te σ2 H5 R else R0 H5)
    (hq : ∀ D H2, H D = none → Same H H2 → H2 D = some (.lst (accs xs.length)) → Q (.ref D) H2) : ∃ b ys, [V.ref a] = [.ref b] ∧ SqL K H b ys ∧ LcW (Ite K b) g tt te vs σ H Q :=
  ⟨a, xs, rfl, hx, lcGen walk_enum hn (fun H' s => Same.seq s hx) (fun i H2 x H3 y => by
    obtain ⟨T, x', y', _, hT, e, _⟩ := y
    rw [e]; exact Same.new hT) accs h0 hlen (fun i x H2 H3 R R0 _ s2 y k1 k0 => by
    obtain ⟨T, x', y', rfl, hT, e, h4, h5⟩ := y
    cases h4
    subst e
    exact hs i y' T _ R R0 h5 (s2.trans (Same.new hT)) upd_same k1 k0) hq⟩
theorem lcGR {n : Nat} (hn : n ≤ 100000) (accs : Nat → List V) (h0 : accs 0 = []) (hlen : ∀ i, (accs i).length ≤ i)
    (hs : ∀ i H2 (R : VK) (R0 : Hp → Prop), i < n → Same H H2 → (∀ y H6, Same H2 H6 → accs (i + 1) = accs i ++ [y] → R y H6) → (∀ H5, Same H2 H5 → accs (i + 1) = accs i → R0 H5) → g (.int (i : Nat)) (wipe σ vs) H2 fun σ2 H4 => wipe σ2 vs = wipe σ vs ∧ tt σ2 H4 fun b H5 => if b = true then te σ2 H5 R else R0 H5)
    (hq : ∀ D H2, H D = none → Same H H2 → H2 D = some (.lst (accs n)) → Q (.ref D) H2) : ∃ j : Int, [V.int n] = [V.int j] ∧ -(2 ^ 62) ≤ j ∧ j < 2 ^ 62 ∧ LcW (Itr 0 j.toNat) g tt te vs σ H Q :=
  ⟨n, rfl, by omega, by omega, lcGen (n := ((n : Int)).toNat) walk_range (by omega) (fun _ _ => trivial) (fun i H2 x H3 y => by rw [y.1]; exact Same.refl _) accs h0 hlen (fun i x H2 H3 R R0 hi s2 y k1 k0 => by
    obtain ⟨e, e2⟩ := y
    subst e
    have e3 : x = .int (i : Nat) := by rw [e2]; exact congrArg V.int (Int.zero_add _)
    subst e3
    exact hs i _ R R0 (by omega) s2 k1 k0) (by rw [Int.toNat_natCast]; exact hq)⟩
theorem wp_lcE {tl : TA} (h : tl σ H fun us H1 => ∃ b ys, us = [.ref b] ∧ SqL K H1 b ys ∧ LcW (Ite K b) g tt te vs σ H1 Q) : tLc (iEnum K tl) g tt te vs σ H Q := h
theorem inV_int {k : Int} {is : List Int} : inV (.int k) (is.map V.int) = decide (k ∈ is) := by
  unfold inV
  rw [List.any_map, Bool.eq_iff_iff, List.any_eq_true, decide_eq_true_eq]
  constructor
  · rintro ⟨x, hx, e⟩
    have e2 : (x == k) = true := e
    rw [beq_iff_eq] at e2
    rw [← e2]; exact hx
  · intro h
    refine ⟨k, h, ?_⟩
    show (k == k) = true
    exact beq_self_eq_true _
theorem wp_notInI {p : Addr} {k : Int} {is : List Int} (hx : SqL K H p (is.map V.int) ∨ SqT K H p (is.map V.int)) (h : Q (.bl (!decide (k ∈ is))) H) : rIn K true (.int k) (.ref p) H Q := by
  refine ⟨p, is.map V.int, rfl, hx, rfl, by rw [List.all_map, List.all_eq_true]; intro x _; rfl, ?_⟩
  show Q (.bl (!inV (.int k) (is.map V.int))) H
  rw [inV_int]; exact h
end
/-- what stays of a list without these places -/
def keepG {α : Type} (is : List Int) (xs : List α) : Nat → List α
  | 0 => []
  | i + 1 => if (i : Int) ∈ is then keepG is xs i else keepG is xs i ++ (xs[i]?).toList
theorem keepG_len {α : Type} {is : List Int} {xs : List α} : ∀ i, (keepG is xs i).length ≤ i
  | 0 => Nat.le_refl _
  | i + 1 => by
    unfold keepG
    have := keepG_len (is := is) (xs := xs) i
    split
    · omega
    · rw [List.length_append]
      cases xs[i]? <;> simp <;> omega
theorem keepG_mem {α : Type} {is : List Int} {xs : List α} {y : α} : ∀ {i}, y ∈ keepG is xs i → y ∈ xs
  | 0, h => absurd h (by simp [keepG])
  | i + 1, h => by
    unfold keepG at h
    split at h
    · exact keepG_mem h
    · rcases List.mem_append.mp h with h | h
      · exact keepG_mem h
      · cases e : xs[i]? with
        | none => rw [e] at h; simp at h
        | some z =>
          rw [e] at h
          simp at h
          rw [h]
          exact List.mem_of_getElem? e
theorem Rws.keep {H : Hp} {ss : List V} {rs : List Row} (h : Rws H ss rs) (is : List Int) : ∀ n, Rws H (keepG is ss n) (keepG is rs n)
  | 0 => .nil
  | n + 1 => by
    unfold keepG
    split
    · exact h.keep is n
    · refine (h.keep is n).app ?_
      cases e : ss[n]? with
      | none =>
        have : rs[n]? = none := by
          rw [List.getElem?_eq_none_iff] at e ⊢
          rw [← h.len]; exact e
        rw [this]
        exact .nil
      | some x =>
        obtain ⟨r, e1, e2⟩ := h.at e
        rw [e1]
        exact .cons e2 .nil
def flipR (r : Row) : Row := ⟨r.v, r.u, r.lo, r.hi, r.w⟩
theorem OkR.flip {T : Int} {ns : List (List Nat)} {r : Row} (k : OkR T ns r) : OkR T ns (flipR r) := ⟨k.v, k.u, k.ne.symm, k.l0, k.l1, k.h0, k.h1, k.w0, k.w1⟩
/-- rows that are good make good spans -/
theorem Rws.sp {H : Hp} {T : Int} {ns : List (List Nat)} {ss : List V} {rs : List Row} (h : Rws H ss rs) (k : ∀ r ∈ rs, OkR T ns r) : ∀ x ∈ ss, IsSp H T ns x := by
  induction h with
  | nil => simp
  | @cons x r xs rs h1 t ih =>
    intro z hz
    rcases List.mem_cons.mp hz with rfl | hz
    · exact ⟨r, h1, k r List.mem_cons_self⟩
    · exact ih (fun y hy => k y (List.mem_cons_of_mem _ hy)) z hz
theorem Rws.okr {H : Hp} {T : Int} {ns : List (List Nat)} {ss : List V} {rs : List Row} (h : Rws H ss rs) (k : ∀ x ∈ ss, IsSp H T ns x) : ∀ r ∈ rs, OkR T ns r := by
  induction h with
  | nil => simp
  | @cons x r xs rs h1 t ih =>
    intro z hz
    rcases List.mem_cons.mp hz with rfl | hz
    · obtain ⟨r', k1, k2⟩ := k x List.mem_cons_self
      rw [h1.inj k1]
      exact k2
    · exact ih (fun y hy => k y (List.mem_cons_of_mem _ hy)) z hz
theorem sm_rows {H : Hp} {n : Nat} {x y : V} {r : Row} (h : IsRow H x r) (k : IsRow H y r) : Sm H (n + 2) x y := by
  obtain ⟨p, rfl, h⟩ := h
  obtain ⟨q, rfl, k⟩ := k
  refine sm_tup h k (by simp [rowV]) fun y hy => ?_
  simp only [rowV, List.mem_cons, List.not_mem_nil, or_false] at hy
  rcases hy with rfl | rfl | rfl | rfl | rfl
  · exact sm_str
  · exact sm_str
  · exact sm_int
  · exact sm_int
  · exact sm_int
theorem sm_rws {H : Hp} {n : Nat} {a b : Addr} {xs ys : List V} {rs : List Row} (ha : H a = some (.lst xs)) (hb : H b = some (.lst ys)) (h : Rws H xs rs) (k : Rws H ys rs) (hl : rs.length ≤ 1000) : Sm H (n + 3) (.ref a) (.ref b) :=
  .inr ⟨a, b, xs, ys, rfl, rfl, .inl ⟨ha, hb⟩, by rw [h.len, k.len], by rw [k.len]; exact hl, fun i x y hx hy => by
    obtain ⟨r, e1, e2⟩ := h.at hx
    obtain ⟨s, e3, e4⟩ := k.at hy
    rw [e1] at e3
    cases e3
    exact sm_rows e2 e4⟩
section
variable {σ : L2.St} {H : Hp} {Q : VK} {K : PySem.W.Frag} {g : TG} {te : TE} {vs : List Nat}
/-- a comprehension that makes new things: I speaks of what is known (G), the list itself aside -/
theorem lcInvL {a : Addr} {xs : List V} (hx : SqL K H a xs) (hn : xs.length ≤ 100000) (I : Nat → List V → Hp → Prop) (h0 : I 0 [] H)
    (hs : ∀ i x acc G H2 (R : VK), xs[i]? = some x → Same H G → Same G H2 → I i acc G → (∀ y G' H6, Same G G' → Same G' H6 → Same H2 H6 → (∀ q o, H2 q = some o → G q = none → G' q = none) → I (i + 1) (acc ++ [y]) G' → R y H6) → g x (wipe σ vs) H2 fun σ2 H4 => wipe σ2 vs = wipe σ vs ∧ te σ2 H4 R)
    (hq : ∀ D acc G H2, H D = none → Same H G → Same G H2 → H2 D = some (.lst acc) → acc.length ≤ xs.length → I xs.length acc G → G D = none → Q (.ref D) H2) : ∃ b, V.ref a = .ref b ∧ (∃ ys, SqL K H b ys) ∧ LcW (Itl K b) g tYes te vs σ H Q := by
  refine ⟨a, rfl, ⟨xs, hx⟩, ?_⟩
  intro D hD
  refine lc_it (walk_list (xs := xs)) (fun i H2 => ∃ acc G, Same H G ∧ Same G H2 ∧ G D = none ∧ H2 D = some (.lst acc) ∧ acc.length ≤ i ∧ I i acc G) ⟨[], H, Same.refl _, Same.new hD, hD, upd_same, Nat.le_refl _, h0⟩ (fun i H2 _ p => ?_) (fun i x H2 H3 hi p y => ?_) (fun H2 p => ?_)
  · obtain ⟨acc, G, s1, s2, _⟩ := p
    exact Same.seq (s1.trans s2) hx
  · obtain ⟨e, hi2⟩ := y
    subst e
    obtain ⟨acc, G, s1, s2, gD, hD2, hl, hI⟩ := p
    have z := hs i x acc G _ (fun y H4 => ∃ acc', H4 D = some (.lst acc') ∧ acc'.length < sizeLine ∧ ∃ acc2 G2, Same H G2 ∧ Same G2 (upd H4 D (.lst (acc' ++ [y]))) ∧ G2 D = none ∧ upd H4 D (.lst (acc' ++ [y])) D = some (.lst acc2) ∧ acc2.length ≤ i + 1 ∧ I (i + 1) acc2 G2) hi2 s1 s2 hI
      (fun y G' H6 t1 t2 t3 t4 hI2 => ⟨acc, t3 _ _ hD2, szlt (by omega), acc ++ [y], G', s1.trans t1, Same.mut t2 (t4 _ _ hD2 gD), t4 _ _ hD2 gD, upd_same, by rw [List.length_append]; simp; omega, hI2⟩)
    exact z
  · obtain ⟨acc, G, s1, s2, gD, hD2, hl, hI⟩ := p
    exact hq D acc G H2 hD s1 s2 hD2 hl hI gD
end
theorem wp_star {σ : L2.St} {H : Hp} {K : PySem.W.Frag} {tl : TA} {QA : List V → Hp → Prop} {p : Addr} {xs : List V} (hx : SqT K H p xs ∨ SqL K H p xs) (h : tl σ H fun ys H2 => QA (xs ++ ys) H2) : ∃ p' xs, V.ref p = V.ref p' ∧ (SqT K H p' xs ∨ SqL K H p' xs) ∧ tl σ H fun ys H2 => QA (xs ++ ys) H2 := ⟨p, xs, rfl, hx, h⟩
theorem wp_starT {σ : L2.St} {H : Hp} {K : PySem.W.Frag} {te : TE} {tl : TA} {QA : List V → Hp → Prop} (h : te σ H fun x H1 => ∃ p xs, x = V.ref p ∧ (SqT K H1 p xs ∨ SqL K H1 p xs) ∧ tl σ H1 fun ys H2 => QA (xs ++ ys) H2) : StX.tStar K te tl σ H QA := h
theorem Rws.set {H : Hp} {x : V} {r : Row} (hx : IsRow H x r) : ∀ {ss : List V} {rs : List Row} (i : Nat), Rws H ss rs → Rws H (ss.set i x) (rs.set i r)
  | _, _, _, .nil => .nil
  | _, _, 0, .cons _ t => .cons hx t
  | _, _, i + 1, .cons h t => .cons h (t.set hx i)
section
variable {σ : L2.St} {H : Hp} {Q : VK} {ta : TE} {tl tk : TA} {K : PySem.W.Frag} {sp : Sp} {E : XK} {C : Addr} {m : Str}
def MetWD (C : Addr) (m : Str) (sp : Sp) (dvs : List V) (E : XK) (t : TA) (σ : L2.St) (Q : VK) (x : V) (H1 : Hp) : Prop := ∃ a dx fs, x = .ref a ∧ H1 a = some (.ins C dx fs) ∧ fs.lookup m = none ∧ t σ H1 fun vs H2 => sp (x :: (vs ++ dvs)) H2 Q E
theorem wp_methD {d : V} (h : ta σ H fun x H1 => MetWD C m sp [d] E tl σ Q x H1) : tMeth C m sp [d] E ta tl σ H Q := h
theorem met_atD {a dx : Addr} {fs : List (Str × V)} {dvs : List V} (ha : H a = some (.ins C dx fs)) (hl : fs.lookup m = none) (q : tl σ H fun vs H2 => sp (.ref a :: (vs ++ dvs)) H2 Q E) : MetWD C m sp dvs E tl σ Q (.ref a) H := ⟨a, dx, fs, rfl, ha, hl, q⟩
def MetWR (C : Addr) (m : Str) (sp : Sp) (E : XK) (t : TA) (σ : L2.St) (Q : VK) (x : V) (H1 : Hp) : Prop := ∃ a dx fs, x = .ref a ∧ H1 a = some (.ins C dx fs) ∧ fs.lookup m = none ∧ t σ H1 fun vs H2 => sp (x :: vs) H2 Q E
theorem wp_methR (h : ta σ H fun x H1 => MetWR C m sp E tl σ Q x H1) : tMethR C m sp E ta tl σ H Q := h
theorem met_atR {a dx : Addr} {fs : List (Str × V)} (ha : H a = some (.ins C dx fs)) (hl : fs.lookup m = none) (q : tl σ H fun vs H2 => sp (.ref a :: vs) H2 Q E) : MetWR C m sp E tl σ Q (.ref a) H := ⟨a, dx, fs, rfl, ha, hl, q⟩
end
theorem wp_yes {σ : L2.St} {H : Hp} {QT : Bool → Hp → Prop} (h : QT true H) : tYes σ H QT := h
theorem Sees.new' {P : Pl} {q : Addr} {G H : Hp} (o : HO) (s : Sees P G H) (hq : H q = none) : ∃ G', Sees P G' (upd H q o) ∧ Same G G' ∧ G' q = some o := ⟨_, s.new hq, Same.new (s.sub.free hq), upd_same⟩
theorem net_at {C : Addr} {H : Hp} {a : Addr} {T : Int} {ns : List (List Nat)} {ss : List V} (h : IsNet C H a T ns ss) : ∃ dx le ls, H a = some (.ins C dx (netF T le ls)) := by
  obtain ⟨dx, le, ls, h, _⟩ := h
  exact ⟨dx, le, ls, h⟩
theorem keepG_nil {α : Type} {xs : List α} : ∀ n, keepG [] xs n = xs.take n
  | 0 => rfl
  | n + 1 => by
    show (if (n : Int) ∈ ([] : List Int) then _ else keepG [] xs n ++ (xs[n]?).toList) = _
    rw [if_neg (by simp), keepG_nil n, List.take_succ]
theorem keepG_none {α : Type} {xs : List α} : keepG [] xs xs.length = xs := by rw [keepG_nil, List.take_length]
theorem flip_flip (rs : List Row) : (rs.map flipR).map flipR = rs := by
  rw [List.map_map]
  exact List.map_id rs
theorem Sees.grow {P : Pl} {G G' H H' : Hp} (s : Sees P G H) (g : Same G G') (u : Same G' H') (h : Same H H') (kp : ∀ q o, H q = some o → G q = none → G' q = none) : Sees P G' H' := by
  obtain ⟨n, c, hp⟩ := s.pool
  exact ⟨⟨n, c, h _ _ hp⟩, g _ _ s.cell, s.few, kp _ _ hp s.free, u⟩
end RM
namespace RM
open PySem PySem.Spec PyProof.Rows L2
/-! ### methods with a star parameter, with keywords -/
section
variable {X : Cx} {k j : Nat} {C : Addr} {m : Str} {sp : Sp} {apos pos : Pos} {e o : Expr} {es : List Expr} {ta : TE} {t tk : TA}
theorem cxUp0 : StX.CXUp CX0 := fun _ _ _ _ _ _ _ _ _ _ _ z => z
theorem fun_star {P : Program} {w : World} {K : PySem.W.Frag} {mg : Str → Option Value} {base : Heap} {x qual pv : Str} {params : Arguments} {body : List Stmt} {scope : Scope} {f : Addr} {fd : FuncData} {N ps : List Str}
    (F : FunD K x qual params body scope [] [] f fd) (S : FnScope N (ps ++ [pv]) scope)
    (hb : ∀ (kV doc pm : Value) (an : Option Addr) (cdv ct : Value) (us rest : List Value), us.length = ps.length → bindArgs (PySem.W.fnOf x qual params body scope .none kV doc pm an cdv ct) ⟨us ++ rest, []⟩ = (newTuple rest >>= fun t => pure (ps.zip us ++ [(pv, t)])))
    (hbody : ∀ (cdv : Value) (A : Around) (outer : List Env) (s : Shared) (H : Hp) (vs : List V) (Q : VK) (E : XK), Room k (A.deeper (envOfC qual scope s.heap.objs.size f cdv)) → sp vs H Q E →
      ∃ t, PSs (cxOf CX0 P w K mg base N qual scope f cdv A outer s H E) body t ∧ t { nx := fun _ H' => Q .non H', rt := Q } (L2.start N vs) H) :
    FnR P w K mg base CX0 (k + 1) f (fun vs H Q E => ∃ ws rest, vs = ws ++ rest ∧ ws.length = ps.length ∧ rest.length ≤ sizeLine ∧ ∀ p, H p = none → sp (ws ++ [V.ref p]) (upd H p (.tup rest)) Q E) := by
  obtain ⟨oc, od, dV, kV, doc, pm, an, cdv, ct, osl, rfl, lk, hcd, hD, _⟩ := F.ex
  rcases hD with ⟨_, rfl⟩ | ⟨e, _⟩
  · exact StX.fn_star lk hcd S cxUp0 (hb kV doc pm an cdv ct) fun A outer s H vs Q E hr h => hbody cdv A outer s H vs Q E hr h
  · exact absurd rfl e
/-- what is handed to a star parameter: a new tuple -/
def StarW (sp : Sp) : Sp := fun vs H Q E => ∃ x rest, vs = x :: rest ∧ rest.length ≤ 1000 ∧ ∀ p, H p = none → sp [x, V.ref p] (upd H p (.tup rest)) Q E
/-- a method def m(self, *v) -/
structure MetS (P : Program) (w : World) (K : PySem.W.Frag) (mg : Str → Option Value) (base : Heap) (k : Nat) (C : Addr) (m : Str) (sp : Sp) : Prop where
  ex : ∃ f : Addr, Cls K C ∧ Meth K C m f ∧ FnR P w K mg base CX0 k f (StarW sp)
theorem MetS.of {P : Program} {w : World} {K : PySem.W.Frag} {mg : Str → Option Value} {base : Heap} {f : Addr} {p0 : Str} (c : Cls K C) (hm : Meth K C m f)
    (F : FnR P w K mg base CX0 k f (fun vs H Q E => ∃ ws rest, vs = ws ++ rest ∧ ws.length = [p0].length ∧ rest.length ≤ sizeLine ∧ ∀ p, H p = none → sp (ws ++ [V.ref p]) (upd H p (.tup rest)) Q E)) : MetS P w K mg base k C m sp :=
  ⟨f, c, hm, F.imp fun vs H Q E ⟨x, rest, e, hl, q⟩ => ⟨[x], rest, e, rfl, szl (by omega), q⟩⟩
/-- o.m(es, kws) as it is run -/
def MC (X : Cx) (o : Expr) (m : Str) (apos pos : Pos) (es : List Expr) (kws : List Keyword) (pl : Sem Bool) : Prop :=
  eval (.Call (.Attribute o m apos) es kws pos) X.env = (eval o X.env >>= fun ov => standAt apos.atName >>= fun _ => holding [ov] (getMethod ov m pl) >>= fun q =>
    callWith pos q.1 q.2 (backTo pos (starEach es X.env)) (backToKw pos (keywordEach kws X.env)))
def NoStar (X : Cx) (pos : Pos) (e : Expr) (es : List Expr) : Prop := starEach (e :: es) X.env = (false, eval e X.env) :: starEach es X.env ∧ (backTo pos (starEach es X.env)).any (·.1) = false
theorem pe_mtS {pl : Sem Bool} (c : MetS X.prog X.w X.K X.mg X.base k C m sp) (hr : Room j X.A) (hk : k ≤ j) (he : PE X o ta) (ha : PA X (e :: es) t) (hst : NoStar X pos e es := by exact ⟨rfl, rfl⟩) (ht : MC X o m apos pos (e :: es) [] pl := by exact rfl) :
    PE X (.Call (.Attribute o m apos) (e :: es) [] pos) (tMethR C m (StarW sp) E0 ta t) := by
  obtain ⟨f, hc, hm, F⟩ := c.ex
  exact pe_methR (pl := pl) he hc hm F (hr.mono hk) C8.pass0 ha hst.1 hst.2 ht
theorem pe_mtS0 {pl : Sem Bool} (c : MetS X.prog X.w X.K X.mg X.base k C m sp) (hr : Room j X.A) (hk : k ≤ j) (he : PE X o ta) (ht : MC X o m apos pos [] [] pl := by exact rfl) :
    PE X (.Call (.Attribute o m apos) [] [] pos) (tMethR C m (StarW sp) E0 ta tNil) := by
  obtain ⟨f, hc, hm, F⟩ := c.ex
  refine ⟨fun pins s σ H Q I h => PySem.W.methodCall_KW (pl := pl) (thn (he.run pins s σ H _ I h) fun u s1 hu => ?_) ht⟩
  obtain ⟨x, H1, I1, rx, a, dx, fs, rfl, ea, l, q⟩ := hu
  cases rx
  refine getmeth_ok I1 ea hc hm l (PySem.W.callWith_K0 (first := [.ref a]) I1.kIn hm.kp ?_)
  exact wpAny_call (run_fnR (us := [.ref a]) (vs := [.ref a]) F (hr.mono hk) C8.pass0 I1 (.cons rfl .nil) q)
/-- a method called with keywords: n the number of positional values, self among them -/
structure MetK (P : Program) (w : World) (K : PySem.W.Frag) (mg : Str → Option Value) (base : Heap) (k : Nat) (C : Addr) (m : Str) (sp : Sp) (n : Nat) (ks : List Str) : Prop where
  ex : ∃ (f : Addr) (fd : FuncData) (ps : List Str), Cls K C ∧ Meth K C m f ∧ FnOk P w K mg base CX0 k f fd ps sp ∧ KBn K fd ps n ks (fun us ws => us ++ ws) (fun us ws => us ++ ws)
def tMethK (C : Addr) (m : Str) (n r : Nat) (sp : Sp) (ta : TE) (t tk : TA) : TE := fun σ H Q => ta σ H fun x H1 => ∃ a dx fs, x = .ref a ∧ H1 a = some (.ins C dx fs) ∧ fs.lookup m = none ∧ t σ H1 fun vs H2 => tk σ H2 fun zs H3 => (x :: vs).length = n ∧ zs.length = r ∧ sp (x :: (vs ++ zs)) H3 Q E0
def KwOk (X : Cx) (pos : Pos) (e : Expr) (es : List Expr) (kws : List Keyword) (ks : List Str) : Prop :=
  (backToKw pos (keywordEach kws X.env)).all (·.1.isSome) = true ∧ (backToKw pos (keywordEach kws X.env)).filterMap (·.1) = ks ∧ starEach (e :: es) X.env = (false, eval e X.env) :: starEach es X.env ∧
    ((backTo pos (starEach (e :: es) X.env)).any (·.1) || (backToKw pos (keywordEach kws X.env)).any (·.1.isNone)) = false
theorem pe_mtK {pl : Sem Bool} {n r : Nat} {ks : List Str} {kws : List Keyword} (c : MetK X.prog X.w X.K X.mg X.base k C m sp n ks) (hr : Room j X.A) (hk : k ≤ j) (he : PE X o ta) (ha : PA X (e :: es) t) (hkw : PK X kws tk)
    (hq : KwOk X pos e es kws ks := by exact ⟨rfl, rfl, rfl, rfl⟩) (ht : MC X o m apos pos (e :: es) kws pl := by exact rfl) (hl : ks.length = r := by rfl) : PE X (.Call (.Attribute o m apos) (e :: es) kws pos) (tMethK C m n r sp ta t tk) := by
  subst hl
  obtain ⟨f, fd, ps, hc, hm, F, hb⟩ := c.ex
  refine ⟨fun pins s σ H Q I h => PySem.W.methodCall_KW (pl := pl) (thn (he.run pins s σ H _ I h) fun u s1 hu => ?_) ht⟩
  obtain ⟨x, H1, I1, rx, a, dx, fs, rfl, ea, l, q⟩ := hu
  cases rx
  refine getmeth_ok I1 ea hc hm l (PySem.W.callWith_KW (first := [.ref a]) (h₀ := X.base) I.ok.mod.kin hm.kp hq.1 (thn (ha.run pos pins s1 σ H1 _ I1 q) fun us s2 hu => ?_) hq.2.2.2 hq.2.2.1)
  obtain ⟨vs, H2, I2, r, q2⟩ := hu
  refine thn (hkw.run pos pins s2 σ H2 _ I2 q2) fun ws s3 hw => ?_
  obtain ⟨zs, H3, I3, rz, l1, l2, q3⟩ := hw
  refine ⟨I3.kIn, ?_⟩
  rw [hq.2.1]
  exact run_fnN (us := .ref a :: us) (vs := .ref a :: vs) F (hr.mono hk) hb C8.pass0 I3 (.cons rfl r) rz l1 l2 q3
/-- keyword-only parameters, all given in their order; no positional defaults -/
theorem kbn_all {K : PySem.W.Frag} {x qual : Str} {params : Arguments} {body : List Stmt} {scope : Scope} {kws : List (Str × V)} {f : Addr} {fd : FuncData} {ps : List Str} (F : FunD K x qual params body scope [] kws f fd) (n : Nat) (ks : List Str)
    (h : ∀ (kV doc pm : Value) (an : Option Addr) (cdv ct : Value) (us ws : List Value), us.length = n → ws.length = ks.length → bindArgs (PySem.W.fnOf x qual params body scope .none kV doc pm an cdv ct) ⟨us, ks.zip ws⟩ = pure (ps.zip (us ++ ws))) : KBn K fd ps n ks (fun us ws => us ++ ws) (fun us ws => us ++ ws) := by
  obtain ⟨oc, od, dV, kV, doc, pm, an, cdv, ct, osl, rfl, lk, hcd, hD, _⟩ := F.ex
  rcases hD with ⟨_, rfl⟩ | ⟨e, _⟩
  · exact ⟨fun s us ws _ l1 l2 => .of_eq (h kV doc pm an cdv ct us ws l1 l2), fun r1 r2 => r1.append r2⟩
  · exact absurd rfl e
end
end RM
namespace RM
open PySem PySem.Spec PyProof.Rows L2
section
variable {σ : L2.St} {H : Hp} {Q : VK} {ta : TE} {tl tk : TA} {sp : Sp} {C : Addr} {m : Str}
def MetWK (C : Addr) (m : Str) (n r : Nat) (sp : Sp) (t tk : TA) (σ : L2.St) (Q : VK) (x : V) (H1 : Hp) : Prop := ∃ a dx fs, x = .ref a ∧ H1 a = some (.ins C dx fs) ∧ fs.lookup m = none ∧ t σ H1 fun vs H2 => tk σ H2 fun zs H3 => (x :: vs).length = n ∧ zs.length = r ∧ sp (x :: (vs ++ zs)) H3 Q E0
theorem wp_methK {n r : Nat} (h : ta σ H fun x H1 => MetWK C m n r sp tl tk σ Q x H1) : tMethK C m n r sp ta tl tk σ H Q := h
theorem met_atK {a dx : Addr} {fs : List (Str × V)} {n r : Nat} (ha : H a = some (.ins C dx fs)) (hl : fs.lookup m = none) (q : tl σ H fun vs H2 => tk σ H2 fun zs H3 => (V.ref a :: vs).length = n ∧ zs.length = r ∧ sp (.ref a :: (vs ++ zs)) H3 Q E0) : MetWK C m n r sp tl tk σ Q (.ref a) H := ⟨a, dx, fs, rfl, ha, hl, q⟩
end
end RM
namespace RM
open PySem PySem.Spec PyProof.Rows L2
/-! ### list(d.values()) -/
def tListVals (te : TE) : TE := fun σ H Q => te σ H fun x H1 => ∃ (d : Addr) (kvs : List (Key × V)), x = .ref d ∧ H1 d = some (.dK kvs) ∧ ∀ p, H1 p = none → Q (.ref p) (upd H1 p (.lst (kvs.map (·.2))))
theorem kv_snd : ∀ {kvs : List (Key × V)} {vs : List (Key × Value)}, KV kvs vs → Vals (kvs.map (·.2)) (vs.map (·.2))
  | _, _, .nil => .nil
  | _, _, .cons h t => .cons h.2 (kv_snd t)
section
variable {X : Cx} {e : Expr} {te : TE} {p apos cpos pos : Pos}
abbrev valsE (e : Expr) (apos cpos : Pos) : Expr := .Call (.Attribute e "values" apos) [] [] cpos
theorem pe_listVals (hc : X.calm = true) (he : PE X e te) (hg : Gl X "list") (hm : X.mg "list" = none) (hv : bootBuiltins "list" = some (.type "list")) (hb : attributeBase e "values" X.env (eval e X.env) = eval e X.env := by rfl) (hl : (apos.endLine == cpos.line) = true := by rfl)
    (hs : starEach [valsE e apos cpos] X.env = (false, eval (valsE e apos cpos) X.env) :: starEach [] X.env := by rfl) : PE X (.Call (.Name "list" p) [valsE e apos cpos] [] pos) (tListVals te) := by
  refine ⟨fun pins s σ H Q I hq => wpAny_Call_Name_kw (ld_blt I hg hm hv (PyProof.Rows.callWith_type1 ?_ hs rfl))⟩
  rw [hs]; show wpAny _ _ (spliced ((false, eval (valsE e apos cpos) X.env) :: backTo pos (starEach [] X.env))) _ _ s
  refine Calls.spliced_cons (wpAny_Call_method (T := "dict") (id := "dict.values") hb rfl hl F.plainAttrs_dict F.slot_dict_values F.type_dict_values (thn (he.run pins s σ H _ I hq) fun u s1 hu => ?_))
  obtain ⟨x, H1, I1, rx, d, kvs, rfl, hd, q⟩ := hu
  cases rx
  obtain ⟨hz, hs0, vs, kv, hdo⟩ := I1.hok d _ hd
  obtain ⟨ep, hat⟩ := hdo.dictAt
  have lk : kvs.length = vs.length := Paired.length kv
  have I2 : Inv X pins σ H1 { s1 with heap := s1.heap.push { cls := .type "dict_values", data := .fields #[.ref d] } } := I1.kept (t' := s1.toks) fun b ob w => Heap.get?_push_of_some _ w
  refine ⟨hdo.typeIs, hdo.mapOf.noDict, (?_ : wpAny _ _ (callWith cpos (.builtin "dict.values") [.ref d] [] []) _ X.xe s1)⟩
  refine method_meetsIn F.slot_dict_values F.entry_dict_values rfl (PySem.evalArgs_none ⟨rfl, hdo.typeIs, F.args_dict_values_1 _, _, meets_dict_values (mixKind X.prog X.w) d hs0, ⟨vs, hdo⟩, Calls.spliced_nil ?_⟩)
  refine PySem.W.kdl_call (PySem.W.kdl_values (knd := mixKind X.prog X.w) (kvs := vs) (ep := ep) (r := s1.heap.objs.size) (d := d)) (I1.ok.hd hc) ⟨⟨_, Heap.get?_push_size _ rfl, rfl, rfl⟩, hat.push _⟩ (by omega) fun h' tk acc c' hk hD hacc => ?_
  have ev : acc.toList = vs.map (·.2) := PySem.W.kdl_vals_eq acc.toList (by rw [Array.length_toList]; exact hacc.1) fun j v w => hacc.2 j v (by rw [← Array.getElem?_toList]; exact w)
  have hvv : Vals (kvs.map (·.2)) acc.toList := by rw [ev]; exact kv_snd kv
  exact ⟨.ref _, _, I2.laid (t' := tk) hk (Nat.le_refl _) (show ObjOk X.prog X.w _ _ _ (.lst (kvs.map (·.2))) from ⟨by rw [List.length_map]; exact hz, acc.toList, c', hvv, by rw [Array.toArray_toList]; exact hD⟩), rfl, q _ (I2.hok.fresh (Nat.le_refl _))⟩
end
end RM
namespace RM
open PySem PySem.Spec PyProof.Rows L2
/-! ### dict comprehensions -/
section
variable {σ : L2.St} {H : Hp} {Q : VK} {K : PySem.W.Frag} {g : TG} {tt : TT} {tk tv ta : TE} {vs : List Nat}
def DcW (J : It) (g : TG) (tt : TT) (tk tv : TE) (vs : List Nat) (σ : L2.St) (H1 : Hp) (Q : VK) : Prop := tDc (fun _ H R => R J H) g tt tk tv vs σ H1 Q
theorem wp_dcL (h : ta σ H fun x H1 => ∃ a, x = .ref a ∧ (∃ xs, SqL K H1 a xs) ∧ DcW (Itl K a) g tt tk tv vs σ H1 Q) : tDc (iList K ta) g tt tk tv vs σ H Q := h
theorem dcL {a : Addr} {xs : List V} (hx : SqL K H a xs) (hn : xs.length ≤ 100000) (kv : Nat → List (Key × V)) (h0 : kv 0 = []) (hlen : ∀ i, (kv i).length ≤ i)
    (hs : ∀ i x H2 (R : V → V → Hp → Prop), xs[i]? = some x → Same H H2 → (∀ k z H5, Same H2 H5 → kv (i + 1) = putK (kv i) k z → R (kV k) z H5) → g x (wipe σ vs) H2 fun σ2 H3 => wipe σ2 vs = wipe σ vs ∧ tk σ2 H3 fun y H4 => tv σ2 H4 fun z H5 => R y z H5)
    (hq : ∀ D H2, H D = none → Same H H2 → H2 D = some (.dK (kv xs.length)) → Q (.ref D) H2) : ∃ b, V.ref a = .ref b ∧ (∃ ys, SqL K H b ys) ∧ DcW (Itl K b) g tYes tk tv vs σ H Q := by
  refine ⟨a, rfl, ⟨xs, hx⟩, ?_⟩
  intro D hD
  refine ⟨fun i m H2 => m = xs.length - i ∧ i ≤ xs.length ∧ Same H H2 ∧ H2 D = some (.dK (kv i)), ⟨xs.length, by simp, Nat.zero_le _, Same.new hD, by rw [h0]; exact upd_same⟩, ?_⟩
  rintro i m H2 ⟨rfl, hi, s1, hD2⟩
  have hx2 := Same.seq s1 hx
  rcases Nat.lt_or_ge i xs.length with h | h
  · right
    refine ⟨⟨xs, xs[i], hx2, List.getElem?_eq_getElem h⟩, fun H' => Same H H' ∧ H' D = some (.dK (kv (i + 1))), fun H' hN => ⟨xs.length - (i + 1), by omega, rfl, by omega, hN⟩, fun x H' hy => ?_⟩
    obtain ⟨e, hy⟩ := hy
    subst e
    have hxi := hy xs hx2
    exact hs i x _ (fun y z H5 => ∃ kvs k, y = kV k ∧ H5 D = some (.dK kvs) ∧ kvs.length < sizeLine ∧ (Same H (upd H5 D (.dK (putK kvs k z))) ∧ upd H5 D (.dK (putK kvs k z)) D = some (.dK (kv (i + 1))))) hxi s1 fun k z H5 s5 e => ⟨kv i, k, rfl, s5 _ _ hD2, szlt (by have := hlen i; omega), Same.mut (s1.trans s5) hD, by rw [e]; exact upd_same⟩
  · left
    have e : i = xs.length := by omega
    subst e
    exact ⟨⟨xs, hx2, Nat.le_refl _⟩, hq D H2 hD s1 hD2⟩
end
end RM
namespace RM
open PySem PySem.Spec PyProof.Rows L2
/-! ### dicts: items, walks -/
theorem u1 {n : Nat} {A : Around} (h : Room n A) : A.units + 1 < cLine := by have := h.units; omega
section
variable {σ : L2.St} {H : Hp} {Q : VK} {K : PySem.W.Frag} {g : TG} {tt : TT} {tk tv te td ty tx : TE} {vs : List Nat} {kvs : List (Key × V)} {d : Addr} {v : V}
theorem wp_dgetE (h : td σ H fun x H1 => ty σ H1 fun y H2 => ∃ a v, x = .ref a ∧ DGet H2 a y (some v) ∧ Q v H2) : tDGet td ty σ H Q := h
theorem dget_at {R : V → Prop} {k : Key} (hd : Rd H d (.dK kvs)) (hv : valV kvs k = some v) (q : R v) : ∃ a v, V.ref d = .ref a ∧ DGet H a (kV k) (some v) ∧ R v := ⟨d, v, rfl, .inl ⟨kvs, k, hd, rfl, hv.symm⟩, q⟩
theorem dget_s {R : V → Prop} {l : List Nat} (hd : Rd H d (.dK kvs)) (hv : valV kvs (.inr (S l)) = some v) (q : R v) : ∃ a v, V.ref d = .ref a ∧ DGet H a (.str (S l)) (some v) ∧ R v := ⟨d, v, rfl, .inl ⟨kvs, .inr (S l), hd, rfl, hv.symm⟩, q⟩
theorem wp_dnew (h : ∀ p, H p = none → Q (.ref p) (upd H p (.dK []))) : tDNewK σ H Q := h
theorem wp_lockE {t : TE} (hd : H d = some (.dK kvs)) (h : ∀ od, t σ (upd H d (.frz od (.dK kvs))) fun v H' => H' d = some (.frz od (.dK kvs)) ∧ Q v (upd H' d (.dK kvs))) : tLockE t σ H Q := ⟨d, _, hd, True.intro, h⟩
theorem unl {od : Obj} {H' : Hp} (hd : H d = some (.dK kvs)) (s : Same (upd H d (.frz od (.dK kvs))) H') : Same H (upd H' d (.dK kvs)) := fun a o h => by
  by_cases e : a = d
  · subst e; rw [hd] at h; cases h; exact upd_same
  · rw [upd_ne e]; exact s _ _ (by rw [upd_ne e]; exact h)
theorem frz_at {od : Obj} {H2 : Hp} (s : Same (upd H d (.frz od (.dK kvs))) H2) : H2 d = some (.frz od (.dK kvs)) := s _ _ upd_same
theorem frz_ne {od : Obj} {H2 : Hp} {a : Addr} {o : HO} (hd : H d = some (.dK kvs)) (s : Same (upd H d (.frz od (.dK kvs))) H2) (h : H a = some o) (n : ∀ kvs, o ≠ .dK kvs) : H2 a = some o := s _ _ (by
  rw [upd_ne (fun e => by rw [e, hd] at h; cases h; exact n _ rfl)]; exact h)
/-- a dict comprehension over a dict's keys -/
theorem lock_dc (hd : H d = some (.dK kvs)) (hn : kvs.length ≤ 100000) (hv : ∀ H' (R : VK), R (.ref d) H' → td σ H' R)
    (kv : Nat → List (Key × V)) (h0 : kv 0 = []) (hlen : ∀ i, (kv i).length ≤ i)
    (hs : ∀ i k x od H2 (R : V → V → Hp → Prop), kvs[i]? = some (k, x) → Same (upd H d (.frz od (.dK kvs))) H2 → (∀ k' z H5, Same H2 H5 → kv (i + 1) = putK (kv i) k' z → R (kV k') z H5) →
      g (kV k) (wipe σ vs) H2 fun σ2 H3 => wipe σ2 vs = wipe σ vs ∧ tk σ2 H3 fun y H4 => tv σ2 H4 fun z H5 => R y z H5)
    (hq : ∀ D H2, H D = none → Same H H2 → H2 D = some (.dK (kv kvs.length)) → Q (.ref D) H2) : tLockE (tDc (iKeys td) g tYes tk tv vs) σ H Q := by
  refine wp_lockE hd fun od => ?_
  refine hv _ _ ⟨d, od, rfl, .inl ⟨kvs, upd_same, ?_⟩⟩
  intro D hD
  have nDd : D ≠ d := fun e => by rw [e, upd_same] at hD; cases hD
  have hD' : H D = none := by rw [upd_ne nDd] at hD; exact hD
  refine ⟨fun i m H2 => m = kvs.length - i ∧ i ≤ kvs.length ∧ Same (upd H d (.frz od (.dK kvs))) H2 ∧ H2 D = some (.dK (kv i)), ⟨kvs.length, by simp, Nat.zero_le _, Same.new hD, by rw [h0]; exact upd_same⟩, ?_⟩
  rintro i m H2 ⟨rfl, hi, s1, hD2⟩
  have hf := frz_at s1
  rcases Nat.lt_or_ge i kvs.length with h | h
  · right
    refine ⟨⟨hf, h⟩, fun H' => Same (upd H d (.frz od (.dK kvs))) H' ∧ H' D = some (.dK (kv (i + 1))), fun H' hN => ⟨kvs.length - (i + 1), by omega, rfl, by omega, hN⟩, fun x H' hy => ?_⟩
    obtain ⟨e, k, v, hkv, rfl⟩ := hy
    subst e
    exact hs i k v od _ (fun y z H5 => ∃ kvs' k, y = kV k ∧ H5 D = some (.dK kvs') ∧ kvs'.length < sizeLine ∧ (Same (upd H d (.frz od (.dK kvs))) (upd H5 D (.dK (putK kvs' k z))) ∧ upd H5 D (.dK (putK kvs' k z)) D = some (.dK (kv (i + 1))))) hkv s1 fun k z H5 s5 e => ⟨kv i, k, rfl, s5 _ _ hD2, szlt (by have := hlen i; omega), Same.mut (s1.trans s5) hD, by rw [e]; exact upd_same⟩
  · left
    have e : i = kvs.length := by omega
    subst e
    exact ⟨⟨hf, Nat.le_refl _⟩, hf, hq D _ hD' (unl hd s1) (by rw [upd_ne nDd]; exact hD2)⟩
/-- d.setdefault(k, []).append(x) and the like -/
theorem wp_dsetd (h : td σ H fun x H1 => ∃ a, x = .ref a ∧ IsD H1 a ∧ ty σ H1 fun y H2 => tx σ H2 fun z H3 => ∃ (kvs : List (Key × V)) (k : Key), H3 a = some (.dK kvs) ∧ y = kV k ∧ kvs.length < sizeLine ∧
  (∀ v, valV kvs k = some v → Q v H3) ∧ (valV kvs k = none → Q z (upd H3 a (.dK (putK kvs k z))))) : tDSetd td ty tx σ H Q := h
theorem wp_lv (h : te σ H fun x H1 => ∃ (d : Addr) (kvs : List (Key × V)), x = .ref d ∧ H1 d = some (.dK kvs) ∧ ∀ p, H1 p = none → Q (.ref p) (upd H1 p (.lst (kvs.map (·.2))))) : tListVals te σ H Q := h
end
/-- a dict by names -/
def dN (f : List Nat → V) (ns : List (List Nat)) : List (Key × V) := ns.map fun l => (.inr (S l), f l)
theorem dN_len {f : List Nat → V} {ns : List (List Nat)} : (dN f ns).length = ns.length := List.length_map ..
theorem key_inj {a b : List Nat} (h : (Sum.inr (S a) : Key) = .inr (S b)) : a = b := by
  injection h with h
  exact S_inj h
theorem dN_val {f : List Nat → V} {l : List Nat} : ∀ {ns : List (List Nat)}, l ∈ ns → valV (dN f ns) (.inr (S l)) = some (f l)
  | m :: ns, h => by
    by_cases e : m = l
    · subst e
      exact valV_pos rfl
    · show valV ((Sum.inr (S m), f m) :: dN f ns) _ = _
      have ne : ¬ ((Sum.inr (S m), f m) : Key × V).1 = (Sum.inr (S l) : Key) := fun z => e (key_inj z)
      rw [valV_neg ne]
      exact dN_val ((List.mem_cons.mp h).resolve_left (Ne.symm e))
theorem dN_none {f : List Nat → V} {l : List Nat} : ∀ {ns : List (List Nat)}, l ∉ ns → valV (dN f ns) (.inr (S l)) = none
  | [], _ => rfl
  | m :: ns, h => by
    show valV ((Sum.inr (S m), f m) :: dN f ns) _ = _
    have ne : ¬ ((Sum.inr (S m), f m) : Key × V).1 = (Sum.inr (S l) : Key) := fun z => h (by rw [key_inj z]; exact List.mem_cons_self)
    rw [valV_neg ne]
    exact dN_none fun z => h (List.mem_cons_of_mem _ z)
theorem dN_put {f : List Nat → V} {l : List Nat} {ns : List (List Nat)} (h : l ∉ ns) : putK (dN f ns) (.inr (S l)) (f l) = dN f (ns ++ [l]) := by
  rw [putK_new _ (dN_none h)]
  unfold dN
  rw [List.map_append]
  rfl
theorem dN_at {f : List Nat → V} {ns : List (List Nat)} {i : Nat} {k : Key} {x : V} (h : (dN f ns)[i]? = some (k, x)) : ∃ l, ns[i]? = some l ∧ k = .inr (S l) ∧ x = f l := by
  unfold dN at h
  rw [List.getElem?_map] at h
  obtain ⟨l, hl, e⟩ := Option.map_eq_some_iff.mp h
  cases e
  exact ⟨l, hl, rfl, rfl⟩
theorem dN_congr {f g : List Nat → V} {ns : List (List Nat)} (h : ∀ l ∈ ns, f l = g l) : dN f ns = dN g ns := List.map_congr_left fun l hl => by rw [h l hl]
theorem take_snoc {α : Type} {ns : List α} {i : Nat} {l : α} (h : ns[i]? = some l) : ns.take (i + 1) = ns.take i ++ [l] := by
  obtain ⟨hl, e⟩ := List.getElem?_eq_some_iff.mp h
  rw [← e, List.take_append_getElem]
end RM
namespace RM
open PySem PySem.Spec PyProof.Rows L2
/-! ### y = {k: v for ..} -/
section
variable {X : Cx}
theorem swap_dc {a b : Expr} {gens : List Comprehension} {sc : Scope} {cp np : Pos} {nm : Str} {ln : Nat} {en : Env}
    (h1 : en.scope.kind = .function) (h2 : en.scope.names.lookup nm = some .local)
    (h3 : (np.line == cp.line) = true) (h4 : (sc.names.any fun (n, k) => n == nm && (k == .local || k == .cell)) = false) :
    swapsWith (.DictComp a b gens sc cp) (some (.Name nm np)) ln en = pure true := by
  have q1 : en.kindOf nm = some .local := h2
  have q2 : en.blockKind = .function := by
    unfold Env.blockKind
    rw [h1]
    rfl
  unfold swapsWith
  simp only [q2, q1, h4, Expr.pos, h3]
  rfl
theorem ps_setDc {j : Nat} {nm : Str} {np cp sp' : Pos} {a b tgt it : Expr} {cs : List Expr} {sc : Scope} {mine : List (Str × Nat)} {rd : TI} {gt : TG} {tt : TT} {tk tv : TE}
    (calm : X.calm = true) (nod : X.N.Nodup) (at_ : X.N[j]? = some nm) (loc : X.env.scope.names.lookup nm = some .local)
    (sw : swapsWith (.DictComp a b [⟨tgt, it, cs, 0⟩] sc cp) (some (.Name nm np)) sp'.line X.env = pure true)
    (hi : PI X tgt it rd) (blk : BlkOk X.N X.env.scope sc mine)
    (hg : ∀ s H C cl fp, PG (X.blk s H sc (compEnvC sc cl C X.env) fp) tgt gt) (ht : ∀ s H C cl fp, PTs (X.blk s H sc (compEnvC sc cl C X.env) fp) cs tt)
    (hk : ∀ s H C cl fp, PE (X.blk s H sc (compEnvC sc cl C X.env) fp) a tk) (hv : ∀ s H C cl fp, PE (X.blk s H sc (compEnvC sc cl C X.env) fp) b tv)
    (fo : ∀ x, foldedSetIterable it X.env x = pure x := by intro _; rfl) :
    PS X (.Assign [.Name nm np] (.DictComp a b [⟨tgt, it, cs, 0⟩] sc cp) sp') (tAsg (tDc rd gt tt tk tv (mine.map (·.2))) (gName j)) := by
  constructor
  intro pins s σ H D I h
  rw [exec_Assign_Name_used _ _ _ _ sw]
  refine wpAny_bind (wpAny_standAt (wpAny_bind ?_))
  show wpAny _ X.A (do
    let _ ← comprehension (.DictComp a b [⟨tgt, it, cs, 0⟩] sc cp) sc X.env (firstIterPos [⟨tgt, it, cs, 0⟩] cp) newDict false (eval it X.env) (some (assign (.Name nm np) X.env))) _ _ s
  have h2 : tDc rd gt tt tk tv (mine.map (·.2)) σ H (fun x H1 => gName j x σ H1 D.nx) := h
  have core := dc_core (pos := cp) (pos' := firstIterPos [⟨tgt, it, cs, 0⟩] cp) (use := some (assign (.Name nm np) X.env)) (Qf := fun _ s' => SP X pins D .next s') calm nod I hi blk hg ht hk hv fo h2 ?_
  · exact wpAny_bind (wpAny_mono core (fun _ s' z => wpAny_pure (wpAny_pure z)) fun _ _ e => e)
  intro L C s' m H' I' q young fr
  show wpAny _ _ (assign (.Name nm np) X.env (.ref L)) _ _ _
  refine wpAny_assign_Name (store_ok2 (v := V.ref L) I' nod at_ (.inl loc) rfl (fun s2 I2 z => ?_) (.inr loc))
  obtain ⟨w', sb, hw⟩ := z
  obtain ⟨r0, r1, r2, r3, r4, r5⟩ := fr
  have apart : C ≠ w' := by
    cases hw with
    | inl z => rw [z]; exact r1
    | inr z => exact fun e => r4 nm w' z e.symm
  refine ⟨m, young.sameBut sb apart, fun h3 sb3 => ⟨_, H', ?_, q⟩⟩
  exact I2.turned (t' := s2.toks) (fun c o hc e => (sb3.2 c hc).trans e) r0 r1 r3 r4 r5
end
end RM
namespace RM
open PySem PySem.Spec PyProof.Rows L2 ItX
/-! ### for x in o: o of an own class whose __iter__ hands out a young iterator -/
/-- a def that may know how large the heap was when it was called -/
structure FnN (P : Program) (w : World) (K : PySem.W.Frag) (mg : Str → Option Value) (base : Heap) (k : Nat) (f : Addr) (fd : FuncData) (ps : List Str) (sp : Nat → Sp) : Prop where
  len : ∀ n vs H Q E, sp n vs H Q E → vs.length = ps.length
  run : ∀ A outer s H (args : Args) us vs Q E, Room k A → Env0 P w K mg base A outer s H → BindsTo s fd args (ps.zip us) → Vals vs us → sp s.heap.objs.size vs H Q E →
    codeAny (model P w) A (.call (.ref f) args) (CR CX0 outer P w H s Q E) s
theorem fn_young {P : Program} {w : World} {K : PySem.W.Frag} {mg : Str → Option Value} {base : Heap} {k : Nat} {f : Addr} {x qual : Str} {params : Arguments} {body : List Stmt} {scope : Scope} {fd : FuncData} {N ps : List Str} {sp : Nat → Sp}
    (F : FunD K x qual params body scope [] [] f fd) (S : FnScope N ps scope) (len : ∀ n vs H Q E, sp n vs H Q E → vs.length = ps.length)
    (hb : ∀ cdv A outer (s : Shared) H vs Q E, Room k (A.deeper (envOfC qual scope s.heap.objs.size f cdv)) → sp s.heap.objs.size vs H Q E →
      ∃ t, PSs (cxOf CX0 P w K mg base N qual scope f cdv A outer s H E) body t ∧ t { nx := fun _ H' => Q .non H', rt := Q } (L2.start N vs) H) : FnN P w K mg base (k + 1) f fd ps sp := by
  obtain ⟨oc, od, dV, kV, doc, pm, an, cdv, ct, osl, rfl, look, cod, _⟩ := F.ex
  refine ⟨len, ?_⟩
  intro A outer s H args us vs Q E room env bnd rel prem
  have cnt := len _ _ _ _ _ prem
  have up : ∀ b o, base.get? b = some o → s.heap.get? b = some o := fun b o z => (env.bs b o z).1
  have inK : K.In s.heap := env.mod.kin.keeps up
  refine codeAny_call_function room.depth (inK _ _ look) rfl S.co S.gen rfl (PySem.W.codeRec_of inK cod) (bnd _ _ _ _ ?_)
  refine wpAny_newFunctionEnv_cells S.kind ?_ fun en he s1 z => ?_
  · rintro ⟨m, v⟩ hm
    cases S.par m (List.of_mem_zip hm).1 with
    | inl q => exact .inl q
    | inr q => exact .inr ⟨q, PySem.W.cellsFrom_some _ _ _ (.inl q)⟩
  subst he
  refine ⟨(env.mod.nolimit.keeps up).keeps z.toInCall.keep, codeAny_func ?_⟩
  obtain ⟨t, ht, hq⟩ := hb cdv A outer s H vs Q E (room.deeper _) prem
  have I0 := inv_start (CX := CX0) (E := E) S room.hd env cnt rel z
  refine wpAny_mono (ht.run [] s1 (L2.start N vs) H _ I0 hq) (fun fl s' hs => ?_) fun _ _ hs => hs
  cases fl with
  | ret u =>
    obtain ⟨v, σ', H', J, rv, q⟩ := hs
    exact ⟨v, H', J.os, J.bare, J.base, J.hok, rv, q⟩
  | next =>
    obtain ⟨σ', H', J, q⟩ := hs
    exact ⟨V.non, H', J.os, J.bare, J.base, J.hok, rfl, q⟩
  | brk => exact hs.choose_spec.choose_spec.2.elim
  | cont => exact hs.choose_spec.choose_spec.2.elim
/-- an iterator over the locked dict d -/
def KeyIt (d : Addr) (o : Obj) (n it : Addr) : HO := .ext fun h => ∃ (es : Array DictEntry) (ep : Nat), o.data = .dict es ep ∧ h.IsKeyIter it d 0 n ep
def rIterK (n : Nat) : List V → Hp → VK → Prop := fun xs H Q => ∃ (d : Addr) (o : Obj) (kvs : List (Key × V)), xs = [.ref d] ∧ H d = some (.frz o (.dK kvs)) ∧ ∀ it, H it = none → n ≤ it → Q (.ref it) (upd H it (KeyIt d o kvs.length it))
section
variable {X : Cx}
theorem call_iterK : CallR X (.builtin "iter") (rIterK X.s_0.heap.objs.size) := by
  intro pins s σ H xs us Q I r h
  obtain ⟨d, o, kvs, rfl, hd, q⟩ := h
  obtain ⟨u, rfl, ru⟩ := r.one
  cases ru
  obtain ⟨hs, hgd, hx, es, ep, vs, hdt, hsz, kv, hm⟩ := I.frzK hd
  refine Calls.call_function_entry (by decide +kernel) (by decide +kernel) PySem.W.kdk_entry_iter (PySem.W.kdk_args_iter _) ?_
  unfold Builtin.«iter»
  refine wpAny_bind (m := someArgs "iter" 1 2 _) (wpAny_of_eq (a := [Value.ref d]) (by first | rfl | kernel_rfl!) ?_)
  show wpAny _ _ (pyIter (.ref d) >>= _) _ _ _
  refine wpAny_bind (iter_keys hs hgd hx hdt ?_)
  have ki : (s.heap.push { cls := .type "dict_keyiterator", data := .fields #[.ref d, .int 0 0, .int es.size 0, .int ep 0] }).IsKeyIter s.heap.objs.size d 0 kvs.length ep := ⟨_, Heap.get?_push_size _ rfl, rfl, by rw [hsz] <;> rfl⟩
  have ko : ∀ {H2 : Hp}, ObjOk X.prog X.w H2 (s.heap.push { cls := .type "dict_keyiterator", data := .fields #[.ref d, .int 0 0, .int es.size 0, .int ep 0] }) s.heap.objs.size (KeyIt d o kvs.length s.heap.objs.size) := fun {H2} =>
    ⟨⟨es, ep, hdt, ki⟩, ⟨_, Heap.get?_push_size _ rfl⟩, fun h1 h2 z kk => by
      obtain ⟨es', ep', e1, ob, e2, e3, e4⟩ := z
      exact ⟨es', ep', e1, ob, kk _ e2, e3, e4⟩⟩
  exact wpAny_pure ⟨_, rfl, .ref s.heap.objs.size, _, I.laid (t' := s.toks) (fun b u e => Heap.get?_push_of_some _ e) (Nat.le_refl _) ko, rfl, q _ (I.hok.fresh (Nat.le_refl _)) I.sz⟩
end
/-- __iter__ of the class at C -/
structure ItrN (P : Program) (w : World) (K : PySem.W.Frag) (mg : Str → Option Value) (base : Heap) (n : Nat) (C : Addr) (sp : Nat → Sp) : Prop where
  ex : ∃ (f : Addr) (fd : FuncData) (ps : List Str), PySem.W.findIn K (.ref C) "__iter__" = some (some (.ref f)) ∧ PySem.W.isFn K (.ref f) = true ∧ FnN P w K mg base n f fd ps sp ∧ Binds K fd ps []
/-- what __iter__ promises: iter(self.F), F a list or a locked dict -/
def spYoung (K : PySem.W.Frag) (C : Addr) (F : Str) (n : Nat) : Sp := fun vs H Q _ => ∃ a dx fs l zs, vs = [.ref a] ∧ H a = some (.ins C dx fs) ∧ fs.lookup F = some (.ref l) ∧ SqL K H l zs ∧ ∀ it, H it = none → n ≤ it → Q (.ref it) (upd H it (ItO l it 0))
def spYoungK (C : Addr) (F : Str) (n : Nat) : Sp := fun vs H Q _ => ∃ a dx fs d o kvs, vs = [.ref a] ∧ H a = some (.ins C dx fs) ∧ fs.lookup F = some (.ref d) ∧ H d = some (.frz o (.dK kvs)) ∧ ∀ it, H it = none → n ≤ it → Q (.ref it) (upd H it (KeyIt d o kvs.length it))
theorem dropH_upd' {H : Hp} {a : Addr} {o : HO} (h : H a = none) : dropH (upd H a o) a = H := by
  funext b
  by_cases e : b = a
  · rw [e, dropH_same, h]
  · rw [dropH_ne e, upd_ne e]
def iOwnL (K : PySem.W.Frag) (C : Addr) (F : Str) (te : TE) : TI := fun σ H R => te σ H fun x H1 => ∃ a dx fs l zs, x = .ref a ∧ H1 a = some (.ins C dx fs) ∧ fs.lookup F = some (.ref l) ∧ SqL K H1 l zs ∧ R (Itl K l) H1
def iOwnK (C : Addr) (F : Str) (te : TE) : TI := fun σ H R => te σ H fun x H1 => ∃ a dx fs d o kvs, x = .ref a ∧ H1 a = some (.ins C dx fs) ∧ fs.lookup F = some (.ref d) ∧ H1 d = some (.frz o (.dK kvs)) ∧ R (Itk d o kvs) H1
section
variable {X : Cx} {tg e : Expr} {te : TE} {C : Addr} {F : Str} {n j : Nat} {pins : List (Addr × Obj)} {σ : L2.St} {H : Hp} {s : Shared} {A : Around} {f : Addr} {fd : FuncData} {ps : List Str} {sp : Nat → Sp}
theorem run_young {E' : Value → Shared → Prop} (sb : Sub X n A) (G : FnN X.prog X.w X.K X.mg X.base n f fd ps sp) (hb : Binds X.K fd ps []) (I : Inv X pins σ H s) {us : List Value} {vs : List V} {Q : VK} (r : Vals vs us) (h : sp s.heap.objs.size vs H Q E0) :
    wpAny (model X.prog X.w) A (call (.ref f) us) (EP X pins σ Q) E' s := by
  have e0 : Env0 X.prog X.w X.K X.mg X.base A X.stack s H := by
    have e := I.env0
    exact ⟨by rw [sb.fr]; exact e.frames, e.mod, e.bs, e.bsz, e.funs, e.frf, e.hok, e.bare⟩
  have hl := G.len _ _ _ _ _ h
  have bt := hb s us I.kIn (by rw [List.append_nil, ← r.length]; exact hl)
  rw [List.append_nil] at bt
  refine wpAny_call (codeAny_mono (G.run A X.stack s H ⟨us, []⟩ us vs Q E0 sb.room e0 bt r h) fun r s' hq => ?_)
  match r with
  | .error e => exact hq.elim
  | .ok (.ret u) => exact I.after hq
  | .ok .next => exact hq.elim
  | .ok .brk => exact hq.elim
  | .ok .cont => exact hq.elim
theorem pi_ownL (G : ItrN X.prog X.w X.K X.mg X.base n C (spYoung X.K C F)) (hr : Room j X.A) (hk : n ≤ j) (he : PE X e te) : PI X tg e (iOwnL X.K C F te) := by
  obtain ⟨f, fd, ps, hs, hf, FN, hb⟩ := G.ex
  refine ⟨fun pins s σ H R I h => ?_⟩
  refine thn (he.run pins s σ H _ I h) fun u s1 ⟨x, H1, I1, rx, a, dx, fs, l, zs, ex, ea, lk, sq, q⟩ => ?_
  subst ex
  obtain rfl : u = Value.ref a := rx
  obtain ⟨od, J⟩ := inst_of I1 ea
  obtain ⟨m, hF⟩ := I1.fr
  refine PySem.W.owit_iter hF I1.ok.mod.kin J hs hf ?_
  refine wpAny_mono (run_young (us := [.ref a]) (vs := [.ref a]) (Q := fun v H2 => ∃ it, v = .ref it ∧ H1 it = none ∧ s1.heap.objs.size ≤ it ∧ H2 = upd H1 it (ItO l it 0)) ⟨hr.mono hk, rfl⟩ FN hb I1 (.cons rfl .nil) ⟨a, dx, fs, l, zs, rfl, ea, lk, sq, fun it h1 h2 => ⟨it, rfl, h1, h2, rfl⟩⟩) (fun u s2 hu => ?_) fun _ _ e => e
  obtain ⟨v, H2, I2, rv, it, rfl, hn, hle, rfl⟩ := hu
  cases rv
  have ito := itO_get I2 upd_same
  have hT : s2.TypeIs (.ref it) "list_iterator" := ⟨_, ito, rfl⟩
  unfold PySem.W.OwitIt
  show wpAny _ _ (typeOf (.ref it) >>= fun t => typeLookup t "__next__") _ _ _
  refine wpAny_bind (wpAny_typeOf hT (wpAny_of_eq slot_listiter_next.lookup ?_))
  have hi' : upd H1 it (ItO l it 0) it = some (ItO l it 0) := upd_same
  have fp := inv_fp I2 hi' (Nat.le_trans I1.sz hle)
  unfold ItO at hi'
  have I3 := inv_drop I2 hi'
  rw [dropH_upd' hn] at I3 fp
  refine ⟨it, [it], fun i h => h.IsListIter it l i, Itl X.K l, H1, rfl, I3, turn_list l it, ⟨_, ito, rfl, rfl⟩, fun b hb => ?_, q⟩
  rw [List.mem_singleton.mp hb]
  exact fp
theorem pi_ownK (G : ItrN X.prog X.w X.K X.mg X.base n C (spYoungK C F)) (hr : Room j X.A) (hk : n ≤ j) (he : PE X e te) : PI X tg e (iOwnK C F te) := by
  obtain ⟨f, fd, ps, hs, hf, FN, hb⟩ := G.ex
  refine ⟨fun pins s σ H R I h => ?_⟩
  refine thn (he.run pins s σ H _ I h) fun u s1 ⟨x, H1, I1, rx, a, dx, fs, d, o, kvs, ex, ea, lk, fz, q⟩ => ?_
  subst ex
  obtain rfl : u = Value.ref a := rx
  obtain ⟨od, J⟩ := inst_of I1 ea
  obtain ⟨m, hF⟩ := I1.fr
  refine PySem.W.owit_iter hF I1.ok.mod.kin J hs hf ?_
  refine wpAny_mono (run_young (us := [.ref a]) (vs := [.ref a]) (Q := fun v H2 => ∃ it, v = .ref it ∧ H1 it = none ∧ s1.heap.objs.size ≤ it ∧ H2 = upd H1 it (KeyIt d o kvs.length it)) ⟨hr.mono hk, rfl⟩ FN hb I1 (.cons rfl .nil) ⟨a, dx, fs, d, o, kvs, rfl, ea, lk, fz, fun it h1 h2 => ⟨it, rfl, h1, h2, rfl⟩⟩) (fun u s2 hu => ?_) fun _ _ e => e
  obtain ⟨v, H2, I2, rv, it, rfl, hn, hle, rfl⟩ := hu
  cases rv
  have hi' : upd H1 it (KeyIt d o kvs.length it) it = some (KeyIt d o kvs.length it) := upd_same
  have hok := I2.hok it _ hi'
  obtain ⟨es, ep, hdt, ki⟩ := hok.1
  have hT : s2.TypeIs (.ref it) "dict_keyiterator" := ki.typeIs
  unfold PySem.W.OwitIt
  show wpAny _ _ (typeOf (.ref it) >>= fun t => typeLookup t "__next__") _ _ _
  refine wpAny_bind (wpAny_typeOf hT (wpAny_of_eq PySem.F.slot_dict_keyiterator_next.lookup ?_))
  have fp := inv_fp I2 hi' (Nat.le_trans I1.sz hle)
  unfold KeyIt at hi'
  have I3 := inv_drop I2 hi'
  rw [dropH_upd' hn] at I3 fp
  refine ⟨it, [it], fun i h => h.IsKeyIter it d i kvs.length ep, Itk d o kvs, H1, rfl, I3, turn_keys it hdt, ki, fun b hb => ?_, q⟩
  rw [List.mem_singleton.mp hb]
  exact fp
end
end RM
namespace RM
open PySem PySem.Spec PyProof.Rows L2
/-! ### o[k] of an own class, dict(d), x not in y, walks over locked dicts -/
/-- a class's __getitem__ -/
structure SpcG (P : Program) (w : World) (K : PySem.W.Frag) (mg : Str → Option Value) (base : Heap) (n : Nat) (C : Addr) (sp : Sp) : Prop where
  ex : ∃ (f : Addr) (fd : FuncData) (ps : List Str), PySem.W.findIn K (.ref C) "__getitem__" = some (some (.ref f)) ∧ PySem.W.isFn K (.ref f) = true ∧ PySem.W.fnIn K f = true ∧ FnOk P w K mg base CX0 n f fd ps sp ∧ Binds K fd ps []
theorem FunD.isIn {K : PySem.W.Frag} {x qual : Str} {params : Arguments} {body : List Stmt} {scope : Scope} {dvs : List V} {kws : List (Str × V)} {f : Addr} {fd : FuncData} (F : FunD K x qual params body scope dvs kws f fd) : PySem.W.fnIn K f = true := by
  obtain ⟨oc, od, dV, kV, doc, pm, an, cdv, ct, osl, rfl, look, cod, _⟩ := F.ex
  unfold PySem.W.fnIn
  rw [look]
def tSubOwn (C : Addr) (sp : Sp) (ta ti : TE) : TE := fun σ H Q => ta σ H fun x H1 => ti σ H1 fun y H2 => ∃ a dx fs, x = .ref a ∧ H2 a = some (.ins C dx fs) ∧ sp [.ref a, y] H2 Q E0
section
variable {X : Cx} {o i : Expr} {pos : Pos} {ta ti : TE} {C : Addr} {n j : Nat} {sp : Sp}
theorem pe_subOwn (S : SpcG X.prog X.w X.K X.mg X.base n C sp) (hr : Room j X.A) (hk : n + 1 ≤ j) (ho : PE X o ta) (hi : PE X i ti)
    (hsl : ∀ (a : Addr) (v : Value), subscripted i true (.ref a) v = runValue (.builtin "lifetime.subscript" ⟨[.ref a, v], []⟩)) : PE X (.Subscript o i pos) (tSubOwn C sp ta ti) := by
  obtain ⟨f, fd, ps, hs, hf, hin, F, hb⟩ := S.ex
  refine ⟨fun pins s σ H Q I h => ?_⟩
  refine Subscript_ (thn (ho.run pins s σ H _ I h) fun u s1 ⟨x, H1, I1, rx, q1⟩ => thn (hi.run pins s1 σ H1 _ I1 q1) fun iv s2 ⟨y, H2, I2, ry, a, dx, fs, ex, ea, q2⟩ => ?_)
  subst ex
  obtain rfl : u = Value.ref a := rx
  obtain ⟨od, J⟩ := inst_of I2 ea
  obtain ⟨m, hF⟩ := I2.fr
  refine PySem.W.sub_K hF I2.ok.mod.kin J hs hin hf ?_ (hsl a iv)
  exact run_at (us := [.ref a, iv]) (vs := [.ref a, y]) (Sub.in1 ⟨hr.mono hk, rfl⟩) F hb I2 (.cons rfl (.cons ry .nil)) q2
def rDictOf : List V → Hp → VK → Prop := fun xs H Q => ∃ (a : Addr) (kvs : List (Key × V)), xs = [.ref a] ∧ Rd H a (.dK kvs) ∧ ∀ p, H p = none → Q (.ref p) (upd H p (.dK kvs))
theorem callDictOf : CallR X (.type "dict") rDictOf := by
  intro pins s σ H xs us Q I r h
  obtain ⟨a, kvs, rfl, hd, q⟩ := h
  obtain ⟨u, rfl, ru⟩ := r.one
  cases ru
  exact d_copyOf I hd fun p s' hp I' => ⟨.ref p, _, I', rfl, q p hp⟩
def rNotInX (K : PySem.W.Frag) : R2 := fun x y H Q => rIn K true x y H Q ∨ ∃ a o, y = .ref a ∧ DGet H a x o ∧ Q (.bl (!o.isSome)) H
theorem op_notInX (hu : X.A.units + 1 < cLine) : OpR X (compareOp .NotIn) (rNotInX X.K) := by
  intro pins s σ H x y v u Q I rx ry h
  rcases h with h | ⟨a, o, rfl, g, q⟩
  · exact op_notIn_seq pins s σ H x y v u Q I rx ry h
  · obtain rfl : u = Value.ref a := ry
    exact d_notIn hu I g rx fun s3 I3 => ⟨.bl (!o.isSome), H, I3, rfl, q⟩
end
section
variable {σ : L2.St} {H : Hp} {Q : VK} {K : PySem.W.Frag} {g : TG} {tb : TS} {D : Ends} {te td ty ta ti : TE} {kvs : List (Key × V)} {d C : Addr} {F : Str} {v : V} {sp : Sp}
theorem wp_subOwn (h : ta σ H fun x H1 => ti σ H1 fun y H2 => ∃ a dx fs, x = .ref a ∧ H2 a = some (.ins C dx fs) ∧ sp [.ref a, y] H2 Q E0) : tSubOwn C sp ta ti σ H Q := h
theorem wp_dictOf {a : Addr} (hd : Rd H a (.dK kvs)) (h : ∀ p, H p = none → Q (.ref p) (upd H p (.dK kvs))) : rDictOf [.ref a] H Q := ⟨a, kvs, rfl, hd, h⟩
theorem wp_notInXL {x y : V} (h : rIn K true x y H Q) : rNotInX K x y H Q := .inl h
theorem wp_notInXD {a : Addr} {l : List Nat} (hd : Rd H a (.dK kvs)) (h : Q (.bl (!(valV kvs (.inr (S l))).isSome)) H) : rNotInX K (.str (S l)) (.ref a) H Q := .inr ⟨a, _, rfl, .inl ⟨kvs, .inr (S l), hd, rfl, rfl⟩, h⟩
theorem wp_din (h : ty σ H fun y H1 => td σ H1 fun x H2 => ∃ a o, x = .ref a ∧ DGet H2 a y o ∧ Q (.bl o.isSome) H2) : tDIn ty td σ H Q := h
theorem din_s {R : Option V → Prop} {l : List Nat} (hd : Rd H d (.dK kvs)) (q : R (valV kvs (.inr (S l)))) : ∃ a o, V.ref d = .ref a ∧ DGet H a (.str (S l)) o ∧ R o := ⟨d, _, rfl, .inl ⟨kvs, .inr (S l), hd, rfl, rfl⟩, q⟩
end
section
variable {σ : L2.St} {H : Hp} {K : PySem.W.Frag} {g : TG} {tb : TS} {D : Ends} {td te : TE} {kvs : List (Key × V)} {d C : Addr} {F : Str} {od : Obj}
theorem wp_lock {t : TS} (hd : H d = some (.dK kvs)) (h : ∀ od, t ⟨fun σ' H' => H' d = some (.frz od (.dK kvs)) ∧ D.nx σ' (upd H' d (.dK kvs)), fun v H' => H' d = some (.frz od (.dK kvs)) ∧ D.rt v (upd H' d (.dK kvs)), fun σ' H' => H' d = some (.frz od (.dK kvs)) ∧ D.bk σ' (upd H' d (.dK kvs)), fun σ' H' => H' d = some (.frz od (.dK kvs)) ∧ D.ct σ' (upd H' d (.dK kvs))⟩ σ (upd H d (.frz od (.dK kvs)))) : tLock t D σ H := ⟨d, _, hd, True.intro, h⟩
theorem wp_forItems (h : td σ H fun x H1 => ∃ d o kvs, x = .ref d ∧ H1 d = some (.frz o (.dK kvs)) ∧ ForW (Iti d o kvs) g tb D σ H1) : tFor (iItems td) g tb D σ H := h
theorem wp_forOwnL (h : te σ H fun x H1 => ∃ a dx fs l zs, x = .ref a ∧ H1 a = some (.ins C dx fs) ∧ fs.lookup F = some (.ref l) ∧ SqL K H1 l zs ∧ ForW (Itl K l) g tb D σ H1) : tFor (iOwnL K C F te) g tb D σ H := h
theorem wp_forOwnK (h : te σ H fun x H1 => ∃ a dx fs d o kvs, x = .ref a ∧ H1 a = some (.ins C dx fs) ∧ fs.lookup F = some (.ref d) ∧ H1 d = some (.frz o (.dK kvs)) ∧ ForW (Itk d o kvs) g tb D σ H1) : tFor (iOwnK C F te) g tb D σ H := h
theorem loopItems (hf : H d = some (.frz od (.dK kvs))) (Pv : Nat → L2.St → Hp → Prop) (h0 : Pv 0 σ H) (hG : ∀ i σ' H', i ≤ kvs.length → Pv i σ' H' → H' d = some (.frz od (.dK kvs)))
    (hs : ∀ i k x T σ' H', kvs[i]? = some (k, x) → Pv i σ' H' → H' T = none → g (.ref T) σ' (upd H' T (.tup [kV k, x])) fun σ2 H2 => tb { D with nx := Pv (i + 1), ct := Pv (i + 1), bk := D.nx } σ2 H2) (hd : ∀ σ' H', Pv kvs.length σ' H' → D.nx σ' H') :
    ∃ d' o kvs', V.ref d = .ref d' ∧ H d' = some (.frz o (.dK kvs')) ∧ ForW (Iti d' o kvs') g tb D σ H := by
  refine ⟨d, od, kvs, rfl, hf, for_it walk_items Pv h0 hG (fun i v σ' H1 H2 hi p y => ?_) hd⟩
  obtain ⟨T, x, y', h1, h2, h3, h4, h5⟩ := y
  obtain ⟨⟨k, z⟩, e1, e2⟩ := Option.map_eq_some_iff.mp h4
  obtain ⟨⟨k', z'⟩, e3, e4⟩ := Option.map_eq_some_iff.mp h5
  rw [e1] at e3
  cases e3
  cases e2
  cases e4
  subst h1
  rw [h3]
  exact hs i k z T σ' H1 e1 p h2
theorem loopOwnL {a dx l : Addr} {fs : List (Str × V)} {xs : List V} (ha : H a = some (.ins C dx fs)) (hl : fs.lookup F = some (.ref l)) (hx : SqL K H l xs) (Pv : Nat → L2.St → Hp → Prop) (h0 : Pv 0 σ H) (hG : ∀ i σ' H', i ≤ xs.length → Pv i σ' H' → SqL K H' l xs)
    (hs : ∀ i x σ' H', xs[i]? = some x → Pv i σ' H' → g x σ' H' fun σ2 H2 => tb { D with nx := Pv (i + 1), ct := Pv (i + 1), bk := D.nx } σ2 H2) (hd : ∀ σ' H', Pv xs.length σ' H' → D.nx σ' H') :
    ∃ a' dx fs l zs, V.ref a = .ref a' ∧ H a' = some (.ins C dx fs) ∧ fs.lookup F = some (.ref l) ∧ SqL K H l zs ∧ ForW (Itl K l) g tb D σ H := ⟨a, dx, fs, l, xs, rfl, ha, hl, hx, for_list Pv h0 hG hs hd⟩
theorem loopOwnK {a dx : Addr} {fs : List (Str × V)} (ha : H a = some (.ins C dx fs)) (hl : fs.lookup F = some (.ref d)) (hf : H d = some (.frz od (.dK kvs))) (Pv : Nat → L2.St → Hp → Prop) (h0 : Pv 0 σ H) (hG : ∀ i σ' H', i ≤ kvs.length → Pv i σ' H' → H' d = some (.frz od (.dK kvs)))
    (hs : ∀ i k x σ' H', kvs[i]? = some (k, x) → Pv i σ' H' → g (kV k) σ' H' fun σ2 H2 => tb { D with nx := Pv (i + 1), ct := Pv (i + 1), bk := D.nx } σ2 H2) (hd : ∀ σ' H', Pv kvs.length σ' H' → D.nx σ' H') :
    ∃ a' dx fs d o kvs, V.ref a = .ref a' ∧ H a' = some (.ins C dx fs) ∧ fs.lookup F = some (.ref d) ∧ H d = some (.frz o (.dK kvs)) ∧ ForW (Itk d o kvs) g tb D σ H := by
  refine ⟨a, dx, fs, d, od, kvs, rfl, ha, hl, hf, for_it walk_keys Pv h0 hG (fun i v σ' H1 H2 hi p y => ?_) hd⟩
  obtain ⟨e, k, z, e1, rfl⟩ := y
  rw [e]
  exact hs i k z σ' H1 e1 p
/-- {a: x, ..}: a dict written out -/
theorem wp_disp {Q : VK} {trs : List (TE × TE)} (h : ∀ p, H p = none → tPairs trs σ (upd H p (.dK [])) fun ps H2 => H2 p = some (.dK []) ∧ ∃ kvs : List (Key × V), ps = kvs.map (fun kv => (kV kv.1, kv.2)) ∧ kvs.length ≤ 15 ∧ Q (.ref p) (upd H2 p (.dK (mergeK [] kvs)))) : tDisp trs σ H Q := h
end
end RM
namespace RM
open PySem PySem.Spec PyProof.Rows L2
/-! ### timetables -/
abbrev tmF (T : Int) (d : Addr) : List (Str × V) := [("_round_length", .int T), ("_minutes", .ref d)]
theorem lk_mT {T : Int} {d : Addr} : (tmF T d).lookup ("_round_length" : Str) = some (.int T) := rfl
theorem lk_md {T : Int} {d : Addr} : (tmF T d).lookup ("_minutes" : Str) = some (.ref d) := rfl
theorem pt_m2 {T : Int} {d : Addr} : putF "_minutes" (.ref d) (netF1 T) = tmF T d := by
  unfold putF
  rw [if_neg (by decide)]
  rfl
def mD (m : List Nat → Int) (ns : List (List Nat)) : List (Key × V) := dN (fun l => .int (m l)) ns
def IsTimes (C : Addr) (H : Hp) (a : Addr) (T : Int) (ns : List (List Nat)) (m : List Nat → Int) : Prop := ∃ dx d, H a = some (.ins C dx (tmF T d)) ∧ H d = some (.dK (mD m ns))
theorem IsTimes.mono {C : Addr} {H H' : Hp} (e : Same H H') {a : Addr} {T : Int} {ns : List (List Nat)} {m : List Nat → Int} (h : IsTimes C H a T ns m) : IsTimes C H' a T ns m := by
  obtain ⟨dx, d, h1, h2⟩ := h
  exact ⟨dx, d, e _ _ h1, e _ _ h2⟩
structure OkTm (T : Int) (ns : List (List Nat)) (m : List Nat → Int) : Prop where
  t0 : 3 ≤ T
  t1 : T ≤ 120
  few : ns.length ≤ 1000
  nm : ∀ l ∈ ns, Nm l
  m0 : ∀ l ∈ ns, 0 ≤ m l
  m1 : ∀ l ∈ ns, m l ≤ T - 1
theorem isN_int {i : Int} : decide (V.int i = .non) = false := decide_eq_false (by simp)
theorem isN_non : decide (V.non = .non) = true := decide_eq_true rfl
section
variable {σ : L2.St} {H : Hp} {K : PySem.W.Frag} {g : TG} {tb : TS} {D : Ends} {d C : Addr} {F : Str} {od : Obj} {f : List Nat → V} {ns : List (List Nat)}
theorem loopItemsN (hf : H d = some (.frz od (.dK (dN f ns)))) (Pv : Nat → L2.St → Hp → Prop) (h0 : Pv 0 σ H) (hG : ∀ i σ' H', i ≤ ns.length → Pv i σ' H' → H' d = some (.frz od (.dK (dN f ns))))
    (hs : ∀ i l T σ' H', ns[i]? = some l → Pv i σ' H' → H' T = none → g (.ref T) σ' (upd H' T (.tup [.str (S l), f l])) fun σ2 H2 => tb { D with nx := Pv (i + 1), ct := Pv (i + 1), bk := D.nx } σ2 H2) (hd : ∀ σ' H', Pv ns.length σ' H' → D.nx σ' H') :
    ∃ d' o kvs', V.ref d = .ref d' ∧ H d' = some (.frz o (.dK kvs')) ∧ ForW (Iti d' o kvs') g tb D σ H :=
  loopItems hf Pv h0 (fun i σ' H' hi => hG i σ' H' (by rw [dN_len] at hi; exact hi)) (fun i k x T σ' H' hk p hT => by
    obtain ⟨l, hl, rfl, rfl⟩ := dN_at hk
    exact hs i l T σ' H' hl p hT) (by rw [dN_len]; exact hd)
theorem loopOwnKN {a dx : Addr} {fs : List (Str × V)} (ha : H a = some (.ins C dx fs)) (hl : fs.lookup F = some (.ref d)) (hf : H d = some (.frz od (.dK (dN f ns)))) (Pv : Nat → L2.St → Hp → Prop) (h0 : Pv 0 σ H) (hG : ∀ i σ' H', i ≤ ns.length → Pv i σ' H' → H' d = some (.frz od (.dK (dN f ns))))
    (hs : ∀ i l σ' H', ns[i]? = some l → Pv i σ' H' → g (.str (S l)) σ' H' fun σ2 H2 => tb { D with nx := Pv (i + 1), ct := Pv (i + 1), bk := D.nx } σ2 H2) (hd : ∀ σ' H', Pv ns.length σ' H' → D.nx σ' H') :
    ∃ a' dx fs d o kvs, V.ref a = .ref a' ∧ H a' = some (.ins C dx fs) ∧ fs.lookup F = some (.ref d) ∧ H d = some (.frz o (.dK kvs)) ∧ ForW (Itk d o kvs) g tb D σ H :=
  loopOwnK ha hl hf Pv h0 (fun i σ' H' hi => hG i σ' H' (by rw [dN_len] at hi; exact hi)) (fun i k x σ' H' hk p => by
    obtain ⟨l, hl, rfl, rfl⟩ := dN_at hk
    exact hs i l σ' H' hl p) (by rw [dN_len]; exact hd)
end
theorem dN_some {f : List Nat → V} {l : List Nat} {ns : List (List Nat)} : (valV (dN f ns) (.inr (S l))).isSome = decide (l ∈ ns) := by
  by_cases h : l ∈ ns
  · rw [dN_val h, decide_eq_true h]
    rfl
  · rw [dN_none h, decide_eq_false h]
    rfl
/-- the minutes that pass, or None -/
def pas (T : Int) (m : List Nat → Int) (r : Row) : V := if r.lo + (m r.v - m r.u - r.lo) % T ≤ r.hi then .int (r.lo + (m r.v - m r.u - r.lo) % T) else .non
theorem pas_key {T lo x y i : Int} (h0 : 0 ≤ i) (h1 : i < T) : (lo + i + x - y) % T = 0 ↔ i = (y - x - lo) % T := by
  have e : lo + i + x - y = i - (y - x - lo) := by omega
  rw [e, ← Int.emod_eq_emod_iff_emod_sub_eq_zero, Int.emod_eq_of_lt h0 h1]
end RM
namespace RM
open PySem PySem.Spec PyProof.Rows L2
/-! ### comprehensions that draw from the pool -/
section
variable {K : PySem.W.Frag} {σ : L2.St} {H : Hp} {g : TG} {te : TE} {vs : List Nat} {Q : VK}
theorem lcP {J : It} {n : Nat} {Gd : Hp → Prop} {Y : Nat → Hp → V → Hp → Prop} (w : Walk J n Gd Y) (hn : n ≤ 100000) {P : Pl} {G : Hp} (hs : Sees P G H) (hG : ∀ H', Sees P G H' → Gd H') (hY : ∀ i H2 x H3, Y i H2 x H3 → H3 = H2) (I : Nat → List V → Prop) (h0 : I 0 [])
    (st : ∀ i x acc G2 H2 (R : VK), i < n → Y i H2 x H2 → Same G G2 → Sees P G2 H2 → acc.length ≤ i → I i acc → (∀ y H3, Sees P G2 H3 → I (i + 1) (acc ++ [y]) → R y H3) → g x (wipe σ vs) H2 fun σ2 H4 => wipe σ2 vs = wipe σ vs ∧ te σ2 H4 R)
    (hq : ∀ D acc H2, H D = none → Sees P G H2 → H2 D = some (.lst acc) → acc.length ≤ n → I n acc → Q (.ref D) H2) : LcW J g tYes te vs σ H Q := by
  intro D hD
  obtain ⟨gD, nD⟩ := hs.fresh hD
  refine lc_it w (fun i H2 => ∃ acc, Sees P G H2 ∧ H2 D = some (.lst acc) ∧ acc.length ≤ i ∧ I i acc) ⟨[], hs.set gD nD, upd_same, Nat.le_refl _, h0⟩ (fun i H2 _ p => ?_) (fun i x H2 H3 hi p y => ?_) (fun H2 p => ?_)
  · obtain ⟨acc, s, _⟩ := p
    exact hG _ s
  · obtain ⟨acc, s, d, l, hI⟩ := p
    have e := hY _ _ _ _ y
    rw [e] at y ⊢
    have z := st i x acc (upd G D (.lst acc)) H2 (fun y H4 => ∃ acc', H4 D = some (.lst acc') ∧ acc'.length < sizeLine ∧ ∃ acc2, Sees P G (upd H4 D (.lst (acc' ++ [y]))) ∧ upd H4 D (.lst (acc' ++ [y])) D = some (.lst acc2) ∧ acc2.length ≤ i + 1 ∧ I (i + 1) acc2) hi y (Same.new gD) (s.with gD d nD) l hI
      (fun y H3 s3 hI2 => ⟨acc, s3.sub _ _ upd_same, szlt (by omega), acc ++ [y], (s3.back s gD).1.set gD nD, upd_same, by simp; omega, hI2⟩)
    exact z
  · obtain ⟨acc, s, d, l, hI⟩ := p
    exact hq D acc H2 hD s d l hI
theorem lcPR {n : Int} (n0 : 0 ≤ n) (hn : n ≤ 100000) {P : Pl} {G : Hp} (hs : Sees P G H) (I : Nat → List V → Prop) (h0 : I 0 [])
    (st : ∀ (i : Nat) acc G2 H2 (R : VK), (i : Int) < n → Same G G2 → Sees P G2 H2 → acc.length ≤ i → I i acc → (∀ y H3, Sees P G2 H3 → I (i + 1) (acc ++ [y]) → R y H3) → g (.int (i : Nat)) (wipe σ vs) H2 fun σ2 H4 => wipe σ2 vs = wipe σ vs ∧ te σ2 H4 R)
    (hq : ∀ D acc H2, H D = none → Sees P G H2 → H2 D = some (.lst acc) → (acc.length : Int) ≤ n → I n.toNat acc → Q (.ref D) H2) : ∃ j : Int, [V.int n] = [V.int j] ∧ -(2 ^ 62) ≤ j ∧ j < 2 ^ 62 ∧ LcW (Itr 0 j.toNat) g tYes te vs σ H Q :=
  ⟨n, rfl, by omega, by omega, lcP walk_range (by omega) hs (fun _ _ => trivial) (fun i H2 x H3 y => y.1) I h0 (fun i x acc G2 H2 R hi y s1 s2 l hI k => by
    have e3 : x = .int (i : Nat) := by rw [y.2]; exact congrArg V.int (Int.zero_add _)
    subst e3
    exact st i acc G2 H2 R (by omega) s1 s2 l hI k) (fun D acc H2 hD s d l hI => hq D acc H2 hD s d (by omega) hI)⟩
theorem lcPL {a : Addr} {xs : List V} (hn : xs.length ≤ 100000) {P : Pl} {G : Hp} (hs : Sees P G H) (hx : SqL K H a xs) (hx2 : ∀ H', Sees P G H' → SqL K H' a xs) (I : Nat → List V → Prop) (h0 : I 0 [])
    (st : ∀ (i : Nat) x acc G2 H2 (R : VK), xs[i]? = some x → Same G G2 → Sees P G2 H2 → acc.length ≤ i → I i acc → (∀ y H3, Sees P G2 H3 → I (i + 1) (acc ++ [y]) → R y H3) → g x (wipe σ vs) H2 fun σ2 H4 => wipe σ2 vs = wipe σ vs ∧ te σ2 H4 R)
    (hq : ∀ D acc H2, H D = none → Sees P G H2 → H2 D = some (.lst acc) → acc.length ≤ xs.length → I xs.length acc → Q (.ref D) H2) : ∃ b, V.ref a = .ref b ∧ (∃ ys, SqL K H b ys) ∧ LcW (Itl K b) g tYes te vs σ H Q :=
  ⟨a, rfl, ⟨xs, hx⟩, lcP walk_list hn hs hx2 (fun i H2 x H3 y => y.1) I h0 (fun i x acc G2 H2 R hi y s1 s2 l hI k => st i x acc G2 H2 R y.2 s1 s2 l hI k) hq⟩
end
/-! ### ''.join(list) -/
def rJoin (K : PySem.W.Frag) : V → List V → Hp → VK → Prop := fun x xs H Q => ∃ a p, ∃ ys : List Str, x = .str a ∧ xs = [.ref p] ∧ (SqL K H p (ys.map V.str) ∨ SqT K H p (ys.map V.str)) ∧
  (ys.map (·.length)).sum + ys.length * a.length ≤ 16777216 ∧ Q (.str (Txt.join a ys)) H
theorem joinL_nil : ∀ cs : List Nat, TL.joinL [] (cs.map fun c => [c]) = cs
  | [] => rfl
  | [_] => rfl
  | a :: b :: r => by
    show [a] ++ ([] ++ TL.joinL [] ((b :: r).map fun c => [c])) = a :: b :: r
    rw [joinL_nil (b :: r)]
    rfl
theorem join_S (cs : List Nat) : Txt.join (S []) (cs.map fun c => S [c]) = S cs := by
  have h : TL.tl (Txt.join (S []) (cs.map fun c => S [c])) = cs := by
    rw [TL.join_eq, TL.tl_join, List.map_map]
    exact joinL_nil cs
  generalize Txt.join (S []) (cs.map fun c => S [c]) = z at h
  obtain ⟨⟨l⟩⟩ := z
  have h2 : l = cs := h
  rw [h2]
theorem wp_join1 {K : PySem.W.Frag} {H : Hp} {Q : VK} {p : Addr} {cs : List Nat} (hp : H p = some (.lst (cs.map fun c => V.str (S [c])))) (hn : cs.length ≤ 1000) (h : Q (.str (S cs)) H) : rJoin K (.str (S [])) [.ref p] H Q := by
  refine ⟨S [], p, cs.map fun c => S [c], rfl, rfl, .inl (sq_of (by rw [List.map_map]; exact hp)), ?_, by rw [join_S]; exact h⟩
  have e : ((cs.map fun c => S [c]).map (·.length)).sum = cs.length := by
    clear hp hn h
    induction cs with
    | nil => rfl
    | cons c r ih =>
      rw [List.map_cons, List.map_cons, List.sum_cons, ih, List.length_cons]
      show 1 + r.length = _
      omega
  have e2 : (S []).length = 0 := rfl
  rw [e, e2, Nat.mul_zero]
  omega
/-! ### defs with try -/
theorem wp_m1 {r : V → List V → Hp → VK → Prop} {to te : TE} {σ : L2.St} {H : Hp} {Q : VK} (h : to σ H fun x H1 => (∃ a, x = .str a) ∧ te σ H1 fun y H2 => r x [y] H2 Q) : tM1 r to te σ H Q := h
end RM
namespace RM
open PySem PySem.Spec PyProof.Rows L2
/-! ### C.m(x, *rest), a classmethod that may raise; cls(..) -/
/-- what is handed to the star parameter behind two others: a new tuple -/
def StarW2 (sp : Sp) : Sp := fun vs H Q E => ∃ x y rest, vs = x :: y :: rest ∧ rest.length ≤ 1000 ∧ ∀ p, H p = none → sp [x, y, V.ref p] (upd H p (.tup rest)) Q E
theorem fun_starX {P : Program} {w : World} {K : PySem.W.Frag} {mg : Str → Option Value} {base : Heap} {x qual pv : Str} {params : Arguments} {body : List Stmt} {scope : Scope} {f : Addr} {fd : FuncData} {N ps : List Str} {k : Nat} {sp : Sp}
    (F : FunD K x qual params body scope [] [] f fd) (S : FnScope N (ps ++ [pv]) scope)
    (hb : ∀ (kV doc pm : Value) (an : Option Addr) (cdv ct : Value) (us rest : List Value), us.length = ps.length → bindArgs (PySem.W.fnOf x qual params body scope .none kV doc pm an cdv ct) ⟨us ++ rest, []⟩ = (newTuple rest >>= fun t => pure (ps.zip us ++ [(pv, t)])))
    (hbody : ∀ (cdv : Value) (A : Around) (outer : List Env) (s : Shared) (H : Hp) (vs : List V) (Q : VK) (E : XK), Room k (A.deeper (envOfC qual scope s.heap.objs.size f cdv)) → sp vs H Q E →
      ∃ t, PSs (cxOf (L2.CX P w) P w K mg base N qual scope f cdv A outer s H E) body t ∧ t { nx := fun _ H' => Q .non H', rt := Q } (L2.start N vs) H) :
    FnR P w K mg base (L2.CX P w) (k + 1) f (fun vs H Q E => ∃ ws rest, vs = ws ++ rest ∧ ws.length = ps.length ∧ rest.length ≤ sizeLine ∧ ∀ p, H p = none → sp (ws ++ [V.ref p]) (upd H p (.tup rest)) Q E) := by
  obtain ⟨oc, od, dV, kV, doc, pm, an, cdv, ct, osl, rfl, lk, hcd, hD, _⟩ := F.ex
  rcases hD with ⟨_, rfl⟩ | ⟨e, _⟩
  · exact StX.fn_star lk hcd S StX.cxUp (hb kV doc pm an cdv ct) fun A outer s H vs Q E hr h => hbody cdv A outer s H vs Q E hr h
  · exact absurd rfl e
structure CMS (P : Program) (w : World) (K : PySem.W.Frag) (mg : Str → Option Value) (base : Heap) (k : Nat) (x : Str) (C : Addr) (m : Str) (sp : Sp) : Prop where
  ex : ∃ p g : Addr, mg x = some (.ref C) ∧ ClX.CRead K C (.type "type") ∧ ClX.CMet K C (.type "type") m p g ∧ FnR P w K mg base (L2.CX P w) k g (StarW2 sp)
theorem CMS.of {P : Program} {w : World} {K : PySem.W.Frag} {mg : Str → Option Value} {base : Heap} {k : Nat} {x m : Str} {C p g : Addr} {sp : Sp} {p0 p1 : Str} (hm : mg x = some (.ref C)) (r : ClX.CRead K C (.type "type")) (c : ClX.CMet K C (.type "type") m p g)
    (F : FnR P w K mg base (L2.CX P w) k g (fun vs H Q E => ∃ ws rest, vs = ws ++ rest ∧ ws.length = [p0, p1].length ∧ rest.length ≤ sizeLine ∧ ∀ p, H p = none → sp (ws ++ [V.ref p]) (upd H p (.tup rest)) Q E)) : CMS P w K mg base k x C m sp :=
  ⟨p, g, hm, r, c, F.imp fun vs H Q E ⟨x, y, rest, e, hl, q⟩ => ⟨[x, y], rest, e, rfl, szl (by omega), q⟩⟩
section
variable {X : Cx} {k j i : Nat} {x m : Str} {C : Addr} {sp : Sp} {E : XK} {e : Expr} {es : List Expr} {p0 pos apos p : Pos} {t : TA} {pl : Sem Bool}
theorem pe_cmS (c : CMS X.prog X.w X.K X.mg X.base k x C m sp) (hr : Room j X.A) (hk : k ≤ j) (hg : Gl X x) (hx : Passes (L2.CX X.prog X.w) X E) (ha : PA X (e :: es) t) (hdb : (x == ("__debug__" : Str)) = false := by decide)
    (hst : starEach (e :: es) X.env = (false, eval e X.env) :: starEach es X.env := by rfl) (hpl : (backTo pos (starEach es X.env)).any (·.1) = false := by rfl)
    (ht : eval (.Call (.Attribute (.Name x p0) m apos) (e :: es) [] pos) X.env = (do
      let ov ← eval (.Name x p0) X.env
      standAt apos.atName
      let (f, first) ← holding [ov] (getMethod ov m pl)
      callWith pos f first (backTo pos (starEach (e :: es) X.env)) (backToKw pos (keywordEach [] X.env))) := by rfl) :
    PE X (.Call (.Attribute (.Name x p0) m apos) (e :: es) [] pos) (ClX.tCMeth C (StarW2 sp) E (tC (.ref C)) t) := by
  obtain ⟨q, g, hm, r, cm, F⟩ := c.ex
  exact ClX.pe_cmeth (pl := pl) (pe_clsv hg hm hdb) r cm F (hr.mono hk) hx ha hst hpl ht
def tMakeV (C : Addr) (i : Nat) (sp : Sp) (E : XK) (t : TA) : TE := fun σ H Q => σ[i]? = some (some (.ref C)) ∧ t σ H fun vs H1 => MkW C sp E Q vs H1
theorem pe_mkV {y : Str} (c : MakX X.prog X.w X.K X.mg X.base k y C sp []) (hr : Room j X.A) (hk : k + 1 ≤ j) (hN : X.N[i]? = some x) (hv : Vis X.env.scope x) (hx : Passes (L2.CX X.prog X.w) X E) (ha : PA X (e :: es) t)
    (hd : (x == ("__debug__" : Str)) = false := by decide) (hcd : (x == ("__classdict__" : Str)) = false := by decide)
    (he : starEach (e :: es) X.env = (false, eval e X.env) :: starEach es X.env := by rfl) (hpl : (backTo pos (starEach es X.env)).any (·.1) = false := by rfl) :
    PE X (.Call (.Name x p) (e :: es) [] pos) (tMakeV C i sp E t) := by
  obtain ⟨f, fd, ps, ds, M, F, _, b, d⟩ := c.ex
  refine ⟨fun pins s σ H Q I h => ?_⟩
  obtain ⟨hs, h⟩ := h
  refine wpAny_Call_Name_kw (thn ((pe_var (pos := p) hN hv hd hcd).run pins s σ H (fun v H1 => v = .ref C ∧ H1 = H) I ⟨.ref C, hs, rfl, rfl⟩) fun u s1 ⟨v, H1, I1, r1, q1⟩ => ?_)
  obtain ⟨rfl, rfl⟩ := q1
  cases r1
  refine PySem.W.callWith_K (h₀ := X.base) I.ok.mod.kin M.kp (thn (ha.run pos pins s1 σ _ _ I1 h) fun us s2 ⟨vs, H2, I2, r, q⟩ => ⟨I2.kIn, ?_⟩) he hpl
  exact run_make M F (hr.mono hk) b d hx I2 r (fun y dx h1 h2 h3 => by rw [List.append_nil]; exact q y dx h1 h2 h3)
end
end RM
namespace RM
open PySem PySem.Spec PyProof.Rows L2
/-! ### methods that may raise -/
structure MetX (P : Program) (w : World) (K : PySem.W.Frag) (mg : Str → Option Value) (base : Heap) (k : Nat) (C : Addr) (m : Str) (sp : Sp) (dvs : List V) : Prop where
  ex : ∃ (f : Addr) (fd : FuncData) (ps : List Str) (ds : List Value), Cls K C ∧ Meth K C m f ∧ FnOk P w K mg base (L2.CX P w) k f fd ps sp ∧ Binds K fd ps ds ∧ Vals dvs ds
structure MetSX (P : Program) (w : World) (K : PySem.W.Frag) (mg : Str → Option Value) (base : Heap) (k : Nat) (C : Addr) (m : Str) (sp : Sp) : Prop where
  ex : ∃ f : Addr, Cls K C ∧ Meth K C m f ∧ FnR P w K mg base (L2.CX P w) k f (StarW sp)
theorem MetSX.of {P : Program} {w : World} {K : PySem.W.Frag} {mg : Str → Option Value} {base : Heap} {f : Addr} {p0 : Str} {k : Nat} {C : Addr} {m : Str} {sp : Sp} (c : Cls K C) (hm : Meth K C m f)
    (F : FnR P w K mg base (L2.CX P w) k f (fun vs H Q E => ∃ ws rest, vs = ws ++ rest ∧ ws.length = [p0].length ∧ rest.length ≤ sizeLine ∧ ∀ p, H p = none → sp (ws ++ [V.ref p]) (upd H p (.tup rest)) Q E)) : MetSX P w K mg base k C m sp :=
  ⟨f, c, hm, F.imp fun vs H Q E ⟨x, rest, e, hl, q⟩ => ⟨[x], rest, e, rfl, szl (by omega), q⟩⟩
structure MetKX (P : Program) (w : World) (K : PySem.W.Frag) (mg : Str → Option Value) (base : Heap) (k : Nat) (C : Addr) (m : Str) (sp : Sp) (n : Nat) (ks : List Str) : Prop where
  ex : ∃ (f : Addr) (fd : FuncData) (ps : List Str), Cls K C ∧ Meth K C m f ∧ FnOk P w K mg base (L2.CX P w) k f fd ps sp ∧ KBn K fd ps n ks (fun us ws => us ++ ws) (fun us ws => us ++ ws)
section
variable {X : Cx} {k j : Nat} {C : Addr} {m : Str} {sp : Sp} {apos pos : Pos} {e o : Expr} {es : List Expr} {ta : TE} {t tk : TA} {dvs : List V} {E : XK}
theorem pe_mtX {pl : Sem Bool} (c : MetX X.prog X.w X.K X.mg X.base k C m sp dvs) (hr : Room j X.A) (hk : k ≤ j) (hx : Passes (L2.CX X.prog X.w) X E) (he : PE X o ta) (ha : PA X (e :: es) t)
    (hst : NoStar X pos e es := by exact ⟨rfl, rfl⟩) (ht : MC X o m apos pos (e :: es) [] pl := by exact rfl) : PE X (.Call (.Attribute o m apos) (e :: es) [] pos) (tMeth C m sp dvs E ta t) := by
  obtain ⟨f, fd, ps, ds, hc, hm, F, b, d⟩ := c.ex
  exact pe_meth (pl := pl) he hc hm F (hr.mono hk) b d hx ha hst.1 hst.2 ht
theorem pe_mtSX {pl : Sem Bool} (c : MetSX X.prog X.w X.K X.mg X.base k C m sp) (hr : Room j X.A) (hk : k ≤ j) (hx : Passes (L2.CX X.prog X.w) X E) (he : PE X o ta) (ha : PA X (e :: es) t)
    (hst : NoStar X pos e es := by exact ⟨rfl, rfl⟩) (ht : MC X o m apos pos (e :: es) [] pl := by exact rfl) : PE X (.Call (.Attribute o m apos) (e :: es) [] pos) (tMethR C m (StarW sp) E ta t) := by
  obtain ⟨f, hc, hm, F⟩ := c.ex
  exact pe_methR (pl := pl) he hc hm F (hr.mono hk) hx ha hst.1 hst.2 ht
def tMethKX (C : Addr) (m : Str) (n r : Nat) (sp : Sp) (E : XK) (ta : TE) (t tk : TA) : TE := fun σ H Q => ta σ H fun x H1 => ∃ a dx fs, x = .ref a ∧ H1 a = some (.ins C dx fs) ∧ fs.lookup m = none ∧ t σ H1 fun vs H2 => tk σ H2 fun zs H3 => (x :: vs).length = n ∧ zs.length = r ∧ sp (x :: (vs ++ zs)) H3 Q E
theorem pe_mtKX {pl : Sem Bool} {n r : Nat} {ks : List Str} {kws : List Keyword} (c : MetKX X.prog X.w X.K X.mg X.base k C m sp n ks) (hr : Room j X.A) (hk : k ≤ j) (hx : Passes (L2.CX X.prog X.w) X E) (he : PE X o ta) (ha : PA X (e :: es) t) (hkw : PK X kws tk)
    (hq : KwOk X pos e es kws ks := by exact ⟨rfl, rfl, rfl, rfl⟩) (ht : MC X o m apos pos (e :: es) kws pl := by exact rfl) (hl : ks.length = r := by rfl) : PE X (.Call (.Attribute o m apos) (e :: es) kws pos) (tMethKX C m n r sp E ta t tk) := by
  subst hl
  obtain ⟨f, fd, ps, hc, hm, F, hb⟩ := c.ex
  refine ⟨fun pins s σ H Q I h => PySem.W.methodCall_KW (pl := pl) (thn (he.run pins s σ H _ I h) fun u s1 hu => ?_) ht⟩
  obtain ⟨x, H1, I1, rx, a, dx, fs, rfl, ea, l, q⟩ := hu
  cases rx
  refine getmeth_ok I1 ea hc hm l (PySem.W.callWith_KW (first := [.ref a]) (h₀ := X.base) I.ok.mod.kin hm.kp hq.1 (thn (ha.run pos pins s1 σ H1 _ I1 q) fun us s2 hu => ?_) hq.2.2.2 hq.2.2.1)
  obtain ⟨vs, H2, I2, r, q2⟩ := hu
  refine thn (hkw.run pos pins s2 σ H2 _ I2 q2) fun ws s3 hw => ?_
  obtain ⟨zs, H3, I3, rz, l1, l2, q3⟩ := hw
  refine ⟨I3.kIn, ?_⟩
  rw [hq.2.1]
  exact run_fnN (us := .ref a :: us) (vs := .ref a :: vs) F (hr.mono hk) hb hx I3 (.cons rfl r) rz l1 l2 q3
end
section
variable {σ : L2.St} {H : Hp} {Q : VK} {ta : TE} {tl tk : TA} {sp : Sp} {C : Addr} {m : Str} {E : XK}
def MetWKX (C : Addr) (m : Str) (n r : Nat) (sp : Sp) (E : XK) (t tk : TA) (σ : L2.St) (Q : VK) (x : V) (H1 : Hp) : Prop := ∃ a dx fs, x = .ref a ∧ H1 a = some (.ins C dx fs) ∧ fs.lookup m = none ∧ t σ H1 fun vs H2 => tk σ H2 fun zs H3 => (x :: vs).length = n ∧ zs.length = r ∧ sp (x :: (vs ++ zs)) H3 Q E
theorem wp_methKX {n r : Nat} (h : ta σ H fun x H1 => MetWKX C m n r sp E tl tk σ Q x H1) : tMethKX C m n r sp E ta tl tk σ H Q := h
theorem met_atKX {a dx : Addr} {fs : List (Str × V)} {n r : Nat} (ha : H a = some (.ins C dx fs)) (hl : fs.lookup m = none) (q : tl σ H fun vs H2 => tk σ H2 fun zs H3 => (V.ref a :: vs).length = n ∧ zs.length = r ∧ sp (.ref a :: (vs ++ zs)) H3 Q E) : MetWKX C m n r sp E tl tk σ Q (.ref a) H := ⟨a, dx, fs, rfl, ha, hl, q⟩
end
end RM
namespace RM
open PySem PySem.Spec PyProof.Rows L2 ItX
/-! ### operators that the text defines, dicts compared, lists of own objects over a dict, static methods -/
/-- a class's operator op against an int on the right -/
structure SpcI (P : Program) (w : World) (K : PySem.W.Frag) (mg : Str → Option Value) (base : Heap) (n : Nat) (C : Addr) (op : Operator) (sp : Sp) : Prop where
  ex : ∃ (f : Addr) (fd : FuncData) (ps : List Str) (fo ro rc : Option Value), PySem.W.selfFirst K C = true ∧ PySem.W.findIn K (.ref C) (PySem.dunder op.info.2) = some (some (.ref f)) ∧ PySem.W.isFn K (.ref f) = true ∧
    PySem.W.findIn K (.ref C) (dunderR op.info.2) = some rc ∧ (rc = none ∨ ∃ g : Addr, rc = some (.ref g)) ∧ PySem.W.findIn K (.type "int") (PySem.dunder op.info.2) = some fo ∧ PySem.W.findIn K (.type "int") (dunderR op.info.2) = some ro ∧
    PySem.W.subIn K (.type "int") (.ref C) = some false ∧ FnOk P w K mg base CX0 n f fd ps sp ∧ Binds K fd ps []
theorem SpcI.of {P : Program} {w : World} {K : PySem.W.Frag} {mg : Str → Option Value} {base : Heap} {n : Nat} {op : Operator} {sp : Sp} {x nm rn : Str} {f : Addr} {fd : FuncData} {ps : List Str} (b : bBinI x nm rn K = true) (m : Meth K (He.ga K x) nm f)
    (F : FnOk P w K mg base CX0 n f fd ps sp) (hb : Binds K fd ps []) (e1 : PySem.dunder op.info.2 = nm := by decide +kernel) (e2 : dunderR op.info.2 = rn := by decide +kernel) : SpcI P w K mg base n (He.ga K x) op sp := by
  obtain ⟨b1, b⟩ := He.ba b
  obtain ⟨b2, b⟩ := He.ba b
  obtain ⟨b3, b⟩ := He.ba b
  obtain ⟨b4, b5⟩ := He.ba b
  obtain ⟨rc, h1, h2⟩ := okR_ok b2
  obtain ⟨fo, h3⟩ := Option.isSome_iff_exists.mp b3
  obtain ⟨ro, h4⟩ := Option.isSome_iff_exists.mp b4
  exact ⟨f, fd, ps, fo, ro, rc, b1, by rw [e1]; exact m.at_, m.fn, by rw [e2]; exact h1, h2, by rw [e1]; exact h3, by rw [e2]; exact h4, of_decide_eq_true b5, F, hb⟩
def rOwnI (C : Addr) (sp : Sp) : R2 := fun x y H Q => ∃ a dx fs i, x = .ref a ∧ y = .int i ∧ H a = some (.ins C dx fs) ∧ sp [.ref a, .int i] H (fun v H' => ∃ b, v = .ref b ∧ Q v H') E0
section
variable {X : Cx} {n : Nat} {C : Addr} {sp : Sp} {op : Operator}
theorem op_ownI (S : SpcI X.prog X.w X.K X.mg X.base n C op sp) (hr : Room n X.A) : OpR X (binaryOp op) (rOwnI C sp) := by
  obtain ⟨f, fd, ps, fo, ro, rc, k1, k2, k3, k4, k5, k6, k7, k8, F, hb⟩ := S.ex
  intro pins s σ H x y v u Q I rx ry h
  obtain ⟨a, dx, fs, i, rfl, rfl, ha, h⟩ := h
  cases rx
  obtain ⟨t, rfl⟩ := ry
  obtain ⟨od, J⟩ := inst_of I ha
  obtain ⟨m, hF⟩ := I.fr
  refine PySem.W.ksp_binT (T := "int") hF I.ok.mod.kin J rfl k1 k2 k3 k4 k5 k6 k7 k8 ?_
  refine wpAny_mono (run_at (us := [.ref a, .int i t]) (vs := [.ref a, .int i]) ⟨hr, rfl⟩ F hb I (.cons rfl (.cons ⟨t, rfl⟩ .nil)) h) (fun v s' hv => ?_) fun _ _ e => e
  obtain ⟨z, H', I', rz, b, rfl, q⟩ := hv
  cases rz
  exact ⟨.ref b, H', I', rfl, q⟩
end
/-! #### dicts whose values are ints -/
def eqKV (ks ls : List (Key × V)) : Bool := (ks.length == ls.length) && ks.all fun p => match valV ls p.1 with
  | some v => decide (v = p.2)
  | none => false
def IntVs (ks : List (Key × V)) : Prop := ∀ p ∈ ks, ∃ i, p.2 = V.int i
theorem hitsI {A : Around} {s : Shared} {ls : List (Key × V)} {vb : List (Key × Value)} (rb : KV ls vb) (hl : IntVs ls) : ∀ {ks : List (Key × V)} {va : List (Key × Value)}, KV ks va → IntVs ks →
    PySem.W.KeqHits A s vb va (ks.all fun p => match valV ls p.1 with
      | some v => decide (v = p.2)
      | none => false)
  | _, _, .nil, _ => .nil
  | p :: ks, q :: qs, .cons h t, hk => by
    obtain ⟨h1, h2⟩ := h
    obtain ⟨k, v⟩ := q
    have h1' : p.1 = k := h1
    have ih := hitsI (A := A) (s := s) rb hl t fun p' hm => hk p' (List.mem_cons_of_mem _ hm)
    obtain ⟨i, ei⟩ := hk p List.mem_cons_self
    have rr : RelO (valV ls p.1) (valueAt vb p.1) := rb.val p.1
    rw [List.all_cons]
    cases e : valV ls p.1 with
    | none =>
      rw [e] at rr
      have z : valueAt vb p.1 = none := RelO.none_of rr
      rw [h1'] at z
      exact .miss z
    | some y =>
      rw [e] at rr
      obtain ⟨u, hu, ru⟩ := rr.some_of
      have hy : ∃ j, y = V.int j := by
        unfold valV at e
        obtain ⟨kv, e1, e2⟩ := Option.map_eq_some_iff.mp e
        obtain ⟨j, ej⟩ := hl kv (List.mem_of_find?_eq_some e1)
        exact ⟨j, by rw [← e2, ej]⟩
      obtain ⟨j, rfl⟩ := hy
      obtain ⟨t', rfl⟩ := ru
      rw [ei] at h2
      obtain ⟨t2, rfl⟩ : ∃ t, v = Value.int i t := h2
      rw [h1'] at hu
      have q := SeqAt.EqAt.int_int (A := A) (s := s) i t2 j t'
      have e3 : decide (V.int j = p.2) = (i == j) := by
        rw [ei, Bool.eq_iff_iff, decide_eq_true_eq, beq_iff_eq]
        exact ⟨fun z => by cases z; rfl, fun z => by rw [z]⟩
      show PySem.W.KeqHits A s vb _ (decide (V.int j = p.2) && _)
      rw [e3]
      exact .hit hu q ih
def rEqDK : R2 := fun x y H Q => ∃ a b ks ls, x = .ref a ∧ y = .ref b ∧ H a = some (.dK ks) ∧ H b = some (.dK ls) ∧ IntVs ks ∧ IntVs ls ∧ Q (.bl (eqKV ks ls)) H
section
variable {X : Cx}
theorem op_eqDK (hu : X.A.units < cLine) : OpR X (compareOp .Eq) rEqDK := by
  intro pins s σ H x y v u Q I rx ry h
  obtain ⟨a, b, ks, ls, rfl, rfl, ea, eb, ia, ib, q⟩ := h
  obtain rfl : v = Value.ref a := rx
  obtain rfl : u = Value.ref b := ry
  obtain ⟨_, ya, va, ra, da⟩ := (show ObjOk X.prog X.w H s.heap a (.dK ks) from I.hok a _ ea)
  obtain ⟨_, yb, vb, rb, db⟩ := (show ObjOk X.prog X.w H s.heap b (.dK ls) from I.hok b _ eb)
  refine PySem.W.keq_eq (knd := mixKind X.prog X.w) ya yb da db hu (fun _ => hitsI rb ib ra ia) ⟨.bl _, H, I, ?_, q⟩
  show _ = Value.bool (eqKV ks ls)
  unfold eqKV
  rw [ra.length, rb.length]
end
/-! #### list(o), o of an own class whose __iter__ hands out an iterator over a locked dict -/
section
variable {X : Cx} {pins : List (Addr × Obj)} {σ : L2.St} {H : Hp} {s : Shared} {n : Nat} {A : Around} {f C it q d : Addr} {o : Obj} {i m : Nat} {kvs : List (Key × V)} {es : Array DictEntry} {ep : Nat}
theorem fpUpd {b : Addr} {u : HO} (h : FpOk X pins H b) (hb : b ≠ q) : FpOk X pins (upd H q u) b := ⟨by rw [upd_ne hb]; exact h.1, h.2⟩
/-- the loop that fills the list at q from the iterator at it -/
theorem it_loopK {Rs : Result → Shared → Prop} (hod : o.data = .dict es ep) (hh : A.in1.handled = none) (hz : kvs.length < 100000) (hdq : d ≠ q) (hiq : it ≠ q)
    (hdone : ∀ H' s', Inv X pins σ H' s' → (∀ b o, b ≠ q → H b = some o → H' b = some o) → H' q = some (.lst (kvs.map fun kv => kV kv.1)) → Rs (.ok (.ret .none)) s') :
    ∀ (m i : Nat) (H' : Hp) (s : Shared), kvs.length - i = m → i ≤ kvs.length → Inv X pins σ H' s → (∀ b o, b ≠ q → H b = some o → H' b = some o) → H' d = some (.frz o (.dK kvs)) → FpOk X pins H' it → s.heap.IsKeyIter it d i kvs.length ep → H' q = some (.lst ((kvs.map fun kv => kV kv.1).take i)) →
      codeAny (model X.prog X.w) A (.builtin "list.extend.loop" ⟨[.ref q, .ref it, .none], []⟩) Rs s := by
  have el : (kvs.map fun kv => kV kv.1).length = kvs.length := List.length_map ..
  intro m
  induction m with
  | zero =>
    intro i H' s hm hi I hk hl hf st hq
    have ei : i = kvs.length := by omega
    obtain ⟨f0, f1, f2, f3, f4, f5⟩ := hf
    refine codeAny_builtin PySem.F.entry_extend_loop ?_
    rw [Around.under_plainId PySem.F.plain_extend_loop _]
    show wpAny _ A.in1 (pyNext (.ref it) >>= _) _ _ s
    obtain ⟨hs, hgd, hx, es', ep', vs, hdt, hsz, kv, hm⟩ := I.frzK hl
    obtain ⟨rfl, rfl⟩ := dict_ep hod hdt
    refine wpAny_bind (next_key_end hh st hgd hdt hsz (by omega) fun h' eb => ?_)
    refine wpAny_pure ?_
    have I2 := I.turned (t' := s.toks) (fun b ob hb e => eb b ob hb e) f0 f1 f3 f4 f5
    refine hdone _ _ I2 hk ?_
    rw [hq, ei, ← el, List.take_length]
  | succ m ih =>
    intro i H' s hm hi I hk hl hf st hq
    have hlt : i < kvs.length := by omega
    have ⟨f0, f1, f2, f3, f4, f5⟩ := hf
    refine codeAny_builtin PySem.F.entry_extend_loop ?_
    rw [Around.under_plainId PySem.F.plain_extend_loop _]
    show wpAny _ A.in1 (pyNext (.ref it) >>= _) _ _ s
    obtain ⟨hs, hgd, hx, es', ep', vs, hdt, hsz, kv, hm⟩ := I.frzK hl
    obtain ⟨rfl, rfl⟩ := dict_ep hod hdt
    obtain ⟨⟨k, v⟩, hkv⟩ : ∃ p, kvs[i]? = some p := ⟨kvs[i], List.getElem?_eq_getElem hlt⟩
    obtain ⟨u, hu, ru⟩ := kv_get kv hkv
    have hl2 : kvs.length = vs.length := Paired.length kv
    refine wpAny_bind (wpAny_pyNext_dict_item (by rw [hl2] at st; exact st) hm hu fun key h' hkey st' sb => ?_)
    have I2 : Inv X pins σ H' { s with heap := h' } := I.turned (t' := s.toks) (fun b ob hb e => (sb.2 b hb).trans e) f0 f1 f3 f4 f5
    show wpAny _ A.in1 (updateSeq q (·.push key) >>= _) _ _ _
    obtain ⟨z, its2, k2, r2, hl3, e2⟩ := I2.lstM hq
    have hz2 : its2.length = i := by rw [← hl3, List.length_take, el]; omega
    refine wpAny_bind (wpAny_updateSeq e2 rfl (wpAny_pure ⟨plainId_quiet PySem.F.plain_extend_loop _, ?_⟩) (by rw [List.size_toArray, hz2]; exact Nat.le_trans (Nat.le_of_lt hlt) (szl (by omega))) (by show (its2.toArray.push key).size ≤ sizeLine + 1; rw [Array.size_push, List.size_toArray, hz2]; exact Nat.succ_le_succ (szl (by omega))))
    have I3 := I2.lset (f := (·.push key)) (its' := its2 ++ [key]) (ys := (kvs.map fun kv => kV kv.1).take i ++ [kV k]) (t' := s.toks) hq e2 (by simp) (r2.append (.cons (relV_key (show keyIs k key = true from hkey)) .nil)) (by rw [List.length_append, List.length_take, el]; exact szl (by show _ + 1 ≤ _; omega))
    refine ih (i + 1) _ _ (by omega) hlt I3 (fun b o h1 e => by rw [upd_ne h1]; exact hk b o h1 e) (by rw [upd_ne hdq]; exact hl) (fpUpd hf hiq) ?_ ?_
    · rw [hl2]
      exact st'.at fun ob e => (Heap.get?_update_other _ _ (Ne.symm hiq)).trans e
    · rw [upd_same]
      have e3 : (kvs.map fun kv => kV kv.1)[i]? = some (kV k) := by rw [List.getElem?_map, hkv]; rfl
      rw [List.take_succ, e3]
      rfl
/-- list(o) -/
def rListOwnK (K : PySem.W.Frag) (C : Addr) (F : Str) (spL : Sp) : List V → Hp → VK → Prop := fun xs H Q => ∃ a dx fs d o kvs, xs = [.ref a] ∧ H a = some (.ins C dx fs) ∧ fs.lookup F = some (.ref d) ∧ H d = some (.frz o (.dK kvs)) ∧ kvs.length < 100000 ∧
  (∀ H1 (R : VK), Same H H1 → (∀ k : Int, 0 ≤ k → k < 100000 → R (.int k) H1) → spL [.ref a] H1 R E0) ∧ ∀ q H', H q = none → Same H H' → H' q = some (.lst (kvs.map fun kv => kV kv.1)) → Q (.ref q) H'
theorem call_listItK {F : Str} {spL : Sp} (SI : ItrN X.prog X.w X.K X.mg X.base n C (spYoungK C F)) (SL : Spc X.prog X.w X.K X.mg X.base n C "__len__" spL) (hr : Room (n + 3) X.A) : CallR X (.type "list") (rListOwnK X.K C F spL) := by
  obtain ⟨fI, fdI, psI, hsI, hfI, FI, bI⟩ := SI.ex
  obtain ⟨fL, fdL, psL, hsL, hfL, FL, bL⟩ := SL.ex
  intro pins s σ H xs us Q I rv h
  obtain ⟨a, dx, fs, d, o, kvs, rfl, ha, lk, hd, hz, hL, h⟩ := h
  obtain ⟨u, rfl, ru⟩ := rv.one
  cases ru
  have sb : Sub X (n + 1) X.A.in1.in1 := Sub.in1 (Sub.in1 (⟨hr, rfl⟩ : Sub X (n + 3) X.A))
  refine callType_codes (Q₁ := fun obj s₁ => obj = .ref s.heap.objs.size ∧ s₁ = { s with heap := s.heap.push { cls := .type "list", data := .seq #[] } }) PySem.F.called_list (PySem.F.typeCall_list_1 _) PySem.F.entry_list_init
    (code_list_new _ ⟨rfl, rfl⟩) fun obj s₁ h₁ => ?_
  obtain ⟨rfl, rfl⟩ := h₁
  have hS : (s.heap.push { cls := .type "list", data := .seq #[] }).get? s.heap.objs.size = some { cls := .type "list", data := .seq #[] } := Heap.get?_push_size _ rfl
  refine ⟨⟨_, hS, rfl⟩, PySem.F.args_list_init_2 _ _, ?_⟩
  have fr : H s.heap.objs.size = none := I.hok.fresh (Nat.le_refl _)
  have h := fun H' => h _ H' fr
  generalize hqe : s.heap.objs.size = q at *
  have I1 : Inv X pins σ (upd H q (.lst [])) { s with heap := s.heap.push { cls := .type "list", data := .seq #[] } } := by
    have z := I.lnew (its := []) (ys := []) (t' := s.toks) .nil (Nat.zero_le _)
    rw [hqe] at z
    exact z
  show wpAny _ _ (do let old ← Builtin.List.listItems (.ref q); Builtin.List.listUpdate (.ref q) (fun _ => #[]); letGo old.toList.reverse; Builtin.List.listExtendWith (.ref q) (.ref a) .none) _ _ _
  refine wpAny_bind ?_
  unfold Builtin.List.listItems
  refine wpAny_bind (wpAny_seqItems hS rfl (wpAny_pure ?_))
  show wpAny _ _ (updateSeq q (fun _ => #[]) >>= fun _ => letGo (#[] : Array Value).toList.reverse >>= fun _ => Builtin.List.listExtendWith (.ref q) (.ref a) .none) _ _ _
  refine wpAny_bind (wpAny_updateSeq hS rfl ?_)
  have I2 := I1.lset (f := fun _ => #[]) (its := []) (its' := []) (ys := []) (t' := s.toks) upd_same hS rfl .nil (Nat.zero_le _)
  rw [upd_upd] at I2
  refine wpAny_bind (wpAny_letGo ?_)
  have sHq : Same H (upd H q (.lst [])) := Same.new fr
  have ha2 : upd H q (.lst []) a = some (.ins C dx fs) := sHq _ _ ha
  have hd2 : upd H q (.lst []) d = some (.frz o (.dK kvs)) := sHq _ _ hd
  have hne : q ≠ a := ne_of (H := upd H q (.lst [])) upd_same ha2 (fun z => nomatch z)
  have hdq : d ≠ q := ne_of_none hd fr
  obtain ⟨od, J⟩ := inst_of I2 ha2
  obtain ⟨m0, hF⟩ := I2.fr
  show wpAny _ X.A.in1.in1 (Builtin.List.listExtendWith (.ref q) (.ref a) .none) _ _ _
  unfold Builtin.List.listExtendWith
  refine wpAny_bind (J.type.here ?_)
  have h1 : Builtin.List.listSameRef (.ref q) (.ref a) = false := by simp [Builtin.List.listSameRef, hne]
  have h2 : (Value.ref C == Value.type "list") = false := rfl
  have h3 : (Value.ref C == Value.type "tuple") = false := rfl
  simp only [h1, h2, h3, Bool.or_false, Bool.false_eq_true, if_false]
  refine wpAny_bind (PySem.W.owit_iter hF I2.ok.mod.kin J hsI hfI ?_)
  have I2s := I2.sz
  refine wpAny_mono (run_young (us := [.ref a]) (vs := [.ref a]) (Q := fun v H2 => ∃ it, v = .ref it ∧ upd H q (.lst []) it = none ∧ X.s_0.heap.objs.size ≤ it ∧ H2 = upd (upd H q (.lst [])) it (KeyIt d o kvs.length it)) (sb.mono (Nat.le_succ _)) FI bI I2 (.cons rfl .nil) ⟨a, dx, fs, d, o, kvs, rfl, ha2, lk, hd2, fun it h1 h2 => ⟨it, rfl, h1, Nat.le_trans I2s h2, rfl⟩⟩) (fun u s' hu => ?_) (fun _ _ e => e)
  obtain ⟨v, H2, I3, rv3, it, rfl, hn, hle, rfl⟩ := hu
  cases rv3
  have hi' : upd (upd H q (.lst [])) it (KeyIt d o kvs.length it) it = some (KeyIt d o kvs.length it) := upd_same
  have hok := I3.hok it _ hi'
  obtain ⟨es, ep, hdt, ki⟩ := hok.1
  have hT : s'.TypeIs (.ref it) "dict_keyiterator" := ki.typeIs
  unfold PySem.W.OwitIt
  show wpAny _ _ (typeOf (.ref it) >>= fun t => typeLookup t "__next__") _ _ _
  refine wpAny_bind (wpAny_typeOf hT (wpAny_of_eq PySem.F.slot_dict_keyiterator_next.lookup ?_))
  show wpAny _ _ _ _ _ _
  have fp := inv_fp I3 hi' hle
  unfold KeyIt at hi'
  have I4 := inv_drop I3 hi'
  rw [dropH_upd' hn] at I4 fp
  have niq : it ≠ q := fun e => by rw [e, upd_same] at hn; cases hn
  obtain ⟨od', J'⟩ := inst_of I4 ha2
  obtain ⟨m1, hF'⟩ := I4.fr
  refine wpAny_bind (wpAny_holding ?_)
  unfold Builtin.List.listLengthHint
  refine wpAny_bind (wpAny_bind (J'.type.here ((PySem.W.looks_findIn I4.kIn hsL).here ?_)))
  refine PySem.W.KFB.if_not rfl ?_
  refine PySem.W.KFB.if_so rfl ?_
  refine wpAny_bind (wpAny_rule (wpAny_bind (wpAny_attempt ?_)))
  refine PySem.W.len_K hF' I4.ok.mod.kin J' hsL hfL ?_
  have I5p := I4.pinned (fun b hb => by rw [List.mem_singleton.mp hb]; exact fp : ∀ b ∈ [it], FpOk X pins (upd H q (.lst [])) b) (fun b hb => by
    rw [List.mem_singleton.mp hb]
    obtain ⟨oi, e, c, dd⟩ := ki
    exact ⟨oi, e, fun v z => by rw [dd] at z; cases z⟩)
  have ki4 := ki
  refine wpAny_mono (run_at (E' := fun _ _ => False) (us := [.ref a]) (vs := [.ref a]) (Q := fun v H2 => ∃ k : Int, v = .int k ∧ 0 ≤ k ∧ k < 100000 ∧ H2 = upd H q (.lst [])) sb.in1 FL bL I5p (.cons rfl .nil) (hL _ _ sHq fun k k0 k1 => ⟨k, rfl, k0, k1, rfl⟩)) (fun u s2 hu => ?_) fun _ _ e => e.elim
  obtain ⟨v2, H2, I6p, rv4, k, rfl, k0, k1, rfl⟩ := hu
  obtain ⟨tk, rfl⟩ := rv4
  refine ⟨⟨k0, by omega⟩, ?_⟩
  have ki6 : s2.heap.IsKeyIter it d 0 kvs.length ep := ki4.at fun ob e => (I6p.pin (it, ob) (List.mem_append_right _ (List.mem_append_right _ (mem_pinsAt (List.mem_singleton.mpr rfl) e)))).1
  have I6 := I6p.unpinned.tok (s2.toks + 1)
  refine wpAny_bind (wpAny_of_eq (a := some k) rfl ?_)
  refine PySem.W.KFB.if_not (notLongL (szl (by omega))) ?_
  refine wpAny_pure ?_
  have fin : ∀ (s3 : Shared), Inv X pins σ (upd H q (.lst [])) s3 → s3.heap.IsKeyIter it d 0 kvs.length ep → codeAny (model X.prog X.w) X.A.in1 (.builtin "list.extend.loop" ⟨[.ref q, .ref it, .none], []⟩) (wants (fun r s₂ => r = .none ∧ EP X pins σ Q (.ref q) s₂) X.xe) s3 := fun s3 I7 st => by
    refine it_loopK (A := X.A.in1) (H := upd H q (.lst [])) hdt hr.hd hz hdq niq (fun H3 s4 I8 hk3 hq3 => ⟨rfl, .ref q, H3, I8, rfl, h H3 (fun b ob e => hk3 b ob (ne_of_none e fr) (sHq _ _ e)) hq3⟩) kvs.length 0 _ s3 rfl (Nat.zero_le _) I7 (fun _ _ _ e => e) hd2 fp st upd_same
  refine wpAny_ite_split (fun _ => ?_) (fun _ => wpAny_pure ⟨plainId_quiet PySem.F.plain_extend_loop _, fin _ I6 ki6⟩)
  obtain ⟨z, its, k3, r3, hl3, e3⟩ := I6.lstM upd_same
  cases r3
  refine wpAny_bind (wpAny_rule ?_)
  refine wpAny_bind ?_
  show wpAny _ _ (updateSeq q (·.push .none) >>= fun _ => updateSeq q (·.pop)) _ _ _
  refine wpAny_bind (wpAny_updateSeq e3 rfl ?_)
  have I7 := I6.lset (f := (·.push Value.none)) (its' := [Value.none]) (ys := [.non]) (t' := s2.toks + 1) upd_same e3 (by simp) (.cons rfl .nil) (by rw [List.length_singleton, sizeLine_eq]; decide)
  obtain ⟨z4, its4, k4, r4, hl4, e4⟩ := I7.lstM upd_same
  obtain ⟨u4, rfl, ru4⟩ := r4.one
  refine wpAny_updateSeq e4 rfl ?_ (by show 1 ≤ sizeLine; rw [sizeLine_eq]; decide) (by show 0 ≤ sizeLine + 1; exact Nat.zero_le _)
  refine wpAny_pure ⟨plainId_quiet PySem.F.plain_extend_loop _, fin _ ?_ ?_⟩
  · have I8 := I7.lset (f := (·.pop)) (its := [u4]) (its' := []) (ys := []) (t' := s2.toks + 1) upd_same e4 (by rfl) .nil (Nat.zero_le _)
    rw [upd_upd, upd_upd] at I8
    exact I8
  · exact (ki6.at fun ob e => (Heap.get?_update_other _ _ (Ne.symm niq)).trans e).at fun ob e => (Heap.get?_update_other _ _ (Ne.symm niq)).trans e
end
/-! #### C.m(x, *rest), a static method -/
def smP (K : PySem.W.Frag) (C : Addr) (m : Str) : Addr := match PySem.W.findCls K (.ref C) (.type "type") m with
  | some (.get _ (.ref p) _ _) => p
  | _ => 0
def smG (K : PySem.W.Frag) (C : Addr) (m : Str) : Addr := match PySem.W.recIn K (smP K C m) "staticmethod" with
  | some (.ref g :: _) => g
  | _ => 0
def isSM (K : PySem.W.Frag) (C : Addr) (m : Str) : Bool := match PySem.W.findCls K (.ref C) (.type "type") m with
  | some (.get (.builtin z) (.ref _) .none (.ref C')) => decide (z = "staticmethod.__get__") && decide (C' = C)
  | _ => false
def isSG (K : PySem.W.Frag) (C : Addr) (m : Str) : Bool := match PySem.W.recIn K (smP K C m) "staticmethod" with
  | some (.ref _ :: _) => true
  | _ => false
/-- C.m is a static method: its record at p, its def at g -/
structure SMet (K : PySem.W.Frag) (C : Addr) (m : Str) (p g : Addr) : Prop where
  at_ : PySem.W.findCls K (.ref C) (.type "type") m = some (.get (.builtin "staticmethod.__get__") (.ref p) .none (.ref C))
  rc : ∃ rest, PySem.W.recIn K p "staticmethod" = some (.ref g :: rest)
  kp : PySem.W.keepIn K (.ref g) = true
def bSMet (x m : Str) (K : PySem.W.Frag) : Bool := isSM K (He.ga K x) m && (isSG K (He.ga K x) m && PySem.W.keepIn K (.ref (smG K (He.ga K x) m)))
theorem bSMet_ok {x m : Str} {K : PySem.W.Frag} (h : bSMet x m K = true) : SMet K (He.ga K x) m (smP K (He.ga K x) m) (smG K (He.ga K x) m) := by
  obtain ⟨h1, h⟩ := He.ba h
  obtain ⟨h2, h3⟩ := He.ba h
  refine ⟨?_, ?_, h3⟩
  · unfold isSM at h1
    unfold smP
    split at h1
    · rename_i z p C' e
      obtain ⟨q1, q2⟩ := He.ba h1
      rw [e, of_decide_eq_true q1, of_decide_eq_true q2]
    · exact absurd h1 Bool.false_ne_true
  · unfold isSG at h2
    unfold smG
    split at h2
    · rename_i g r e
      rw [e]
      exact ⟨r, rfl⟩
    · exact absurd h2 Bool.false_ne_true
structure SMS (CX : CXT) (P : Program) (w : World) (K : PySem.W.Frag) (mg : Str → Option Value) (base : Heap) (k : Nat) (x : Str) (C : Addr) (m : Str) (sp : Sp) : Prop where
  ex : ∃ p g : Addr, mg x = some (.ref C) ∧ ClX.CRead K C (.type "type") ∧ SMet K C m p g ∧ FnR P w K mg base CX k g (StarW sp)
theorem SMS.of {CX : CXT} {P : Program} {w : World} {K : PySem.W.Frag} {mg : Str → Option Value} {base : Heap} {k : Nat} {x m : Str} {C p g : Addr} {sp : Sp} {p0 : Str} (hm : mg x = some (.ref C)) (r : ClX.CRead K C (.type "type")) (c : SMet K C m p g)
    (F : FnR P w K mg base CX k g (fun vs H Q E => ∃ ws rest, vs = ws ++ rest ∧ ws.length = [p0].length ∧ rest.length ≤ sizeLine ∧ ∀ p, H p = none → sp (ws ++ [V.ref p]) (upd H p (.tup rest)) Q E)) : SMS CX P w K mg base k x C m sp :=
  ⟨p, g, hm, r, c, F.imp fun vs H Q E ⟨x, rest, e, hl, q⟩ => ⟨[x], rest, e, rfl, szl (by omega), q⟩⟩
def tSMeth (sp : Sp) (E : XK) (t : TA) : TE := fun σ H Q => t σ H fun vs H2 => StarW sp vs H2 Q E
section
variable {X : Cx} {CX : CXT} {k j : Nat} {x m : Str} {C : Addr} {sp : Sp} {E : XK} {e : Expr} {es : List Expr} {p0 pos apos : Pos} {t : TA} {pl : Sem Bool}
theorem pe_smS (c : SMS CX X.prog X.w X.K X.mg X.base k x C m sp) (hr : Room j X.A) (hk : k ≤ j) (hg : Gl X x) (hx : Passes CX X E) (ha : PA X (e :: es) t) (hdb : (x == ("__debug__" : Str)) = false := by decide)
    (hst : starEach (e :: es) X.env = (false, eval e X.env) :: starEach es X.env := by rfl) (hpl : (backTo pos (starEach es X.env)).any (·.1) = false := by rfl)
    (ht : MC X (.Name x p0) m apos pos (e :: es) [] pl := by exact rfl) :
    PE X (.Call (.Attribute (.Name x p0) m apos) (e :: es) [] pos) (tSMeth sp E t) := by
  obtain ⟨q, g, hm, r, cm, F⟩ := c.ex
  obtain ⟨rest, hp⟩ := cm.rc
  refine ⟨fun pins s σ H Q I h => ?_⟩
  refine PySem.W.methodCall_KW (pl := pl) (thn ((pe_clsv (pos := p0) hg hm hdb).run pins s σ H (fun v H1 => v = .ref C ∧ H1 = H) I ⟨rfl, rfl⟩) fun u s1 ⟨v, H1, I1, rx, q1⟩ => ?_) ht
  obtain ⟨rfl, rfl⟩ := q1
  obtain rfl : u = Value.ref C := rx
  refine PySem.W.method_cls I1.kIn r.ga (PySem.W.cls_bind I1.kIn r.rd cm.at_ ?_)
  refine wpAny_call (PySem.W.sm_get (s := { s1 with toks := s1.toks + 1 }) I1.kIn hp (PySem.W.handed_on rfl ?_))
  have I2 := I1.tok (s1.toks + 1)
  refine PySem.W.callWith_K (h₀ := X.base) (first := []) I2.ok.mod.kin cm.kp (thn (ha.run pos pins _ σ _ _ I2 h) fun us s3 ⟨vs, H2, I3, rv, q2⟩ => ⟨I3.kIn, ?_⟩) hst hpl
  exact wpAny_call (run_fnR (us := us) (vs := vs) F (hr.mono hk) hx I3 rv q2)
end
/-! #### len(d), walks over dicts and tuples -/
def rLenD : List V → Hp → VK → Prop := fun xs H Q => ∃ a kvs, xs = [V.ref a] ∧ Rd H a (.dK kvs) ∧ Q (.int kvs.length) H
section
variable {X : Cx}
theorem call_lenDR : CallR X (.builtin "len") rLenD := by
  intro pins s σ H xs us Q I r h
  obtain ⟨a, kvs, rfl, ha, q⟩ := h
  obtain ⟨u, rfl, ru⟩ := r.one
  cases ru
  exact d_len I ha fun t s' I' => ⟨.int kvs.length, H, I', ⟨t, rfl⟩, q⟩
end
section
variable {σ : L2.St} {H : Hp} {Q : VK} {K : PySem.W.Frag} {g : TG} {tb : TS} {tt : TT} {tk tv td ta : TE} {tl : TA} {vs : List Nat} {D : Ends} {kvs : List (Key × V)} {d C : Addr} {od : Obj} {F : Str} {sp : Sp} {E : XK}
theorem wp_lenD {a : Addr} (hd : Rd H a (.dK kvs)) (h : Q (.int kvs.length) H) : rLenD [.ref a] H Q := ⟨a, kvs, rfl, hd, h⟩
theorem wp_listD {p : Addr} (hd : H p = some (.dK kvs)) (h : ∀ q, H q = none → Q (.ref q) (upd H q (.lst (kvs.map fun kv => kV kv.1)))) : rListD [.ref p] H Q := ⟨p, kvs, rfl, hd, h⟩
theorem wp_smeth (h : tl σ H fun vs H2 => StarW sp vs H2 Q E) : tSMeth sp E tl σ H Q := h
theorem wp_forKeys (h : td σ H fun x H1 => ∃ d o, x = .ref d ∧ ((∃ kvs, H1 d = some (.frz o (.dK kvs)) ∧ ForW (Itk d o kvs) g tb D σ H1) ∨ ∃ kvs, H1 d = some (.frz o (.dT kvs)) ∧ ForW (Itkt d o kvs) g tb D σ H1)) : tFor (iKeys td) g tb D σ H := h
theorem loopKeysN {f : List Nat → V} {ns : List (List Nat)} (hf : H d = some (.frz od (.dK (dN f ns)))) (Pv : Nat → L2.St → Hp → Prop) (h0 : Pv 0 σ H) (hG : ∀ i σ' H', i ≤ ns.length → Pv i σ' H' → H' d = some (.frz od (.dK (dN f ns))))
    (hs : ∀ i l σ' H', ns[i]? = some l → Pv i σ' H' → g (.str (S l)) σ' H' fun σ2 H2 => tb { D with nx := Pv (i + 1), ct := Pv (i + 1), bk := D.nx } σ2 H2) (hd : ∀ σ' H', Pv ns.length σ' H' → D.nx σ' H') :
    ∃ d' o, V.ref d = .ref d' ∧ ((∃ kvs, H d' = some (.frz o (.dK kvs)) ∧ ForW (Itk d' o kvs) g tb D σ H) ∨ ∃ kvs, H d' = some (.frz o (.dT kvs)) ∧ ForW (Itkt d' o kvs) g tb D σ H) := by
  refine ⟨d, od, rfl, .inl ⟨_, hf, for_it walk_keys Pv h0 (fun i σ' H' hi => hG i σ' H' (by rw [dN_len] at hi; exact hi)) (fun i v σ' H1 H2 hi p y => ?_) (by rw [dN_len]; exact hd)⟩⟩
  obtain ⟨e, k, z, e1, rfl⟩ := y
  obtain ⟨l, hl, rfl, rfl⟩ := dN_at e1
  rw [e]
  exact hs i l σ' H1 hl p
theorem wp_dcT (h : ta σ H fun x H1 => ∃ a, x = .ref a ∧ (∃ xs, SqT K H1 a xs) ∧ DcW (Itt K a) g tt tk tv vs σ H1 Q) : tDc (iTup K ta) g tt tk tv vs σ H Q := h
theorem Same.seqT {H' : Hp} {a : Addr} {xs : List V} (e : Same H H') (h : SqT K H a xs) : SqT K H' a xs := by
  unfold SqT Rd at h ⊢
  rcases h with h | h
  · rcases h with h | ⟨o, h⟩
    · exact .inl (.inl (e _ _ h))
    · exact .inl (.inr ⟨o, e _ _ h⟩)
  · exact .inr h
theorem dcT {a : Addr} {xs : List V} (hx : SqT K H a xs) (hn : xs.length ≤ 100000) (kv : Nat → List (Key × V)) (h0 : kv 0 = []) (hlen : ∀ i, (kv i).length ≤ i)
    (hs : ∀ i x H2 (R : V → V → Hp → Prop), xs[i]? = some x → Same H H2 → (∀ k z H5, Same H2 H5 → kv (i + 1) = putK (kv i) k z → R (kV k) z H5) → g x (wipe σ vs) H2 fun σ2 H3 => wipe σ2 vs = wipe σ vs ∧ tk σ2 H3 fun y H4 => tv σ2 H4 fun z H5 => R y z H5)
    (hq : ∀ D H2, H D = none → Same H H2 → H2 D = some (.dK (kv xs.length)) → Q (.ref D) H2) : ∃ b, V.ref a = .ref b ∧ (∃ ys, SqT K H b ys) ∧ DcW (Itt K b) g tYes tk tv vs σ H Q := by
  refine ⟨a, rfl, ⟨xs, hx⟩, ?_⟩
  intro D hD
  refine dc_tup (xs := xs) (fun i H2 => i ≤ xs.length ∧ Same H H2 ∧ H2 D = some (.dK (kv i))) ⟨Nat.zero_le _, Same.new hD, by rw [h0]; exact upd_same⟩ (fun i H2 _ p => Same.seqT p.2.1 hx) (fun i x H2 hxi p => ?_) (fun H2 p => hq D H2 hD p.2.1 p.2.2)
  obtain ⟨hi, s1, hD2⟩ := p
  have hlt : i < xs.length := (List.getElem?_eq_some_iff.mp hxi).1
  exact hs i x _ (fun y z H5 => ∃ kvs k, y = kV k ∧ H5 D = some (.dK kvs) ∧ kvs.length < sizeLine ∧ (i + 1 ≤ xs.length ∧ Same H (upd H5 D (.dK (putK kvs k z))) ∧ upd H5 D (.dK (putK kvs k z)) D = some (.dK (kv (i + 1))))) hxi s1 fun k z H5 s5 e => ⟨kv i, k, rfl, s5 _ _ hD2, szlt (by have := hlen i; omega), hlt, Same.mut (s1.trans s5) hD, by rw [e]; exact upd_same⟩
end
end RM
namespace RM
open PySem PySem.Spec PyProof.Rows L2
/-! ### timetables: dicts that are built, told, changed -/
section
variable {σ : L2.St} {H : Hp} {Q : VK} {K : PySem.W.Frag} {g : TG} {tt : TT} {tk tv td te : TE} {vs : List Nat} {kvs : List (Key × V)} {d : Addr} {v : V}
/-- a dict comprehension over the keys of a dict that an expression tells -/
theorem lock_dcF (hd : H d = some (.dK kvs)) (hn : kvs.length ≤ 100000) (hv : ∀ od (R : VK), R (.ref d) (upd H d (.frz od (.dK kvs))) → td σ (upd H d (.frz od (.dK kvs))) R)
    (kv : Nat → List (Key × V)) (h0 : kv 0 = []) (hlen : ∀ i, (kv i).length ≤ i)
    (hs : ∀ i k x od H2 (R : V → V → Hp → Prop), kvs[i]? = some (k, x) → Same (upd H d (.frz od (.dK kvs))) H2 → (∀ k' z H5, Same H2 H5 → kv (i + 1) = putK (kv i) k' z → R (kV k') z H5) →
      g (kV k) (wipe σ vs) H2 fun σ2 H3 => wipe σ2 vs = wipe σ vs ∧ tk σ2 H3 fun y H4 => tv σ2 H4 fun z H5 => R y z H5)
    (hq : ∀ D H2, H D = none → Same H H2 → H2 D = some (.dK (kv kvs.length)) → Q (.ref D) H2) : tLockE (tDc (iKeys td) g tYes tk tv vs) σ H Q := by
  refine wp_lockE hd fun od => ?_
  refine hv od _ ⟨d, od, rfl, .inl ⟨kvs, upd_same, ?_⟩⟩
  intro D hD
  have nDd : D ≠ d := fun e => by rw [e, upd_same] at hD; cases hD
  have hD' : H D = none := by rw [upd_ne nDd] at hD; exact hD
  refine ⟨fun i m H2 => m = kvs.length - i ∧ i ≤ kvs.length ∧ Same (upd H d (.frz od (.dK kvs))) H2 ∧ H2 D = some (.dK (kv i)), ⟨kvs.length, by simp, Nat.zero_le _, Same.new hD, by rw [h0]; exact upd_same⟩, ?_⟩
  rintro i m H2 ⟨rfl, hi, s1, hD2⟩
  have hf := frz_at s1
  rcases Nat.lt_or_ge i kvs.length with h | h
  · right
    refine ⟨⟨hf, h⟩, fun H' => Same (upd H d (.frz od (.dK kvs))) H' ∧ H' D = some (.dK (kv (i + 1))), fun H' hN => ⟨kvs.length - (i + 1), by omega, rfl, by omega, hN⟩, fun x H' hy => ?_⟩
    obtain ⟨e, k, v, hkv, rfl⟩ := hy
    subst e
    exact hs i k v od _ (fun y z H5 => ∃ kvs' k, y = kV k ∧ H5 D = some (.dK kvs') ∧ kvs'.length < sizeLine ∧ (Same (upd H d (.frz od (.dK kvs))) (upd H5 D (.dK (putK kvs' k z))) ∧ upd H5 D (.dK (putK kvs' k z)) D = some (.dK (kv (i + 1))))) hkv s1 fun k z H5 s5 e => ⟨kv i, k, rfl, s5 _ _ hD2, szlt (by have := hlen i; omega), Same.mut (s1.trans s5) hD, by rw [e]; exact upd_same⟩
  · left
    have e : i = kvs.length := by omega
    subst e
    exact ⟨⟨hf, Nat.le_refl _⟩, hf, hq D _ hD' (unl hd s1) (by rw [upd_ne nDd]; exact hD2)⟩
theorem take_new {l : List Nat} {i : Nat} {ns : List (List Nat)} (nd : ns.Nodup) (hl : ns[i]? = some l) : l ∉ ns.take i := by
  intro hm
  have e := take_snoc hl
  have z : (ns.take (i + 1)).Nodup := nd.sublist (List.take_sublist _ _)
  rw [e] at z
  exact (List.nodup_append.mp z).2.2 l hm l (List.mem_singleton.mpr rfl) rfl
theorem lock_dcN {f : List Nat → V} {ns : List (List Nat)} (σ0 : L2.St) (h : List Nat → V) (hw : wipe σ vs = σ0) (nd : ns.Nodup) (hd : H d = some (.dK (dN f ns))) (hn : ns.length ≤ 100000) (hv : ∀ od (R : VK), R (.ref d) (upd H d (.frz od (.dK (dN f ns)))) → td σ (upd H d (.frz od (.dK (dN f ns)))) R)
    (hs : ∀ (i : Nat) (l : List Nat) od H2 (R : V → V → Hp → Prop), ns[i]? = some l → Same (upd H d (.frz od (.dK (dN f ns)))) H2 → (∀ H5, Same H2 H5 → R (.str (S l)) (h l) H5) →
      g (.str (S l)) σ0 H2 fun σ2 H3 => wipe σ2 vs = σ0 ∧ tk σ2 H3 fun y H4 => tv σ2 H4 fun z H5 => R y z H5)
    (hq : ∀ D H2, H D = none → Same H H2 → H2 D = some (.dK (dN h ns)) → Q (.ref D) H2) : tLockE (tDc (iKeys td) g tYes tk tv vs) σ H Q := by
  refine lock_dcF hd (by rw [dN_len]; exact hn) hv (fun i => dN h (ns.take i)) rfl (fun i => by rw [dN_len, List.length_take]; omega) (fun i k x od H2 R hk s kR => ?_) (fun D H2 h1 s h2 => hq D H2 h1 s (by rw [h2, dN_len, List.take_length]))
  obtain ⟨l, hl, rfl, rfl⟩ := dN_at hk
  rw [hw]
  refine hs i l od H2 R hl s fun H5 s5 => kR (.inr (S l)) (h l) H5 s5 ?_
  show dN h (ns.take (i + 1)) = _
  rw [take_snoc hl, dN_put (take_new nd hl)]
theorem dput_s {R : Hp → Prop} {l : List Nat} (hd : H d = some (.dK kvs)) (hl : kvs.length < 100000) (h : R (upd H d (.dK (putK kvs (.inr (S l)) v)))) : rSetD (.ref d) (.str (S l)) v H R := ⟨d, _, rfl, DPut.k (k := .inr (S l)) hd (szlt hl), h⟩
end
/-- the minutes of a list, by names -/
def asg : List (List Nat) → List Int → List Nat → Int
  | n :: ns, i :: is, l => if l = n then i else asg ns is l
  | _, _, _ => 0
theorem asg_at {l : List Nat} {j : Int} : ∀ {ns : List (List Nat)} {is : List Int} {k : Nat}, ns.Nodup → ns[k]? = some l → is[k]? = some j → asg ns is l = j
  | n :: ns, i :: is, 0, _, h1, h2 => by
    cases h1; cases h2
    exact if_pos rfl
  | n :: ns, i :: is, k + 1, nd, h1, h2 => by
    obtain ⟨hn, nd⟩ := List.nodup_cons.mp nd
    have e : l ≠ n := fun e => hn (e ▸ List.mem_of_getElem? h1)
    show (if l = n then i else asg ns is l) = j
    rw [if_neg e]
    exact asg_at nd h1 h2
theorem asg_mem {l : List Nat} : ∀ {ns : List (List Nat)} {is : List Int}, l ∈ ns → ns.length ≤ is.length → asg ns is l ∈ is
  | n :: ns, i :: is, h, hl => by
    show (if l = n then i else asg ns is l) ∈ _
    by_cases e : l = n
    · rw [if_pos e]; exact List.mem_cons_self
    · rw [if_neg e]
      exact List.mem_cons_of_mem _ (asg_mem ((List.mem_cons.mp h).resolve_left e) (by simpa using hl))
def rotG {α : Type} (f : Nat) (ns : List α) : List α := ns.drop f ++ ns.take f
theorem rot_perm {α : Type} (f : Nat) (ns : List α) : (rotG f ns).Perm ns := (List.perm_append_comm).trans (List.Perm.of_eq (List.take_append_drop f ns))
theorem rot_len {α : Type} (f : Nat) (ns : List α) : (rotG f ns).length = ns.length := (rot_perm f ns).length_eq
theorem rot_at {α : Type} {f k : Nat} {ns : List α} (hf : f ≤ ns.length) (hk : k < ns.length) : (rotG f ns)[k]? = ns[(k + f) % ns.length]? := by
  unfold rotG
  by_cases h : k + f < ns.length
  · rw [Nat.mod_eq_of_lt h, List.getElem?_append_left (by rw [List.length_drop]; omega), List.getElem?_drop, Nat.add_comm f k]
  · have e : (k + f) % ns.length = k - (ns.length - f) := by
      rw [Nat.mod_eq_sub_mod (by omega), Nat.mod_eq_of_lt (by omega)]
      omega
    rw [List.getElem?_append_right (by rw [List.length_drop]; omega), List.length_drop, List.getElem?_take, e, if_pos (by omega)]
theorem rot0 {α : Type} (ns : List α) : rotG 0 ns = ns := by unfold rotG; simp
/-- a new timetable is handed out -/
def NewTm (C : Addr) (G H : Hp) (T : Int) (ns : List (List Nat)) (m : List Nat → Int) (Q : VK) : Prop := ∀ a G' H', Same G G' → Same G' H' → Same H H' → (∀ q o, H q = some o → G q = none → G' q = none) → IsTimes C G' a T ns m → Q (.ref a) H'
theorem NewTm.sees {C : Addr} {P : Pl} {G H : Hp} {T : Int} {ns : List (List Nat)} {m : List Nat → Int} {Q : VK} (hs : Sees P G H) (k : ∀ a G' H', Same G G' → Same H H' → (∀ q o, H q = some o → G q = none → G' q = none) → IsTimes C G' a T ns m → Sees P G' H' → Q (.ref a) H') : NewTm C G H T ns m Q :=
  fun a G' H' s1 s2 s3 kp n => k a G' H' s1 s3 kp n (hs.grow s1 s2 s3 kp)
theorem IsTimes.congr {C : Addr} {H : Hp} {a : Addr} {T : Int} {ns : List (List Nat)} {m m' : List Nat → Int} (h : IsTimes C H a T ns m) (e : ∀ l ∈ ns, m l = m' l) : IsTimes C H a T ns m' := by
  obtain ⟨dx, d, h1, h2⟩ := h
  refine ⟨dx, d, h1, ?_⟩
  rw [h2]
  unfold mD
  rw [dN_congr fun l hl => by rw [e l hl]]
theorem OkTm.congr {T : Int} {ns : List (List Nat)} {m m' : List Nat → Int} (h : OkTm T ns m) (e : ∀ l ∈ ns, m l = m' l) : OkTm T ns m' := ⟨h.t0, h.t1, h.few, h.nm, fun l hl => by rw [← e l hl]; exact h.m0 l hl, fun l hl => by rw [← e l hl]; exact h.m1 l hl⟩
theorem mD_congr {ns : List (List Nat)} {m m' : List Nat → Int} (e : ∀ l ∈ ns, m l = m' l) : mD m ns = mD m' ns := by
  unfold mD
  exact dN_congr fun l hl => by rw [e l hl]
theorem intVs_mD {m : List Nat → Int} {ns : List (List Nat)} : IntVs (mD m ns) := fun p hp => by
  unfold mD dN at hp
  obtain ⟨l, _, rfl⟩ := List.mem_map.mp hp
  exact ⟨m l, rfl⟩
/-- == of two dicts of minutes -/
theorem eqKV_iff {m m' : List Nat → Int} {ns ms : List (List Nat)} : eqKV (mD m ns) (mD m' ms) = true ↔ ns.length = ms.length ∧ ∀ l ∈ ns, l ∈ ms ∧ m' l = m l := by
  unfold eqKV mD
  rw [Bool.and_eq_true, beq_iff_eq, dN_len, dN_len, List.all_eq_true]
  refine and_congr Iff.rfl ⟨fun h l hl => ?_, fun h p hp => ?_⟩
  · have z := h (.inr (S l), .int (m l)) (List.mem_map.mpr ⟨l, hl, rfl⟩)
    by_cases e : l ∈ ms
    · refine ⟨e, ?_⟩
      simp only [dN_val e] at z
      have z2 := of_decide_eq_true z
      injection z2
    · simp only [dN_none e] at z
      cases z
  · obtain ⟨l, hl, rfl⟩ := List.mem_map.mp hp
    obtain ⟨e, e2⟩ := h l hl
    show (match valV (dN (fun l => .int (m' l)) ms) (.inr (S l)) with
      | some v => decide (v = V.int (m l))
      | none => false) = true
    rw [dN_val e]
    exact decide_eq_true (by rw [e2])
/-- two dicts of minutes are told to be the same -/
def SmD (H : Hp) (n : Nat) (u v : V) : Prop := ∃ (a b : Addr) (f : List Nat → V) (ns : List (List Nat)) (j : Nat), n = j + 2 ∧ u = .ref a ∧ v = .ref b ∧ a ≠ b ∧ H a = some (.dK (dN f ns)) ∧ H b = some (.dK (dN f ns)) ∧ ns.length ≤ 1000 ∧ (∀ l ∈ ns, Asc l) ∧ ∀ l ∈ ns, Sc (f l)
theorem smD_m {H : Hp} {n : Nat} {a b : Addr} {m : List Nat → Int} {ns : List (List Nat)} (ne : a ≠ b) (ha : H a = some (.dK (mD m ns))) (hb : H b = some (.dK (mD m ns))) (hl : ns.length ≤ 1000) (hn : ∀ l ∈ ns, Asc l) : SmD H (n + 2) (.ref a) (.ref b) :=
  ⟨a, b, _, ns, n, rfl, rfl, rfl, ne, ha, hb, hl, hn, fun l _ => .inr (.inr (.inl ⟨_, rfl⟩))⟩
theorem NewTm.up {C : Addr} {G H H2 : Hp} {T : Int} {ns : List (List Nat)} {m : List Nat → Int} {Q : VK} (s : Same H H2) (k : NewTm C G H T ns m Q) : NewTm C G H2 T ns m Q :=
  fun a G' H' s1 s2 s3 kp it => k a G' H' s1 s2 (s.trans s3) (fun q o hq hG => kp q o (s _ _ hq) hG) it
/-- a list of one's own, of things that are O -/
structure OtG (P : Pl) (L : Addr) (G0 : Hp) (O : Hp → V → Prop) (n : Nat) (G H : Hp) (xs : List V) : Prop where
  l : Lcl P L xs G H
  s : Same G0 G
  o : ∀ x ∈ xs, O G x
  n : xs.length ≤ n
def Ups (O : Hp → V → Prop) : Prop := ∀ G G' x, Same G G' → O G x → O G' x
theorem OtG.new {P : Pl} {L q : Addr} {G0 : Hp} {O : Hp → V → Prop} {n : Nat} {G H : Hp} {xs : List V} {o : HO} (u : Ups O) (h : OtG P L G0 O n G H xs) (hq : H q = none) : OtG P L G0 O n (upd G q o) (upd H q o) xs :=
  have g := h.l.s.sub.free hq
  ⟨h.l.new hq, h.s.trans (Same.new g), fun x hx => u _ _ _ (Same.new g) (h.o x hx), h.n⟩
/-- a call that makes one new thing and leaves all else -/
theorem OtG.made {P : Pl} {L q : Addr} {G0 : Hp} {O : Hp → V → Prop} {n : Nat} {G H H' : Hp} {xs : List V} {o : HO} (u : Ups O) (h : OtG P L G0 O n G H xs) (s : Same H H') (hq : H q = none) (hq' : H' q = some o) : OtG P L G0 O n (upd G q o) H' xs :=
  have g := h.l.s.sub.free hq
  have nqp := (h.l.s.fresh hq).2
  have nL : L ≠ q := ne_of_none h.l.h hq
  ⟨⟨(h.l.s.same s).with g hq' nqp, s _ _ h.l.h, by rw [upd_ne nL]; exact h.l.g, h.l.ne⟩, h.s.trans (Same.new g), fun x hx => u _ _ _ (Same.new g) (h.o x hx), h.n⟩
theorem OtG.mono {P : Pl} {L : Addr} {G0 : Hp} {O : Hp → V → Prop} {n m : Nat} {G H : Hp} {xs : List V} (h : OtG P L G0 O n G H xs) (e : n ≤ m) : OtG P L G0 O m G H xs := ⟨h.l, h.s, h.o, Nat.le_trans h.n e⟩
theorem OtG.draw {P : Pl} {L : Addr} {G0 : Hp} {O : Hp → V → Prop} {n : Nat} {G H H' : Hp} {xs : List V} (h : OtG P L G0 O n G H xs) (s : Sees P (upd G L (.lst xs)) H') : OtG P L G0 O n G H' xs := ⟨h.l.out s, h.s, h.o, h.n⟩
theorem app_otG {P : Pl} {L o : Addr} {G0 : Hp} {O : Hp → V → Prop} {n : Nat} {G H : Hp} {xs zs : List V} {R : V → Hp → Prop} (u : Ups O) (ho : H o = none) (h : OtG P L G0 O n G H xs) (hn : n ≤ 90) (hO : O (upd G o (.lst zs)) (.ref o)) (k : ∀ ys G2 H2, OtG P L G0 O (n + 1) G2 H2 ys → Same G G2 → R .non H2) : rAppend (.ref L) [.ref o] (upd H o (.lst zs)) R := by
  have g := h.l.s.sub.free ho
  have h2 := h.new (o := .lst zs) u ho
  refine wp_append h2.l.h (by have := h.n; omega) (k (xs ++ [.ref o]) _ _ ⟨h2.l.put, h2.s, fun x hx => ?_, by have := h.n; simp; omega⟩ (Same.new g))
  rcases List.mem_append.mp hx with e | e
  · exact h2.o x e
  · rw [List.mem_singleton.mp e]
    exact hO
theorem putK_le (c : List (Key × V)) (k : Key) (x : V) : (putK c k x).length ≤ c.length + 1 := by
  unfold putK
  split <;> simp
end RM
namespace RM
open PySem PySem.Spec PyProof.Rows L2
/-! ### max(xs, default=d), sorted names, comprehensions with a test, own operators between two objects -/
section
variable {prog : Program} {w : World} {A : Around} {R : Result → Shared → Prop} {I S : Addr} {fp wr : List Addr} {n : Nat} {P : Nat → Value → Prop} {St : Nat → Heap → Prop} {bt : Nat → Nat → Bool} {dv : Value} {s0 : Shared}
/-- what the list of the best holds behind j items -/
def Bst (P : Nat → Value → Prop) (bt : Nat → Nat → Bool) : Nat → Array Value → Prop
  | 0, d => d = #[]
  | i + 1, d => ∃ v, P (argBest bt i) v ∧ d = #[v, v]
def lsO (d : Array Value) (c : Nat) : Obj := { cls := .type "list", dict := none, data := .seq d c, slots := #[] }
def Kpt (wr : List Addr) (S : Addr) (h h' : Heap) : Prop := ∀ b o, b ∉ wr → b ≠ S → h.get? b = some o → h'.get? b = some o
theorem mxd_loop (W : Walks prog w A.in1 I fp wr n P St) (hc : CmpOf prog w A.in1 .Gt P bt) (hS : S ∉ fp)
    (fin0 : n = 0 → ∀ h t, Kpt wr S s0.heap h → R (.ok (.ret dv)) { s0 with heap := h, toks := t }) (fin : ∀ i v h t, n = i + 1 → P (argBest bt i) v → Kpt wr S s0.heap h → R (.ok (.ret v)) { s0 with heap := h, toks := t }) :
    ∀ (m j : Nat) (h : Heap) (t c : Nat) (d : Array Value), n - j = m → j ≤ n → St j h → Bst P bt j d → h.get? S = some (lsO d c) → Kpt wr S s0.heap h →
      codeAny (model prog w) A (.builtin "max.loop" ⟨[.ref I, .none, .ref S], [("default", dv)]⟩) R { s0 with heap := h, toks := t } := by
  have nS : S ∉ wr := fun z => hS (W.sub _ z)
  have nm : (toString "max" ++ toString ".loop" : String) = "max.loop" := by decide
  intro m
  induction m with
  | zero =>
    intro j h t c d hm hj st hB hd kp
    obtain rfl : j = n := by omega
    apply codeAny_builtin F.entry_max_loop
    rw [Around.under_plainId F.plain_max_loop _]
    show wpAny _ A.in1 (seqItems? (.ref S) >>= _) _ _ _
    apply wpAny_bind
    apply wpAny_seqItems hd rfl
    show wpAny _ A.in1 (tryCatch (pyNext (.ref I)) _ >>= _) _ _ _
    apply wpAny_bind
    apply wpAny_tryCatch
    refine W.done _ _ _ st fun h' tk kk => ?_
    have hd2 := kk S _ nS hd
    have kp2 : Kpt wr S s0.heap h' := fun b o b1 b2 e => kk b o b1 (kp b o b1 b2 e)
    match j, hB, fin0, fin with
    | 0, hB, fin0, _ =>
      have e : d = #[] := hB
      subst e
      show wpAny _ A.in1 (rule _ >>= _) _ _ _
      exact wpAny_bind (wpAny_rule (wpAny_pure (fin0 rfl _ _ kp2)))
    | i + 1, hB, _, fin =>
      obtain ⟨v, hv, rfl⟩ := hB
      show wpAny _ A.in1 (updateSeq S (fun _ => #[]) >>= _) _ _ _
      refine wpAny_bind (wpAny_updateSeq hd2 rfl (wpAny_bind (wpAny_letGo (wpAny_pure (fin i v _ _ rfl hv fun b o b1 b2 e => ?_)))))
      rw [Heap.get?_update_other _ _ (Ne.symm b2)]
      exact kp2 b o b1 b2 e
  | succ m ih =>
    intro j h t c d hm hj st hB hd kp
    have hlt : j < n := by omega
    apply codeAny_builtin F.entry_max_loop
    rw [Around.under_plainId F.plain_max_loop _]
    show wpAny _ A.in1 (seqItems? (.ref S) >>= _) _ _ _
    apply wpAny_bind
    apply wpAny_seqItems hd rfl
    show wpAny _ A.in1 (tryCatch (pyNext (.ref I)) _ >>= _) _ _ _
    apply wpAny_bind
    apply wpAny_tryCatch
    refine W.item j _ _ _ hlt st fun v h' tk pv st' kk => ?_
    have hd2 := kk S _ nS hd
    have kp2 : Kpt wr S s0.heap h' := fun b o b1 b2 e => kk b o b1 (kp b o b1 b2 e)
    have put : ∀ (h2 : Heap) (f : Array Value → Array Value), h2 = h'.update S (Obj.mapSeq f) → St (j + 1) h2 ∧ Kpt wr S s0.heap h2 := fun h2 f e => by
      subst e
      refine ⟨W.frame _ _ _ st' fun b hb o e => ?_, fun b o b1 b2 e => ?_⟩
      · rw [Heap.get?_update_other _ _ (fun z : S = b => hS (by rw [z]; exact hb))]; exact e
      · rw [Heap.get?_update_other _ _ (Ne.symm b2)]; exact kp2 b o b1 b2 e
    match j, hB with
    | 0, hB =>
      have e : d = #[] := hB
      subst e
      show wpAny _ A.in1 (updateSeq S (fun _ => #[v, v]) >>= _) _ _ _
      apply wpAny_bind
      apply wpAny_updateSeq hd2 rfl
      rw [nm]
      have z := put _ (fun _ => #[v, v]) rfl
      exact wpAny_pure ⟨plainId_quiet F.plain_max_loop _, ih 1 _ _ _ #[v, v] (by omega) (by omega) z.1 ⟨v, pv, rfl⟩ (Heap.get?_update_self _ hd2 rfl) z.2⟩
    | i + 1, hB =>
      obtain ⟨u, hu, rfl⟩ := hB
      show wpAny _ A.in1 (tryCatch (holding [v, v] (richCompare .Gt v u >>= _)) _ >>= _) _ _ _
      apply wpAny_bind
      apply wpAny_tryCatch
      apply wpAny_holding
      apply wpAny_bind
      refine hc (i + 1) (argBest bt i) v u _ _ _ pv hu ?_
      refine wpAny_bind (wpAny_holding (wpAny_truthy_bool (wpAny_bind (wpAny_letGo (wpAny_pure ?_)))))
      by_cases hb : bt (i + 1) (argBest bt i) = true
      · rw [hb]
        simp only [if_true]
        apply wpAny_bind
        apply wpAny_updateSeq hd2 rfl
        refine wpAny_bind (wpAny_letGo ?_)
        rw [nm]
        have z := put _ (fun _ => #[v, v]) rfl
        exact wpAny_pure ⟨plainId_quiet F.plain_max_loop _, ih (i + 2) _ _ _ #[v, v] (by omega) (by omega) z.1 ⟨v, by simp only [argBest, hb, if_true]; exact pv, rfl⟩ (Heap.get?_update_self _ hd2 rfl) z.2⟩
      · rw [Bool.not_eq_true] at hb
        rw [hb]
        simp only [Bool.false_eq_true, if_false]
        refine wpAny_bind (wpAny_letGo ?_)
        rw [nm]
        exact wpAny_pure ⟨plainId_quiet F.plain_max_loop _, ih (i + 2) _ _ _ #[u, u] (by omega) (by omega) st' ⟨u, by simp only [argBest, hb, Bool.false_eq_true, if_false]; exact hu, rfl⟩ hd2 kp2⟩
end
theorem args_maxD (a v : Value) : argsOk "max" ⟨[a], [(Str.ofString "default", v)]⟩ := by unfold argsOk; kernel_rfl
/-- max(xs, default=d) of a list of ints -/
def rMaxD (K : PySem.W.Frag) : List V → List V → Hp → VK → Prop := fun vs zs H Q => ∃ (a : Addr) (ns : List Int) (d : Int), vs = [.ref a] ∧ zs = [.int d] ∧ SqL K H a (ns.map V.int) ∧ (ns = [] → Q (.int d) H) ∧ ∀ m, m ∈ ns → (∀ y, y ∈ ns → y ≤ m) → Q (.int m) H
section
variable {X : Cx}
theorem cr_maxD (hcalm : X.calm = true) : CallRK X (.builtin "max") ["default"] (rMaxD X.K) := by
  intro pins s σ H xs zs us ws Q I r rz h
  obtain ⟨a, ns, d, rfl, rfl, hs, q0, q⟩ := h
  obtain ⟨u, rfl, ru⟩ := r.one
  cases ru
  obtain ⟨wd, rfl, rd⟩ := rz.one
  obtain ⟨td, rfl⟩ := rd
  obtain ⟨its, rv, hl, _⟩ := I.list hs
  have hi := rv.ints
  obtain ⟨ys, e⟩ := hi.allInts.items
  have hn : numsOf (intItems ys).toList = ns := by rw [← e]; exact hi.numsOf
  rw [nums_intItems] at hn
  subst hn
  have hl2 := hl.isList
  rw [e] at hl2
  have nm : (toString "max" ++ toString ".loop" : String) = "max.loop" := by decide
  refine kmk_tree F.kind_max F.plain_max F.entry_max (args_maxD _ _) ?_
  show wpAny _ X.A.in1 (Builtin.Builtins.bindParams "max" ["key", "default"] 0 ⟨[], [(Str.ofString "default", .int d td)]⟩ >>= _) _ _ s
  refine wpAny_bind (wpAny_of_eq (show Builtin.Builtins.bindParams "max" ["key", "default"] 0 ⟨[], [(Str.ofString "default", .int d td)]⟩ = pure [none, some (.int d td)] from rfl) ?_)
  apply wpAny_bind
  apply wpAny_pure
  apply wpAny_bind
  refine iter_intList hl2 fun s₂ es st hfp hlI => ?_
  subst es
  refine wpAny_bind (wpAny_newObj_type ?_ (by size_fits))
  rw [nm]
  have W := Walks.list (prog := X.prog) (w := X.w) (A := X.A.in1) (I.ok.hd hcalm) s.heap.objs.size a hlI (intItems ys)
  have ez : (intItems ys).size = ys.size := by simp [intItems]
  have hS : (s.heap.push { cls := .type "list_iterator", data := .fields #[.ref a, .int 0 0] }).objs.size ∉ [s.heap.objs.size, a] := fun hm => Nat.lt_irrefl _ (hfp _ hm)
  have old : ∀ {h : Heap}, Kpt [s.heap.objs.size] (s.heap.push { cls := .type "list_iterator", data := .fields #[.ref a, .int 0 0] }).objs.size s.heap h → ∀ b o, s.heap.get? b = some o → h.get? b = some o := fun kp b o e => by
    have hb := Heap.lt_size e
    refine kp b o (fun hm => ?_) (fun z => ?_) e
    · rw [List.mem_singleton.mp hm] at hb; exact Nat.lt_irrefl _ hb
    · rw [z, Heap.size_push] at hb; exact absurd hb (Nat.not_lt.mpr (Nat.le_succ _))
  refine wpAny_pure ⟨plainId_quiet F.plain_max_loop _, mxd_loop (s0 := s) (bt := fun i j => decide (numAt ys i > numAt ys j)) W (CmpOf.ints_gt (numAt ys) fun _ _ => intItems_at) hS (fun e0 h t kp => ?_) (fun i v h t ei pv kp => ?_) _ 0 _ _ 0 #[] rfl (Nat.zero_le _) (W.frame _ _ _ st fun b _ o e => Heap.get?_push_of_some _ e) rfl (Heap.get?_push_size _ rfl) (fun b o _ _ e => Heap.get?_push_of_some _ (Heap.get?_push_of_some _ e))⟩
  · rw [ez] at e0
    have en : (ys.toList.map (·.1)) = [] := List.eq_nil_of_length_eq_zero (by rw [List.length_map, Array.length_toList]; exact e0)
    exact ⟨.int d, H, I.kept (t' := t) (old kp), ⟨td, rfl⟩, q0 en⟩
  · rw [ez] at ei
    obtain ⟨tk, rfl⟩ := intItems_at pv
    obtain ⟨h1, h2⟩ := argBest_gt (numAt ys) i
    refine ⟨.int _, H, I.kept (t' := t) (old kp), ⟨tk, rfl⟩, q _ ?_ fun y hy => ?_⟩
    · rw [numAt_eq]; exact PySem.getD_mem (by rw [List.length_map, Array.length_toList]; omega)
    · obtain ⟨j, hj, rfl⟩ := mem_getD hy
      rw [List.length_map, Array.length_toList] at hj
      rw [← numAt_eq]; exact h2 j (by omega)
end
/-! #### walks over a locked dict that an exception may leave -/
section
variable {X : Cx} {E : XK}
theorem takes_unlock {p : Addr} {od : Obj} {u : HO} (tk : Takes X (fun cls d _ H => E cls d H)) (hn : ∀ o' u', X.H_0 p ≠ some (.frz o' u')) : Takes X (fun cls d _ H => H p = some (.frz od u) ∧ E cls d (upd H p u)) :=
  fun v s' ⟨a, B, sI, pins, σ, H, cls, d, e, I, nb, up, sky, na, os, ag, w⟩ => tk v s' ⟨a, B, sI, pins, σ, upd H p u, cls, d, e, I.unlock w.1 hn, nb, up, sky, by rw [upd_ne (fun z => by rw [z, w.1] at na; cases na)]; exact na, os, ag, w.2⟩
theorem pxBy (tk : Takes X (fun cls d _ H => E cls d H)) : Passes (L2.CX X.prog X.w) X E := passes_call tk fun _ _ _ _ h => h
def unlX (p : Addr) (od : Obj) (u : HO) (E : XK) : XK := fun cls d H => H p = some (.frz od u) ∧ E cls d (upd H p u)
def tLockX (t : XK → TS) (E : XK) : TS := fun D σ H => ∃ d u, H d = some u ∧ Mut (some u) ∧ ∀ od, t (unlX d od u E) ⟨fun σ' H' => H' d = some (.frz od u) ∧ D.nx σ' (upd H' d u), fun v H' => H' d = some (.frz od u) ∧ D.rt v (upd H' d u), fun σ' H' => H' d = some (.frz od u) ∧ D.bk σ' (upd H' d u), fun σ' H' => H' d = some (.frz od u) ∧ D.ct σ' (upd H' d u)⟩ σ (upd H d (.frz od u))
theorem ps_lockX {st : Stmt} {t : XK → TS} (tk : Takes X (fun cls d _ H => E cls d H)) (h : ∀ E1, Takes X (fun cls d _ H => E1 cls d H) → PS X st (t E1)) : PS X st (tLockX t E) := by
  refine ⟨fun pins s σ H D I hw => ?_⟩
  obtain ⟨d, u, hd, mu, hw⟩ := hw
  obtain ⟨od, I1⟩ := I.lock hd mu
  have hn := I.nofrz hd mu
  refine thn ((h (unlX d od u E) (takes_unlock tk hn)).run pins s σ _ _ I1 (hw od)) fun f s1 q => ?_
  match f with
  | .next => exact q.elim fun σ' q => q.elim fun H' q => ⟨σ', _, q.1.unlock q.2.1 hn, q.2.2⟩
  | .brk => exact q.elim fun σ' q => q.elim fun H' q => ⟨σ', _, q.1.unlock q.2.1 hn, q.2.2⟩
  | .cont => exact q.elim fun σ' q => q.elim fun H' q => ⟨σ', _, q.1.unlock q.2.1 hn, q.2.2⟩
  | .ret v => exact q.elim fun x q => q.elim fun σ' q => q.elim fun H' q => ⟨x, σ', _, q.1.unlock q.2.2.1 hn, q.2.1, q.2.2.2⟩
theorem wp_lockX {t : XK → TS} {D : Ends} {σ : L2.St} {H : Hp} {d : Addr} {kvs : List (Key × V)} (hd : H d = some (.dK kvs)) (h : ∀ od, t (unlX d od (.dK kvs) E) ⟨fun σ' H' => H' d = some (.frz od (.dK kvs)) ∧ D.nx σ' (upd H' d (.dK kvs)), fun v H' => H' d = some (.frz od (.dK kvs)) ∧ D.rt v (upd H' d (.dK kvs)), fun σ' H' => H' d = some (.frz od (.dK kvs)) ∧ D.bk σ' (upd H' d (.dK kvs)), fun σ' H' => H' d = some (.frz od (.dK kvs)) ∧ D.ct σ' (upd H' d (.dK kvs))⟩ σ (upd H d (.frz od (.dK kvs)))) : tLockX t E D σ H := ⟨d, _, hd, True.intro, h⟩
/-- what was raised under the lock was raised before -/
theorem Rzd.unl {C : Addr} {fs : List (Str × V)} {H : Hp} {d : Addr} {kvs : List (Key × V)} {od : Obj} (hd : H d = some (.dK kvs)) (h : Rzd C fs E H) : Rzd C fs (unlX d od (.dK kvs) E) (upd H d (.frz od (.dK kvs))) := fun x H' s hx hf => by
  have nx : x ≠ d := fun e => by rw [e, upd_same] at hx; cases hx
  rw [upd_ne nx] at hx
  exact ⟨s _ _ upd_same, h x _ (RM.unl hd s) hx (by rw [upd_ne nx]; exact hf)⟩
end
/-! #### names in order -/
def srt (ns : List (List Nat)) : List (List Nat) := ns.mergeSort fun a b => decide (a ≤ b)
theorem srt_perm (ns : List (List Nat)) : (srt ns).Perm ns := List.mergeSort_perm _ _
theorem srt_pw (ns : List (List Nat)) : (srt ns).Pairwise (fun a b => a ≤ b) := by
  have z := List.pairwise_mergeSort (le := fun a b : List Nat => decide (a ≤ b)) (fun a b c h1 h2 => decide_eq_true (List.le_trans (of_decide_eq_true h1) (of_decide_eq_true h2))) (fun a b => by
    rcases List.le_total a b with h | h
    · rw [decide_eq_true h]; rfl
    · rw [decide_eq_true h, Bool.or_true]) ns
  exact z.imp fun h => of_decide_eq_true h
theorem srt_uniq {zs ns : List (List Nat)} (p : zs.Perm ns) (h : zs.Pairwise (fun a b => a ≤ b)) : zs = srt ns :=
  (p.trans (srt_perm ns).symm).eq_of_pairwise (fun _ _ _ _ h1 h2 => List.le_antisymm h1 h2) h (srt_pw ns)
theorem srt_mem {l : List Nat} {ns : List (List Nat)} : l ∈ srt ns ↔ l ∈ ns := (srt_perm ns).mem_iff
theorem srt_nodup {ns : List (List Nat)} (h : ns.Nodup) : (srt ns).Nodup := (srt_perm ns).nodup_iff.mpr h
theorem srt_len (ns : List (List Nat)) : (srt ns).length = ns.length := (srt_perm ns).length_eq
theorem srt_filter {ns : List (List Nat)} (f : List Nat → Bool) : srt ((srt ns).filter f) = (srt ns).filter f := (srt_uniq (List.Perm.refl _) ((srt_pw ns).sublist List.filter_sublist)).symm
theorem rising_pw : ∀ {p : Str} {l : List Str}, risingS p l = true → (p :: l).Pairwise fun a b => a.cps.toList ≤ b.cps.toList
  | p, [], _ => by simp
  | p, x :: r, h => by
    have h' : (!ltCps x.cps.toList p.cps.toList && risingS x r) = true := h
    obtain ⟨h1, h2⟩ := Bool.and_eq_true_iff.mp h'
    have ih := rising_pw h2
    have hpx : p.cps.toList ≤ x.cps.toList := by
      rw [PyProof.Rows.ltCps_eq, Bool.not_eq_true', decide_eq_false_iff_not] at h1
      exact List.not_lt.mp h1
    refine List.pairwise_cons.mpr ⟨fun y hy => ?_, ih⟩
    rcases List.mem_cons.mp hy with rfl | hy
    · exact hpx
    · exact List.le_trans hpx ((List.pairwise_cons.mp ih).1 y hy)
theorem sorted_srt {zs : List Str} {ns : List (List Nat)} (p : zs.Perm (ns.map S)) (h : sortedS zs = true) : zs = (srt ns).map S := by
  have hp : zs.Pairwise fun a b => a.cps.toList ≤ b.cps.toList := by
    cases zs with
    | nil => simp
    | cons x r => exact rising_pw h
  have e1 : zs = (zs.map fun x => x.cps.toList).map S := by
    rw [List.map_map]
    have : (S ∘ fun x : Str => x.cps.toList) = id := by funext x; exact S_tl x
    rw [this, List.map_id]
  have p1 : (zs.map fun x => x.cps.toList).Perm ns := by
    have z := p.map fun x : Str => x.cps.toList
    rw [List.map_map] at z
    have : ((fun x : Str => x.cps.toList) ∘ S) = id := rfl
    rw [this, List.map_id] at z
    exact z
  have h2 : (zs.map fun x => x.cps.toList).Pairwise (fun a b => a ≤ b) := List.pairwise_map.mpr hp
  rw [e1, srt_uniq p1 h2]
def rSortD : List V → Hp → VK → Prop := fun xs H Q => ∃ (a : Addr) (kvs : List (Key × V)) (ks : List Str), xs = [.ref a] ∧ Rd H a (.dK kvs) ∧ kvs.map (·.1) = ks.map Sum.inr ∧ ks.length < 64 ∧ ∀ ys p, ys.Perm ks → sortedS ys = true → H p = none → Q (.ref p) (upd H p (.lst (ys.map V.str)))
section
variable {X : Cx} {σ : L2.St} {H : Hp} {Q : VK} {K : PySem.W.Frag} {g : TG} {tt : TT} {tk tv td ty tx : TE} {vs : List Nat} {kvs : List (Key × V)} {d : Addr} {v : V}
theorem callSortD (hc : X.calm = true) : CallR X (.builtin "sorted") rSortD := call_sortedD hc
theorem wp_sortD {f : List Nat → V} {ns : List (List Nat)} (hd : Rd H d (.dK (dN f ns))) (hn : ns.length < 64) (k : ∀ p, H p = none → Q (.ref p) (upd H p (.lst ((srt ns).map sv)))) : rSortD [.ref d] H Q := by
  refine ⟨d, _, ns.map S, rfl, hd, by unfold dN; rw [List.map_map, List.map_map]; rfl, by rw [List.length_map]; exact hn, fun ys p hy hs hp => ?_⟩
  rw [sorted_srt hy hs, List.map_map]
  exact k p hp
theorem wp_sortS {a : Addr} {ns : List (List Nat)} (ha : SqL K H a (ns.map sv)) (hn : ns.length < 64) (k : ∀ p, H p = none → Q (.ref p) (upd H p (.lst ((srt ns).map sv)))) : rSortedS K [.ref a] H Q := by
  refine ⟨a, ns.map S, rfl, by rw [List.map_map]; exact ha, by rw [List.length_map]; exact hn, fun ys p hy hs hp => ?_⟩
  rw [sorted_srt hy hs, List.map_map]
  exact k p hp
/-- a dict comprehension over a list of names, with a test -/
theorem dcLN {a : Addr} {ns : List (List Nat)} (σ0 : L2.St) (h : List Nat → V) (p : List Nat → Bool) (hw : wipe σ vs = σ0) (nd : ns.Nodup) (hx : SqL K H a (ns.map sv)) (hn : ns.length ≤ 100000)
    (hs : ∀ (i : Nat) (l : List Nat) H2 (R : V → V → Hp → Prop) (R0 : Hp → Prop), ns[i]? = some l → Same H H2 → (p l = true → ∀ H5, Same H2 H5 → R (.str (S l)) (h l) H5) → (p l = false → ∀ H5, Same H2 H5 → R0 H5) →
      g (.str (S l)) σ0 H2 fun σ2 H3 => wipe σ2 vs = σ0 ∧ tt σ2 H3 fun b H4 => if b = true then tk σ2 H4 fun y H5 => tv σ2 H5 fun z H6 => R y z H6 else R0 H4)
    (hq : ∀ D H2, H D = none → Same H H2 → H2 D = some (.dK (dN h (ns.filter p))) → Q (.ref D) H2) : ∃ b, V.ref a = .ref b ∧ (∃ ys, SqL K H b ys) ∧ DcW (Itl K b) g tt tk tv vs σ H Q := by
  have el : (ns.map sv).length = ns.length := List.length_map ..
  refine ⟨a, rfl, ⟨_, hx⟩, ?_⟩
  intro D hD
  refine ⟨fun i m H2 => m = ns.length - i ∧ i ≤ ns.length ∧ Same H H2 ∧ H2 D = some (.dK (dN h ((ns.take i).filter p))), ⟨ns.length, by simp, Nat.zero_le _, Same.new hD, upd_same⟩, ?_⟩
  rintro i m H2 ⟨rfl, hi, s1, hD2⟩
  have hx2 := Same.seq s1 hx
  rcases Nat.lt_or_ge i ns.length with hlt | hge
  · right
    have hi2 : i < (ns.map sv).length := by omega
    refine ⟨⟨_, (ns.map sv)[i], hx2, List.getElem?_eq_getElem hi2⟩, fun H' => Same H H' ∧ H' D = some (.dK (dN h ((ns.take (i + 1)).filter p))), fun H' hN => ⟨ns.length - (i + 1), by omega, rfl, by omega, hN⟩, fun x H' hy => ?_⟩
    obtain ⟨e, hy⟩ := hy
    subst e
    have hxi := hy _ hx2
    rw [List.getElem?_map] at hxi
    obtain ⟨l, hl, rfl⟩ := Option.map_eq_some_iff.mp hxi
    rw [hw]
    have et := take_snoc hl
    refine hs i l _ (fun y z H5 => ∃ kvs k, y = kV k ∧ H5 D = some (.dK kvs) ∧ kvs.length < sizeLine ∧ (Same H (upd H5 D (.dK (putK kvs k z))) ∧ upd H5 D (.dK (putK kvs k z)) D = some (.dK (dN h ((ns.take (i + 1)).filter p))))) (fun H' => Same H H' ∧ H' D = some (.dK (dN h ((ns.take (i + 1)).filter p)))) hl s1 (fun hp H5 s5 => ?_) (fun hp H5 s5 => ⟨s1.trans s5, ?_⟩)
    · refine ⟨_, .inr (S l), rfl, s5 _ _ hD2, szlt ?_, Same.mut (s1.trans s5) hD, ?_⟩
      · rw [dN_len]
        have := List.length_filter_le p (ns.take i)
        rw [List.length_take] at this
        omega
      · rw [upd_same, dN_put (fun hm => take_new nd hl ((List.mem_filter.mp hm).1)), et, List.filter_append]
        simp [hp]
    · rw [s5 _ _ hD2, et, List.filter_append]
      simp [hp]
  · left
    have e : i = ns.length := by omega
    subst e
    rw [List.take_length] at hD2
    exact ⟨⟨_, hx2, by omega⟩, hq D H2 hD s1 hD2⟩
theorem wp_dget2 (h : td σ H fun x H1 => ∃ a, x = .ref a ∧ IsD H1 a ∧ ty σ H1 fun y H2 => tx σ H2 fun z H3 => ∃ o, DGet H3 a y o ∧ Q (o.getD z) H3) : tDGet2 td ty tx σ H Q := h
theorem isd_at {R : Addr → Prop} (hd : Rd H d (.dK kvs)) (q : R d) : ∃ a, V.ref d = .ref a ∧ IsD H a ∧ R a := ⟨d, rfl, .inl ⟨kvs, hd⟩, q⟩
theorem dg_s {R : Option V → Prop} {l : List Nat} (hd : Rd H d (.dK kvs)) (q : R (valV kvs (.inr (S l)))) : ∃ o, DGet H d (.str (S l)) o ∧ R o := ⟨_, .inl ⟨kvs, .inr (S l), hd, rfl, rfl⟩, q⟩
end
end RM
namespace RM
open PySem PySem.Spec PyProof.Rows L2
/-! ### errors that are due; try suites; lists of truth values compared -/
/-- an error that is due: its class and its fields -/
structure Er where
  c : Str
  fs : List (Str × V)
def eN (n : Int) : Er := ⟨"BadNumber", [("number", .int n)]⟩
def eS (c : Str) (l : List Nat) : Er := ⟨c, [("name", sv l)]⟩
def eU (n : Int) : Er := ⟨"UnknownSpan", [("number", .int n)]⟩
def eT (a b : Int) : Er := ⟨"TooMany", [("limit", .int b), ("count", .int a)]⟩
/-- what a check says: nothing, or that error -/
def Ck (K : PySem.W.Frag) (r : Option Er) (E : XK) (H : Hp) (Q : VK) : Prop := ∀ H', Same H H' → (r = none → Q .non H') ∧ ∀ e, r = some e → Rzd (He.ga K e.c) e.fs E H'
theorem Ck.non {K : PySem.W.Frag} {r : Option Er} {E : XK} {H : Hp} {Q : VK} (h : Ck K r E H Q) (e : r = none) : Q .non H := (h H (Same.refl _)).1 e
theorem Ck.rz {K : PySem.W.Frag} {r : Option Er} {e : Er} {E : XK} {H : Hp} {Q : VK} (h : Ck K r E H Q) (q : r = some e) : Rzd (He.ga K e.c) e.fs E H := (h H (Same.refl _)).2 e q
theorem Ck.mono {K : PySem.W.Frag} {r : Option Er} {E : XK} {H H2 : Hp} {Q : VK} (h : Ck K r E H Q) (s : Same H H2) : Ck K r E H2 Q := fun H' s2 => h H' (s.trans s2)
theorem Ck.seq {K : PySem.W.Frag} {a b : Option Er} {E : XK} {H : Hp} {Q Q' : VK} (h : Ck K (a.or b) E H Q) (k : ∀ H', Same H H' → a = none → Ck K b E H' Q → Q' .non H') : Ck K a E H Q' := by
  intro H' s
  cases a with
  | none =>
      refine ⟨fun _ => k H' s rfl fun H2 s2 => ?_, fun e q => nomatch q⟩
      have z := h H2 (s.trans s2)
      rw [Option.none_or] at z
      exact z
  | some e =>
      exact ⟨(fun q => nomatch q), fun e' q => (h H' s).2 e' (by rw [← q]; rfl)⟩
theorem Ck.fst {K : PySem.W.Frag} {a b : Option Er} {E : XK} {H : Hp} {Q : VK} (h : Ck K (a.or b) E H Q) (e : a = none) : Ck K b E H Q := by rw [e, Option.none_or] at h; exact h
theorem wp_rs {C : Addr} {fs : List Str} {E : XK} {ta : TA} {D : Ends} {σ : L2.St} {H : Hp} (h : ta σ H fun vs H1 => RsW C fs E vs H1) : tRs C fs E ta D σ H := h
def cFold {α : Type} (f : α → Option Er) : List α → Option Er
  | [] => none
  | x :: r => (f x).or (cFold f r)
theorem cFold_drop {α : Type} {f : α → Option Er} {xs : List α} {i : Nat} {x : α} (h : xs[i]? = some x) : cFold f (xs.drop i) = (f x).or (cFold f (xs.drop (i + 1))) := by
  obtain ⟨hl, e⟩ := List.getElem?_eq_some_iff.mp h
  rw [List.drop_eq_getElem_cons hl, e]
  rfl
theorem wp_tryMk {K : PySem.W.Frag} {i : Nat} {C : Addr} {sp : Sp} {ta : TA} {l : List (Value × Sui)} {D : Ends} {σ : L2.St} {H : Hp} (h : ta σ H fun vs H1 => MkW C sp (WE (wAsM K i (fun _ _ _ _ => False) D l) σ) (fun _ H2 => D.nx σ H2) vs H1) :
    tTry K i (fun W => tDrop (tMakeS C sp (WE W) ta)) l D σ H := h
theorem wAs_no {K : PySem.W.Frag} {i : Nat} {Wo : WX} {D : Ends} {c : Value} {ts : Sui} {r : List (Value × Sui)} {cls : Value} {d : Option Addr} {σ : L2.St} {H : Hp} (h : PySem.W.exmOne K cls c = some false) (k : wAsM K i Wo D r cls d σ H) : wAsM K i Wo D ((c, ts) :: r) cls d σ H := ⟨false, h, (fun q => nomatch q), fun _ => k⟩
theorem wAs_yes {K : PySem.W.Frag} {i : Nat} {Wo : WX} {D : Ends} {c : Value} {ts : Sui} {r : List (Value × Sui)} {cls : Value} {d : Option Addr} {σ : L2.St} {H : Hp} (h : PySem.W.exmOne K cls c = some true)
    (k : ∀ a, H a = none → ts a cls d { nx := fun σ' H' => D.nx (σ'.set i none) H', rt := D.rt, bk := fun σ' H' => D.bk (σ'.set i none) H', ct := fun σ' H' => D.ct (σ'.set i none) H' } (σ.set i (some (.ref a))) H) : wAsM K i Wo D ((c, ts) :: r) cls d σ H := ⟨true, h, fun _ => k, (fun q => nomatch q)⟩
theorem wp_isX {K : PySem.W.Frag} {a D dd : Addr} {fs : List (Str × V)} {c : V} {cv : Value} {b : Bool} {H : Hp} {Q : VK} (h : H dd = some (.xd fs)) (i : ExI K D) (hcv : ∀ u, RelV c u → u = cv) (e : PySem.W.kitOne K (.ref D) cv = some b) (q : Q (.bl b) H) : rIsX K a (.ref D) (some dd) [.ref a, c] H Q :=
  ⟨D, dd, fs, c, cv, b, rfl, rfl, rfl, i, h, hcv, e, q⟩
theorem wp_xfV {i : Nat} {a C dd : Addr} {f : Str} {σ : L2.St} {H : Hp} {Q : VK} {fs : List (Str × V)} {v : V} (hv : σ[i]? = some (some (.ref a))) (h : H dd = some (.xd fs)) (hl : fs.lookup f = some v) (q : Q v H) : tXf a (.ref C) (some dd) C f (tVar i) σ H Q :=
  ⟨.ref a, hv, rfl, rfl, dd, fs, v, rfl, h, hl, q⟩
theorem wp_tryCall {K : PySem.W.Frag} {i : Nat} {sp : Sp} {ta : TA} {l : List (Value × Sui)} {D : Ends} {σ : L2.St} {H : Hp} (h : ta σ H fun vs H1 => sp vs H1 (fun _ H2 => D.nx σ H2) (WE (wAsM K i (fun _ _ _ _ => False) D l) σ)) :
    tTry K i (fun W => tDrop (tCallS sp (WE W) ta)) l D σ H := h
def bD2 (bs : List Bool) : List PyData := bs.map .bool
section
variable {K : PySem.W.Frag} {H : Hp} {Q : VK} {a b : Addr}
theorem dp_bools2 : ∀ bs : List Bool, DpAll K H (bs.map V.bl) (bD2 bs)
  | [] => .nil
  | b :: bs => .cons (.bl b) (dp_bools2 bs)
theorem sh_bools2 : ∀ bs : List Bool, PyData.canLayAll0 (bD2 bs) = true ∧ PyData.depthAll (bD2 bs) = 0
  | [] => ⟨rfl, rfl⟩
  | b :: bs => by
    obtain ⟨h1, h2⟩ := sh_bools2 bs
    refine ⟨?_, ?_⟩
    · show (true && PyData.canLayAll0 (bD2 bs)) = true
      rw [h1]; rfl
    · show max 0 (PyData.depthAll (bD2 bs)) = 0
      rw [h2]; rfl
theorem eqv_bools2 : ∀ bs : List Bool, PyData.eqvAll (bD2 bs) (bD2 bs) = true
  | [] => rfl
  | b :: bs => by
    show (PyData.eqv (.bool b) (.bool b) && PyData.eqvAll (bD2 bs) (bD2 bs)) = true
    rw [eqv_bools2 bs]
    cases b <;> rfl
theorem wp_neBs2 {bs : List Bool} (h1 : H a = some (.lst (bs.map V.bl))) (h2 : H b = some (.lst (bs.map V.bl))) (q : Q (.bl false) H) : rNeD K (.ref a) (.ref b) H Q := by
  have sh : SeqAt.shaped (.list (bD2 bs)) = true := by
    obtain ⟨z1, z2⟩ := sh_bools2 bs
    show (PyData.canLayAll0 (bD2 bs) && decide (PyData.depthAll (bD2 bs) + 1 ≤ 64)) = true
    rw [z1, z2]; rfl
  refine ⟨.list (bD2 bs), .list (bD2 bs), .lst (sq_of h1) (dp_bools2 _), .lst (sq_of h2) (dp_bools2 _), sh, sh, ?_⟩
  show Q (.bl (!PyData.eqvAll (bD2 bs) (bD2 bs))) H
  rw [eqv_bools2]
  exact q
theorem wp_eqNil2 {xs : List V} {ds : List PyData} (h1 : H a = some (.lst xs)) (h2 : H b = some (.lst [])) (hd : DpAll K H xs ds) (sh : SeqAt.shaped (.list ds) = true) (q : Q (.bl (decide (ds = []))) H) : rEqD K (.ref a) (.ref b) H Q := by
  refine ⟨.list ds, .list [], .lst (sq_of h1) hd, .lst (sq_of h2) .nil, sh, rfl, ?_⟩
  show Q (.bl (PyData.eqvAll ds [])) H
  cases ds with
  | nil => exact q
  | cons d r => exact q
end
theorem wp_eqBs2 {K : PySem.W.Frag} {H : Hp} {Q : VK} {a b : Addr} {bs : List Bool} (h1 : H a = some (.lst (bs.map V.bl))) (h2 : H b = some (.lst (bs.map V.bl))) (q : Q (.bl true) H) : rEqD K (.ref a) (.ref b) H Q := by
  have sh : SeqAt.shaped (.list (bD2 bs)) = true := by
    obtain ⟨z1, z2⟩ := sh_bools2 bs
    show (PyData.canLayAll0 (bD2 bs) && decide (PyData.depthAll (bD2 bs) + 1 ≤ 64)) = true
    rw [z1, z2]; rfl
  refine ⟨.list (bD2 bs), .list (bD2 bs), .lst (sq_of h1) (dp_bools2 _), .lst (sq_of h2) (dp_bools2 _), sh, sh, ?_⟩
  show Q (.bl (PyData.eqvAll (bD2 bs) (bD2 bs))) H
  rw [eqv_bools2]
  exact q
theorem wp_neNil {K : PySem.W.Frag} {H : Hp} {Q : VK} {a b : Addr} {bs : List Bool} (h1 : H a = some (.lst (bs.map V.bl))) (h2 : H b = some (.lst [])) (q : Q (.bl (!decide (bs = []))) H) : rNeD K (.ref a) (.ref b) H Q := by
  have sh : SeqAt.shaped (.list (bD2 bs)) = true := by
    obtain ⟨z1, z2⟩ := sh_bools2 bs
    show (PyData.canLayAll0 (bD2 bs) && decide (PyData.depthAll (bD2 bs) + 1 ≤ 64)) = true
    rw [z1, z2]; rfl
  refine ⟨.list (bD2 bs), .list [], .lst (sq_of h1) (dp_bools2 _), .lst (sq_of h2) .nil, sh, rfl, ?_⟩
  show Q (.bl (!PyData.eqvAll (bD2 bs) [])) H
  cases bs with
  | nil => exact q
  | cons d r => exact q
theorem cFold_none {α : Type} {f : α → Option Er} : ∀ {xs : List α}, (∀ x ∈ xs, f x = none) → cFold f xs = none
  | [], _ => rfl
  | x :: r, h => by
    show (f x).or (cFold f r) = none
    rw [h x List.mem_cons_self, cFold_none fun y hy => h y (List.mem_cons_of_mem _ hy)]
    rfl
theorem cFold_at {α : Type} {f : α → Option Er} {er : Er} {l : α} : ∀ {xs : List α} {i : Nat}, xs[i]? = some l → (∀ x ∈ xs.take i, f x = none) → f l = some er → cFold f xs = some er
  | x :: r, 0, h, _, e => by
    cases h
    show (f l).or (cFold f r) = _
    rw [e]
    rfl
  | x :: r, i + 1, h, n, e => by
    show (f x).or (cFold f r) = _
    rw [n x (by simp), Option.none_or]
    exact cFold_at (i := i) h (fun y hy => n y (by rw [List.take_succ_cons]; exact List.mem_cons_of_mem _ hy)) e
theorem cFold_all {α : Type} {f : α → Option Er} : ∀ {xs : List α}, cFold f xs = none → ∀ x ∈ xs, f x = none
  | x :: r, h, y, hy => by
    have h' : (f x).or (cFold f r) = none := h
    obtain ⟨h1, h2⟩ := Option.or_eq_none_iff.mp h'
    rcases List.mem_cons.mp hy with rfl | hy
    · exact h1
    · exact cFold_all h2 y hy
end RM
namespace RM
open PySem PySem.Spec PyProof.Rows L2
/-! ### shifts; lists made over the keys of a dict -/
abbrev shF (d : Addr) : List (Str × V) := [("_moves", .ref d)]
theorem lk_sm {d : Addr} : (shF d).lookup ("_moves" : Str) = some (.ref d) := rfl
theorem pt_sm {d : Addr} : putF "_moves" (.ref d) [] = shF d := rfl
def IsShift (C : Addr) (H : Hp) (a : Addr) (ms : List (List Nat)) (f : List Nat → Int) : Prop := ∃ dx d, H a = some (.ins C dx (shF d)) ∧ H d = some (.dK (mD f ms))
def IsShiftR (C : Addr) (H : Hp) (a : Addr) (ms : List (List Nat)) (f : List Nat → Int) : Prop := ∃ dx d, H a = some (.ins C dx (shF d)) ∧ Rd H d (.dK (mD f ms))
theorem rdMono {H H' : Hp} {d : Addr} {o : HO} (e : Same H H') (h : Rd H d o) : Rd H' d o := by
  rcases h with h | ⟨ob, h⟩
  · exact .inl (e _ _ h)
  · exact .inr ⟨ob, e _ _ h⟩
theorem IsShift.mono {C : Addr} {H H' : Hp} (e : Same H H') {a : Addr} {ms : List (List Nat)} {f : List Nat → Int} (h : IsShift C H a ms f) : IsShift C H' a ms f := by
  obtain ⟨dx, d, h1, h2⟩ := h
  exact ⟨dx, d, e _ _ h1, e _ _ h2⟩
theorem IsShiftR.mono {C : Addr} {H H' : Hp} (e : Same H H') {a : Addr} {ms : List (List Nat)} {f : List Nat → Int} (h : IsShiftR C H a ms f) : IsShiftR C H' a ms f := by
  obtain ⟨dx, d, h1, h2⟩ := h
  exact ⟨dx, d, e _ _ h1, rdMono e h2⟩
theorem IsShift.rd {C : Addr} {H : Hp} {a : Addr} {ms : List (List Nat)} {f : List Nat → Int} (h : IsShift C H a ms f) : IsShiftR C H a ms f := by
  obtain ⟨dx, d, h1, h2⟩ := h
  exact ⟨dx, d, h1, .inl h2⟩
theorem IsShiftR.lock {C : Addr} {H : Hp} {p : Addr} {kvs : List (Key × V)} {od : Obj} (hp : H p = some (.dK kvs)) {a : Addr} {ms : List (List Nat)} {f : List Nat → Int} (h : IsShift C H a ms f) : IsShiftR C (upd H p (.frz od (.dK kvs))) a ms f := by
  obtain ⟨dx, d, h1, h2⟩ := h
  have nap : a ≠ p := fun e => by rw [e, hp] at h1; cases h1
  refine ⟨dx, d, (upd_ne nap).trans h1, ?_⟩
  by_cases e : d = p
  · subst e
    rw [hp] at h2
    cases h2
    exact .inr ⟨od, upd_same⟩
  · exact .inl ((upd_ne e).trans h2)
theorem IsShift.congr {C : Addr} {H : Hp} {a : Addr} {ms : List (List Nat)} {f g : List Nat → Int} (h : IsShift C H a ms f) (e : ∀ l ∈ ms, f l = g l) : IsShift C H a ms g := by
  obtain ⟨dx, d, h1, h2⟩ := h
  exact ⟨dx, d, h1, by rw [h2, mD_congr e]⟩
/-- the names whose entry is not 0, in order -/
def nzs (f : List Nat → Int) (ns : List (List Nat)) : List (List Nat) := (srt ns).filter fun l => !decide (f l = 0)
theorem nzs_mem {f : List Nat → Int} {ns : List (List Nat)} {l : List Nat} : l ∈ nzs f ns ↔ l ∈ ns ∧ f l ≠ 0 := by
  unfold nzs
  rw [List.mem_filter, srt_mem]
  simp
theorem nzs_nodup {f : List Nat → Int} {ns : List (List Nat)} (h : ns.Nodup) : (nzs f ns).Nodup := (srt_nodup h).sublist List.filter_sublist
theorem nzs_len (f : List Nat → Int) (ns : List (List Nat)) : (nzs f ns).length ≤ ns.length := by
  have := List.length_filter_le (fun l => !decide (f l = 0)) (srt ns)
  rw [srt_len] at this
  exact this
theorem nzs_pw (f : List Nat → Int) (ns : List (List Nat)) : (nzs f ns).Pairwise (fun a b => a ≤ b) := (srt_pw ns).sublist List.filter_sublist
theorem nzs_congr {f g : List Nat → Int} {ns : List (List Nat)} (h : ∀ l ∈ ns, f l = g l) : nzs f ns = nzs g ns := List.filter_congr fun l hl => by rw [h l (srt_mem.mp hl)]
/-- the same entries make the same names -/
theorem nzs_eq {f g : List Nat → Int} {ns ms : List (List Nat)} (nd : ns.Nodup) (md : ms.Nodup) (h : ∀ l, (l ∈ ns ∧ f l ≠ 0) ↔ (l ∈ ms ∧ g l ≠ 0)) : nzs f ns = nzs g ms := by
  have p : (nzs f ns).Perm (nzs g ms) := (List.perm_ext_iff_of_nodup (nzs_nodup nd) (nzs_nodup md)).mpr fun l => by rw [nzs_mem, nzs_mem]; exact h l
  exact p.eq_of_pairwise (fun _ _ _ _ h1 h2 => List.le_antisymm h1 h2) (nzs_pw f ns) (nzs_pw g ms)
/-- a new shift is handed out -/
def NewSh (C : Addr) (G H : Hp) (ms : List (List Nat)) (f : List Nat → Int) (Q : VK) : Prop := ∀ a G' H', Same G G' → Same G' H' → Same H H' → (∀ q o, H q = some o → G q = none → G' q = none) → IsShift C G' a ms f → Q (.ref a) H'
theorem NewSh.sees {C : Addr} {P : Pl} {G H : Hp} {ms : List (List Nat)} {f : List Nat → Int} {Q : VK} (hs : Sees P G H) (k : ∀ a G' H', Same G G' → Same H H' → (∀ q o, H q = some o → G q = none → G' q = none) → IsShift C G' a ms f → Sees P G' H' → Q (.ref a) H') : NewSh C G H ms f Q :=
  fun a G' H' s1 s2 s3 kp n => k a G' H' s1 s3 kp n (hs.grow s1 s2 s3 kp)
theorem NewSh.up {C : Addr} {G H H2 : Hp} {ms : List (List Nat)} {f : List Nat → Int} {Q : VK} (s : Same H H2) (k : NewSh C G H ms f Q) : NewSh C G H2 ms f Q :=
  fun a G' H' s1 s2 s3 kp it => k a G' H' s1 s2 (s.trans s3) (fun q o hq hG => kp q o (s _ _ hq) hG) it
section
variable {σ : L2.St} {H : Hp} {Q : VK} {K : PySem.W.Frag} {g : TG} {tt : TT} {te td : TE} {vs : List Nat} {d : Addr} {f : List Nat → V} {ns : List (List Nat)}
theorem wp_lcKeys (h : td σ H fun x H1 => ∃ d o, x = .ref d ∧ ((∃ kvs, H1 d = some (.frz o (.dK kvs)) ∧ LcW (Itk d o kvs) g tt te vs σ H1 Q) ∨ ∃ kvs, H1 d = some (.frz o (.dT kvs)) ∧ LcW (Itkt d o kvs) g tt te vs σ H1 Q)) : tLc (iKeys td) g tt te vs σ H Q := h
theorem lcKeysN {od : Obj} (σ0 : L2.St) (h : List Nat → V) (p : List Nat → Bool) (hw : wipe σ vs = σ0) (hf : H d = some (.frz od (.dK (dN f ns)))) (hn : ns.length ≤ 100000)
    (hs : ∀ (i : Nat) (l : List Nat) H2 (R : VK) (R0 : Hp → Prop), ns[i]? = some l → Same H H2 → (p l = true → ∀ H5, Same H2 H5 → R (h l) H5) → (p l = false → ∀ H5, Same H2 H5 → R0 H5) →
      g (.str (S l)) σ0 H2 fun σ2 H4 => wipe σ2 vs = σ0 ∧ tt σ2 H4 fun b H5 => if b = true then te σ2 H5 R else R0 H5)
    (hq : ∀ D H2, H D = none → Same H H2 → H2 D = some (.lst ((ns.filter p).map h)) → Q (.ref D) H2) : LcW (Itk d od (dN f ns)) g tt te vs σ H Q := by
  refine lcGen walk_keys (by rw [dN_len]; exact hn) (fun H' s => s _ _ hf) (fun i H2 x H3 y => by rw [y.1]; exact Same.refl _) (fun i => ((ns.take i).filter p).map h) rfl (fun i => by
    rw [List.length_map]
    exact Nat.le_trans (List.length_filter_le _ _) (by rw [List.length_take]; omega)) (fun i x H2 H3 R R0 _ s2 y k1 k0 => ?_) (fun D H2 hD s2 h2 => hq D H2 hD s2 (by rw [h2, dN_len, List.take_length]))
  obtain ⟨e, k, v, hk, rfl⟩ := y
  subst e
  obtain ⟨l, hl, rfl, rfl⟩ := dN_at hk
  rw [hw]
  have et := take_snoc hl
  refine hs i l _ R R0 hl s2 (fun hp H5 s5 => k1 _ _ s5 ?_) (fun hp H5 s5 => k0 _ s5 ?_)
  · rw [et, List.filter_append, List.map_append]
    simp [hp]
  · rw [et, List.filter_append, List.map_append]
    simp [hp]
/-- [.. for name in d ..] -/
theorem lock_lcN (σ0 : L2.St) (h : List Nat → V) (p : List Nat → Bool) (hw : wipe σ vs = σ0) (hd : H d = some (.dK (dN f ns))) (hn : ns.length ≤ 100000) (hv : ∀ od (R : VK), R (.ref d) (upd H d (.frz od (.dK (dN f ns)))) → td σ (upd H d (.frz od (.dK (dN f ns)))) R)
    (hs : ∀ (i : Nat) (l : List Nat) od H2 (R : VK) (R0 : Hp → Prop), ns[i]? = some l → Same (upd H d (.frz od (.dK (dN f ns)))) H2 → (p l = true → ∀ H5, Same H2 H5 → R (h l) H5) → (p l = false → ∀ H5, Same H2 H5 → R0 H5) →
      g (.str (S l)) σ0 H2 fun σ2 H4 => wipe σ2 vs = σ0 ∧ tt σ2 H4 fun b H5 => if b = true then te σ2 H5 R else R0 H5)
    (hq : ∀ D H2, H D = none → Same H H2 → H2 D = some (.lst ((ns.filter p).map h)) → Q (.ref D) H2) : tLockE (tLc (iKeys td) g tt te vs) σ H Q := by
  refine wp_lockE hd fun od => wp_lcKeys (hv od _ ⟨d, od, rfl, .inl ⟨_, upd_same, ?_⟩⟩)
  refine lcKeysN σ0 h p hw upd_same hn (fun i l H2 R R0 hl s k1 k0 => hs i l od H2 R R0 hl s k1 k0) (fun D H2 hD s h2 => ?_)
  have nD : D ≠ d := fun e => by rw [e, upd_same] at hD; cases hD
  rw [upd_ne nD] at hD
  exact ⟨s _ _ upd_same, hq D _ hD (unl hd s) (by rw [upd_ne nD]; exact h2)⟩
/-- x = [.. for name in d ..] -/
theorem lock_lcS {D0 : Ends} {j : Nat} (σ0 : L2.St) (h : List Nat → V) (p : List Nat → Bool) (hw : wipe σ vs = σ0) (hd : H d = some (.dK (dN f ns))) (hn : ns.length ≤ 100000) (hv : ∀ od (R : VK), R (.ref d) (upd H d (.frz od (.dK (dN f ns)))) → td σ (upd H d (.frz od (.dK (dN f ns)))) R)
    (hs : ∀ (i : Nat) (l : List Nat) od H2 (R : VK) (R0 : Hp → Prop), ns[i]? = some l → Same (upd H d (.frz od (.dK (dN f ns)))) H2 → (p l = true → ∀ H5, Same H2 H5 → R (h l) H5) → (p l = false → ∀ H5, Same H2 H5 → R0 H5) →
      g (.str (S l)) σ0 H2 fun σ2 H4 => wipe σ2 vs = σ0 ∧ tt σ2 H4 fun b H5 => if b = true then te σ2 H5 R else R0 H5)
    (hq : ∀ D H2, H D = none → Same H H2 → H2 D = some (.lst ((ns.filter p).map h)) → D0.nx (σ.set j (some (.ref D))) H2) : tLock (tAsg (tLc (iKeys td) g tt te vs) (gName j)) D0 σ H := by
  refine wp_lock hd fun od => ?_
  show tLc (iKeys td) g tt te vs σ (upd H d (.frz od (.dK (dN f ns)))) fun v H' => gName j v σ H' fun σ' H' => H' d = some (.frz od (.dK (dN f ns))) ∧ D0.nx σ' (upd H' d (.dK (dN f ns)))
  refine wp_lcKeys (hv od _ ⟨d, od, rfl, .inl ⟨_, upd_same, ?_⟩⟩)
  refine lcKeysN σ0 h p hw upd_same hn (fun i l H2 R R0 hl s k1 k0 => hs i l od H2 R R0 hl s k1 k0) (fun D H2 hD s h2 => ?_)
  have nD : D ≠ d := fun e => by rw [e, upd_same] at hD; cases hD
  rw [upd_ne nD] at hD
  exact ⟨s _ _ upd_same, hq D _ hD (unl hd s) (by rw [upd_ne nD]; exact h2)⟩
theorem wp_ckw {r : List V → List V → Hp → VK → Prop} {tl tk : TA} (h : tl σ H fun vs H1 => tk σ H1 fun zs H2 => r vs zs H2 Q) : tCKw r tl tk σ H Q := h
end
/-! #### dicts built in any order, names perhaps twice -/
def stepD (fm : (List Nat → Int) × List (List Nat)) (lv : List Nat × Int) : (List Nat → Int) × List (List Nat) := (fun x => if x = lv.1 then lv.2 else fm.1 x, if lv.1 ∈ fm.2 then fm.2 else fm.2 ++ [lv.1])
def bldD (ps : List (List Nat × Int)) : (List Nat → Int) × List (List Nat) := ps.foldl stepD (fun _ => 0, [])
theorem bldD_snoc (ps : List (List Nat × Int)) (p : List Nat × Int) : bldD (ps ++ [p]) = stepD (bldD ps) p := by unfold bldD; rw [List.foldl_append]; rfl
theorem putK_old {f : List Nat → Int} {l : List Nat} {v : Int} : ∀ {ns : List (List Nat)}, ns.Nodup → l ∈ ns → putK (mD f ns) (.inr (S l)) (.int v) = mD (fun x => if x = l then v else f x) ns := by
  intro ns nd hl
  unfold putK
  have e : ((mD f ns).any fun kv => decide (kv.1 = (.inr (S l) : Key))) = true := by
    rw [List.any_eq_true]
    exact ⟨(.inr (S l), .int (f l)), List.mem_map.mpr ⟨l, hl, rfl⟩, decide_eq_true rfl⟩
  rw [if_pos e]
  unfold mD dN
  rw [List.map_map]
  refine List.map_congr_left fun x _ => ?_
  show (if (Sum.inr (S x) : Key) = .inr (S l) then _ else _) = _
  by_cases h : x = l
  · subst h
    rw [if_pos rfl]
    show (Sum.inr (S x), V.int v) = (Sum.inr (S x), V.int (if x = x then v else f x))
    rw [if_pos rfl]
  · rw [if_neg (fun z => h (key_inj z))]
    show (Sum.inr (S x), V.int (f x)) = (Sum.inr (S x), V.int (if x = l then v else f x))
    rw [if_neg h]
theorem bldD_inv {lim : Nat} : ∀ (n : Nat) (ps : List (List Nat × Int)), ps.length = n → (bldD ps).2.Nodup ∧ (∀ l, l ∈ (bldD ps).2 ↔ l ∈ ps.map (·.1)) ∧ (bldD ps).2.length ≤ n ∧ ∀ l ∈ (bldD ps).2, (l, (bldD ps).1 l) ∈ ps
  | 0, ps, h => by
    rw [List.eq_nil_of_length_eq_zero h]
    exact ⟨List.nodup_nil, by simp [bldD], Nat.le_refl _, by simp [bldD]⟩
  | n + 1, ps, h => by
    obtain ⟨qs, p, rfl⟩ : ∃ qs p, ps = qs ++ [p] := ⟨ps.dropLast, ps.getLast (by intro e; rw [e] at h; cases h), (List.dropLast_concat_getLast _).symm⟩
    obtain ⟨h1, h2, h3, h4⟩ := bldD_inv (lim := lim) n qs (by simpa using h)
    rw [bldD_snoc]
    unfold stepD
    refine ⟨?_, fun l => ?_, ?_, fun l hl => ?_⟩
    · by_cases e : p.1 ∈ (bldD qs).2
      · simp only [e, if_true]; exact h1
      · simp only [e, if_false]
        exact List.nodup_append.mpr ⟨h1, by simp, fun a ha b hb hab => e (by rw [List.mem_singleton.mp hb] at hab; rw [← hab]; exact ha)⟩
    · rw [List.map_append, List.mem_append, ← h2]
      by_cases e : p.1 ∈ (bldD qs).2
      · simp only [e, if_true]
        exact ⟨.inl, fun z => z.elim id fun z => by rw [show l = p.1 by simpa using z]; exact e⟩
      · simp only [e, if_false]
        rw [List.mem_append]
        simp
    · by_cases e : p.1 ∈ (bldD qs).2
      · simp only [e, if_true]; omega
      · simp only [e, if_false, List.length_append, List.length_cons, List.length_nil]; omega
    · show (l, if l = p.1 then p.2 else (bldD qs).1 l) ∈ _
      by_cases e2 : l = p.1
      · rw [if_pos e2, e2]
        exact List.mem_append_right _ (List.mem_singleton.mpr rfl)
      · rw [if_neg e2]
        refine List.mem_append_left _ (h4 l ?_)
        have hl2 : l ∈ (if p.1 ∈ (bldD qs).2 then (bldD qs).2 else (bldD qs).2 ++ [p.1]) := hl
        by_cases e : p.1 ∈ (bldD qs).2
        · rw [if_pos e] at hl2; exact hl2
        · rw [if_neg e] at hl2
          rcases List.mem_append.mp hl2 with z | z
          · exact z
          · exact absurd (List.mem_singleton.mp z) e2
/-- names that are different: nothing is lost -/
theorem bldD_nodup : ∀ (n : Nat) (ns : List (List Nat)) (is : List Int), ns.length = n → is.length = n → ns.Nodup → (bldD (ns.zip is)).2 = ns ∧ ∀ l ∈ ns, (bldD (ns.zip is)).1 l = asg ns is l
  | 0, ns, is, h1, h2, _ => by
    rw [List.eq_nil_of_length_eq_zero h1]
    exact ⟨rfl, by simp⟩
  | n + 1, ns, is, h1, h2, nd => by
    obtain ⟨ms, m, rfl⟩ : ∃ qs p, ns = qs ++ [p] := ⟨ns.dropLast, ns.getLast (by intro e; rw [e] at h1; cases h1), (List.dropLast_concat_getLast _).symm⟩
    obtain ⟨js, j, rfl⟩ : ∃ qs p, is = qs ++ [p] := ⟨is.dropLast, is.getLast (by intro e; rw [e] at h2; cases h2), (List.dropLast_concat_getLast _).symm⟩
    have l1 : ms.length = n := by simpa using h1
    have l2 : js.length = n := by simpa using h2
    obtain ⟨d1, _, d3⟩ := List.nodup_append.mp nd
    have nm : m ∉ ms := fun h => d3 m h m (List.mem_singleton.mpr rfl) rfl
    obtain ⟨e1, e2⟩ := bldD_nodup n ms js l1 l2 d1
    rw [List.zip_append (by omega), show [m].zip [j] = [(m, j)] from rfl, bldD_snoc]
    unfold stepD
    simp only [e1, nm, if_false]
    refine ⟨by first | rfl | trivial, fun l hl => ?_⟩
    have at1 : ∀ k, (ms ++ [m])[k]? = some l → (js ++ [j])[k]? = some (asg (ms ++ [m]) (js ++ [j]) l) := fun k hk => by
      have hkl : k < (js ++ [j]).length := by
        have := (List.getElem?_eq_some_iff.mp hk).1
        simp at this ⊢; omega
      rw [asg_at nd hk (List.getElem?_eq_getElem hkl)]
      exact List.getElem?_eq_getElem hkl
    by_cases e : l = m
    · rw [if_pos e]
      have z := at1 ms.length (by rw [e, List.getElem?_append_right (Nat.le_refl _)]; simp)
      rw [l1, ← l2, List.getElem?_append_right (Nat.le_refl _)] at z
      simpa using z
    · rw [if_neg e]
      have hl2 : l ∈ ms := by
        rcases List.mem_append.mp hl with z | z
        · exact z
        · exact absurd (List.mem_singleton.mp z) e
      rw [e2 l hl2]
      obtain ⟨k, hk, ek⟩ := List.getElem_of_mem hl2
      have hk2 : ms[k]? = some l := by rw [← ek]; exact List.getElem?_eq_getElem hk
      have z := at1 k (by rw [List.getElem?_append_left hk]; exact hk2)
      rw [List.getElem?_append_left (by omega)] at z
      exact asg_at d1 hk2 z
theorem wp_neBl {a b : Bool} {H : Hp} {Q : VK} (h : Q (.bl (!decide (a = b))) H) : rNe (.bl a) (.bl b) H Q := ⟨rfl, by
  have e : decide (V.bl a = V.bl b) = decide (a = b) := by simp
  rw [e]; exact h⟩
/-- a thing that a call made is put at the list's end -/
theorem app_otG2 {P : Pl} {L : Addr} {G0 : Hp} {O : Hp → V → Prop} {n : Nat} {G H : Hp} {xs : List V} {x : V} {R : V → Hp → Prop} (h : OtG P L G0 O n G H xs) (hn : n ≤ 90) (hO : O G x) (k : ∀ ys H2, OtG P L G0 O (n + 1) G H2 ys → R .non H2) : rAppend (.ref L) [x] H R := by
  refine wp_append h.l.h (by have := h.n; omega) (k (xs ++ [x]) _ ⟨h.l.put, h.s, fun y hy => ?_, by have := h.n; simp; omega⟩)
  rcases List.mem_append.mp hy with e | e
  · exact h.o y e
  · rw [List.mem_singleton.mp e]; exact hO
end RM
namespace RM
open PySem PySem.Spec PyProof.Rows L2
/-! ### comprehensions over zip(a, b) -/
section
variable {σ : L2.St} {H : Hp} {Q : VK} {K : PySem.W.Frag} {g : TG} {tt : TT} {te : TE} {ta : TA} {vs : List Nat}
theorem wp_lcZ (h : ta σ H fun us H1 => ∃ a b xs ys, us = [.ref a, .ref b] ∧ SqL K H1 a xs ∧ SqL K H1 b ys ∧ LcW (Itz K a b) g tt te vs σ H1 Q) : tLc (iZip K ta) g tt te vs σ H Q := h
theorem lcGZ {a b : Addr} {xs ys : List V} (hx : SqL K H a xs) (hy : SqL K H b ys) (el : xs.length = ys.length) (hn : xs.length ≤ 100000) (accs : Nat → List V) (h0 : accs 0 = []) (hlen : ∀ i, (accs i).length ≤ i)
    (hs : ∀ i x y T H2 (R : VK) (R0 : Hp → Prop), xs[i]? = some x → ys[i]? = some y → Same H H2 → H2 T = some (.tup [x, y]) → (∀ z H6, Same H2 H6 → accs (i + 1) = accs i ++ [z] → R z H6) → (∀ H5, Same H2 H5 → accs (i + 1) = accs i → R0 H5) → g (.ref T) (wipe σ vs) H2 fun σ2 H4 => wipe σ2 vs = wipe σ vs ∧ tt σ2 H4 fun b H5 => if b = true then te σ2 H5 R else R0 H5)
    (hq : ∀ D H2, H D = none → Same H H2 → H2 D = some (.lst (accs xs.length)) → Q (.ref D) H2) : ∃ a' b' xs ys, [V.ref a, V.ref b] = [.ref a', .ref b'] ∧ SqL K H a' xs ∧ SqL K H b' ys ∧ LcW (Itz K a' b') g tt te vs σ H Q :=
  ⟨a, b, xs, ys, rfl, hx, hy, lcGen (n := xs.length) (walk_zip (by omega)) hn (fun H' s => ⟨Same.seq s hx, Same.seq s hy⟩) (fun i H2 x H3 y => by
    obtain ⟨T, x', y', _, hT, e, _⟩ := y
    rw [e]; exact Same.new hT) accs h0 hlen (fun i x H2 H3 R R0 _ s2 y k1 k0 => by
    obtain ⟨T, x', y', rfl, hT, e, h4, h5⟩ := y
    subst e
    exact hs i x' y' T _ R R0 h4 h5 (s2.trans (Same.new hT)) upd_same k1 k0) hq⟩
end
end RM
namespace RM
open PySem PySem.Spec PyProof.Rows L2 ItX
/-! ### operators between two objects of one own class, -o, abs(o), k * o, *o in a list display -/
def rOwnO (C : Addr) (sp : Sp) : R2 := fun x y H Q => ∃ a dx fs b dy gs, x = .ref a ∧ y = .ref b ∧ H a = some (.ins C dx fs) ∧ H b = some (.ins C dy gs) ∧ sp [.ref a, .ref b] H (fun v H' => ∃ c, v = .ref c ∧ Q v H') E0
section
variable {X : Cx} {n : Nat} {C : Addr} {sp : Sp} {op : Operator} {nm : Str}
theorem op_ownO (S : Spc X.prog X.w X.K X.mg X.base n C nm sp) (hsf : PySem.W.selfFirst X.K C = true) (hr : Room n X.A) (e1 : PySem.dunder op.info.2 = nm := by decide +kernel) : OpR X (binaryOp op) (rOwnO C sp) := by
  obtain ⟨f, fd, ps, hs, hf, F, hb⟩ := S.ex
  intro pins s σ H x y v u Q I rx ry h
  obtain ⟨a, dx, fs, b, dy, gs, rfl, rfl, ha, hb2, h⟩ := h
  cases rx
  cases ry
  obtain ⟨od, J⟩ := inst_of I ha
  obtain ⟨od2, J2⟩ := inst_of I hb2
  obtain ⟨m, hF⟩ := I.fr
  refine PySem.W.binop_K hF I.ok.mod.kin J J2.type hsf (by rw [e1]; exact hs) hf ?_
  refine wpAny_mono (run_at (us := [.ref a, .ref b]) (vs := [.ref a, .ref b]) ⟨hr, rfl⟩ F hb I (.cons rfl (.cons rfl .nil)) h) (fun v s' hv => ?_) fun _ _ e => e
  obtain ⟨z, H', I', rz, c, rfl, q⟩ := hv
  cases rz
  exact ⟨.ref c, H', I', rfl, q⟩
end
/-! #### the items of an own object that iterates over its dict -/
section
variable {X : Cx} {pins : List (Addr × Obj)} {σ : L2.St} {H : Hp} {s : Shared} {n : Nat} {A : Around} {f C it q d : Addr} {o : Obj} {i m : Nat} {kvs : List (Key × V)} {es : Array DictEntry} {ep : Nat}
theorem it_loopKr {Rs : Result → Shared → Prop} (hod : o.data = .dict es ep) (hh : A.in1.handled = none) (hz : kvs.length < 100000) (hdq : d ≠ q) (hiq : it ≠ q)
    (hdone : ∀ H' s', Inv X pins σ H' s' → (∀ b o, b ≠ q → H b = some o → H' b = some o) → H' q = some (.lst (kvs.map fun kv => kV kv.1)) → Rs (.ok (.ret (.ref q))) s') :
    ∀ (m i : Nat) (H' : Hp) (s : Shared), kvs.length - i = m → i ≤ kvs.length → Inv X pins σ H' s → (∀ b o, b ≠ q → H b = some o → H' b = some o) → H' d = some (.frz o (.dK kvs)) → FpOk X pins H' it → s.heap.IsKeyIter it d i kvs.length ep → H' q = some (.lst ((kvs.map fun kv => kV kv.1).take i)) →
      codeAny (model X.prog X.w) A (.builtin "list.extend.loop" ⟨[.ref q, .ref it, .ref q], []⟩) Rs s := by
  have el : (kvs.map fun kv => kV kv.1).length = kvs.length := List.length_map ..
  intro m
  induction m with
  | zero =>
    intro i H' s hm hi I hk hl hf st hq
    have ei : i = kvs.length := by omega
    obtain ⟨f0, f1, f2, f3, f4, f5⟩ := hf
    refine codeAny_builtin PySem.F.entry_extend_loop ?_
    rw [Around.under_plainId PySem.F.plain_extend_loop _]
    show wpAny _ A.in1 (pyNext (.ref it) >>= _) _ _ s
    obtain ⟨hs, hgd, hx, es', ep', vs, hdt, hsz, kv, hm⟩ := I.frzK hl
    obtain ⟨rfl, rfl⟩ := dict_ep hod hdt
    refine wpAny_bind (next_key_end hh st hgd hdt hsz (by omega) fun h' eb => ?_)
    refine wpAny_pure ?_
    have I2 := I.turned (t' := s.toks) (fun b ob hb e => eb b ob hb e) f0 f1 f3 f4 f5
    refine hdone _ _ I2 hk ?_
    rw [hq, ei, ← el, List.take_length]
  | succ m ih =>
    intro i H' s hm hi I hk hl hf st hq
    have hlt : i < kvs.length := by omega
    have ⟨f0, f1, f2, f3, f4, f5⟩ := hf
    refine codeAny_builtin PySem.F.entry_extend_loop ?_
    rw [Around.under_plainId PySem.F.plain_extend_loop _]
    show wpAny _ A.in1 (pyNext (.ref it) >>= _) _ _ s
    obtain ⟨hs, hgd, hx, es', ep', vs, hdt, hsz, kv, hm⟩ := I.frzK hl
    obtain ⟨rfl, rfl⟩ := dict_ep hod hdt
    obtain ⟨⟨k, v⟩, hkv⟩ : ∃ p, kvs[i]? = some p := ⟨kvs[i], List.getElem?_eq_getElem hlt⟩
    obtain ⟨u, hu, ru⟩ := kv_get kv hkv
    have hl2 : kvs.length = vs.length := Paired.length kv
    refine wpAny_bind (wpAny_pyNext_dict_item (by rw [hl2] at st; exact st) hm hu fun key h' hkey st' sb => ?_)
    have I2 : Inv X pins σ H' { s with heap := h' } := I.turned (t' := s.toks) (fun b ob hb e => (sb.2 b hb).trans e) f0 f1 f3 f4 f5
    show wpAny _ A.in1 (updateSeq q (·.push key) >>= _) _ _ _
    obtain ⟨z, its2, k2, r2, hl3, e2⟩ := I2.lstM hq
    have hz2 : its2.length = i := by rw [← hl3, List.length_take, el]; omega
    refine wpAny_bind (wpAny_updateSeq e2 rfl (wpAny_pure ⟨plainId_quiet PySem.F.plain_extend_loop _, ?_⟩) (by rw [List.size_toArray, hz2]; exact Nat.le_trans (Nat.le_of_lt hlt) (szl (by omega))) (by show (its2.toArray.push key).size ≤ sizeLine + 1; rw [Array.size_push, List.size_toArray, hz2]; exact Nat.succ_le_succ (szl (by omega))))
    have I3 := I2.lset (f := (·.push key)) (its' := its2 ++ [key]) (ys := (kvs.map fun kv => kV kv.1).take i ++ [kV k]) (t' := s.toks) hq e2 (by simp) (r2.append (.cons (relV_key (show keyIs k key = true from hkey)) .nil)) (by rw [List.length_append, List.length_take, el]; exact szl (by show _ + 1 ≤ _; omega))
    refine ih (i + 1) _ _ (by omega) hlt I3 (fun b o h1 e => by rw [upd_ne h1]; exact hk b o h1 e) (by rw [upd_ne hdq]; exact hl) (fpUpd hf hiq) ?_ ?_
    · rw [hl2]
      exact st'.at fun ob e => (Heap.get?_update_other _ _ (Ne.symm hiq)).trans e
    · rw [upd_same]
      have e3 : (kvs.map fun kv => kV kv.1)[i]? = some (kV k) := by rw [List.getElem?_map, hkv]; rfl
      rw [List.take_succ, e3]
      rfl
/-- what * asks of such an object -/
def StOwn (C : Addr) (F : Str) (spL : Sp) (x : V) (H : Hp) (R : List V → Hp → Prop) : Prop := ∃ a dx fs d kvs, x = .ref a ∧ H a = some (.ins C dx fs) ∧ fs.lookup F = some (.ref d) ∧ H d = some (.dK kvs) ∧ kvs.length < 100000 ∧
  (∀ od H1 (R : VK), Same (upd H d (.frz od (.dK kvs))) H1 → (∀ k : Int, 0 ≤ k → k < 100000 → R (.int k) H1) → spL [.ref a] H1 R E0) ∧ ∀ H', Same H H' → R (kvs.map fun kv => kV kv.1) H'
theorem star_own {F : Str} {spL : Sp} {x : V} {v : Value} {E : Value → Shared → Prop} {R : List V → Hp → Prop} {Q : List Value → Shared → Prop} (SI : ItrN X.prog X.w X.K X.mg X.base n C (spYoungK C F)) (SL : Spc X.prog X.w X.K X.mg X.base n C "__len__" spL) (hr : Room (n + 2) X.A)
    (I : Inv X pins σ H s) (rx : RelV x v) (h : StOwn C F spL x H R) (hQ : ∀ us xs H' s', Inv X pins σ H' s' → Vals xs us → R xs H' → Q us s') : PySem.W.StarOf (model X.prog X.w) X.A E v Q s := by
  obtain ⟨fI, fdI, psI, hsI, hfI, FI, bI⟩ := SI.ex
  obtain ⟨fL, fdL, psL, hsL, hfL, FL, bL⟩ := SL.ex
  obtain ⟨a, dx, fs, d, kvs, rfl, ha, lk, hd0, hz, hL, h⟩ := h
  cases rx
  obtain ⟨o, I0⟩ := I.lock hd0 True.intro
  have hnf := I.nofrz hd0 True.intro
  have nad : a ≠ d := fun z => by rw [z, hd0] at ha; cases ha
  have ha0 : upd H d (.frz o (.dK kvs)) a = some (.ins C dx fs) := (upd_ne nad).trans ha
  have hd : upd H d (.frz o (.dK kvs)) d = some (.frz o (.dK kvs)) := upd_same
  have sb : Sub X (n + 1) X.A.in1 := Sub.in1 (⟨hr, rfl⟩ : Sub X (n + 2) X.A)
  obtain ⟨odz, Jz⟩ := inst_of I0 ha0
  unfold PySem.W.StarOf notIterableAtAll
  refine wpAny_bind (wpAny_bind (Jz.type.here ((PySem.W.looks_findIn I0.kIn hsI).here ?_)))
  refine wpAny_pure ⟨rfl, ?_⟩
  have fr : upd H d (.frz o (.dK kvs)) s.heap.objs.size = none := I0.hok.fresh (Nat.le_refl _)
  have sH0 : ∀ H3, Same (upd H d (.frz o (.dK kvs))) H3 → Same H (upd H3 d (.dK kvs)) := fun H3 z => unl hd0 z
  unfold collect
  refine wpAny_bind (wpAny_runValue (codeAny_builtin PySem.F.entry_proto_collect ?_))
  rw [Around.under_plainId PySem.F.plain_proto_collect _]
  show wpAny _ X.A.in1 (newList [] >>= fun l => again (.builtin "list.__iadd__" ⟨[l, .ref a], []⟩)) _ _ s
  refine wpAny_bind (wpAny_newObj_type ?_)
  refine wpAny_pure ⟨plainId_quiet PySem.F.plain_list_iadd _, codeAny_builtin PySem.F.entry_list_iadd ?_⟩
  rw [Around.under_plainId PySem.F.plain_list_iadd _]
  have hL := hL o
  generalize hH0 : upd H d (.frz o (.dK kvs)) = H0 at I0 ha0 hd hL fr sH0
  have hd' := hd
  generalize hqe : s.heap.objs.size = q at *
  have I1 : Inv X pins σ (upd H0 q (.lst [])) { s with heap := s.heap.push { cls := .type "list", data := .seq ([] : List Value).toArray } } := by
    have z := I0.lnew (its := []) (ys := []) (t' := s.toks) .nil (Nat.zero_le _)
    rw [hqe] at z
    exact z
  have sHq : Same H0 (upd H0 q (.lst [])) := Same.new fr
  have ha2 : upd H0 q (.lst []) a = some (.ins C dx fs) := sHq _ _ ha0
  have hd2 : upd H0 q (.lst []) d = some (.frz o (.dK kvs)) := sHq _ _ hd'
  have hne : q ≠ a := ne_of (H := upd H0 q (.lst [])) upd_same ha2 (fun z => nomatch z)
  have hdq : d ≠ q := ne_of_none hd' fr
  obtain ⟨od, J⟩ := inst_of I1 ha2
  obtain ⟨m0, hF⟩ := I1.fr
  show wpAny _ X.A.in1 (Builtin.List.listExtendWith (.ref q) (.ref a) (.ref q)) _ _ _
  unfold Builtin.List.listExtendWith
  refine wpAny_bind (J.type.here ?_)
  have h1 : Builtin.List.listSameRef (.ref q) (.ref a) = false := by simp [Builtin.List.listSameRef, hne]
  have h2 : (Value.ref C == Value.type "list") = false := rfl
  have h3 : (Value.ref C == Value.type "tuple") = false := rfl
  simp only [h1, h2, h3, Bool.or_false, Bool.false_eq_true, if_false]
  refine wpAny_bind (PySem.W.owit_iter hF I1.ok.mod.kin J hsI hfI ?_)
  have I2s := I1.sz
  refine wpAny_mono (run_young (us := [.ref a]) (vs := [.ref a]) (Q := fun v H2 => ∃ it, v = .ref it ∧ upd H0 q (.lst []) it = none ∧ X.s_0.heap.objs.size ≤ it ∧ H2 = upd (upd H0 q (.lst [])) it (KeyIt d o kvs.length it)) (sb.mono (Nat.le_succ _)) FI bI I1 (.cons rfl .nil) ⟨a, dx, fs, d, o, kvs, rfl, ha2, lk, hd2, fun it h1 h2 => ⟨it, rfl, h1, Nat.le_trans I2s h2, rfl⟩⟩) (fun u s' hu => ?_) (fun _ _ e => e)
  obtain ⟨v, H2, I3, rv3, it, rfl, hn, hle, rfl⟩ := hu
  cases rv3
  have hi' : upd (upd H0 q (.lst [])) it (KeyIt d o kvs.length it) it = some (KeyIt d o kvs.length it) := upd_same
  have hok := I3.hok it _ hi'
  obtain ⟨es, ep, hdt, ki⟩ := hok.1
  have hT : s'.TypeIs (.ref it) "dict_keyiterator" := ki.typeIs
  unfold PySem.W.OwitIt
  show wpAny _ _ (typeOf (.ref it) >>= fun t => typeLookup t "__next__") _ _ _
  refine wpAny_bind (wpAny_typeOf hT (wpAny_of_eq PySem.F.slot_dict_keyiterator_next.lookup ?_))
  show wpAny _ _ _ _ _ _
  have fp := inv_fp I3 hi' hle
  unfold KeyIt at hi'
  have I4 := inv_drop I3 hi'
  rw [dropH_upd' hn] at I4 fp
  have niq : it ≠ q := fun e => by rw [e, upd_same] at hn; cases hn
  obtain ⟨od', J'⟩ := inst_of I4 ha2
  obtain ⟨m1, hF'⟩ := I4.fr
  refine wpAny_bind (wpAny_holding ?_)
  unfold Builtin.List.listLengthHint
  refine wpAny_bind (wpAny_bind (J'.type.here ((PySem.W.looks_findIn I4.kIn hsL).here ?_)))
  refine PySem.W.KFB.if_not rfl ?_
  refine PySem.W.KFB.if_so rfl ?_
  refine wpAny_bind (wpAny_rule (wpAny_bind (wpAny_attempt ?_)))
  refine PySem.W.len_K hF' I4.ok.mod.kin J' hsL hfL ?_
  have I5p := I4.pinned (fun b hb => by rw [List.mem_singleton.mp hb]; exact fp : ∀ b ∈ [it], FpOk X pins (upd H0 q (.lst [])) b) (fun b hb => by
    rw [List.mem_singleton.mp hb]
    obtain ⟨oi, e, c, dd⟩ := ki
    exact ⟨oi, e, fun v z => by rw [dd] at z; cases z⟩)
  have ki4 := ki
  refine wpAny_mono (run_at (E' := fun _ _ => False) (us := [.ref a]) (vs := [.ref a]) (Q := fun v H2 => ∃ k : Int, v = .int k ∧ 0 ≤ k ∧ k < 100000 ∧ H2 = upd H0 q (.lst [])) sb.in1 FL bL I5p (.cons rfl .nil) (hL _ _ sHq fun k k0 k1 => ⟨k, rfl, k0, k1, rfl⟩)) (fun u s2 hu => ?_) fun _ _ e => e.elim
  obtain ⟨v2, H2, I6p, rv4, k, rfl, k0, k1, rfl⟩ := hu
  obtain ⟨tk, rfl⟩ := rv4
  refine ⟨⟨k0, by omega⟩, ?_⟩
  have ki6 : s2.heap.IsKeyIter it d 0 kvs.length ep := ki4.at fun ob e => (I6p.pin (it, ob) (List.mem_append_right _ (List.mem_append_right _ (mem_pinsAt (List.mem_singleton.mpr rfl) e)))).1
  have I6 := I6p.unpinned.tok (s2.toks + 1)
  refine wpAny_bind (wpAny_of_eq (a := some k) rfl ?_)
  refine PySem.W.KFB.if_not (notLongL (szl (by omega))) ?_
  refine wpAny_pure ?_
  have fin : ∀ (Rs : Result → Shared → Prop) (s3 : Shared), (∀ H3 s4, Inv X pins σ H3 s4 → (∀ b o, b ≠ q → upd H0 q (.lst []) b = some o → H3 b = some o) → H3 q = some (.lst (kvs.map fun kv => kV kv.1)) → Rs (.ok (.ret (.ref q))) s4) → Inv X pins σ (upd H0 q (.lst [])) s3 → s3.heap.IsKeyIter it d 0 kvs.length ep → codeAny (model X.prog X.w) X.A (.builtin "list.extend.loop" ⟨[.ref q, .ref it, .ref q], []⟩) Rs s3 := fun Rs s3 hR I7 st =>
    it_loopKr (A := X.A) (H := upd H0 q (.lst [])) hdt hr.hd hz hdq niq hR kvs.length 0 _ s3 rfl (Nat.zero_le _) I7 (fun _ _ _ e => e) hd2 fp st upd_same
  have own : ∀ (H3 : Hp) (s4 : Shared) (its : List Value), Inv X pins σ H3 s4 → (∀ b o, b ≠ q → upd H0 q (.lst []) b = some o → H3 b = some o) → Vals (kvs.map fun kv => kV kv.1) its → Q its.toArray.toList s4 := fun H3 s4 its I8 hk3 r9 => by
    have sH3 : Same H0 H3 := fun b ob e => hk3 b ob (ne_of_none e fr) (sHq _ _ e)
    rw [show its.toArray.toList = its by simp]
    exact hQ _ _ _ _ (I8.unlock (sH3 _ _ hd') hnf) r9 (h _ (sH0 _ sH3))
  refine wpAny_ite_split (fun _ => ?_) (fun _ => wpAny_pure ⟨plainId_quiet PySem.F.plain_extend_loop _, fin _ _ (fun H3 s4 I8 hk3 hq3 => ?_) I6 ki6⟩)
  rotate_left
  · obtain ⟨z, its, k9, r9, hl9, e9⟩ := I8.lstM hq3
    show wpAny _ X.A (load q >>= _) Q E s4
    exact wpAny_bind (wpAny_load e9 (wpAny_pure (own _ _ _ I8 hk3 r9)))
  obtain ⟨z, its, k3, r3, hl3, e3⟩ := I6.lstM upd_same
  cases r3
  refine wpAny_bind (wpAny_rule ?_)
  refine wpAny_bind ?_
  show wpAny _ _ (updateSeq q (·.push .none) >>= fun _ => updateSeq q (·.pop)) _ _ _
  refine wpAny_bind (wpAny_updateSeq e3 rfl ?_)
  have I7 := I6.lset (f := (·.push Value.none)) (its' := [Value.none]) (ys := [.non]) (t' := s2.toks + 1) upd_same e3 (by simp) (.cons rfl .nil) (by rw [List.length_singleton, sizeLine_eq]; decide)
  obtain ⟨z4, its4, k4, r4, hl4, e4⟩ := I7.lstM upd_same
  obtain ⟨u4, rfl, ru4⟩ := r4.one
  refine wpAny_updateSeq e4 rfl ?_ (by show 1 ≤ sizeLine; rw [sizeLine_eq]; decide) (by show 0 ≤ sizeLine + 1; exact Nat.zero_le _)
  refine wpAny_pure ⟨plainId_quiet PySem.F.plain_extend_loop _, fin _ _ (fun H3 s4 I8 hk3 hq3 => ?_) ?_ ?_⟩
  · obtain ⟨z, its, k9, r9, hl9, e9⟩ := I8.lstM hq3
    show wpAny _ X.A (load q >>= _) Q E s4
    exact wpAny_bind (wpAny_load e9 (wpAny_pure (own _ _ _ I8 hk3 r9)))
  · have I8 := I7.lset (f := (·.pop)) (its := [u4]) (its' := []) (ys := []) (t' := s2.toks + 1) upd_same e4 (by rfl) .nil (Nat.zero_le _)
    rw [upd_upd, upd_upd] at I8
    exact I8
  · exact (ki6.at fun ob e => (Heap.get?_update_other _ _ (Ne.symm niq)).trans e).at fun ob e => (Heap.get?_update_other _ _ (Ne.symm niq)).trans e
end
/-- *o in a display or a call, o an object that iterates over its dict -/
def tStarO (C : Addr) (F : Str) (spL : Sp) (te : TE) (t : TA) : TA := fun σ H Q => te σ H fun x H1 => StOwn C F spL x H1 fun xs H2 => t σ H2 fun ys H3 => Q (xs ++ ys) H3
section
variable {X : Cx} {n : Nat} {C : Addr} {F : Str} {spL : Sp} {e : Expr} {es : List Expr} {te : TE} {t : TA} {p : Pos}
theorem pa_starOwn (SI : ItrN X.prog X.w X.K X.mg X.base n C (spYoungK C F)) (SL : Spc X.prog X.w X.K X.mg X.base n C "__len__" spL) (hr : Room (n + 2) X.A) (he : PE X e te) (ha : PA X es t)
    (hs : starEach (.Starred e p :: es) X.env = (true, eval e X.env) :: starEach es X.env := by rfl) : PA X (.Starred e p :: es) (tStarO C F spL te t) := by
  refine ⟨fun pos pins s σ H Q I h => ?_⟩
  refine PySem.W.items_star (thn (he.run pins s σ H _ I h) fun v s1 ⟨y, H1, I1, ry, st⟩ => ?_) hs
  refine star_own SI SL hr I1 ry st fun us xs H2 s2 I2 rv q => ?_
  exact thn (ha.run pos pins s2 σ H2 _ I2 q) fun ws s3 ⟨vs, H3, I3, r3, q3⟩ => ⟨xs ++ vs, H3, I3, rv.append r3, q3⟩
end
/-- -o -/
def rNegO (C : Addr) (sp : Sp) : V → Hp → VK → Prop := fun x H Q => ∃ a dx fs, x = .ref a ∧ H a = some (.ins C dx fs) ∧ sp [.ref a] H Q E0
section
variable {X : Cx} {n : Nat} {C : Addr} {sp : Sp}
theorem op_negO (S : Spc X.prog X.w X.K X.mg X.base n C "__neg__" sp) (hr : Room n X.A) : UnR X (unaryOp .USub) (rNegO C sp) := by
  obtain ⟨f, fd, ps, hs, hf, F, hb⟩ := S.ex
  intro pins s σ H x v Q I rx h
  obtain ⟨a, dx, fs, rfl, ha, h⟩ := h
  cases rx
  obtain ⟨od, J⟩ := inst_of I ha
  obtain ⟨m, hF⟩ := I.fr
  refine PySem.W.ksp_neg hF I.ok.mod.kin J hs hf ?_
  exact run_at (us := [.ref a]) (vs := [.ref a]) ⟨hr, rfl⟩ F hb I (.cons rfl .nil) h
end
/-- abs(o) -/
def rAbsO (C : Addr) (sp : Sp) : List V → Hp → VK → Prop := fun xs H Q => ∃ a dx fs, xs = [.ref a] ∧ H a = some (.ins C dx fs) ∧ sp [.ref a] H Q E0
section
variable {X : Cx} {n : Nat} {C : Addr} {sp : Sp}
theorem call_absO (S : Spc X.prog X.w X.K X.mg X.base n C "__abs__" sp) (hr : Room (n + 1) X.A) : CallR X (.builtin "abs") (rAbsO C sp) := by
  obtain ⟨f, fd, ps, hs, hf, F, hb⟩ := S.ex
  intro pins s σ H xs us Q I r h
  obtain ⟨a, dx, fs, rfl, ha, h⟩ := h
  obtain ⟨u, rfl, ru⟩ := r.one
  cases ru
  obtain ⟨od, J⟩ := inst_of I ha
  refine PySem.Calls.call_function_entry kind_abs plain_abs entry_abs (args_abs _) ?_
  unfold Builtin.«abs»
  refine wpAny_bind (m := oneArg "abs" _) (wpAny_pure ?_)
  refine wpAny_bind (m := callSpecial? (.ref a) (Str.ofString "__abs__")) (PySem.W.special_fn I.kIn J hs (beq_iff_eq.mp hf) (wpAny_mono (run_at (us := [.ref a]) (vs := [.ref a]) (Sub.in1 ⟨hr, rfl⟩) F hb I (.cons rfl .nil) h) (fun v s' hv => ?_) fun _ _ e => e))
  exact wpAny_pure ⟨_, rfl, hv⟩
end
end RM
namespace RM
open PySem PySem.Spec PyProof.Rows L2
/-! ### o[k], the class's own __getitem__, which may raise -/
structure SpcGX (P : Program) (w : World) (K : PySem.W.Frag) (mg : Str → Option Value) (base : Heap) (n : Nat) (C : Addr) (sp : Sp) : Prop where
  ex : ∃ (f : Addr) (fd : FuncData) (ps : List Str), PySem.W.findIn K (.ref C) "__getitem__" = some (some (.ref f)) ∧ PySem.W.isFn K (.ref f) = true ∧ PySem.W.fnIn K f = true ∧ FnOk P w K mg base (L2.CX P w) n f fd ps sp ∧ Binds K fd ps []
section
variable {X : Cx} {CX : CXT} {pins : List (Addr × Obj)} {σ : L2.St} {H : Hp} {s : Shared} {n : Nat} {A : Around} {f C : Addr} {fd : FuncData} {ps : List Str} {sp : Sp} {E : XK}
/-- a def that may raise, run somewhere below the body -/
theorem run_atX (sb : Sub X n A) (F : FnOk X.prog X.w X.K X.mg X.base CX n f fd ps sp) (hb : Binds X.K fd ps []) (hx : Passes CX X E) (I : Inv X pins σ H s) {us : List Value} {vs : List V} {Q : VK} (r : Vals vs us) (h : sp vs H Q E) :
    wpAny (model X.prog X.w) A (call (.ref f) us) (EP X pins σ Q) X.xe s := by
  have e0 : Env0 X.prog X.w X.K X.mg X.base A X.stack s H := by
    have e := I.env0
    exact ⟨by rw [sb.fr]; exact e.frames, e.mod, e.bs, e.bsz, e.funs, e.frf, e.hok, e.bare⟩
  have hl := F.len _ _ _ _ h
  have hl2 : (us ++ ([] : List Value)).length = ps.length := by rw [List.append_nil, ← r.length]; exact hl
  have bt := hb s us I.kIn hl2
  rw [List.append_nil] at bt
  refine wpAny_call (codeAny_mono (F.run A X.stack s H ⟨us, []⟩ us vs Q E sb.room e0 bt r h) fun r s' hq => ?_)
  cases r with
  | error e => exact hx pins σ H s e s' I hq
  | ok fl =>
    cases fl with
    | ret u => exact I.after hq
    | next => exact False.elim hq
    | brk => exact False.elim hq
    | cont => exact False.elim hq
def tSubOwnX (C : Addr) (sp : Sp) (E : XK) (ta ti : TE) : TE := fun σ H Q => ta σ H fun x H1 => ti σ H1 fun y H2 => ∃ a dx fs, x = .ref a ∧ H2 a = some (.ins C dx fs) ∧ sp [.ref a, y] H2 Q E
end
section
variable {X : Cx} {o i : Expr} {pos : Pos} {ta ti : TE} {C : Addr} {n j : Nat} {sp : Sp} {E : XK}
theorem pe_subOwnX (S : SpcGX X.prog X.w X.K X.mg X.base n C sp) (hr : Room j X.A) (hk : n + 1 ≤ j) (hx : Passes (L2.CX X.prog X.w) X E) (ho : PE X o ta) (hi : PE X i ti)
    (hsl : ∀ (a : Addr) (v : Value), subscripted i true (.ref a) v = runValue (.builtin "lifetime.subscript" ⟨[.ref a, v], []⟩)) : PE X (.Subscript o i pos) (tSubOwnX C sp E ta ti) := by
  obtain ⟨f, fd, ps, hs, hf, hin, F, hb⟩ := S.ex
  refine ⟨fun pins s σ H Q I h => ?_⟩
  refine Subscript_ (thn (ho.run pins s σ H _ I h) fun u s1 ⟨x, H1, I1, rx, q1⟩ => thn (hi.run pins s1 σ H1 _ I1 q1) fun iv s2 ⟨y, H2, I2, ry, a, dx, fs, ex, ea, q2⟩ => ?_)
  subst ex
  obtain rfl : u = Value.ref a := rx
  obtain ⟨od, J⟩ := inst_of I2 ea
  obtain ⟨m, hF⟩ := I2.fr
  refine PySem.W.sub_K hF I2.ok.mod.kin J hs hin hf ?_ (hsl a iv)
  exact run_atX (us := [.ref a, iv]) (vs := [.ref a, y]) (Sub.in1 ⟨hr.mono hk, rfl⟩) F hb hx I2 (.cons rfl (.cons ry .nil)) q2
end
section
variable {σ : L2.St} {H : Hp} {Q : VK} {ta ti : TE} {C : Addr} {sp : Sp} {E : XK}
theorem wp_subOwnX (h : ta σ H fun x H1 => ti σ H1 fun y H2 => ∃ a dx fs, x = .ref a ∧ H2 a = some (.ins C dx fs) ∧ sp [.ref a, y] H2 Q E) : tSubOwnX C sp E ta ti σ H Q := h
end
end RM
namespace RM
open PySem PySem.Spec PyProof.Rows L2 ItX
/-! ### o OP k that may raise; k * o by the reflected method -/
structure SpcIX (P : Program) (w : World) (K : PySem.W.Frag) (mg : Str → Option Value) (base : Heap) (n : Nat) (C : Addr) (op : Operator) (sp : Sp) : Prop where
  ex : ∃ (f : Addr) (fd : FuncData) (ps : List Str) (fo ro rc : Option Value), PySem.W.selfFirst K C = true ∧ PySem.W.findIn K (.ref C) (PySem.dunder op.info.2) = some (some (.ref f)) ∧ PySem.W.isFn K (.ref f) = true ∧
    PySem.W.findIn K (.ref C) (dunderR op.info.2) = some rc ∧ (rc = none ∨ ∃ g : Addr, rc = some (.ref g)) ∧ PySem.W.findIn K (.type "int") (PySem.dunder op.info.2) = some fo ∧ PySem.W.findIn K (.type "int") (dunderR op.info.2) = some ro ∧
    PySem.W.subIn K (.type "int") (.ref C) = some false ∧ FnOk P w K mg base (L2.CX P w) n f fd ps sp ∧ Binds K fd ps []
theorem SpcIX.of {P : Program} {w : World} {K : PySem.W.Frag} {mg : Str → Option Value} {base : Heap} {n : Nat} {op : Operator} {sp : Sp} {x nm rn : Str} {f : Addr} {fd : FuncData} {ps : List Str} (b : bBinI x nm rn K = true) (m : Meth K (He.ga K x) nm f)
    (F : FnOk P w K mg base (L2.CX P w) n f fd ps sp) (hb : Binds K fd ps []) (e1 : PySem.dunder op.info.2 = nm := by decide +kernel) (e2 : dunderR op.info.2 = rn := by decide +kernel) : SpcIX P w K mg base n (He.ga K x) op sp := by
  obtain ⟨b1, b⟩ := He.ba b
  obtain ⟨b2, b⟩ := He.ba b
  obtain ⟨b3, b⟩ := He.ba b
  obtain ⟨b4, b5⟩ := He.ba b
  obtain ⟨rc, h1, h2⟩ := okR_ok b2
  obtain ⟨fo, h3⟩ := Option.isSome_iff_exists.mp b3
  obtain ⟨ro, h4⟩ := Option.isSome_iff_exists.mp b4
  exact ⟨f, fd, ps, fo, ro, rc, b1, by rw [e1]; exact m.at_, m.fn, by rw [e2]; exact h1, h2, by rw [e1]; exact h3, by rw [e2]; exact h4, of_decide_eq_true b5, F, hb⟩
def tOwnIX (C : Addr) (sp : Sp) (E : XK) (ta tb : TE) : TE := fun σ H Q => ta σ H fun x H1 => tb σ H1 fun y H2 => ∃ a dx fs i, x = .ref a ∧ y = .int i ∧ H2 a = some (.ins C dx fs) ∧ sp [.ref a, .int i] H2 (fun v H' => ∃ b, v = .ref b ∧ Q v H') E
def tOwnIS (C : Addr) (sp : Sp) (E : L2.St → XK) (ta tb : TE) : TE := fun σ H Q => ta σ H fun x H1 => tb σ H1 fun y H2 => ∃ a dx fs i, x = .ref a ∧ y = .int i ∧ H2 a = some (.ins C dx fs) ∧ sp [.ref a, .int i] H2 (fun v H' => ∃ b, v = .ref b ∧ Q v H') (E σ)
section
variable {X : Cx} {a b : Expr} {pos : Pos} {ta tb : TE} {C : Addr} {n j : Nat} {sp : Sp} {E : XK} {W : WX} {op : Operator}
theorem pe_ownIX (S : SpcIX X.prog X.w X.K X.mg X.base n C op sp) (hr : Room j X.A) (hk : n ≤ j) (hx : Passes (L2.CX X.prog X.w) X E) (ha : PE X a ta) (hb : PE X b tb) : PE X (.BinOp a op b pos) (tOwnIX C sp E ta tb) := by
  obtain ⟨f, fd, ps, fo, ro, rc, k1, k2, k3, k4, k5, k6, k7, k8, F, hbd⟩ := S.ex
  refine ⟨fun pins s σ H Q I h => wpAny_BinOp (binT ha hb I h fun v u s2 x y H2 I2 rx ry q => ?_)⟩
  obtain ⟨a, dx, fs, i, rfl, rfl, hA, q⟩ := q
  cases rx
  obtain ⟨t, rfl⟩ := ry
  obtain ⟨od, J⟩ := inst_of I2 hA
  obtain ⟨m, hF⟩ := I2.fr
  refine PySem.W.ksp_binT (T := "int") hF I2.ok.mod.kin J rfl k1 k2 k3 k4 k5 k6 k7 k8 ?_
  refine wpAny_mono (run_atX (us := [.ref a, .int i t]) (vs := [.ref a, .int i]) (⟨hr.mono hk, rfl⟩ : Sub X n X.A) F hbd hx I2 (.cons rfl (.cons ⟨t, rfl⟩ .nil)) q) (fun v s' hv => ?_) fun _ _ e => e
  obtain ⟨z, H', I', rz, b, rfl, q⟩ := hv
  cases rz
  exact ⟨.ref b, H', I', rfl, q⟩
theorem pe_ownIS (S : SpcIX X.prog X.w X.K X.mg X.base n C op sp) (hr : Room j X.A) (hk : n ≤ j) (tk : Takes X W) (ha : PE X a ta) (hb : PE X b tb) : PE X (.BinOp a op b pos) (tOwnIS C sp (WE W) ta tb) := by
  obtain ⟨f, fd, ps, fo, ro, rc, k1, k2, k3, k4, k5, k6, k7, k8, F, hbd⟩ := S.ex
  refine ⟨fun pins s σ H Q I h => wpAny_BinOp (binT ha hb I h fun v u s2 x y H2 I2 rx ry q => ?_)⟩
  obtain ⟨a, dx, fs, i, rfl, rfl, hA, q⟩ := q
  cases rx
  obtain ⟨t, rfl⟩ := ry
  obtain ⟨od, J⟩ := inst_of I2 hA
  obtain ⟨m, hF⟩ := I2.fr
  refine PySem.W.ksp_binT (T := "int") hF I2.ok.mod.kin J rfl k1 k2 k3 k4 k5 k6 k7 k8 ?_
  refine wpAny_mono (run_fnS (E := WE W) (us := [.ref a, .int i t]) (vs := [.ref a, .int i]) F (hr.mono hk) hbd (passAt tk σ) I2 (.cons rfl (.cons ⟨t, rfl⟩ .nil)) q) (fun v s' hv => ?_) fun _ _ e => e
  obtain ⟨z, H', I', rz, b, rfl, q⟩ := hv
  cases rz
  exact ⟨.ref b, H', I', rfl, q⟩
end
/-! #### k * o -/
structure SpcR (P : Program) (w : World) (K : PySem.W.Frag) (mg : Str → Option Value) (base : Heap) (n : Nat) (C : Addr) (sp : Sp) : Prop where
  ex : ∃ (f g : Addr) (fd : FuncData) (ps : List Str), PySem.W.selfFirst K C = true ∧ PySem.W.findIn K (.ref C) (PySem.dunder "mul") = some (some (.ref g)) ∧ PySem.W.findIn K (.ref C) (dunderR "mul") = some (some (.ref f)) ∧ PySem.W.isFn K (.ref f) = true ∧
    PySem.W.subIn K (.ref C) (.type "int") = some false ∧ FnOk P w K mg base CX0 n f fd ps sp ∧ Binds K fd ps []
theorem SpcR.of {P : Program} {w : World} {K : PySem.W.Frag} {mg : Str → Option Value} {base : Heap} {n : Nat} {sp : Sp} {x : Str} {f : Addr} {fd : FuncData} {ps : List Str} (b : bRefI x K = true) (m : Meth K (He.ga K x) "__rmul__" f)
    (F : FnOk P w K mg base CX0 n f fd ps sp) (hb : Binds K fd ps []) : SpcR P w K mg base n (He.ga K x) sp := by
  have e1 : PySem.dunder "mul" = "__mul__" := by decide +kernel
  have e2 : dunderR "mul" = "__rmul__" := by decide +kernel
  obtain ⟨b1, b⟩ := He.ba b
  obtain ⟨b2, b3⟩ := He.ba b
  obtain ⟨g, h1⟩ := isRf_ok b2
  exact ⟨f, g, fd, ps, b1, by rw [e1]; exact h1, by rw [e2]; exact m.at_, m.fn, of_decide_eq_true b3, F, hb⟩
theorem int_mul_own (a : Int) (t : Tok) (l C dx : Addr) :
    Meets (Builtin.«int.__mul__» ⟨[.int a t, .ref l], []⟩) (fun _ R s => s.heap.get? l = some (PySem.W.instObj C dx) ∧ R (.ok (.ret Value.notImplemented)) s) :=
  .of_wp fun prog w A R s h => by obtain ⟨hp, g, d, tk, os⟩ := s; obtain ⟨hl, h⟩ := h; unfold PySem.W.instObj at hl; wp_walk; exact ⟨_, rfl, h⟩
theorem mul_refl {prog : Program} {w : World} {A : Around} {E : Value → Shared → Prop} {s : Shared} {K : PySem.W.Frag} {h₀ : Heap} {L x C f g dx : Addr} {m : Str → Option Value} {od : Option Obj} {i : Int} {t : Tok} {Q : Value → Shared → Prop} (F : Fr h₀ L s.heap m) (X₀ : K.In h₀) (I : PySem.W.InstAt s.heap x (PySem.W.instObj C dx) C od)
    (hc : PySem.W.selfFirst K C = true) (hm : PySem.W.findIn K (.ref C) (PySem.dunder "mul") = some (some (.ref g))) (hs : PySem.W.findIn K (.ref C) (dunderR "mul") = some (some (.ref f))) (hf : PySem.W.isFn K (.ref f) = true) (hsub : PySem.W.subIn K (.ref C) (.type "int") = some false)
    (h : wpAny (model prog w) A (call (.ref f) [.ref x, .int i t]) (PySem.W.CmpBack Q) E s) : wpAny (model prog w) A (binaryOp .Mult (.int i t) (.ref x)) Q E s := by
  have X := X₀.keeps F.keep
  obtain ⟨cd, rest, hcd, hmro⟩ := PySem.W.ksp_first hc
  have one := PySem.W.ksp_try X I hs hf h
  have hat := I.at_
  obtain ⟨hh, g', d, tt, os⟩ := s
  have L1 : PySem.W.Looks (model prog w) hh (typeOf (.ref x)) (.ref C) := I.type
  have L2 : PySem.W.Looks (model prog w) hh (typeOf (.int i t)) (.type "int") := PySem.W.Looks.of_pure rfl
  have L3 : PySem.W.Looks (model prog w) hh (fillsNumberSlot (.ref C) "mul") true := PySem.W.fills_K X hcd hmro hm
  have L4 : PySem.W.Looks (model prog w) hh (fillsNumberSlot (.type "int") "mul") true := PySem.W.Looks.of_pure PySem.F.fills_int_mul
  have L5 : PySem.W.Looks (model prog w) hh (isSubtype (.ref C) (.type "int")) false := PySem.W.looks_subIn X hsub
  have L7 : PySem.W.Looks (model prog w) hh (numberSlotInPython (.type "int") "mul") false := PySem.W.Looks.of_pure rfl
  have hne : (Value.type "int" == Value.ref C) = false := Bool.eq_false_iff.mpr fun q => by cases beq_iff_eq.mp q
  unfold binaryOp
  refine wpAny_holding (wpAny_bind ?_)
  unfold binaryOp1
  refine wpAny_bind (L2.at (wpAny_bind (L1.at (wpAny_bind (L4.at ?_)))))
  simp only [hne, Bool.false_eq_true, if_false]
  refine wpAny_bind (L3.at ?_)
  simp only [Bool.and_self, if_true]
  refine wpAny_bind (L5.at ?_)
  simp only [Bool.false_eq_true, if_false, Bool.not_false, Bool.and_self, if_true]
  refine wpAny_bind (L7.at ?_)
  simp only [Bool.false_eq_true, if_false, if_true]
  refine wpAny_bind (wpAny_tryMethod_declines (T := "int") (PySem.typeIs_int _ i t) PySem.F.slot_int_mul (PySem.call_meets PySem.F.slot_int_mul (PySem.typeIs_int _ i t) PySem.F.entry_int_mul (PySem.F.args_int_mul_2 _ _) (int_mul_own i t x C dx) ⟨hat, rfl, ?_⟩))
  refine wpAny_bind (wpAny_mono one (fun r s' hr' => ?_) fun _ _ e => e)
  obtain ⟨v, rfl, hq⟩ := hr'
  refine wpAny_bind (wpAny_rule (wpAny_pure ?_))
  exact wpAny_pure hq
def rRefI (C : Addr) (sp : Sp) : R2 := fun x y H Q => ∃ a dx fs i, x = .int i ∧ y = .ref a ∧ H a = some (.ins C dx fs) ∧ sp [.ref a, .int i] H (fun v H' => ∃ b, v = .ref b ∧ Q v H') E0
section
variable {X : Cx} {n : Nat} {C : Addr} {sp : Sp}
theorem op_refI (S : SpcR X.prog X.w X.K X.mg X.base n C sp) (hr : Room n X.A) : OpR X (binaryOp .Mult) (rRefI C sp) := by
  obtain ⟨f, g, fd, ps, k1, k2, k3, k4, k5, F, hb⟩ := S.ex
  intro pins s σ H x y v u Q I rx ry h
  obtain ⟨a, dx, fs, i, rfl, rfl, ha, h⟩ := h
  cases ry
  obtain ⟨t, rfl⟩ := rx
  obtain ⟨od, J⟩ := inst_of I ha
  obtain ⟨m, hF⟩ := I.fr
  refine mul_refl hF I.ok.mod.kin J k1 k2 k3 k4 k5 ?_
  refine wpAny_mono (run_at (us := [.ref a, .int i t]) (vs := [.ref a, .int i]) ⟨hr, rfl⟩ F hb I (.cons rfl (.cons ⟨t, rfl⟩ .nil)) h) (fun v s' hv => ?_) fun _ _ e => e
  obtain ⟨z, H', I', rz, b, rfl, q⟩ := hv
  cases rz
  exact ⟨.ref b, H', I', rfl, q⟩
end
end RM
namespace RM
open PySem PySem.Spec PyProof.Rows L2 ItX
/-! ### shifts as functions on names; dicts made over a list with names perhaps twice -/
/-- the names in the order of their first occurrence -/
def dds (xs : List (List Nat)) : List (List Nat) := (bldD (xs.map fun l => (l, 0))).2
theorem dds_snoc (xs : List (List Nat)) (l : List Nat) : dds (xs ++ [l]) = if l ∈ dds xs then dds xs else dds xs ++ [l] := by
  unfold dds
  rw [List.map_append]
  show (bldD (_ ++ [(l, 0)])).2 = _
  rw [bldD_snoc]
  rfl
theorem dds_inv (xs : List (List Nat)) : (dds xs).Nodup ∧ (∀ l, l ∈ dds xs ↔ l ∈ xs) ∧ (dds xs).length ≤ xs.length := by
  obtain ⟨h1, h2, h3, _⟩ := bldD_inv (lim := 0) xs.length (xs.map fun l => (l, 0)) (List.length_map ..)
  refine ⟨h1, fun l => ?_, h3⟩
  unfold dds
  rw [h2, List.map_map]
  have e : xs.map ((fun p : List Nat × Int => p.1) ∘ fun l => (l, 0)) = xs := by
    rw [show ((fun p : List Nat × Int => p.1) ∘ fun l => (l, 0)) = id from rfl, List.map_id]
  rw [e]
theorem putK_again {f : List Nat → Int} {l : List Nat} {ns : List (List Nat)} (nd : ns.Nodup) (hl : l ∈ ns) : putK (mD f ns) (.inr (S l)) (.int (f l)) = mD f ns := by
  rw [putK_old nd hl]
  exact mD_congr fun x _ => by by_cases h : x = l <;> simp [h]
theorem putK_dds {f : List Nat → Int} {l : List Nat} {xs : List (List Nat)} : putK (mD f (dds xs)) (.inr (S l)) (.int (f l)) = mD f (dds (xs ++ [l])) := by
  rw [dds_snoc]
  by_cases h : l ∈ dds xs
  · rw [if_pos h, putK_again (dds_inv xs).1 h]
  · rw [if_neg h]
    unfold mD
    rw [dN_put (f := fun l => .int (f l)) h]
section
variable {σ : L2.St} {H : Hp} {Q : VK} {K : PySem.W.Frag} {g : TG} {tt : TT} {tk tv te td : TE} {vs : List Nat} {d : Addr}
/-- a dict comprehension over a list of names, some perhaps twice, without a test -/
theorem dcLD {a : Addr} {ns : List (List Nat)} (σ0 : L2.St) (m : List Nat → Int) (hw : wipe σ vs = σ0) (hx : SqL K H a (ns.map sv)) (hn : ns.length ≤ 90000)
    (hs : ∀ (i : Nat) (l : List Nat) H2 (R : V → V → Hp → Prop) (R0 : Hp → Prop), ns[i]? = some l → Same H H2 → (∀ H5, Same H2 H5 → R (.str (S l)) (.int (m l)) H5) →
      g (.str (S l)) σ0 H2 fun σ2 H3 => wipe σ2 vs = σ0 ∧ tt σ2 H3 fun b H4 => if b = true then tk σ2 H4 fun y H5 => tv σ2 H5 fun z H6 => R y z H6 else R0 H4)
    (hq : ∀ D H2, H D = none → Same H H2 → H2 D = some (.dK (mD m (dds ns))) → Q (.ref D) H2) : ∃ b, V.ref a = .ref b ∧ (∃ ys, SqL K H b ys) ∧ DcW (Itl K b) g tt tk tv vs σ H Q := by
  have el : (ns.map sv).length = ns.length := List.length_map ..
  refine ⟨a, rfl, ⟨_, hx⟩, ?_⟩
  intro D hD
  refine ⟨fun i m' H2 => m' = ns.length - i ∧ i ≤ ns.length ∧ Same H H2 ∧ H2 D = some (.dK (mD m (dds (ns.take i)))), ⟨ns.length, by simp, Nat.zero_le _, Same.new hD, upd_same⟩, ?_⟩
  rintro i m' H2 ⟨rfl, hi, s1, hD2⟩
  have hx2 := Same.seq s1 hx
  rcases Nat.lt_or_ge i ns.length with hlt | hge
  · right
    have hi2 : i < (ns.map sv).length := by omega
    refine ⟨⟨_, (ns.map sv)[i], hx2, List.getElem?_eq_getElem hi2⟩, fun H' => Same H H' ∧ H' D = some (.dK (mD m (dds (ns.take (i + 1))))), fun H' hN => ⟨ns.length - (i + 1), by omega, rfl, by omega, hN⟩, fun x H' hy => ?_⟩
    obtain ⟨e, hy⟩ := hy
    subst e
    have hxi := hy _ hx2
    rw [List.getElem?_map] at hxi
    obtain ⟨l, hl, rfl⟩ := Option.map_eq_some_iff.mp hxi
    rw [hw]
    have et := take_snoc hl
    refine hs i l _ (fun y z H5 => ∃ kvs k, y = kV k ∧ H5 D = some (.dK kvs) ∧ kvs.length < sizeLine ∧ (Same H (upd H5 D (.dK (putK kvs k z))) ∧ upd H5 D (.dK (putK kvs k z)) D = some (.dK (mD m (dds (ns.take (i + 1))))))) (fun H' => Same H H' ∧ H' D = some (.dK (mD m (dds (ns.take (i + 1)))))) hl s1 (fun H5 s5 => ?_)
    refine ⟨_, .inr (S l), rfl, s5 _ _ hD2, szlt ?_, Same.mut (s1.trans s5) hD, ?_⟩
    · unfold mD
      rw [dN_len]
      have := (dds_inv (ns.take i)).2.2
      rw [List.length_take] at this
      omega
    · rw [upd_same, putK_dds, et]
  · left
    have e : i = ns.length := by omega
    subst e
    rw [List.take_length] at hD2
    exact ⟨⟨_, hx2, by omega⟩, hq D H2 hD s1 hD2⟩
/-- a dict comprehension over an own object that iterates over its dict -/
theorem lock_dcO {C a dx : Addr} {F : Str} {fs : List (Str × V)} {f : List Nat → V} {ns : List (List Nat)} (σ0 : L2.St) (h : List Nat → V) (hw : wipe σ vs = σ0) (nd : ns.Nodup) (ha : H a = some (.ins C dx fs)) (lk : fs.lookup F = some (.ref d)) (hd : H d = some (.dK (dN f ns))) (hn : ns.length ≤ 100000)
    (hv : ∀ od (R : VK), R (.ref a) (upd H d (.frz od (.dK (dN f ns)))) → td σ (upd H d (.frz od (.dK (dN f ns)))) R)
    (hs : ∀ (i : Nat) (l : List Nat) od H2 (R : V → V → Hp → Prop), ns[i]? = some l → Same (upd H d (.frz od (.dK (dN f ns)))) H2 → (∀ H5, Same H2 H5 → R (.str (S l)) (h l) H5) →
      g (.str (S l)) σ0 H2 fun σ2 H3 => wipe σ2 vs = σ0 ∧ tk σ2 H3 fun y H4 => tv σ2 H4 fun z H5 => R y z H5)
    (hq : ∀ D H2, H D = none → Same H H2 → H2 D = some (.dK (dN h ns)) → Q (.ref D) H2) : tLockE (tDc (iOwnK C F td) g tYes tk tv vs) σ H Q := by
  have el : (dN f ns).length = ns.length := dN_len
  have nad : a ≠ d := fun e => by rw [e, hd] at ha; cases ha
  refine wp_lockE hd fun od => ?_
  refine hv od _ ⟨a, dx, fs, d, od, _, rfl, (upd_ne nad).trans ha, lk, upd_same, ?_⟩
  intro D hD
  have nDd : D ≠ d := fun e => by rw [e, upd_same] at hD; cases hD
  have hD' : H D = none := by rw [upd_ne nDd] at hD; exact hD
  refine ⟨fun i m H2 => m = ns.length - i ∧ i ≤ ns.length ∧ Same (upd H d (.frz od (.dK (dN f ns)))) H2 ∧ H2 D = some (.dK (dN h (ns.take i))), ⟨ns.length, by simp, Nat.zero_le _, Same.new hD, upd_same⟩, ?_⟩
  rintro i m H2 ⟨rfl, hi, s1, hD2⟩
  have hf := frz_at s1
  rcases Nat.lt_or_ge i ns.length with hlt | hge
  · right
    refine ⟨⟨hf, by omega⟩, fun H' => Same (upd H d (.frz od (.dK (dN f ns)))) H' ∧ H' D = some (.dK (dN h (ns.take (i + 1)))), fun H' hN => ⟨ns.length - (i + 1), by omega, rfl, by omega, hN⟩, fun x H' hy => ?_⟩
    obtain ⟨e, k, v, hkv, rfl⟩ := hy
    subst e
    obtain ⟨l, hl, rfl, rfl⟩ := dN_at hkv
    rw [hw]
    refine hs i l od _ (fun y z H5 => ∃ kvs' k, y = kV k ∧ H5 D = some (.dK kvs') ∧ kvs'.length < sizeLine ∧ (Same (upd H d (.frz od (.dK (dN f ns)))) (upd H5 D (.dK (putK kvs' k z))) ∧ upd H5 D (.dK (putK kvs' k z)) D = some (.dK (dN h (ns.take (i + 1)))))) hl s1 fun H5 s5 => ⟨_, .inr (S l), rfl, s5 _ _ hD2, szlt (by rw [dN_len, List.length_take]; omega), Same.mut (s1.trans s5) hD, ?_⟩
    rw [upd_same, take_snoc hl, dN_put (take_new nd hl)]
  · left
    have e : i = ns.length := by omega
    subst e
    rw [List.take_length] at hD2
    exact ⟨⟨hf, by omega⟩, hf, hq D _ hD' (unl hd s1) (by rw [upd_ne nDd]; exact hD2)⟩
theorem wp_starO {C : Addr} {F : Str} {spL : Sp} {t : TA} {R : List V → Hp → Prop} (h : te σ H fun x H1 => StOwn C F spL x H1 fun xs H2 => t σ H2 fun ys H3 => R (xs ++ ys) H3) : tStarO C F spL te t σ H R := h
theorem wp_ownIX {C : Addr} {sp : Sp} {E : XK} {ta tb : TE} (h : ta σ H fun x H1 => tb σ H1 fun y H2 => ∃ a dx fs i, x = .ref a ∧ y = .int i ∧ H2 a = some (.ins C dx fs) ∧ sp [.ref a, .int i] H2 (fun v H' => ∃ b, v = .ref b ∧ Q v H') E) : tOwnIX C sp E ta tb σ H Q := h
theorem wp_ownIS {C : Addr} {sp : Sp} {E : L2.St → XK} {ta tb : TE} (h : ta σ H fun x H1 => tb σ H1 fun y H2 => ∃ a dx fs i, x = .ref a ∧ y = .int i ∧ H2 a = some (.ins C dx fs) ∧ sp [.ref a, .int i] H2 (fun v H' => ∃ b, v = .ref b ∧ Q v H') (E σ)) : tOwnIS C sp E ta tb σ H Q := h
end
/-! #### functions on names that are 0 outside of U -/
structure OkU (U : List (List Nat)) : Prop where
  nd : U.Nodup
  few : U.length ≤ 16
  nm : ∀ l ∈ U, Nm l
def Zo (U : List (List Nat)) (e : List Nat → Int) : Prop := ∀ l, l ∉ U → e l = 0
theorem Zo.mem {U : List (List Nat)} {e : List Nat → Int} (z : Zo U e) {l : List Nat} (h : e l ≠ 0) : l ∈ U := by
  by_cases hl : l ∈ U
  · exact hl
  · exact absurd (z l hl) h
theorem OkU.len {U : List (List Nat)} (u : OkU U) (e : List Nat → Int) : (nzs e U).length ≤ 16 := Nat.le_trans (nzs_len e U) u.few
theorem OkU.names {U : List (List Nat)} (u : OkU U) {e : List Nat → Int} {l : List Nat} (h : l ∈ nzs e U) : Nm l := u.nm l (nzs_mem.mp h).1
theorem OkU.asc {U : List (List Nat)} (u : OkU U) {e : List Nat → Int} : ∀ l ∈ nzs e U, Asc l := fun _ h => nm_asc (u.names h)
/-- the entry, 0 if there is none -/
def ent (ns : List (List Nat)) (m : List Nat → Int) (l : List Nat) : Int := if l ∈ ns then m l else 0
theorem ent_nzs {U : List (List Nat)} {e : List Nat → Int} (z : Zo U e) {l : List Nat} : ent (nzs e U) e l = e l := by
  unfold ent
  split
  · rfl
  · rename_i h
    by_cases he : e l = 0
    · rw [he]
    · exact absurd (nzs_mem.mpr ⟨z.mem he, he⟩) h
theorem val_ent {m : List Nat → Int} {ns : List (List Nat)} {l : List Nat} : (valV (mD m ns) (.inr (S l))).getD (.int 0) = .int (ent ns m l) := by
  unfold ent mD
  by_cases e : l ∈ ns
  · rw [if_pos e, dN_val e]; rfl
  · rw [if_neg e, dN_none e]; rfl
theorem ent_out {U ns : List (List Nat)} {m : List Nat → Int} (h : ∀ l ∈ ns, l ∈ U) : Zo U (ent ns m) := fun l hl => if_neg fun z => hl (h l z)
theorem ent_in {ns : List (List Nat)} {m : List Nat → Int} {l : List Nat} (h : l ∈ ns) : ent ns m l = m l := if_pos h
theorem nz_one {U : List (List Nat)} {e r : List Nat → Int} (u : U.Nodup) (h : ∀ l, e l = 0 → r l = 0) : nzs r (nzs e U) = nzs r U :=
  nzs_eq (nzs_nodup u) u fun l => ⟨fun ⟨a, b⟩ => ⟨(nzs_mem.mp a).1, b⟩, fun ⟨a, b⟩ => ⟨nzs_mem.mpr ⟨a, fun z => b (h l z)⟩, b⟩⟩
theorem nz_two {U : List (List Nat)} {e f r : List Nat → Int} (u : U.Nodup) (h : ∀ l, e l = 0 → f l = 0 → r l = 0) : nzs r (dds (nzs e U ++ nzs f U)) = nzs r U :=
  nzs_eq (dds_inv _).1 u fun l => by
    rw [(dds_inv _).2.1, List.mem_append, nzs_mem, nzs_mem]
    refine ⟨fun ⟨a, b⟩ => ⟨a.elim (·.1) (·.1), b⟩, fun ⟨a, b⟩ => ⟨?_, b⟩⟩
    by_cases he : e l = 0
    · exact .inr ⟨a, fun z => b (h l he z)⟩
    · exact .inl ⟨a, he⟩
/-- a new shift is handed out -/
def NwS (C : Addr) (H : Hp) (U : List (List Nat)) (e : List Nat → Int) (Q : VK) : Prop := ∀ a H', Same H H' → IsShift C H' a (nzs e U) e → Q (.ref a) H'
theorem NwS.congr {C : Addr} {H : Hp} {U : List (List Nat)} {e f : List Nat → Int} {Q : VK} (h : NwS C H U e Q) (q : ∀ l, f l = e l) : NwS C H U f Q := by
  rw [show f = e from funext q]; exact h
theorem rd_lock {H : Hp} {p b : Addr} {kvs ks : List (Key × V)} {od : Obj} (hp : H p = some (.dK kvs)) (h : Rd H b (.dK ks)) : Rd (upd H p (.frz od (.dK kvs))) b (.dK ks) := by
  by_cases e : b = p
  · subst e
    rcases h with h | ⟨o, h⟩
    · rw [hp] at h; cases h; exact .inr ⟨od, upd_same⟩
    · rw [hp] at h; cases h
  · rcases h with h | ⟨o, h⟩
    · exact .inl ((upd_ne e).trans h)
    · exact .inr ⟨o, (upd_ne e).trans h⟩
theorem for_own {C a dx d : Addr} {F : Str} {fs : List (Str × V)} {g : TG} {tb : TS} {D : Ends} {σ : L2.St} {H : Hp} (ha : H a = some (.ins C dx fs)) (lk : fs.lookup F = some (.ref d)) (h : ∃ d' o kvs, V.ref d = .ref d' ∧ H d' = some (.frz o (.dK kvs)) ∧ ForW (Itk d' o kvs) g tb D σ H) :
    ∃ a' dx fs d o kvs, V.ref a = .ref a' ∧ H a' = some (.ins C dx fs) ∧ fs.lookup F = some (.ref d) ∧ H d = some (.frz o (.dK kvs)) ∧ ForW (Itk d o kvs) g tb D σ H := by
  obtain ⟨d', o, kvs, e, h1, h2⟩ := h
  cases e
  exact ⟨a, dx, fs, d, o, kvs, rfl, ha, lk, h1, h2⟩
theorem keys_x {d : Addr} {σ : L2.St} {H : Hp} {g : TG} {tb : TS} {D : Ends} (h : ∃ d' o, V.ref d = .ref d' ∧ ((∃ kvs, H d' = some (.frz o (.dK kvs)) ∧ ForW (Itk d' o kvs) g tb D σ H) ∨ ∃ kvs, H d' = some (.frz o (.dT kvs)) ∧ ForW (Itkt d' o kvs) g tb D σ H)) {od : Obj} {kvs : List (Key × V)} (hd : H d = some (.frz od (.dK kvs))) :
    ∃ d' o kvs, V.ref d = .ref d' ∧ H d' = some (.frz o (.dK kvs)) ∧ ForW (Itk d' o kvs) g tb D σ H := by
  obtain ⟨d', o, e, h⟩ := h
  cases e
  rcases h with ⟨kv, h1, h2⟩ | ⟨kv, h1, h2⟩
  · exact ⟨d, o, kv, rfl, h1, h2⟩
  · rw [hd] at h1; cases h1
/-- two own lists that are filled while the pool is drawn from -/
structure Two (P : Pl) (w s : Addr) (xs ys : List V) (G H : Hp) : Prop where
  se : Sees P G H
  hw : H w = some (.lst xs)
  hs : H s = some (.lst ys)
  gw : G w = none
  gs : G s = none
  ws : w ≠ s
  nw : w ≠ P.p
  ns : s ≠ P.p
theorem Two.in_ {P : Pl} {w s : Addr} {xs ys : List V} {G H : Hp} (t : Two P w s xs ys G H) : Sees P (upd (upd G w (.lst xs)) s (.lst ys)) H :=
  (t.se.with t.gw t.hw t.nw).with (by rw [upd_ne t.ws.symm]; exact t.gs) t.hs t.ns
theorem Two.out {P : Pl} {w s : Addr} {xs ys : List V} {G H H' : Hp} (t : Two P w s xs ys G H) (h : Sees P (upd (upd G w (.lst xs)) s (.lst ys)) H') : Two P w s xs ys G H' := by
  obtain ⟨h1, h2⟩ := h.back (t.se.with t.gw t.hw t.nw) (by rw [upd_ne t.ws.symm]; exact t.gs)
  obtain ⟨h3, h4⟩ := h1.back t.se t.gw
  exact ⟨h3, h4, h2, t.gw, t.gs, t.ws, t.nw, t.ns⟩
theorem Two.putw {P : Pl} {w s : Addr} {xs ys zs : List V} {G H : Hp} (t : Two P w s xs ys G H) : Two P w s zs ys G (upd H w (.lst zs)) := ⟨t.se.set t.gw t.nw, upd_same, by rw [upd_ne t.ws.symm]; exact t.hs, t.gw, t.gs, t.ws, t.nw, t.ns⟩
theorem Two.puts {P : Pl} {w s : Addr} {xs ys zs : List V} {G H : Hp} (t : Two P w s xs ys G H) : Two P w s xs zs G (upd H s (.lst zs)) := ⟨t.se.set t.gs t.ns, by rw [upd_ne t.ws]; exact t.hw, upd_same, t.gw, t.gs, t.ws, t.nw, t.ns⟩
theorem wp_dnotin {σ : L2.St} {H : Hp} {Q : VK} {ty td : TE} (h : ty σ H fun y H1 => td σ H1 fun x H2 => ∃ a o, x = .ref a ∧ DGet H2 a y o ∧ Q (.bl (!o.isSome)) H2) : tDNotIn ty td σ H Q := h
theorem dnin_s {H : Hp} {R : Option V → Prop} {d : Addr} {kvs : List (Key × V)} {l : List Nat} (hd : Rd H d (.dK kvs)) (q : R (valV kvs (.inr (S l)))) : ∃ a o, V.ref d = .ref a ∧ DGet H a (.str (S l)) o ∧ R o := ⟨d, _, rfl, .inl ⟨kvs, .inr (S l), hd, rfl, rfl⟩, q⟩
end RM
namespace RM
open PySem PySem.Spec PyProof.Rows L2
/-! ### f(x, ..), f a def of the module whose only parameter is a star -/
def StarW0 (sp : Sp) : Sp := fun vs H Q E => vs.length ≤ 1000 ∧ ∀ p, H p = none → sp [V.ref p] (upd H p (.tup vs)) Q E
structure CalS (P : Program) (w : World) (K : PySem.W.Frag) (mg : Str → Option Value) (base : Heap) (k : Nat) (x : Str) (sp : Sp) : Prop where
  ex : ∃ f : Addr, mg x = some (.ref f) ∧ PySem.W.keepIn K (.ref f) = true ∧ FnR P w K mg base CX0 k f (StarW0 sp)
theorem CalS.of {P : Program} {w : World} {K : PySem.W.Frag} {mg : Str → Option Value} {base : Heap} {k : Nat} {x : Str} {f : Addr} {sp : Sp} (hm : mg x = some (.ref f)) (kp : PySem.W.keepIn K (.ref f) = true)
    (F : FnR P w K mg base CX0 k f (fun vs H Q E => ∃ ws rest, vs = ws ++ rest ∧ ws.length = ([] : List Str).length ∧ rest.length ≤ sizeLine ∧ ∀ p, H p = none → sp (ws ++ [V.ref p]) (upd H p (.tup rest)) Q E)) : CalS P w K mg base k x sp :=
  ⟨f, hm, kp, F.imp fun vs H Q E ⟨hl, q⟩ => ⟨[], vs, rfl, rfl, szl (by omega), q⟩⟩
theorem bind_star0 {pv : Str} {B : List Value → Sem (List (Str × Value))} (h0 : B [] = (newTuple [] >>= fun t => pure [(pv, t)])) (h1 : ∀ r rs, B (r :: rs) = (newTuple (r :: rs) >>= fun t => pure [(pv, t)])) (us rest : List Value) (hl : us.length = ([] : List Str).length) :
    B (us ++ rest) = (newTuple rest >>= fun t => pure (([] : List Str).zip us ++ [(pv, t)])) := by
  match us, hl with
  | [], _ =>
    cases rest with
    | nil => exact h0
    | cons r rs => exact h1 r rs
section
variable {X : Cx} {k j : Nat} {x : Str} {sp : Sp} {e : Expr} {es : List Expr} {p pos : Pos} {t : TA}
def tCallS0 (sp : Sp) (t : TA) : TE := fun σ H Q => t σ H fun vs H1 => StarW0 sp vs H1 Q E0
theorem pe_cS0 (c : CalS X.prog X.w X.K X.mg X.base k x sp) (hr : Room j X.A) (hk : k ≤ j) (hg : Gl X x) (ha : PA X (e :: es) t) (hdb : (x == ("__debug__" : Str)) = false := by decide)
    (he : starEach (e :: es) X.env = (false, eval e X.env) :: starEach es X.env := by rfl) (hpl : (backTo pos (starEach es X.env)).any (·.1) = false := by rfl) : PE X (.Call (.Name x p) (e :: es) [] pos) (tCallS0 sp t) := by
  obtain ⟨f, hm, kp, F⟩ := c.ex
  refine ⟨fun pins s σ H Q I h => wpAny_Call_Name_kw (ld_glob I hg hm ?_ hdb)⟩
  refine PySem.W.callWith_K (h₀ := X.base) I.ok.mod.kin kp (thn (ha.run pos pins s σ H _ I h) fun us s1 ⟨vs, H1, I1, r, q⟩ => ⟨I1.kIn, ?_⟩) he hpl
  exact wpAny_call (run_fnR (us := us) (vs := vs) F (hr.mono hk) C8.pass0 I1 r q)
theorem pe_cS00 (c : CalS X.prog X.w X.K X.mg X.base k x sp) (hr : Room j X.A) (hk : k ≤ j) (hg : Gl X x) (hdb : (x == ("__debug__" : Str)) = false := by decide) : PE X (.Call (.Name x p) [] [] pos) (tCallS0 sp tNil) := by
  obtain ⟨f, hm, kp, F⟩ := c.ex
  refine ⟨fun pins s σ H Q I h => wpAny_Call_Name_kw (ld_glob I hg hm ?_ hdb)⟩
  exact PySem.W.callWith_K0 I.kIn kp (wpAny_call (run_fnR (us := []) (vs := []) F (hr.mono hk) C8.pass0 I .nil h))
theorem wp_callS0 {σ : L2.St} {H : Hp} {Q : VK} (h : t σ H fun vs H1 => vs.length ≤ 1000 ∧ ∀ p, H1 p = none → sp [V.ref p] (upd H1 p (.tup vs)) Q E0) : tCallS0 sp t σ H Q := h
end
/-! ### a classmethod (cls, *v, kn=d) -/
def FnRK (P : Program) (w : World) (K : PySem.W.Frag) (mg : Str → Option Value) (base : Heap) (CX : CXT) (k : Nat) (f : Addr) (kn : Str) (sp : V → Sp) : Prop :=
  ∀ (A : Around) (outer : List Env) (s : Shared) (H : Hp) (us : List Value) (vs : List V) (u : Value) (z : V) (Q : VK) (E : XK), Room k A → Env0 P w K mg base A outer s H → Vals vs us → RelV z u → sp z vs H Q E →
    codeAny (model P w) A (.call (.ref f) ⟨us, [(kn, u)]⟩) (CR CX outer P w H s Q E) s
/-- what is handed on: the class, the keyword's value, a new tuple -/
def StarWK (sp : Sp) (z : V) : Sp := fun vs H Q E => ∃ x rest, vs = x :: rest ∧ rest.length ≤ 1000 ∧ ∀ p, H p = none → sp [x, z, V.ref p] (upd H p (.tup rest)) Q E
section
variable {P : Program} {w : World} {K : PySem.W.Frag} {mg : Str → Option Value} {base : Heap} {x qual p0 kn pv : Str} {params : Arguments} {body : List Stmt} {scope : Scope} {f : Addr} {fd : FuncData} {N : List Str} {k : Nat} {sp : Sp} {d : V}
theorem bnd_starK {A : Around} {outer : List Env} {s : Shared} {H : Hp} {E : XK} {fd : FuncData} {args : Args} {a : Value} {av : V} {z : Value} {zv : V} {rest : List Value} {rv : List V} (e0 : Env0 P w K mg base A outer s H) (ra : RelV av a) (rz : RelV zv z) (rr : Vals rv rest) (hl : rv.length ≤ sizeLine)
    (hb : ∀ (A' : Around) (Q : List (Str × Value) → Shared → Prop) (Ex : Value → Shared → Prop), wpAny (model P w) A' (newTuple rest >>= fun t => pure [(p0, a), (kn, z), (pv, t)]) Q Ex s → wpAny (model P w) A' (bindArgs fd args) Q Ex s) :
    StX.Bnd (L2.CX P w) P w K mg base fd args [p0, kn, pv] A outer s H E (fun xs H2 => ∃ p, H p = none ∧ xs = [av, zv, V.ref p] ∧ H2 = upd H p (.tup rv)) := by
  intro A' Ex Q' h
  refine hb _ _ _ ?_
  have hn : H s.heap.objs.size = Option.none := e0.hok.fresh (Nat.le_refl _)
  have hl2 : rest.length ≤ sizeLine := by rw [← rr.length]; exact hl
  refine wpAny_bind (wpAny_newTuple (wpAny_pure ?_) hl2)
  have new : ObjOk P w (upd H s.heap.objs.size (.tup rv)) (s.heap.push ({ cls := .type "tuple", data := .seq rest.toArray } : Obj)) s.heap.objs.size (.tup rv) := ⟨hl, rest, rr, ⟨_, Heap.get?_push_size _ rfl, rfl, _, rfl⟩⟩
  have un := StX.un_laid (fs := frs outer) (s := s) (o := ({ cls := .type "tuple", data := .seq rest.toArray } : Obj)) (u := .tup rv) hn
  exact h _ _ [av, zv, V.ref s.heap.objs.size] [a, z, Value.ref s.heap.objs.size] (StX.env0_laid e0 new) un rfl (fun e s' => StX.cxUp outer s H _ _ E e s' un (fun b o q => Heap.get?_push_of_some _ q) rfl) (.cons ra (.cons rz (.cons rfl .nil))) rfl ⟨_, hn, rfl, rfl⟩
/-- t looks kn up in the dict at D and goes on with r -/
def LookK (D : Addr) (kn : Str) (t : Sem (List (Str × Value))) (r : Value → Sem (List (Str × Value))) : Prop :=
  ∃ (β γ : Type) (k1 : Option Value → Sem β) (k2 : β → Sem γ) (k3 : γ → Sem (List (Str × Value))) (a : Value → β), t = ((nsGet D kn >>= k1) >>= k2) >>= k3 ∧ (∀ z, k1 (some z) = pure (a z)) ∧ ∀ z, (k2 (a z) >>= k3) = r z
theorem fun_starK (F : FunD K x qual params body scope [] [(kn, d)] f fd) (S : FnScope N [p0, kn, pv] scope)
    (hk : ∀ (kV doc pm : Value) (an : Option Addr) (cdv ct : Value) (a z : Value) (rest : List Value), bindArgs (PySem.W.fnOf x qual params body scope .none kV doc pm an cdv ct) ⟨a :: rest, [(kn, z)]⟩ = (newTuple rest >>= fun t => pure [(p0, a), (kn, z), (pv, t)]))
    (h0 : ∀ (D : Addr) (doc pm : Value) (an : Option Addr) (cdv ct : Value) (a : Value) (rest : List Value), LookK D kn (bindArgs (PySem.W.fnOf x qual params body scope .none (.ref D) doc pm an cdv ct) ⟨a :: rest, []⟩) fun z => newTuple rest >>= fun t => pure [(p0, a), (kn, z), (pv, t)])
    (hbody : ∀ (cdv : Value) (A : Around) (outer : List Env) (s : Shared) (H : Hp) (vs : List V) (Q : VK) (E : XK), Room k (A.deeper (envOfC qual scope s.heap.objs.size f cdv)) → sp vs H Q E →
      ∃ t, PSs (cxOf (L2.CX P w) P w K mg base N qual scope f cdv A outer s H E) body t ∧ t { nx := fun _ H' => Q .non H', rt := Q } (L2.start N vs) H) :
    FnR P w K mg base (L2.CX P w) (k + 1) f (StarWK sp d) ∧ FnRK P w K mg base (L2.CX P w) (k + 1) f kn (StarWK sp) := by
  obtain ⟨oc, od, dV, kV, doc, pm, an, cdv, ct, osl, rfl, lk, hcd, hD, hK⟩ := F.ex
  rcases hD with ⟨_, rfl⟩ | ⟨e, _⟩
  · refine ⟨?_, ?_⟩
    · intro A outer s H us vs Q E hr e0 r hsp
      obtain ⟨xv, rv, rfl, hl, q⟩ := hsp
      cases r with
      | cons ra rr =>
      rcases hK with e | ⟨D, rfl, hq⟩
      · exact absurd e (by simp)
      · obtain ⟨u, e1, e2⟩ := hq _ List.mem_cons_self
        have KX : K.In s.heap := e0.mod.kin.keeps fun b o e => (e0.bs b o e).1
        refine StX.run_bnd lk hcd S hr e0 (G := fun xs H2 => ∃ p, H p = none ∧ xs = [xv, d, V.ref p] ∧ H2 = upd H p (.tup rv)) (bnd_starK e0 ra e2 rr (szl (by omega)) fun A' Q' Ex h => ?_) fun s2 H2 xs g hr' => ?_
        · obtain ⟨β, γ, k1, k2, k3, a, t1, t2, t3⟩ := h0 D doc pm an cdv ct _ _
          have l1 : PySem.W.Looks (model P w) s.heap (nsGet D kn >>= k1) (a u) := (PySem.W.looks_nsIn KX e1).andThen (PySem.W.Looks.of_pure (t2 u))
          rw [t1, bind_assoc]
          refine wpAny_bind (l1.here ?_)
          rw [t3]
          exact h
        · obtain ⟨p, hp, rfl, rfl⟩ := g
          exact hbody cdv A outer s2 _ _ Q E hr' (q p hp)
    · intro A outer s H us vs u z Q E hr e0 r rz hsp
      obtain ⟨xv, rv, rfl, hl, q⟩ := hsp
      cases r with
      | cons ra rr =>
      refine StX.run_bnd lk hcd S hr e0 (G := fun xs H2 => ∃ p, H p = none ∧ xs = [xv, z, V.ref p] ∧ H2 = upd H p (.tup rv)) (bnd_starK e0 ra rz rr (szl (by omega)) fun A' Q' Ex h => ?_) fun s2 H2 xs g hr' => ?_
      · rw [hk]
        exact h
      · obtain ⟨p, hp, rfl, rfl⟩ := g
        exact hbody cdv A outer s2 _ _ Q E hr' (q p hp)
  · exact absurd rfl e
end
structure CMK (P : Program) (w : World) (K : PySem.W.Frag) (mg : Str → Option Value) (base : Heap) (k : Nat) (x : Str) (C : Addr) (m kn : Str) (d : V) (sp : Sp) : Prop where
  ex : ∃ p g : Addr, mg x = some (.ref C) ∧ ClX.CRead K C (.type "type") ∧ ClX.CMet K C (.type "type") m p g ∧ FnR P w K mg base (L2.CX P w) k g (StarWK sp d) ∧ FnRK P w K mg base (L2.CX P w) k g kn (StarWK sp)
section
variable {X : Cx} {k j : Nat} {x m kn : Str} {C g q : Addr} {d : V} {sp : Sp} {e : Expr} {es : List Expr} {p0 pos apos : Pos} {t tk : TA} {pl : Sem Bool} {kws : List Keyword} {W : WX} {E : XK}
/-- what the call asks of what it lets out: inside a try the wish may speak of the slots -/
def tCMS (C : Addr) (sp : Sp) (d : V) (E : L2.St → XK) (t : TA) : TE := fun σ H Q => t σ H fun vs H1 => StarWK sp d (.ref C :: vs) H1 Q (E σ)
def tCMK (C : Addr) (sp : Sp) (E : L2.St → XK) (t tk : TA) : TE := fun σ H Q => t σ H fun vs H1 => tk σ H1 fun zs H2 => ∃ z, zs = [z] ∧ StarWK sp z (.ref C :: vs) H2 Q (E σ)
theorem code_after {CX : CXT} {pins : List (Addr × Obj)} {σ : L2.St} {H : Hp} {s : Shared} {Q : VK} {E : XK} {args : Args} (hx : PassesAt CX X σ E) (I : Inv X pins σ H s) (h : codeAny (model X.prog X.w) X.A (.call (.ref g) args) (CR CX X.stack X.prog X.w H s Q E) s) :
    codeAny (model X.prog X.w) X.A (.call (.ref g) args) (fun r s' => match r with | .ok (.ret v) => EP X pins σ Q v s' | .ok _ => False | .error e => X.xe e s') s := by
  refine codeAny_mono h fun r s' hq => ?_
  cases r with
  | error e => exact hx pins H s e s' I hq
  | ok fl =>
    cases fl with
    | ret u => exact I.after hq
    | next => exact False.elim hq
    | brk => exact False.elim hq
    | cont => exact False.elim hq
def KwOk0 (X : Cx) (pos : Pos) (es : List Expr) (kws : List Keyword) (kn : Str) : Prop :=
  (backToKw pos (keywordEach kws X.env)).all (·.1.isSome) = true ∧ (backToKw pos (keywordEach kws X.env)).filterMap (·.1) = [kn] ∧ ((backTo pos (starEach es X.env)).any (·.1) || (backToKw pos (keywordEach kws X.env)).any (·.1.isNone)) = false
theorem pxAt {CX : CXT} (h : Passes CX X E) : ∀ σ, PassesAt CX X σ ((fun _ => E) σ) := fun σ pins H s e s' I c => h pins σ H s e s' I c
theorem run_cmS {A : Around} {pins : List (Addr × Obj)} {σ : L2.St} {H : Hp} {s : Shared} {Q : VK} {us : List Value} {vs : List V} (F : FnR X.prog X.w X.K X.mg X.base (L2.CX X.prog X.w) k g (StarWK sp d)) (hr : Room k X.A) (hx : PassesAt (L2.CX X.prog X.w) X σ E) (I : Inv X ((q, PySem.W.methodObj (.ref g) (.ref C)) :: pins) σ H s)
    (r : Vals vs us) (h : StarWK sp d (.ref C :: vs) H Q E) : wpAny (model X.prog X.w) X.A (call (.ref q) us) (EP X pins σ Q) X.xe s := by
  have z : wpAny (model X.prog X.w) X.A (call (.ref q) us) (EP X ((q, PySem.W.methodObj (.ref g) (.ref C)) :: pins) σ Q) X.xe s :=
    wpAny_call (PySem.W.method_call (ClX.pin_at I) (code_after hx I (F X.A X.stack s H (.ref C :: us) (.ref C :: vs) Q E hr I.env0 (.cons rfl r) h)))
  exact thn z fun _ _ y => ClX.unpinE y
theorem run_cmK {A : Around} {pins : List (Addr × Obj)} {σ : L2.St} {H : Hp} {s : Shared} {Q : VK} {us : List Value} {vs : List V} {u : Value} {z : V} (F : FnRK X.prog X.w X.K X.mg X.base (L2.CX X.prog X.w) k g kn (StarWK sp)) (hr : Room k X.A) (hx : PassesAt (L2.CX X.prog X.w) X σ E) (I : Inv X ((q, PySem.W.methodObj (.ref g) (.ref C)) :: pins) σ H s)
    (r : Vals vs us) (rz : RelV z u) (h : StarWK sp z (.ref C :: vs) H Q E) : wpAny (model X.prog X.w) X.A (call (.ref q) us [(kn, u)]) (EP X pins σ Q) X.xe s := by
  have z : wpAny (model X.prog X.w) X.A (call (.ref q) us [(kn, u)]) (EP X ((q, PySem.W.methodObj (.ref g) (.ref C)) :: pins) σ Q) X.xe s :=
    wpAny_call (PySem.W.method_call (ClX.pin_at I) (code_after hx I (F X.A X.stack s H (.ref C :: us) (.ref C :: vs) u z Q E hr I.env0 (.cons rfl r) rz h)))
  exact thn z fun _ _ y => ClX.unpinE y
section
variable {EE : L2.St → XK}
theorem pe_cm {tt : TE} (c : CMK X.prog X.w X.K X.mg X.base k x C m kn d sp) (hg : Gl X x) (hdb : (x == ("__debug__" : Str)) = false) (ht : MC X (.Name x p0) m apos pos es kws pl)
    (hpl : ((backTo pos (starEach es X.env)).any (·.1) || (backToKw pos (keywordEach kws X.env)).any (·.1.isNone)) = false)
    (h : ∀ (g : Addr), FnR X.prog X.w X.K X.mg X.base (L2.CX X.prog X.w) k g (StarWK sp d) → FnRK X.prog X.w X.K X.mg X.base (L2.CX X.prog X.w) k g kn (StarWK sp) → ∀ (q : Addr) (pins : List (Addr × Obj)) (σ : L2.St) (H : Hp) (Q : VK) (s : Shared), Inv X ((q, PySem.W.methodObj (.ref g) (.ref C)) :: pins) σ H s → tt σ H Q →
      wpAny (model X.prog X.w) X.A (evalArgs (.ref q) true (backTo pos (starEach es X.env)) (backToKw pos (keywordEach kws X.env))) (fun a s₁ => PySem.W.MethP X.K q g (.ref C) s₁.heap ∧ wpAny (model X.prog X.w) X.A (call (.ref q) a.pos a.kw) (EP X pins σ Q) X.xe s₁) X.xe s) :
    PE X (.Call (.Attribute (.Name x p0) m apos) es kws pos) tt := by
  obtain ⟨p, g, hm, r, cm, F, FK⟩ := c.ex
  refine ⟨fun pins s σ H Q I hq => ?_⟩
  refine PySem.W.methodCall_KW (pl := pl) (thn ((pe_clsv (pos := p0) hg hm hdb).run pins s σ H (fun v H1 => v = .ref C ∧ H1 = H) I ⟨rfl, rfl⟩) fun u s1 ⟨v, H1, I1, rx, q1⟩ => ?_) ht
  obtain ⟨rfl, rfl⟩ := q1
  obtain rfl : u = Value.ref C := rx
  refine ClX.getmethcm_ok I1 r cm fun s2 I2 => ?_
  exact PySem.W.callWith_of (first := []) hpl (PySem.W.keeps_M cm.fi) (h g F FK _ pins σ H1 Q s2 I2 hq)
theorem pe_cmS1 (c : CMK X.prog X.w X.K X.mg X.base k x C m kn d sp) (hr : Room j X.A) (hk : k ≤ j) (hg : Gl X x) (hx : ∀ σ, PassesAt (L2.CX X.prog X.w) X σ (EE σ)) (ha : PA X (e :: es) t) (hdb : (x == ("__debug__" : Str)) = false := by decide)
    (hst : starEach (e :: es) X.env = (false, eval e X.env) :: starEach es X.env := by rfl) (hpl : ((backTo pos (starEach (e :: es) X.env)).any (·.1) || (backToKw pos (keywordEach [] X.env)).any (·.1.isNone)) = false := by rfl) (ht : MC X (.Name x p0) m apos pos (e :: es) [] pl := by exact rfl) :
    PE X (.Call (.Attribute (.Name x p0) m apos) (e :: es) [] pos) (tCMS C sp d EE t) := by
  refine pe_cm c hg hdb ht hpl fun g F _ q pins σ H Q s I h => ?_
  have z := thn (ha.run pos _ s σ H _ I h) (Q' := fun us s1 => PySem.W.MethP X.K q g (.ref C) s1.heap ∧ wpAny (model X.prog X.w) X.A (call (.ref q) us) (EP X pins σ Q) X.xe s1) fun us s3 ⟨vs, H2, I3, rv, q2⟩ => ⟨⟨ClX.pin_at I3, I3.kIn⟩, run_cmS (A := X.A) F (hr.mono hk) (hx σ) I3 rv q2⟩
  rw [hst] at z ⊢
  exact Calls.evalArgs_plain z
theorem pe_cmS0 (c : CMK X.prog X.w X.K X.mg X.base k x C m kn d sp) (hr : Room j X.A) (hk : k ≤ j) (hg : Gl X x) (hx : ∀ σ, PassesAt (L2.CX X.prog X.w) X σ (EE σ)) (hdb : (x == ("__debug__" : Str)) = false := by decide) (ht : MC X (.Name x p0) m apos pos [] [] pl := by exact rfl) :
    PE X (.Call (.Attribute (.Name x p0) m apos) [] [] pos) (tCMS C sp d EE tNil) := by
  refine pe_cm c hg hdb ht rfl fun g F _ q pins σ H Q s I h => ?_
  exact evalArgs_nil3 ⟨⟨ClX.pin_at I, I.kIn⟩, run_cmS (A := X.A) (us := []) (vs := []) F (hr.mono hk) (hx σ) I .nil h⟩
theorem kw_one {ks : List (Option Str × Sem Value)} {ws : List Value} {zs : List V} {z : V} {kn : Str} (hk : ks.filterMap (·.1) = [kn]) (hz : zs = [z]) (r : Vals zs ws) : ∃ u, RelV z u ∧ (ks.filterMap (·.1)).zip ws = [(kn, u)] := by
  subst hz
  cases r with
  | cons a b =>
    cases b
    exact ⟨_, a, by rw [hk]; rfl⟩
theorem pe_cmK1 (c : CMK X.prog X.w X.K X.mg X.base k x C m kn d sp) (hr : Room j X.A) (hk : k ≤ j) (hg : Gl X x) (hx : ∀ σ, PassesAt (L2.CX X.prog X.w) X σ (EE σ)) (ha : PA X (e :: es) t) (hkw : PK X kws tk) (hdb : (x == ("__debug__" : Str)) = false := by decide)
    (hst : starEach (e :: es) X.env = (false, eval e X.env) :: starEach es X.env := by rfl) (hq : KwOk0 X pos (e :: es) kws kn := by exact ⟨rfl, rfl, rfl⟩) (ht : MC X (.Name x p0) m apos pos (e :: es) kws pl := by exact rfl) :
    PE X (.Call (.Attribute (.Name x p0) m apos) (e :: es) kws pos) (tCMK C sp EE t tk) := by
  refine pe_cm c hg hdb ht hq.2.2 fun g _ F q pins σ H Q s I h => ?_
  refine evalArgs_kw2 hq.1 (thn (ha.run pos _ s σ H _ I h) fun us s3 ⟨vs, H2, I3, rv, q2⟩ => ?_) hst
  refine thn (hkw.run pos _ s3 σ H2 _ I3 q2) fun ws s4 ⟨zs, H4, I4, rz, z, ez, q3⟩ => ?_
  obtain ⟨u, ru, eu⟩ := kw_one hq.2.1 ez rz
  refine ⟨⟨ClX.pin_at I4, I4.kIn⟩, ?_⟩
  show wpAny _ _ (call (.ref q) us _) _ _ _
  rw [eu]
  exact run_cmK (A := X.A) F (hr.mono hk) (hx σ) I4 rv ru q3
theorem pe_cmK0 (c : CMK X.prog X.w X.K X.mg X.base k x C m kn d sp) (hr : Room j X.A) (hk : k ≤ j) (hg : Gl X x) (hx : ∀ σ, PassesAt (L2.CX X.prog X.w) X σ (EE σ)) (hkw : PK X kws tk) (hdb : (x == ("__debug__" : Str)) = false := by decide)
    (hq : KwOk0 X pos [] kws kn := by exact ⟨rfl, rfl, rfl⟩) (ht : MC X (.Name x p0) m apos pos [] kws pl := by exact rfl) :
    PE X (.Call (.Attribute (.Name x p0) m apos) [] kws pos) (tCMK C sp EE tNil tk) := by
  refine pe_cm c hg hdb ht hq.2.2 fun g _ F q pins σ H Q s I h => ?_
  refine evalArgs_kw2_nil hq.1 ?_
  refine thn (hkw.run pos _ s σ H _ I h) fun ws s4 ⟨zs, H4, I4, rz, z, ez, q3⟩ => ?_
  obtain ⟨u, ru, eu⟩ := kw_one hq.2.1 ez rz
  refine ⟨⟨ClX.pin_at I4, I4.kIn⟩, ?_⟩
  show wpAny _ _ (call (.ref q) [] _) _ _ _
  rw [eu]
  exact run_cmK (A := X.A) (us := []) (vs := []) F (hr.mono hk) (hx σ) I4 .nil ru q3
theorem wp_cms {σ : L2.St} {H : Hp} {Q : VK} (h : t σ H fun vs H1 => StarWK sp d (.ref C :: vs) H1 Q (EE σ)) : tCMS C sp d EE t σ H Q := h
theorem wp_cmk {σ : L2.St} {H : Hp} {Q : VK} (h : t σ H fun vs H1 => tk σ H1 fun zs H2 => ∃ z, zs = [z] ∧ StarWK sp z (.ref C :: vs) H2 Q (EE σ)) : tCMK C sp EE t tk σ H Q := h
end
end
section
variable {σ : L2.St} {H : Hp} {Q : VK} {K : PySem.W.Frag} {g : TG} {tt : TT} {tk tv te td : TE} {vs : List Nat} {d : Addr}
/-- a dict comprehension over a tuple of names, some perhaps twice, without a test -/
theorem dcTD {a : Addr} {ns : List (List Nat)} (σ0 : L2.St) (m : List Nat → Int) (hw : wipe σ vs = σ0) (hx : SqT K H a (ns.map sv)) (hn : ns.length ≤ 90000)
    (hs : ∀ (i : Nat) (l : List Nat) H2 (R : V → V → Hp → Prop) (R0 : Hp → Prop), ns[i]? = some l → Same H H2 → (∀ H5, Same H2 H5 → R (.str (S l)) (.int (m l)) H5) →
      g (.str (S l)) σ0 H2 fun σ2 H3 => wipe σ2 vs = σ0 ∧ tt σ2 H3 fun b H4 => if b = true then tk σ2 H4 fun y H5 => tv σ2 H5 fun z H6 => R y z H6 else R0 H4)
    (hq : ∀ D H2, H D = none → Same H H2 → H2 D = some (.dK (mD m (dds ns))) → Q (.ref D) H2) : ∃ b, V.ref a = .ref b ∧ (∃ ys, SqT K H b ys) ∧ DcW (Itt K b) g tt tk tv vs σ H Q := by
  have el : (ns.map sv).length = ns.length := List.length_map ..
  refine ⟨a, rfl, ⟨_, hx⟩, ?_⟩
  intro D hD
  refine ⟨fun i m' H2 => m' = ns.length - i ∧ i ≤ ns.length ∧ Same H H2 ∧ H2 D = some (.dK (mD m (dds (ns.take i)))), ⟨ns.length, by simp, Nat.zero_le _, Same.new hD, upd_same⟩, ?_⟩
  rintro i m' H2 ⟨rfl, hi, s1, hD2⟩
  have hx2 := Same.seqT s1 hx
  rcases Nat.lt_or_ge i ns.length with hlt | hge
  · right
    have hi2 : i < (ns.map sv).length := by omega
    refine ⟨⟨_, (ns.map sv)[i], hx2, List.getElem?_eq_getElem hi2⟩, fun H' => Same H H' ∧ H' D = some (.dK (mD m (dds (ns.take (i + 1))))), fun H' hN => ⟨ns.length - (i + 1), by omega, rfl, by omega, hN⟩, fun x H' hy => ?_⟩
    obtain ⟨e, hy⟩ := hy
    subst e
    have hxi := hy _ hx2
    rw [List.getElem?_map] at hxi
    obtain ⟨l, hl, rfl⟩ := Option.map_eq_some_iff.mp hxi
    rw [hw]
    have et := take_snoc hl
    refine hs i l _ (fun y z H5 => ∃ kvs k, y = kV k ∧ H5 D = some (.dK kvs) ∧ kvs.length < sizeLine ∧ (Same H (upd H5 D (.dK (putK kvs k z))) ∧ upd H5 D (.dK (putK kvs k z)) D = some (.dK (mD m (dds (ns.take (i + 1))))))) (fun H' => Same H H' ∧ H' D = some (.dK (mD m (dds (ns.take (i + 1)))))) hl s1 (fun H5 s5 => ?_)
    refine ⟨_, .inr (S l), rfl, s5 _ _ hD2, szlt ?_, Same.mut (s1.trans s5) hD, ?_⟩
    · unfold mD
      rw [dN_len]
      have := (dds_inv (ns.take i)).2.2
      rw [List.length_take] at this
      omega
    · rw [upd_same, putK_dds, et]
  · left
    have e : i = ns.length := by omega
    subst e
    rw [List.take_length] at hD2
    exact ⟨⟨_, hx2, by omega⟩, hq D H2 hD s1 hD2⟩
theorem sl_from1 {p : Addr} {xs : List V} (hp : H p = some (.tup xs)) (h0 : xs = [] → Q (.ref p) H) (h1 : xs ≠ [] → ∀ q, H q = none → Q (.ref q) (upd H q (.tup (xs.drop 1)))) : rSlA K (.ref p) (some 1) none H Q := by
  have e : HT.sIx xs.length 0 (some 1) = min 1 xs.length := by
    unfold HT.sIx
    simp
  have e2 : HT.sIx xs.length xs.length none = xs.length := rfl
  refine ⟨p, xs, rfl, st_of hp, fun h => h0 ?_, fun h q hq => ?_⟩
  · rw [e, e2] at h
    exact List.length_eq_zero_iff.mp (by omega)
  · have ne : xs ≠ [] := fun z => h (by rw [e, e2, z]; exact ⟨rfl, rfl⟩)
    have l : 0 < xs.length := List.length_pos_iff.mpr ne
    have z := h1 ne q hq
    rw [show cutV xs (some 1) none = xs.drop 1 by
      unfold cutV
      rw [e, e2, show min 1 xs.length = 1 by omega]
      exact List.take_of_length_le (by rw [List.length_drop]; omega)]
    exact z
theorem sl_tail {p : Addr} {xs : List V} (hp : H p = some (.tup xs)) (k : ∀ q H2, Same H H2 → H2 q = some (.tup (xs.drop 1)) → Q (.ref q) H2) : rSlA K (.ref p) (some 1) none H Q :=
  sl_from1 hp (fun e => k p H (Same.refl _) (by rw [hp, e]; rfl)) fun _ q hq => k q _ (Same.new hq) upd_same
theorem wp_tru {ta : TE} {R : Bool → Hp → Prop} (h : ta σ H fun x H' => ∃ k, TruV K x H' k ∧ R k H') : tTru K ta σ H R := h
theorem tru_tup {p : Addr} {xs : List V} {R : Bool → Prop} (hp : H p = some (.tup xs)) (h : R (!xs.isEmpty)) : ∃ k, TruV K (.ref p) H k ∧ R k := ⟨_, .inr (.inl ⟨xs, st_of hp, rfl⟩), h⟩
theorem Sees.put {P : Pl} {G H : Hp} {D : Addr} {zs : List V} (s : Sees P G H) (hl : D ≠ P.l) (nD : D ≠ P.p) : Sees P (upd G D (.lst zs)) (upd H D (.lst zs)) := by
  obtain ⟨n, c, e⟩ := s.pool
  refine ⟨⟨n, c, by rw [upd_ne nD.symm]; exact e⟩, by rw [upd_ne hl.symm]; exact s.cell, s.few, by rw [upd_ne nD.symm]; exact s.free, fun a o h => ?_⟩
  by_cases ea : a = D
  · subst ea; rw [upd_same] at h ⊢; exact h
  · rw [upd_ne ea] at h ⊢
    exact s.sub _ _ h
/-- a comprehension over a range that draws from the pool and hands out what lasts -/
theorem lcPG {n : Int} (n0 : 0 ≤ n) (hn : n ≤ 100000) {P : Pl} {G : Hp} (hs : Sees P G H) (I : Nat → List V → Hp → Prop) (h0 : I 0 [] G)
    (hm : ∀ i acc G1 G2, Same G1 G2 → I i acc G1 → I i acc G2) (hu : ∀ i acc G1 D xs zs, G1 D = some (.lst xs) → I i acc G1 → I i acc (upd G1 D (.lst zs)))
    (st : ∀ (i : Nat) acc G2 H2 (R : VK), (i : Int) < n → Same G G2 → Sees P G2 H2 → acc.length ≤ i → I i acc G2 → (∀ y G3 H3, Same G2 G3 → Sees P G3 H3 → I (i + 1) (acc ++ [y]) G3 → R y H3) → g (.int (i : Nat)) (wipe σ vs) H2 fun σ2 H4 => wipe σ2 vs = wipe σ vs ∧ te σ2 H4 R)
    (hq : ∀ D acc G2 H2, H D = none → Same G G2 → Sees P G2 H2 → G2 D = some (.lst acc) → (acc.length : Int) ≤ n → I n.toNat acc G2 → Q (.ref D) H2) : ∃ j : Int, [V.int n] = [V.int j] ∧ -(2 ^ 62) ≤ j ∧ j < 2 ^ 62 ∧ LcW (Itr 0 j.toNat) g tYes te vs σ H Q := by
  refine ⟨n, rfl, by omega, by omega, ?_⟩
  intro D hD
  obtain ⟨gD, nD⟩ := hs.fresh hD
  refine lc_it (walk_range (n := n.toNat)) (fun i H2 => ∃ acc G1, Same G G1 ∧ Sees P G1 H2 ∧ G1 D = some (.lst acc) ∧ acc.length ≤ i ∧ I i acc G1) ⟨[], _, Same.new gD, hs.new hD, upd_same, Nat.le_refl _, hm _ _ _ _ (Same.new gD) h0⟩ (fun i H2 _ p => trivial) (fun i x H2 H3 hi p y => ?_) (fun H2 p => ?_)
  · obtain ⟨acc, G1, s1, s2, d, l, hI⟩ := p
    obtain ⟨e, ex⟩ := y
    have e3 : x = .int (i : Nat) := by rw [ex]; exact congrArg V.int (Int.zero_add _)
    subst e3 e
    have z := st i acc G1 _ (fun y H4 => ∃ acc', H4 D = some (.lst acc') ∧ acc'.length < sizeLine ∧ ∃ acc2 G3, Same G G3 ∧ Sees P G3 (upd H4 D (.lst (acc' ++ [y]))) ∧ G3 D = some (.lst acc2) ∧ acc2.length ≤ i + 1 ∧ I (i + 1) acc2 G3) (by omega) s1 s2 l hI
      (fun y G3 H3 s3 s4 hI2 => ⟨acc, s4.sub _ _ (s3 _ _ d), szlt (by omega), acc ++ [y], upd G3 D (.lst (acc ++ [y])), ?_, ?_, upd_same, by simp; omega, hu _ _ _ _ _ _ (s3 _ _ d) hI2⟩)
    · exact z
    · intro a o h
      rw [upd_ne (ne_of_none h gD)]
      exact s3 _ _ (s1 _ _ h)
    · exact s4.put (fun e => by rw [e, hs.cell] at gD; cases gD) nD
  · obtain ⟨acc, G1, s1, s2, d, l, hI⟩ := p
    exact hq D acc G1 H2 hD s1 s2 d (by omega) hI
end
end RM
namespace RM
/-! ### pieces: labels that are merged -/
section
variable {α : Type} [DecidableEq α]
def mrg (L : α → α) (e : α × α) : α → α := fun x => if L x = L e.2 then L e.1 else L x
def lead (es : List (α × α)) : α → α := es.foldl mrg id
theorem mrg_eq {L : α → α} {e : α × α} : mrg L e e.1 = mrg L e e.2 := by
  unfold mrg
  rw [if_pos rfl]
  split <;> rfl
theorem mrg_mono {L : α → α} {e : α × α} {x y : α} (h : L x = L y) : mrg L e x = mrg L e y := by
  unfold mrg
  rw [h]
theorem foldl_mono : ∀ (es : List (α × α)) {L : α → α} {x y : α}, L x = L y → es.foldl mrg L x = es.foldl mrg L y
  | [], _, _, _, h => h
  | _ :: es, _, _, _, h => foldl_mono es (mrg_mono h)
theorem foldl_edge : ∀ {es : List (α × α)} {L : α → α} {e : α × α}, e ∈ es → es.foldl mrg L e.1 = es.foldl mrg L e.2
  | d :: es, L, e, h => by
    rcases List.mem_cons.mp h with rfl | h
    · exact foldl_mono es mrg_eq
    · exact foldl_edge (es := es) (L := mrg L d) h
/-- the two ends of an edge have one label -/
theorem lead_edge {es : List (α × α)} {e : α × α} (h : e ∈ es) : lead es e.1 = lead es e.2 := foldl_edge h
theorem foldl_closed {F : α → Prop} : ∀ {es : List (α × α)} {L : α → α}, (∀ e ∈ es, F e.1 ↔ F e.2) → (∀ x y, L x = L y → (F x ↔ F y)) → ∀ x y, es.foldl mrg L x = es.foldl mrg L y → (F x ↔ F y)
  | [], _, _, h, x, y, e => h x y e
  | d :: es, L, hc, h, x, y, e => by
    refine foldl_closed (es := es) (L := mrg L d) (fun e he => hc e (List.mem_cons_of_mem _ he)) (fun a b hab => ?_) x y e
    have hd := hc d List.mem_cons_self
    unfold mrg at hab
    split at hab
    · rename_i ha
      split at hab
      · rename_i hb
        exact h a b (ha.trans hb.symm)
      · exact (h a d.2 ha).trans (hd.symm.trans (h d.1 b hab))
    · split at hab
      · rename_i hb
        exact (h a d.1 hab).trans (hd.trans (h b d.2 hb).symm)
      · exact h a b hab
/-- things of one label are together in every set that the edges don't leave -/
theorem lead_closed {F : α → Prop} {es : List (α × α)} (hc : ∀ e ∈ es, F e.1 ↔ F e.2) {x y : α} (h : lead es x = lead es y) : F x ↔ F y :=
  foldl_closed hc (fun a b e => by
    have e2 : a = b := e
    rw [e2]) x y h
/-- the labels of the first i names, each once, in the order of their first names -/
def labs (f : α → α) (ns : List α) : Nat → List α
  | 0 => []
  | i + 1 => match ns[i]? with
    | none => labs f ns i
    | some x => if f x ∈ labs f ns i then labs f ns i else labs f ns i ++ [f x]
theorem labs_mem {f : α → α} {ns : List α} {l : α} : ∀ {i : Nat}, l ∈ labs f ns i ↔ ∃ x ∈ ns.take i, f x = l
  | 0 => by simp [labs]
  | i + 1 => by
    unfold labs
    rw [List.take_succ]
    cases e : ns[i]? with
    | none => simp [labs_mem (i := i)]
    | some x =>
      simp only [Option.toList_some, List.mem_append, List.mem_singleton]
      constructor
      · intro h
        split at h
        · obtain ⟨y, hy, e⟩ := labs_mem.mp h
          exact ⟨y, .inl hy, e⟩
        · rcases List.mem_append.mp h with h | h
          · obtain ⟨y, hy, e⟩ := labs_mem.mp h
            exact ⟨y, .inl hy, e⟩
          · exact ⟨x, .inr rfl, (List.mem_singleton.mp h).symm⟩
      · rintro ⟨y, hy | rfl, h⟩
        · have := labs_mem.mpr ⟨y, hy, h⟩
          split
          · exact this
          · exact List.mem_append_left _ this
        · split
          · rename_i hh
            rw [← h]; exact hh
          · rw [← h]
            exact List.mem_append_right _ (List.mem_singleton.mpr rfl)
theorem labs_succ {f : α → α} {ns : List α} {i : Nat} {x : α} (h : ns[i]? = some x) : labs f ns (i + 1) = if f x ∈ labs f ns i then labs f ns i else labs f ns i ++ [f x] := by
  rw [labs, h]
/-- the pieces by the labels f -/
def grp (f : α → α) (ns : List α) : List (List α) := (labs f ns ns.length).map fun l => ns.filter fun x => decide (f x = l)
end
end RM
namespace RM
open PySem PySem.Spec PyProof.Rows L2
/-! ### the generator of nets with two timetables -/
/-- the minutes m from one event to the other are passed by a span lo .. hi -/
def KeepW (T lo hi m : Int) : Prop := (m - lo) % T ≤ hi - lo
theorem emod_add {T c e z : Int} (h : c % T = e % T) : (c + z) % T = (e + z) % T := by rw [Int.add_emod, h, ← Int.add_emod]
theorem keepW_of {T s y m d : Int} (h : (m - s) % T = d % T) (d0 : 0 ≤ d) (d1 : d < T) (d2 : d ≤ y - s % T) : KeepW T (s % T) y m := by
  unfold KeepW
  rw [show (m - s % T) % T = (m - s) % T by rw [Int.sub_emod, Int.emod_emod, ← Int.sub_emod], h, Int.emod_eq_of_lt d0 d1]
  exact d2
/-- both timetables pass the row: before bs, changed by cs -/
def KpR (T : Int) (ns : List (List Nat)) (bs cs : List Int) (r : Row) : Prop := ∃ (i j : Nat) (a b c d : Int), ns[i]? = some r.u ∧ ns[j]? = some r.v ∧ bs[i]? = some a ∧ bs[j]? = some b ∧ cs[i]? = some c ∧ cs[j]? = some d ∧ KeepW T r.lo r.hi (b - a) ∧ KeepW T r.lo r.hi ((b - a) + (d - c))
def IsSpK (H : Hp) (T : Int) (ns : List (List Nat)) (bs cs : List Int) (x : V) : Prop := ∃ r, IsRow H x r ∧ OkR T ns r ∧ KpR T ns bs cs r
theorem IsSpK.mono {H H' : Hp} (e : Same H H') {T : Int} {ns : List (List Nat)} {bs cs : List Int} {x : V} (h : IsSpK H T ns bs cs x) : IsSpK H' T ns bs cs x := by
  obtain ⟨r, h1, h2, h3⟩ := h
  exact ⟨r, h1.mono e, h2, h3⟩
theorem IsSpK.sp {H : Hp} {T : Int} {ns : List (List Nat)} {bs cs : List Int} {x : V} (h : IsSpK H T ns bs cs x) : IsSp H T ns x := by
  obtain ⟨r, h1, h2, _⟩ := h
  exact ⟨r, h1, h2⟩
section
variable {K : PySem.W.Frag} {H : Hp} {Q : VK} {a b : Addr}
theorem wp_eqNL {xs : List V} {ds : List PyData} (h1 : H a = some (.lst xs)) (h2 : H b = some (.lst [])) (hd : DpAll K H xs ds) (sh : SeqAt.shaped (.list ds) = true) (q : Q (.bl (decide (ds = []))) H) : rEqD K (.ref a) (.ref b) H Q := by
  refine ⟨.list ds, .list [], .lst (sq_of h1) hd, .lst (sq_of h2) .nil, sh, rfl, ?_⟩
  show Q (.bl (PyData.eqvAll ds [])) H
  cases ds with
  | nil => exact q
  | cons d r => exact q
end
theorem ixI {is : List Int} {k : Int} {x : V} (h : (is.map V.int)[k.toNat]? = some x) : ∃ i, x = .int i ∧ is[k.toNat]? = some i := by
  rw [List.getElem?_map] at h
  obtain ⟨i, h1, h2⟩ := Option.map_eq_some_iff.mp h
  exact ⟨i, h2.symm, h1⟩
theorem nodup_ix {ns : List (List Nat)} (nd : ns.Nodup) {i j : Nat} {a : List Nat} (h1 : ns[i]? = some a) (h2 : ns[j]? = some a) : i = j := by
  obtain ⟨hi, e1⟩ := List.getElem?_eq_some_iff.mp h1
  obtain ⟨hj, e2⟩ := List.getElem?_eq_some_iff.mp h2
  have z := List.pairwise_iff_getElem.mp nd
  rcases Nat.lt_trichotomy i j with h | h | h
  · exact absurd (e1.trans e2.symm) (z i j hi hj h)
  · exact h
  · exact absurd (e2.trans e1.symm) (z j i hj hi h)
theorem Sees.putG {P : Pl} {G H : Hp} {D : Addr} {zs : List V} (s : Sees P G H) (hl : D ≠ P.l) (nD : D ≠ P.p) : Sees P (upd G D (.lst zs)) (upd H D (.lst zs)) := by
  obtain ⟨n, c, e⟩ := s.pool
  refine ⟨⟨n, c, by rw [upd_ne nD.symm]; exact e⟩, by rw [upd_ne hl.symm]; exact s.cell, s.few, by rw [upd_ne nD.symm]; exact s.free, fun x o h => ?_⟩
  by_cases ea : x = D
  · subst ea
    rw [upd_same] at h ⊢
    exact h
  · rw [upd_ne ea] at h ⊢
    exact s.sub _ _ h
theorem IsSp.updL {G : Hp} {L : Addr} {ys : List V} {o : HO} {T : Int} {ns : List (List Nat)} {x : V} (hq : G L = some (.lst ys)) (h : IsSp G T ns x) : IsSp (upd G L o) T ns x := by
  obtain ⟨r, ⟨p, rfl, hp⟩, k⟩ := h
  exact ⟨r, ⟨p, rfl, by rw [upd_ne (fun e => by rw [e, hq] at hp; cases hp)]; exact hp⟩, k⟩
/-- the minutes behind: changed by cs -/
def aft (T : Int) (bs cs : List Int) (i : Nat) : Int := (bs.getD i 0 + cs.getD i 0) % T
structure Case (P : Pl) (G : Hp) (L : Addr) (e m : Nat) (tm T : Int) (N S A B : Addr) (ns : List (List Nat)) (ss : List V) (bs cs : List Int) : Prop where
  ok : OkNs T ns
  ne : ns.length ≤ e
  ms : ss.length ≤ m
  tt : T ≤ tm ∨ T ≤ 8
  sp : ∀ x ∈ ss, IsSpK G T ns bs cs x
  two : 2 ≤ ns.length ∨ ss = []
  lb : bs.length = ns.length
  lc : cs.length = ns.length
  bb : ∀ j ∈ bs, 0 ≤ j ∧ j < T
  bc : ∀ j ∈ cs, -5000 ≤ j ∧ j ≤ 5000
  hL : G L = some (.lst [.int T, .ref N, .ref S, .ref B, .ref A])
  hN : G N = some (.lst (ns.map sv))
  hS : G S = some (.lst ss)
  hB : G B = some (.lst (bs.map V.int))
  hA : G A = some (.lst (((List.range ns.length).map (aft T bs cs)).map V.int))
end RM
namespace RM
open PySem PySem.Spec PyProof.Rows L2
/-! ### walks: steps (number, direction), ends, what a tree joins -/
/-- the two ends of a step, if it exists -/
def sd (rs : List Row) (s : Int × Int) : Option (List Nat × List Nat) :=
  if 0 ≤ s.1 then (match rs[s.1.toNat]? with
    | none => none
    | some r => if s.2 = 1 then some (r.u, r.v) else if s.2 = -1 then some (r.v, r.u) else none) else none
def Wk (rs : List Row) : List (Int × Int) → List Nat → List Nat → Prop
  | [], a, b => a = b
  | s :: w, a, b => ∃ c, sd rs s = some (a, c) ∧ Wk rs w c b
theorem Wk.app {rs : List Row} : ∀ {w z : List (Int × Int)} {a b c : List Nat}, Wk rs w a b → Wk rs z b c → Wk rs (w ++ z) a c
  | [], _, _, _, _, h, k => by cases h; exact k
  | _ :: _, _, _, _, _, ⟨c, h1, h2⟩, k => ⟨c, h1, h2.app k⟩
theorem Wk.one {rs : List Row} {s : Int × Int} {a b : List Nat} (h : sd rs s = some (a, b)) : Wk rs [s] a b := ⟨b, h, rfl⟩
theorem Wk.last {rs : List Row} : ∀ {w : List (Int × Int)} {s : Int × Int} {a b : List Nat}, Wk rs w a b → w[w.length - 1]? = some s → ∃ c, sd rs s = some (c, b)
  | [t], s, a, b, ⟨c, h1, h2⟩, e => by
    cases h2
    cases e
    exact ⟨a, h1⟩
  | t :: u :: w, s, a, b, ⟨c, _, h2⟩, e => h2.last (by simpa using e)
theorem sd_fwd {rs : List Row} {i : Nat} {r : Row} (h : rs[i]? = some r) : sd rs ((i : Int), 1) = some (r.u, r.v) := by
  unfold sd
  rw [if_pos (show (0 : Int) ≤ (i : Int) by omega)]
  show (match rs[((i : Int)).toNat]? with
    | none => none
    | some r => if (1 : Int) = 1 then some (r.u, r.v) else if (1 : Int) = -1 then some (r.v, r.u) else none) = _
  rw [Int.toNat_natCast, h]
  rfl
theorem sd_bwd {rs : List Row} {i : Nat} {r : Row} (h : rs[i]? = some r) : sd rs ((i : Int), -1) = some (r.v, r.u) := by
  unfold sd
  rw [if_pos (show (0 : Int) ≤ (i : Int) by omega)]
  show (match rs[((i : Int)).toNat]? with
    | none => none
    | some r => if (-1 : Int) = 1 then some (r.u, r.v) else if (-1 : Int) = -1 then some (r.v, r.u) else none) = _
  rw [Int.toNat_natCast, h]
  rfl
theorem sd_row {rs : List Row} {s : Int × Int} {a b : List Nat} (h : sd rs s = some (a, b)) : ∃ (i : Nat) (r : Row), s.1 = i ∧ rs[i]? = some r ∧ ((s.2 = 1 ∧ a = r.u ∧ b = r.v) ∨ (s.2 = -1 ∧ a = r.v ∧ b = r.u)) := by
  unfold sd at h
  split at h
  · rename_i h0
    cases e : rs[s.1.toNat]? with
    | none => rw [e] at h; cases h
    | some r =>
      rw [e] at h
      replace h : (if s.2 = 1 then some (r.u, r.v) else if s.2 = -1 then some (r.v, r.u) else none) = some (a, b) := h
      refine ⟨s.1.toNat, r, by omega, e, ?_⟩
      by_cases h1 : s.2 = 1
      · rw [if_pos h1] at h
        cases h
        exact .inl ⟨h1, rfl, rfl⟩
      · rw [if_neg h1] at h
        by_cases h2 : s.2 = -1
        · rw [if_pos h2] at h
          cases h
          exact .inr ⟨h2, rfl, rfl⟩
        · rw [if_neg h2] at h
          cases h
  · cases h
/-- lists of tuples (number, direction); all of them new behind H0 -/
inductive StF (H0 H : Hp) : List V → List (Int × Int) → Prop
  | nil : StF H0 H [] []
  | cons {x : Addr} {s : Int × Int} {xs : List V} {ss : List (Int × Int)} (f : H0 x = none) (h : H x = some (.tup [.int s.1, .int s.2])) (r : StF H0 H xs ss) : StF H0 H (.ref x :: xs) (s :: ss)
abbrev StI (H : Hp) : List V → List (Int × Int) → Prop := StF (fun _ => none) H
theorem StF.map {H0 H K0 K : Hp} (e0 : ∀ a o, H0 a = none → H a = some o → K0 a = none ∧ K a = some o) : ∀ {xs : List V} {ss : List (Int × Int)}, StF H0 H xs ss → StF K0 K xs ss
  | _, _, .nil => .nil
  | _, _, .cons f h r => .cons (e0 _ _ f h).1 (e0 _ _ f h).2 (r.map e0)
theorem StF.mono {H0 H H' : Hp} (e : Same H H') {xs : List V} {ss : List (Int × Int)} (h : StF H0 H xs ss) : StF H0 H' xs ss := h.map fun _ _ f k => ⟨f, e _ _ k⟩
theorem StF.any {H0 H : Hp} {xs : List V} {ss : List (Int × Int)} (h : StF H0 H xs ss) : StI H xs ss := h.map fun _ _ _ k => ⟨rfl, k⟩
theorem StF.back {H0 K0 H : Hp} (e : Same K0 H0) {xs : List V} {ss : List (Int × Int)} (h : StF H0 H xs ss) : StF K0 H xs ss := h.map fun _ _ f k => ⟨e.free f, k⟩
theorem StF.upd {H0 H : Hp} {L : Addr} {ys : List V} {o : HO} (hL : H L = some (.lst ys)) {xs : List V} {ss : List (Int × Int)} : StF H0 H xs ss → StF H0 (upd H L o) xs ss := by
  intro h
  induction h with
  | nil => exact .nil
  | cons f h r ih => exact .cons f (by rw [upd_ne (fun e => by rw [e, hL] at h; cases h)]; exact h) ih
theorem StF.len {H0 H : Hp} : ∀ {xs : List V} {ss : List (Int × Int)}, StF H0 H xs ss → xs.length = ss.length
  | _, _, .nil => rfl
  | _, _, .cons _ _ r => by rw [List.length_cons, List.length_cons, r.len]
theorem StF.at_ {H0 H : Hp} : ∀ {xs : List V} {ss : List (Int × Int)} {i : Nat} {v : V}, StF H0 H xs ss → xs[i]? = some v → ∃ (x : Addr) (s : Int × Int), v = .ref x ∧ ss[i]? = some s ∧ H0 x = none ∧ H x = some (.tup [.int s.1, .int s.2])
  | _, _, 0, _, .cons f h _, hv => by cases hv; exact ⟨_, _, rfl, rfl, f, h⟩
  | _, _, i + 1, _, .cons _ _ r, hv => r.at_ (i := i) (by simpa using hv)
theorem StF.atI_ {H0 H : Hp} {xs : List V} {ss : List (Int × Int)} {i : Nat} {s : Int × Int} (h : StF H0 H xs ss) (hs : ss[i]? = some s) : ∃ x : Addr, xs[i]? = some (.ref x) ∧ H0 x = none ∧ H x = some (.tup [.int s.1, .int s.2]) := by
  have hi := (List.getElem?_eq_some_iff.mp hs).1
  have hi2 : i < xs.length := by rw [h.len]; exact hi
  obtain ⟨x, t, e1, e2, e3, e4⟩ := h.at_ (List.getElem?_eq_getElem hi2)
  rw [hs] at e2
  cases e2
  exact ⟨x, by rw [List.getElem?_eq_getElem hi2, e1], e3, e4⟩
theorem StF.app {H0 H : Hp} {ys : List V} {ts : List (Int × Int)} (k : StF H0 H ys ts) : ∀ {xs : List V} {ss : List (Int × Int)}, StF H0 H xs ss → StF H0 H (xs ++ ys) (ss ++ ts)
  | _, _, .nil => k
  | _, _, .cons f h r => .cons f h (StF.app k r)
theorem StF.one {H0 H : Hp} {x : Addr} {a b : Int} (f : H0 x = none) (h : H x = some (.tup [.int a, .int b])) : StF H0 H [.ref x] [(a, b)] := .cons (s := (a, b)) f h .nil
theorem StF.take {H0 H : Hp} : ∀ {xs : List V} {ss : List (Int × Int)} (n : Nat), StF H0 H xs ss → StF H0 H (xs.take n) (ss.take n)
  | _, _, 0, _ => .nil
  | _, _, _ + 1, .nil => .nil
  | _, _, n + 1, .cons f h r => .cons f h (r.take n)
theorem StF.drop {H0 H : Hp} : ∀ {xs : List V} {ss : List (Int × Int)} (n : Nat), StF H0 H xs ss → StF H0 H (xs.drop n) (ss.drop n)
  | _, _, 0, h => h
  | _, _, _ + 1, .nil => .nil
  | _, _, n + 1, .cons _ _ r => r.drop n
theorem StF.set {H0 H : Hp} {x : Addr} {s : Int × Int} (f : H0 x = none) (h : H x = some (.tup [.int s.1, .int s.2])) : ∀ {xs : List V} {ss : List (Int × Int)} (n : Nat), StF H0 H xs ss → StF H0 H (xs.set n (.ref x)) (ss.set n s)
  | _, _, _, .nil => .nil
  | _, _, 0, .cons _ _ r => .cons f h r
  | _, _, n + 1, .cons f1 h1 r => .cons f1 h1 (r.set f h n)
/-- all that is new becomes known -/
theorem Sees.gain {P : Pl} {G H H' : Hp} (s : Sees P G H) (h : Same H H') : ∃ G', Sees P G' H' ∧ Same G G' ∧ (∀ a o, H a = none → H' a = some o → G' a = some o) ∧ ∀ a, G a = none → H a ≠ none → G' a = none := by
  refine ⟨fun a => match H a with
    | none => H' a
    | some _ => G a, ?_, ?_, ?_, ?_⟩
  · refine s.grow (G' := _) ?_ ?_ h ?_
    · intro a o e
      show (match H a with
        | none => H' a
        | some _ => G a) = some o
      rw [s.sub _ _ e]
      exact e
    · intro a o e
      replace e : (match H a with
        | none => H' a
        | some _ => G a) = some o := e
      cases q : H a with
      | none => rw [q] at e; exact e
      | some u =>
        rw [q] at e
        have z := s.sub _ _ e
        rw [q] at z
        cases z
        exact h _ _ q
    · intro q o e f
      show (match H q with
        | none => H' q
        | some _ => G q) = none
      rw [e]
      exact f
  · intro a o e
    show (match H a with
      | none => H' a
      | some _ => G a) = some o
    rw [s.sub _ _ e]
    exact e
  · intro a o e k
    show (match H a with
      | none => H' a
      | some _ => G a) = some o
    rw [e]
    exact k
  · intro a f e
    show (match H a with
      | none => H' a
      | some _ => G a) = none
    cases q : H a with
    | none => exact absurd q e
    | some u => exact f
/-! #### what a list of spans joins -/
inductive Conn (rs : List Row) (ts : List Nat) (a : List Nat) : List Nat → Prop
  | refl : Conn rs ts a a
  | fwd {i : Nat} {r : Row} (h : i ∈ ts) (e : rs[i]? = some r) (k : Conn rs ts a r.u) : Conn rs ts a r.v
  | bwd {i : Nat} {r : Row} (h : i ∈ ts) (e : rs[i]? = some r) (k : Conn rs ts a r.v) : Conn rs ts a r.u
theorem Conn.trans {rs : List Row} {ts : List Nat} {a b c : List Nat} (h : Conn rs ts a b) (k : Conn rs ts b c) : Conn rs ts a c := by
  induction k with
  | refl => exact h
  | fwd h1 e _ ih => exact .fwd h1 e ih
  | bwd h1 e _ ih => exact .bwd h1 e ih
theorem Conn.symm {rs : List Row} {ts : List Nat} {a b : List Nat} (h : Conn rs ts a b) : Conn rs ts b a := by
  induction h with
  | refl => exact .refl
  | fwd h1 e _ ih => exact (Conn.bwd h1 e .refl).trans ih
  | bwd h1 e _ ih => exact (Conn.fwd h1 e .refl).trans ih
theorem Conn.mono {rs : List Row} {ts us : List Nat} {a b : List Nat} (s : ∀ i ∈ ts, i ∈ us) (h : Conn rs ts a b) : Conn rs us a b := by
  induction h with
  | refl => exact .refl
  | fwd h1 e _ ih => exact .fwd (s _ h1) e ih
  | bwd h1 e _ ih => exact .bwd (s _ h1) e ih
theorem Conn.closed {rs : List Row} {ts : List Nat} {a b : List Nat} {M : List Nat → Prop} (h : Conn rs ts a b) (ha : M a) (cl : ∀ i r, i ∈ ts → rs[i]? = some r → (M r.u ↔ M r.v)) : M b := by
  induction h with
  | refl => exact ha
  | fwd h1 e _ ih => exact (cl _ _ h1 e).mp ih
  | bwd h1 e _ ih => exact (cl _ _ h1 e).mpr ih
/-- how many of ts hold -/
def cnt (p : Nat → Bool) (ts : List Nat) : Nat := (ts.filter p).length
theorem cnt_le {p : Nat → Bool} {ts : List Nat} : cnt p ts ≤ ts.length := List.length_filter_le ..
theorem cnt_mono {p q : Nat → Bool} : ∀ {ts : List Nat}, (∀ i ∈ ts, p i = true → q i = true) → cnt p ts ≤ cnt q ts
  | [], _ => Nat.le_refl _
  | t :: ts, h => by
    have ih := cnt_mono (ts := ts) fun i hi => h i (List.mem_cons_of_mem _ hi)
    have h0 := h t List.mem_cons_self
    unfold cnt at ih ⊢
    cases hp : p t
    · rw [List.filter_cons_of_neg (by rw [hp]; decide)]
      cases hq : q t
      · rw [List.filter_cons_of_neg (by rw [hq]; decide)]; exact ih
      · rw [List.filter_cons_of_pos hq, List.length_cons]; omega
    · rw [List.filter_cons_of_pos hp, List.filter_cons_of_pos (h0 hp), List.length_cons, List.length_cons]; omega
theorem cnt_lt {p q : Nat → Bool} : ∀ {ts : List Nat} {j : Nat}, (∀ i ∈ ts, p i = true → q i = true) → j ∈ ts → p j = false → q j = true → cnt p ts + 1 ≤ cnt q ts
  | t :: ts, j, h, hj, hp, hq => by
    have hm : ∀ i ∈ ts, p i = true → q i = true := fun i hi => h i (List.mem_cons_of_mem _ hi)
    have h0 := h t List.mem_cons_self
    rcases List.mem_cons.mp hj with rfl | hj
    · have ih := cnt_mono hm
      unfold cnt at ih ⊢
      rw [List.filter_cons_of_neg (by rw [hp]; decide), List.filter_cons_of_pos hq, List.length_cons]
      omega
    · have ih := cnt_lt hm hj hp hq
      unfold cnt at ih ⊢
      cases hp : p t
      · rw [List.filter_cons_of_neg (by rw [hp]; decide)]
        cases hq : q t
        · rw [List.filter_cons_of_neg (by rw [hq]; decide)]; exact ih
        · rw [List.filter_cons_of_pos hq, List.length_cons]; omega
      · rw [List.filter_cons_of_pos hp, List.filter_cons_of_pos (h0 hp), List.length_cons, List.length_cons]; omega
theorem cnt_all {p : Nat → Bool} : ∀ {ts : List Nat}, ts.length ≤ cnt p ts → ∀ i ∈ ts, p i = true
  | t :: ts, h, i, hi => by
    have z := @cnt_le p ts
    unfold cnt at h z
    cases hp : p t
    · rw [List.filter_cons_of_neg (by rw [hp]; decide), List.length_cons] at h
      omega
    · rw [List.filter_cons_of_pos hp, List.length_cons, List.length_cons] at h
      rcases List.mem_cons.mp hi with rfl | hi
      · exact hp
      · exact cnt_all (ts := ts) (by unfold cnt; omega) i hi
/-- both ends of span i stand in ks -/
def bothB (rs : List Row) (ks : List (List Nat)) (i : Nat) : Bool := match rs[i]? with
  | none => true
  | some r => decide (r.u ∈ ks) && decide (r.v ∈ ks)
theorem bothB_mono {rs : List Row} {ks ls : List (List Nat)} (h : ∀ x ∈ ks, x ∈ ls) {i : Nat} (k : bothB rs ks i = true) : bothB rs ls i = true := by
  unfold bothB at k ⊢
  cases e : rs[i]? with
  | none => rfl
  | some r =>
    rw [e] at k
    have k : (decide (r.u ∈ ks) && decide (r.v ∈ ks)) = true := k
    rw [Bool.and_eq_true, decide_eq_true_eq, decide_eq_true_eq] at k
    show (decide (r.u ∈ ls) && decide (r.v ∈ ls)) = true
    rw [Bool.and_eq_true, decide_eq_true_eq, decide_eq_true_eq]
    exact ⟨h _ k.1, h _ k.2⟩
theorem bothB_some {rs : List Row} {ks : List (List Nat)} {i : Nat} {r : Row} (e : rs[i]? = some r) : bothB rs ks i = (decide (r.u ∈ ks) && decide (r.v ∈ ks)) := by
  unfold bothB
  rw [e]
/-- one end in ks is both -/
def ClsE (rs : List Row) (ks : List (List Nat)) (i : Nat) : Prop := ∀ r, rs[i]? = some r → (r.u ∈ ks ↔ r.v ∈ ks)
theorem clsE_both {rs : List Row} {ks : List (List Nat)} {i : Nat} (h : bothB rs ks i = true) : ClsE rs ks i := fun r e => by
  rw [bothB_some e, Bool.and_eq_true, decide_eq_true_eq, decide_eq_true_eq] at h
  exact ⟨fun _ => h.2, fun _ => h.1⟩
section
variable {σ : L2.St} {H : Hp} {Q : VK} {K : PySem.W.Frag} {g : TG} {tt : TT} {te : TE} {vs : List Nat}
/-- a comprehension over a range, with a test, that makes new things: I speaks of what is known (G), the list itself aside -/
theorem lcInvR {n : Nat} (hn : n ≤ 100000) (I : Nat → List V → Hp → Prop) (h0 : I 0 [] H)
    (hs : ∀ i acc G H2 (R : VK) (R0 : Hp → Prop), i < n → Same H G → Same G H2 → acc.length ≤ i → I i acc G → (∀ y G' H6, Same G G' → Same G' H6 → Same H2 H6 → (∀ q o, H2 q = some o → G q = none → G' q = none) → I (i + 1) (acc ++ [y]) G' → R y H6) → (∀ H5, Same H2 H5 → I (i + 1) acc G → R0 H5) →
      g (.int (i : Nat)) (wipe σ vs) H2 fun σ2 H4 => wipe σ2 vs = wipe σ vs ∧ tt σ2 H4 fun b H5 => if b = true then te σ2 H5 R else R0 H5)
    (hq : ∀ D acc G H2, H D = none → Same H G → Same G H2 → H2 D = some (.lst acc) → acc.length ≤ n → I n acc G → G D = none → Q (.ref D) H2) : ∃ j : Int, [V.int n] = [V.int j] ∧ -(2 ^ 62) ≤ j ∧ j < 2 ^ 62 ∧ LcW (Itr 0 j.toNat) g tt te vs σ H Q := by
  refine ⟨n, rfl, by omega, by omega, ?_⟩
  rw [Int.toNat_natCast]
  intro D hD
  refine lc_it (walk_range (n := n)) (fun i H2 => ∃ acc G, Same H G ∧ Same G H2 ∧ G D = none ∧ H2 D = some (.lst acc) ∧ acc.length ≤ i ∧ I i acc G) ⟨[], H, Same.refl _, Same.new hD, hD, upd_same, Nat.le_refl _, h0⟩ (fun i H2 _ p => trivial) (fun i x H2 H3 hi p y => ?_) (fun H2 p => ?_)
  · obtain ⟨e, e2⟩ := y
    subst e
    have e3 : x = .int (i : Nat) := by rw [e2]; exact congrArg V.int (Int.zero_add _)
    subst e3
    obtain ⟨acc, G, s1, s2, gD, hD2, hl, hI⟩ := p
    exact hs i acc G _ (fun y H4 => ∃ acc', H4 D = some (.lst acc') ∧ acc'.length < sizeLine ∧ ∃ acc2 G2, Same H G2 ∧ Same G2 (upd H4 D (.lst (acc' ++ [y]))) ∧ G2 D = none ∧ upd H4 D (.lst (acc' ++ [y])) D = some (.lst acc2) ∧ acc2.length ≤ i + 1 ∧ I (i + 1) acc2 G2)
      (fun H5 => ∃ acc2 G2, Same H G2 ∧ Same G2 H5 ∧ G2 D = none ∧ H5 D = some (.lst acc2) ∧ acc2.length ≤ i + 1 ∧ I (i + 1) acc2 G2) hi s1 s2 hl hI
      (fun y G' H6 t1 t2 t3 t4 hI2 => ⟨acc, t3 _ _ hD2, szlt (by omega), acc ++ [y], G', s1.trans t1, Same.mut t2 (t4 _ _ hD2 gD), t4 _ _ hD2 gD, upd_same, by rw [List.length_append]; simp; omega, hI2⟩)
      (fun H5 t hI2 => ⟨acc, G, s1, s2.trans t, gD, t _ _ hD2, by omega, hI2⟩)
  · obtain ⟨acc, G, s1, s2, gD, hD2, hl, hI⟩ := p
    exact hq D acc G H2 hD s1 s2 hD2 hl hI gD
end
theorem ifI {α : Type} {a b : Prop} [Decidable a] [Decidable b] {x y : α} (h : a ↔ b) : (if a then x else y) = if b then x else y := by
  by_cases c : a
  · rw [if_pos c, if_pos (h.mp c)]
  · rw [if_neg c, if_neg fun z => c (h.mpr z)]
theorem Same.upd2 {G H : Hp} {a : Addr} {o : HO} (s : Same G H) : Same (upd G a o) (upd H a o) := fun c u e => by
  by_cases h : c = a
  · subst h; rw [upd_same] at e ⊢; exact e
  · rw [upd_ne h] at e ⊢; exact s _ _ e
theorem row_at {H : Hp} {ss : List V} {rs : List Row} (h : Rws H ss rs) {i : Nat} {r : Row} (e : rs[i]? = some r) : ∃ p, ss[i]? = some (.ref p) ∧ H p = some (.tup [sv r.u, sv r.v, .int r.lo, .int r.hi, .int r.w]) := by
  have hi := (List.getElem?_eq_some_iff.mp e).1
  have hi2 : i < ss.length := by rw [h.len]; exact hi
  obtain ⟨r', e1, p, e2, e3⟩ := h.at (List.getElem?_eq_getElem hi2)
  rw [e] at e1
  cases e1
  exact ⟨p, by rw [List.getElem?_eq_getElem hi2, e2], e3⟩
/-- step i does not exist, or does not begin where the step before it ends -/
def bad (rs : List Row) (ws : List (Int × Int)) (i : Nat) : Bool := match ws[i]? with
  | none => false
  | some s => match sd rs s with
    | none => true
    | some p => match (if i = 0 then none else ws[i - 1]?) with
      | none => false
      | some t => match sd rs t with
        | none => false
        | some q => !decide (q.2 = p.1)
theorem bad_none {rs : List Row} {ws : List (Int × Int)} {i : Nat} {s : Int × Int} (h : ws[i]? = some s) (e : sd rs s = none) : bad rs ws i = true := by
  unfold bad
  rw [h]
  show (match sd rs s with
    | none => true
    | some p => _) = true
  rw [e]
theorem bad_zero {rs : List Row} {ws : List (Int × Int)} {s : Int × Int} {p : List Nat × List Nat} (h : ws[0]? = some s) (e : sd rs s = some p) : bad rs ws 0 = false := by
  unfold bad
  rw [h]
  show (match sd rs s with
    | none => true
    | some p => _) = false
  rw [e]
  rfl
theorem bad_some {rs : List Row} {ws : List (Int × Int)} {i : Nat} {s t : Int × Int} {p q : List Nat × List Nat} (h : ws[i]? = some s) (e : sd rs s = some p) (h0 : i ≠ 0) (h2 : ws[i - 1]? = some t) (e2 : sd rs t = some q) : bad rs ws i = !decide (q.2 = p.1) := by
  unfold bad
  rw [h]
  show (match sd rs s with
    | none => true
    | some p => (match (if i = 0 then none else ws[i - 1]?) with
      | none => false
      | some t => match sd rs t with
        | none => false
        | some q => !decide (q.2 = p.1))) = _
  rw [e]
  show (match (if i = 0 then none else ws[i - 1]?) with
    | none => false
    | some t => match sd rs t with
      | none => false
      | some q => !decide (q.2 = p.1)) = _
  rw [if_neg h0, h2]
  show (match sd rs t with
    | none => false
    | some q => !decide (q.2 = p.1)) = _
  rw [e2]
theorem bad_sd {rs : List Row} {ws : List (Int × Int)} {i : Nat} {s : Int × Int} (h : ws[i]? = some s) (e : bad rs ws i = false) : ∃ p, sd rs s = some p := by
  cases q : sd rs s with
  | none => rw [bad_none h q] at e; cases e
  | some p => exact ⟨p, rfl⟩
theorem first_bad {p : Nat → Bool} : ∀ {n : Nat}, (∀ i < n, p i = false) ∨ ∃ i, i < n ∧ p i = true ∧ ∀ j < i, p j = false
  | 0 => .inl fun i h => absurd h (Nat.not_lt_zero _)
  | n + 1 => by
    rcases first_bad (p := p) (n := n) with h | ⟨i, h1, h2, h3⟩
    · cases e : p n
      · exact .inl fun i hi => by
          by_cases c : i = n
          · rw [c]; exact e
          · exact h i (by omega)
      · exact .inr ⟨n, by omega, e, h⟩
    · exact .inr ⟨i, by omega, h2, h3⟩
def sdV : Option (List Nat × List Nat) → List V
  | none => []
  | some p => [sv p.1, sv p.2]
section
variable {K : PySem.W.Frag} {H : Hp} {Q : VK} {σ : L2.St}
theorem wp_tryW {i : Nat} {tb : WX → TS} {l : List (Value × Sui)} {D : Ends} (h : tb (wAsM K i (fun _ _ _ _ => False) D l) D σ H) : tTry K i tb l D σ H := h
theorem wp_callSW {sp : Sp} {EE : L2.St → XK} {t : TA} (h : t σ H fun vs H1 => sp vs H1 Q (EE σ)) : tCallS sp EE t σ H Q := h
theorem wp_revW {te : TE} (h : te σ H fun x H1 => ∃ a xs, x = .ref a ∧ SqL K H1 a xs ∧ ∀ p, H1 p = none → Q (.ref p) (upd H1 p (.lst xs.reverse))) : tRevL K te σ H Q := h
theorem wp_asg2 {te : TE} {g1 g2 : TG} {D : Ends} (h : te σ H fun x H1 => g1 x σ H1 fun σ1 H2 => g2 x σ1 H2 D.nx) : tAsg2 te g1 g2 D σ H := h
theorem tru_lst {p : Addr} {xs : List V} {R : Bool → Prop} (hp : H p = some (.lst xs)) (h : R (!xs.isEmpty)) : ∃ k, TruV K (.ref p) H k ∧ R k := ⟨_, .inl ⟨xs, sq_of hp, rfl⟩, h⟩
theorem sl_to2 {p : Addr} {a b c d e : V} (hp : H p = some (.tup [a, b, c, d, e])) (h1 : ∀ q, H q = none → Q (.ref q) (upd H q (.tup [a, b]))) : rSlA K (.ref p) none (some 2) H Q :=
  ⟨p, _, rfl, st_of hp, fun h => absurd (show (2 : Nat) = 5 from h.2) (by decide), fun _ q hq => h1 q hq⟩
theorem eq_sd {a b : Addr} {o : Option (List Nat × List Nat)} (h1 : H a = some (.lst (sdV o))) (h2 : H b = some (.lst [])) (asc : ∀ p, o = some p → Asc p.1 ∧ Asc p.2) (q : Q (.bl o.isNone) H) : rEqD K (.ref a) (.ref b) H Q := by
  cases o with
  | none => exact wp_eqNL (ds := []) h1 h2 .nil rfl q
  | some p =>
    obtain ⟨k1, k2⟩ := asc p rfl
    exact wp_eqNL (ds := nD [p.1, p.2]) h1 h2 (dp_names [p.1, p.2]) (sh_names fun l hl => by
      rcases List.mem_cons.mp hl with rfl | hl
      · exact k1
      · rw [List.mem_singleton.mp hl]; exact k2) q
end
theorem sd_asc {rs : List Row} (asc : ∀ r ∈ rs, AscR r) {s : Int × Int} {p : List Nat × List Nat} (h : sd rs s = some p) : Asc p.1 ∧ Asc p.2 := by
  obtain ⟨a, b⟩ := p
  obtain ⟨i, r, _, er, hd⟩ := sd_row h
  have k := asc r (List.mem_of_getElem? er)
  rcases hd with ⟨_, rfl, rfl⟩ | ⟨_, rfl, rfl⟩
  · exact ⟨k.u, k.v⟩
  · exact ⟨k.v, k.u⟩
theorem sd_out {rs : List Row} {s : Int × Int} (h : s.1 < 0 ∨ (rs.length : Int) ≤ s.1) : sd rs s = none := by
  unfold sd
  split
  · rw [List.getElem?_eq_none (by omega)]
  · rfl
theorem sd_dir {rs : List Row} {s : Int × Int} (h1 : s.2 ≠ 1) (h2 : s.2 ≠ -1) : sd rs s = none := by
  cases e : sd rs s with
  | none => rfl
  | some p =>
    obtain ⟨_, _, _, _, hd⟩ := sd_row (a := p.1) (b := p.2) e
    rcases hd with ⟨z, _⟩ | ⟨z, _⟩
    · exact absurd z h1
    · exact absurd z h2
theorem wp_ixV {K : PySem.W.Frag} {H : Hp} {Q : VK} {a : Addr} {k : Int} {xs : List V} {x : V} (hx : SqL K H a xs) (h0 : 0 ≤ k) (e : xs[k.toNat]? = some x) (q : Q x H) : rIxL K (.ref a) (.int k) H Q := by
  obtain ⟨j, rfl⟩ : ∃ j : Nat, k = j := ⟨k.toNat, by omega⟩
  exact wp_ixL hx (at_nth e) q
theorem at_lastW {α : Type} {xs : List α} (h : 0 < xs.length) : atI xs (-1) = xs[xs.length - 1]? := by
  unfold atI ixN
  rw [if_neg (by omega), if_pos (by omega), show (-1 + (xs.length : Int)).toNat = xs.length - 1 by omega]
  rfl
end RM
namespace RM
open PySem PySem.Spec PyProof.Rows L2
/-! ### try: body except X: suite, no name -/
def tTryO (K : PySem.W.Frag) (c : Value) (tb : WX → TS) (ts : Sui) : TS := fun D σ H => tb (wOnly K c ts (fun _ _ _ _ => False) D) D σ H
theorem tk_no {X : Cx} : Takes X (fun _ _ _ _ => False) := fun _ _ h => by
  obtain ⟨_, _, _, _, _, _, _, _, _, _, _, _, _, _, _, _, w⟩ := h
  exact w.elim
theorem ps_tryO {X : Cx} {x : Str} {c : Value} {body suite : List Stmt} {b₀ : Stmt} {np pos pos' : Pos} {tb : WX → TS} {ts : Sui} (stk : X.stack = X.env :: X.outer) (frm : X.env.frame = some X.env.locals) (nm : Names X x c)
    (hb : ∀ (W : WX) (pn : List (Addr × Obj)) (xe : Value → Shared → Prop), Takes (X.tr pn xe) W → PassesOwn (model X.prog X.w) X.A X.env xe → PSs (X.tr pn xe) body (tb W))
    (su : ∀ (a : Addr) (oe : Obj) (cls : Value) (d : Option Addr) (pn : List (Addr × Obj)), Zc cls d oe → (∃ vs, oe.data = .fields vs) → PSs (X.suite a ((a, oe) :: pn)) (b₀ :: suite) (ts a cls d)) :
    PS X (.Try body [.ExceptHandler (some (.Name x np)) none (b₀ :: suite) pos'] [] [] pos) (tTryO X.K c tb ts) := ps_try_only stk frm nm tk_no hb su
section
variable {K : PySem.W.Frag} {c : Value} {tb : WX → TS} {ts : Sui} {D : Ends} {σ : L2.St} {H : Hp} {cls : Value} {d : Option Addr} {W : WX}
theorem wp_notN {x : V} {Q : VK} (h : Q (.bl (!decide (x = .non))) H) : rNotN x .non H Q := ⟨rfl, h⟩
theorem wp_tryO (h : tb (wOnly K c ts (fun _ _ _ _ => False) D) D σ H) : tTryO K c tb ts D σ H := h
theorem wO_yes (h : PySem.W.exmOne K cls c = some true) (k : ∀ a, H a = none → ts a cls d D σ H) : wOnly K c ts W D cls d σ H := ⟨true, h, fun _ => k, fun z => nomatch z⟩
end
end RM
namespace RM
open PySem PySem.Spec PyProof.Rows L2
/-! ### what is due for a timetable of a net -/
/-- the row is kept by the minutes m -/
def isK (T : Int) (m : List Nat → Int) (r : Row) : Bool := decide (r.lo + (m r.v - m r.u - r.lo) % T ≤ r.hi)
theorem mul_le_neg {T q : Int} (hT : 0 < T) (h : q < 0) : T * q ≤ -T := by
  have z := Int.mul_le_mul_of_nonneg_left (show q ≤ -1 by omega) (show 0 ≤ T by omega)
  rw [Int.mul_neg, Int.mul_one] at z
  exact z
def eW (l : List Nat) : Er := eS "WrongNames" l
def eB (n : Int) : Er := ⟨"BrokenSpan", [("number", .int n)]⟩
def cIn (ms : List (List Nat)) (l : List Nat) : Option Er := if l ∈ ms then none else some (eW l)
def brk (T : Int) (m : List Nat → Int) : Nat → List Row → Option Er
  | _, [] => none
  | i, r :: rs => if isK T m r = true then brk T m (i + 1) rs else some (eB i)
/-- what is due for a timetable of round length T', names ms, minutes m -/
def cKept (T : Int) (ns : List (List Nat)) (rs : List Row) (T' : Int) (ms : List (List Nat)) (m : List Nat → Int) : Option Er :=
  if T' ≠ T then some (eN T') else (cFold (cIn ms) ns).or ((cFold (cIn ns) ms).or (brk T m 0 rs))
theorem cIn_none {ns ms : List (List Nat)} (h : cFold (cIn ms) ns = none) : ∀ l ∈ ns, l ∈ ms := fun l hl => by
  have z := cFold_all h l hl
  unfold cIn at z
  split at z
  · assumption
  · cases z
theorem brk_none {T : Int} {m : List Nat → Int} : ∀ {rs : List Row} {i : Nat}, (∀ r ∈ rs, isK T m r = true) → brk T m i rs = none
  | [], _, _ => rfl
  | r :: rs, i, h => by
    show (if isK T m r = true then brk T m (i + 1) rs else some (eB i)) = none
    rw [if_pos (h r List.mem_cons_self)]
    exact brk_none fun x hx => h x (List.mem_cons_of_mem _ hx)
theorem brk_at {T : Int} {m : List Nat → Int} : ∀ {rs : List Row} {j i : Nat} {r : Row}, rs[j]? = some r → (∀ x ∈ rs.take j, isK T m x = true) → isK T m r = false → brk T m i rs = some (eB ((i + j : Nat) : Int))
  | x :: rs, 0, i, r, h, _, e => by
    cases h
    show (if isK T m x = true then brk T m (i + 1) rs else some (eB i)) = _
    rw [if_neg (by rw [e]; decide)]
    rfl
  | x :: rs, j + 1, i, r, h, n, e => by
    show (if isK T m x = true then brk T m (i + 1) rs else some (eB i)) = _
    rw [if_pos (n x (by simp)), brk_at (j := j) (i := i + 1) h (fun y hy => n y (by rw [List.take_succ_cons]; exact List.mem_cons_of_mem _ hy)) e]
    rw [show i + 1 + j = i + (j + 1) by omega]
def eK (i : Nat) : Er := ⟨"BadWalk", [("at", .int (i : Nat))]⟩
/-- o: the first bad step -/
def FB (rs : List Row) (ws : List (Int × Int)) : Option Nat → Prop
  | none => ∀ i < ws.length, bad rs ws i = false
  | some i => i < ws.length ∧ bad rs ws i = true ∧ ∀ j < i, bad rs ws j = false
theorem fb_ex (rs : List Row) (ws : List (Int × Int)) : ∃ o, FB rs ws o := by
  rcases first_bad (p := bad rs ws) (n := ws.length) with h | ⟨i, h⟩
  · exact ⟨none, h⟩
  · exact ⟨some i, h⟩
theorem FB.at {rs : List Row} {ws : List (Int × Int)} {o : Option Nat} (h : FB rs ws o) {i : Nat} (h1 : i < ws.length) (h2 : bad rs ws i = true) (h3 : ∀ j < i, bad rs ws j = false) : o = some i := by
  cases o with
  | none => rw [h i h1] at h2; cases h2
  | some k =>
    obtain ⟨k1, k2, k3⟩ := h
    rcases Nat.lt_trichotomy i k with c | c | c
    · rw [k3 i c] at h2; cases h2
    · rw [c]
    · rw [h3 k c] at k2; cases k2
theorem FB.good {rs : List Row} {ws : List (Int × Int)} {o : Option Nat} (h : FB rs ws o) (g : ∀ i < ws.length, bad rs ws i = false) : o = none := by
  cases o with
  | none => rfl
  | some k =>
    obtain ⟨h1, h2, _⟩ := h
    rw [g k h1] at h2
    cases h2
/-- the turn of a timetable on a walk: what is due -/
def cTurn (T : Int) (ns : List (List Nat)) (rs : List Row) (T' : Int) (ms : List (List Nat)) (m : List Nat → Int) (o : Option Nat) : Option Er := (cKept T ns rs T' ms m).or (o.map eK)
/-- minutes that pass -/
def gv (T : Int) (m : List Nat → Int) (r : Row) : Int := r.lo + (m r.v - m r.u - r.lo) % T
def gvs (T : Int) (m : List Nat → Int) (rs : List Row) : List Int := rs.map (gv T m)
def stv (fs bs : List Int) (s : Int × Int) : Int := if s.2 = 1 then fs.getD s.1.toNat 0 else bs.getD s.1.toNat 0
def sov (fs bs : List Int) (ws : List (Int × Int)) : Int := (ws.map (stv fs bs)).sum
/-- all steps are there -/
def Stp (n : Nat) (ws : List (Int × Int)) : Prop := ∀ s ∈ ws, 0 ≤ s.1 ∧ s.1 < n ∧ (s.2 = 1 ∨ s.2 = -1)
theorem stp_good {rs : List Row} {ws : List (Int × Int)} (h : ∀ i < ws.length, bad rs ws i = false) : Stp rs.length ws := fun s hs => by
  obtain ⟨i, hi⟩ := List.getElem?_of_mem hs
  obtain ⟨⟨a, b⟩, e⟩ := bad_sd hi (h i (List.getElem?_eq_some_iff.mp hi).1)
  obtain ⟨j, r, e1, er, hd⟩ := sd_row e
  have := (List.getElem?_eq_some_iff.mp er).1
  refine ⟨by omega, by omega, ?_⟩
  rcases hd with ⟨z, _⟩ | ⟨z, _⟩
  · exact .inl z
  · exact .inr z
theorem bad_tail {rs : List Row} {s : Int × Int} {l : List (Int × Int)} {k : Nat} : bad rs (s :: l) (k + 2) = bad rs l (k + 1) := by
  unfold bad
  simp
/-- where a good walk begins and ends -/
def EndsOf (rs : List Row) (ws : List (Int × Int)) (a b : List Nat) : Prop := ∃ s t c d, ws[0]? = some s ∧ sd rs s = some (a, c) ∧ ws[ws.length - 1]? = some t ∧ sd rs t = some (d, b)
/-- a walk without a bad step leads from its begin to its end -/
theorem wk_good {rs : List Row} : ∀ {ws : List (Int × Int)} {a b : List Nat}, (∀ i < ws.length, bad rs ws i = false) → EndsOf rs ws a b → Wk rs ws a b
  | [], a, b, _, ⟨s, t, c, d, h1, _⟩ => by cases h1
  | [s], a, b, _, ⟨s', t', c, d, h1, h2, h3, h4⟩ => by
    cases h1
    cases h3
    rw [h2] at h4
    cases h4
    exact Wk.one h2
  | s :: t :: w, a, b, hg, ⟨s', t', c, d, h1, h2, h3, h4⟩ => by
    cases h1
    have g1 : ∀ i < (t :: w).length, bad rs (t :: w) i = false := fun i hi => by
      cases i with
      | zero =>
        obtain ⟨p, e⟩ : ∃ p, sd rs t = some p := bad_sd (i := 1) (ws := s :: t :: w) rfl (hg 1 (by simp))
        exact bad_zero rfl e
      | succ k =>
        rw [← bad_tail (s := s)]
        exact hg (k + 2) (by simp at hi ⊢; omega)
    obtain ⟨⟨x, y⟩, e⟩ : ∃ p, sd rs t = some p := bad_sd (i := 1) (ws := s :: t :: w) rfl (hg 1 (by simp))
    have z := bad_some (i := 1) (ws := s :: t :: w) rfl e (by decide) rfl h2
    rw [hg 1 (by simp)] at z
    have ecx : c = x := by simpa using z
    subst ecx
    refine ⟨c, h2, wk_good g1 ⟨t, t', y, d, rfl, e, ?_, h4⟩⟩
    rw [← h3]
    simp
theorem gv_mod {T : Int} {m : List Nat → Int} {r : Row} : gv T m r % T = (m r.v - m r.u) % T := by
  unfold gv
  rw [Int.add_emod, Int.emod_emod, ← Int.add_emod, show r.lo + (m r.v - m r.u - r.lo) = m r.v - m r.u by omega]
theorem mod_sub0 {T a b : Int} (h : a % T = b % T) : (a - b) % T = 0 := by rw [Int.sub_emod, h, Int.sub_self, Int.zero_emod]
theorem of_mod_sub0 {T a b : Int} (h : (a - b) % T = 0) : a % T = b % T := (Int.emod_eq_emod_iff_emod_sub_eq_zero).mpr h
/-- the turn on a walk: the minutes between its ends, up to whole rounds -/
theorem sov_mod {T : Int} {m : List Nat → Int} {rs : List Row} : ∀ {ws : List (Int × Int)} {a b : List Nat}, Wk rs ws a b → (sov (gvs T m rs) ((gvs T m rs).map fun i => -i) ws - (m b - m a)) % T = 0
  | [], a, b, h => by
    cases h
    show (0 - (m a - m a)) % T = 0
    rw [Int.sub_self, Int.sub_self, Int.zero_emod]
  | s :: w, a, b, ⟨c, h1, h2⟩ => by
    have ih := sov_mod (T := T) (m := m) h2
    obtain ⟨i, r, e1, er, hd⟩ := sd_row h1
    have eg : (gvs T m rs)[i]? = some (gv T m r) := by unfold gvs; rw [List.getElem?_map, er]; rfl
    have e0 : sov (gvs T m rs) ((gvs T m rs).map fun i => -i) (s :: w) = stv (gvs T m rs) ((gvs T m rs).map fun i => -i) s + sov (gvs T m rs) ((gvs T m rs).map fun i => -i) w := rfl
    have e2 : (stv (gvs T m rs) ((gvs T m rs).map fun i => -i) s - (m c - m a)) % T = 0 := by
      unfold stv
      have ei : s.1.toNat = i := by omega
      rcases hd with ⟨z, rfl, rfl⟩ | ⟨z, rfl, rfl⟩
      · rw [if_pos z, ei, List.getD_eq_getElem?_getD, eg]
        exact mod_sub0 gv_mod
      · rw [if_neg (by omega), ei, List.getD_eq_getElem?_getD, List.getElem?_map, eg]
        have q := mod_sub0 (gv_mod (T := T) (m := m) (r := r))
        show (-(gv T m r) - (m r.u - m r.v)) % T = 0
        rw [show -(gv T m r) - (m r.u - m r.v) = -(gv T m r - (m r.v - m r.u)) by omega]
        exact Int.emod_eq_zero_of_dvd (Int.dvd_neg.mpr (Int.dvd_of_emod_eq_zero q))
    rw [e0, show stv (gvs T m rs) ((gvs T m rs).map fun i => -i) s + sov (gvs T m rs) ((gvs T m rs).map fun i => -i) w - (m b - m a) = (stv (gvs T m rs) ((gvs T m rs).map fun i => -i) s - (m c - m a)) + (sov (gvs T m rs) ((gvs T m rs).map fun i => -i) w - (m b - m c)) by omega]
    exact Int.emod_eq_zero_of_dvd (Int.dvd_add (Int.dvd_of_emod_eq_zero e2) (Int.dvd_of_emod_eq_zero ih))
theorem sov_cons {fs bs : List Int} {s : Int × Int} {w : List (Int × Int)} : sov fs bs (s :: w) = stv fs bs s + sov fs bs w := rfl
theorem sov_snoc {fs bs : List Int} {s : Int × Int} {w : List (Int × Int)} : sov fs bs (w ++ [s]) = sov fs bs w + stv fs bs s := by
  unfold sov
  rw [List.map_append, List.sum_append]
  simp
theorem wp_sumW {K : PySem.W.Frag} {H : Hp} {Q : VK} {a : Addr} {is : List Int} (hx : SqL K H a (is.map V.int)) (h : Q (.int is.sum) H) : rSum K [.ref a] H Q := ⟨a, is, rfl, hx, h⟩
theorem Sees.putO {P : Pl} {G H : Hp} {D : Addr} (o : HO) (s : Sees P G H) (hl : D ≠ P.l) (nD : D ≠ P.p) : Sees P (upd G D o) (upd H D o) := by
  obtain ⟨n, c, e⟩ := s.pool
  refine ⟨⟨n, c, by rw [upd_ne nD.symm]; exact e⟩, by rw [upd_ne hl.symm]; exact s.cell, s.few, by rw [upd_ne nD.symm]; exact s.free, fun x u h => ?_⟩
  by_cases ea : x = D
  · subst ea
    rw [upd_same] at h ⊢
    exact h
  · rw [upd_ne ea] at h ⊢
    exact s.sub _ _ h
theorem put_stepK {fm : (List Nat → Int) × List (List Nat)} {l : List Nat} {v : Int} (nd : fm.2.Nodup) : putK (mD fm.1 fm.2) (.inr (S l)) (.int v) = mD (stepD fm (l, v)).1 (stepD fm (l, v)).2 := by
  unfold stepD
  by_cases e : l ∈ fm.2
  · simp only [e, if_true]
    rw [putK_old nd e]
  · simp only [e, if_false]
    have z : mD fm.1 fm.2 = mD (fun x => if x = l then v else fm.1 x) fm.2 := mD_congr fun x hx => by rw [if_neg (fun h => e (by rw [← h]; exact hx))]
    rw [z]
    have z2 := dN_put (f := fun x => V.int (if x = l then v else fm.1 x)) (l := l) (ns := fm.2) e
    simp only [if_true] at z2
    unfold mD
    rw [z2]
/-- rows (name, minute) -/
def RwO (G : Hp) (x : V) : Prop := ∃ p l i, x = .ref p ∧ G p = some (.tup [sv l, .int i]) ∧ Nm l
theorem RwO.mono {G G' : Hp} (e : Same G G') {x : V} (h : RwO G x) : RwO G' x := by
  obtain ⟨p, l, i, h1, h2, h3⟩ := h
  exact ⟨p, l, i, h1, e _ _ h2, h3⟩
theorem RwO.updL {G : Hp} {L : Addr} {ys : List V} {o : HO} (hL : G L = some (.lst ys)) {x : V} (h : RwO G x) : RwO (upd G L o) x := by
  obtain ⟨p, l, i, h1, h2, h3⟩ := h
  exact ⟨p, l, i, h1, by rw [upd_ne (fun e => by rw [e, hL] at h2; cases h2)]; exact h2, h3⟩
theorem RwO.updD {G : Hp} {L : Addr} {ys : List (Key × V)} {o : HO} (hL : G L = some (.dK ys)) {x : V} (h : RwO G x) : RwO (upd G L o) x := by
  obtain ⟨p, l, i, h1, h2, h3⟩ := h
  exact ⟨p, l, i, h1, by rw [upd_ne (fun e => by rw [e, hL] at h2; cases h2)]; exact h2, h3⟩
theorem pas_gvs {T : Int} {m : List Nat → Int} {rs : List Row} (h : ∀ r ∈ rs, isK T m r = true) : rs.map (pas T m) = (gvs T m rs).map V.int := by
  unfold gvs
  rw [List.map_map]
  exact List.map_congr_left fun r hr => if_pos (of_decide_eq_true (h r hr))
theorem wp_neNL {K : PySem.W.Frag} {H : Hp} {Q : VK} {a b : Addr} {xs : List V} {ds : List PyData} (h1 : H a = some (.lst xs)) (h2 : H b = some (.lst [])) (hd : DpAll K H xs ds) (sh : SeqAt.shaped (.list ds) = true) (q : Q (.bl (!decide (ds = []))) H) : rNeD K (.ref a) (.ref b) H Q := by
  refine ⟨.list ds, .list [], .lst (sq_of h1) hd, .lst (sq_of h2) .nil, sh, rfl, ?_⟩
  show Q (.bl (!PyData.eqvAll ds [])) H
  cases ds with
  | nil => exact q
  | cons d r => exact q
end RM
namespace RM
open PySem PySem.Spec PyProof.Rows L2
/-! ### forests: the tree of a net, simple walks along it -/
/-- the tree spans among the first k: those that the tree spans before them do not join -/
inductive TreeTo (rs : List Row) : Nat → List Nat → Prop
  | zero : TreeTo rs 0 []
  | skip {k : Nat} {ts : List Nat} {r : Row} (h : TreeTo rs k ts) (e : rs[k]? = some r) (c : Conn rs ts r.u r.v) : TreeTo rs (k + 1) ts
  | take {k : Nat} {ts : List Nat} {r : Row} (h : TreeTo rs k ts) (e : rs[k]? = some r) (c : ¬ Conn rs ts r.u r.v) : TreeTo rs (k + 1) (ts ++ [k])
theorem TreeTo.uniq {rs : List Row} {k : Nat} {ts : List Nat} (h : TreeTo rs k ts) : ∀ {us : List Nat}, TreeTo rs k us → ts = us := by
  induction h with
  | zero => intro us h2; cases h2; rfl
  | skip h e c ih =>
    intro us h2
    cases h2 with
    | skip h2 e2 c2 => exact ih h2
    | take h2 e2 c2 =>
      rw [ih h2] at c
      rw [e] at e2
      cases e2
      exact absurd c c2
  | take h e c ih =>
    intro us h2
    cases h2 with
    | skip h2 e2 c2 =>
      rw [ih h2] at c
      rw [e] at e2
      cases e2
      exact absurd c2 c
    | take h2 e2 c2 => rw [ih h2]
theorem TreeTo.lt {rs : List Row} {k : Nat} {ts : List Nat} (h : TreeTo rs k ts) : ∀ i ∈ ts, i < k := by
  induction h with
  | zero => simp
  | skip h e c ih => exact fun i hi => Nat.lt_succ_of_lt (ih i hi)
  | take h e c ih =>
    intro i hi
    rcases List.mem_append.mp hi with hi | hi
    · exact Nat.lt_succ_of_lt (ih i hi)
    · rw [List.mem_singleton.mp hi]; omega
theorem TreeTo.len {rs : List Row} {k : Nat} {ts : List Nat} (h : TreeTo rs k ts) : ts.length ≤ k := by
  induction h with
  | zero => exact Nat.le_refl _
  | skip h e c ih => omega
  | take h e c ih => rw [List.length_append]; simp; omega
def endS (rs : List Row) (s : Int × Int) : List Nat := match sd rs s with
  | none => []
  | some p => p.2
theorem endS_of {rs : List Row} {s : Int × Int} {a b : List Nat} (h : sd rs s = some (a, b)) : endS rs s = b := by unfold endS; rw [h]
/-- the events on a walk -/
def vv (rs : List Row) : List (Int × Int) → List Nat → List (List Nat)
  | [], a => [a]
  | s :: w, a => a :: vv rs w (endS rs s)
theorem vv_app {rs : List Row} {s : Int × Int} {q : List (Int × Int)} : ∀ {p : List (Int × Int)} {a x y : List Nat}, Wk rs p a x → sd rs s = some (x, y) → vv rs (p ++ s :: q) a = vv rs p a ++ vv rs q y
  | [], a, x, y, h, e => by
    cases h
    show a :: vv rs q (endS rs s) = _
    rw [endS_of e]
    rfl
  | t :: p, a, x, y, ⟨c, h1, h2⟩, e => by
    show a :: vv rs (p ++ s :: q) (endS rs t) = a :: vv rs p (endS rs t) ++ vv rs q y
    rw [endS_of h1, vv_app h2 e]
    rfl
theorem vv_last {rs : List Row} : ∀ {p : List (Int × Int)} {a x : List Nat}, Wk rs p a x → x ∈ vv rs p a
  | [], a, x, h => by cases h; exact List.mem_singleton.mpr rfl
  | t :: p, a, x, ⟨c, h1, h2⟩ => by
    show x ∈ a :: vv rs p (endS rs t)
    rw [endS_of h1]
    exact List.mem_cons_of_mem _ (vv_last h2)
theorem vv_first {rs : List Row} {p : List (Int × Int)} {a : List Nat} : a ∈ vv rs p a := by cases p <;> exact List.mem_cons_self
theorem vv_edge {rs : List Row} : ∀ {p : List (Int × Int)} {a x : List Nat} {s : Int × Int} {c d : List Nat}, Wk rs p a x → s ∈ p → sd rs s = some (c, d) → c ∈ vv rs p a ∧ d ∈ vv rs p a
  | t :: p, a, x, s, c, d, ⟨b, h1, h2⟩, hs, e => by
    show c ∈ a :: vv rs p (endS rs t) ∧ d ∈ a :: vv rs p (endS rs t)
    rw [endS_of h1]
    rcases List.mem_cons.mp hs with rfl | hs
    · rw [h1] at e
      cases e
      exact ⟨List.mem_cons_self, List.mem_cons_of_mem _ vv_first⟩
    · have z := vv_edge h2 hs e
      exact ⟨List.mem_cons_of_mem _ z.1, List.mem_cons_of_mem _ z.2⟩
/-- the steps go over these spans -/
def Over (ts : List Nat) (w : List (Int × Int)) : Prop := ∀ s ∈ w, ∃ i ∈ ts, s.1 = (i : Nat)
theorem conn_wk {rs : List Row} {ts : List Nat} : ∀ {w : List (Int × Int)} {a b : List Nat}, Wk rs w a b → Over ts w → Conn rs ts a b
  | [], a, b, h, _ => by cases h; exact .refl
  | s :: w, a, b, ⟨c, h1, h2⟩, o => by
    obtain ⟨i, hi, ei⟩ := o s List.mem_cons_self
    obtain ⟨j, r, ej, er, hd⟩ := sd_row h1
    obtain rfl : i = j := by omega
    have z := conn_wk h2 fun t ht => o t (List.mem_cons_of_mem _ ht)
    rcases hd with ⟨_, rfl, rfl⟩ | ⟨_, rfl, rfl⟩
    · exact (Conn.fwd hi er .refl).trans z
    · exact (Conn.bwd hi er .refl).trans z
theorem over_split {ts : List Nat} {k : Nat} : ∀ {w : List (Int × Int)}, Over (ts ++ [k]) w → Over ts w ∨ ∃ (p : List (Int × Int)) (s : Int × Int) (q : List (Int × Int)), w = p ++ s :: q ∧ Over ts p ∧ s.1 = (k : Nat)
  | [], _ => .inl fun s hs => nomatch hs
  | s :: w, o => by
    obtain ⟨i, hi, ei⟩ := o s List.mem_cons_self
    by_cases c : s.1 = (k : Nat)
    · exact .inr ⟨[], s, w, rfl, (fun t ht => nomatch ht), c⟩
    · have hi2 : i ∈ ts := (List.mem_append.mp hi).resolve_right fun z => c (by rw [ei, List.mem_singleton.mp z])
      rcases over_split fun t ht => o t (List.mem_cons_of_mem _ ht) with h | ⟨p, t, q, e, h1, h2⟩
      · refine .inl fun t ht => ?_
        rcases List.mem_cons.mp ht with rfl | ht
        · exact ⟨i, hi2, ei⟩
        · exact h t ht
      · refine .inr ⟨s :: p, t, q, by rw [e]; rfl, fun u hu => ?_, h2⟩
        rcases List.mem_cons.mp hu with rfl | hu
        · exact ⟨i, hi2, ei⟩
        · exact h1 u hu
theorem wk_split {rs : List Row} {s : Int × Int} {q : List (Int × Int)} : ∀ {p : List (Int × Int)} {a b : List Nat}, Wk rs (p ++ s :: q) a b → ∃ x y, Wk rs p a x ∧ sd rs s = some (x, y) ∧ Wk rs q y b
  | [], a, b, ⟨c, h1, h2⟩ => ⟨a, c, rfl, h1, h2⟩
  | t :: p, a, b, ⟨c, h1, h2⟩ => by
    obtain ⟨x, y, k1, k2, k3⟩ := wk_split h2
    exact ⟨x, y, ⟨c, h1, k1⟩, k2, k3⟩
/-- a simple walk over ts and k: k is passed at most once -/
theorem once {rs : List Row} {ts : List Nat} {k : Nat} {w : List (Int × Int)} {a b : List Nat} {r : Row} (er : rs[k]? = some r) (h : Wk rs w a b) (o : Over (ts ++ [k]) w) (nd : (vv rs w a).Nodup) :
    Over ts w ∨ ∃ (p : List (Int × Int)) (s : Int × Int) (q : List (Int × Int)) (x y : List Nat), w = p ++ s :: q ∧ Over ts p ∧ Over ts q ∧ Wk rs p a x ∧ Wk rs q y b ∧ sd rs s = some (x, y) ∧ s.1 = (k : Nat) ∧ (vv rs p a).Nodup ∧ (vv rs q y).Nodup ∧ ((s.2 = 1 ∧ x = r.u ∧ y = r.v) ∨ (s.2 = -1 ∧ x = r.v ∧ y = r.u)) := by
  rcases over_split o with h1 | ⟨p, s, q, rfl, op, es⟩
  · exact .inl h1
  · obtain ⟨x, y, k1, k2, k3⟩ := wk_split h
    rw [vv_app k1 k2] at nd
    obtain ⟨n1, n2, n3⟩ := List.nodup_append.mp nd
    obtain ⟨j, r2, ej, er2, hd⟩ := sd_row k2
    obtain rfl : k = j := by omega
    rw [er] at er2
    cases er2
    have oq : Over (ts ++ [k]) q := fun t ht => o t (List.mem_append_right _ (List.mem_cons_of_mem _ ht))
    refine .inr ⟨p, s, q, x, y, rfl, op, fun t ht => ?_, k1, k3, k2, es, n1, n2, hd⟩
    obtain ⟨i, hi, ei⟩ := oq t ht
    rcases List.mem_append.mp hi with hi | hi
    · exact ⟨i, hi, ei⟩
    · exfalso
      have ek : i = k := List.mem_singleton.mp hi
      subst ek
      obtain ⟨p2, q2, e2⟩ := List.append_of_mem ht
      rw [e2] at k3
      obtain ⟨x2, y2, _, kt, _⟩ := wk_split k3
      obtain ⟨j2, r3, ej2, er3, hd2⟩ := sd_row kt
      obtain rfl : i = j2 := by omega
      rw [er] at er3
      cases er3
      have hx : x = x2 ∨ x = y2 := by
        rcases hd with ⟨_, rfl, rfl⟩ | ⟨_, rfl, rfl⟩ <;> rcases hd2 with ⟨_, rfl, rfl⟩ | ⟨_, rfl, rfl⟩ <;> simp
      rw [← e2] at k3
      have z := vv_edge k3 ht kt
      have mx : x ∈ vv rs q y := by
        rcases hx with hx | hx
        · rw [hx]; exact z.1
        · rw [hx]; exact z.2
      exact n3 x (vv_last k1) x mx rfl
theorem forest_uniq {rs : List Row} {k : Nat} {ts : List Nat} (h : TreeTo rs k ts) : ∀ {w w2 : List (Int × Int)} {a b : List Nat}, Wk rs w a b → Wk rs w2 a b → Over ts w → Over ts w2 → (vv rs w a).Nodup → (vv rs w2 a).Nodup → w = w2 := by
  induction h with
  | zero =>
    intro w w2 a b _ _ o o2 _ _
    have nil : ∀ {w : List (Int × Int)}, Over [] w → w = [] := fun {w} o => by
      cases w with
      | nil => rfl
      | cons s w =>
        obtain ⟨i, hi, _⟩ := o s List.mem_cons_self
        cases hi
    rw [nil o, nil o2]
  | skip h e c ih => exact ih
  | @take k ts r h e c ih =>
    intro w w2 a b h1 h2 o o2 n1 n2
    have bad : ∀ {p q : List (Int × Int)} {x y : List Nat}, Wk rs p a x → Over ts p → Wk rs q y b → Over ts q → ((x = r.u ∧ y = r.v) ∨ (x = r.v ∧ y = r.u)) → ¬ Conn rs ts a b := fun {p q x y} kp op kq oq hd z => by
      have xy : Conn rs ts x y := ((conn_wk kp op).symm.trans z).trans (conn_wk kq oq).symm
      rcases hd with ⟨rfl, rfl⟩ | ⟨rfl, rfl⟩
      · exact c xy
      · exact c xy.symm
    have une : r.u ≠ r.v := fun z => c (by rw [z]; exact .refl)
    rcases once e h1 o n1 with ow | ⟨p, s, q, x, y, rfl, op, oq, kp, kq, es, ek, np, nq, hd⟩
    · rcases once e h2 o2 n2 with ow2 | ⟨p2, s2, q2, x2, y2, rfl, op2, oq2, kp2, kq2, es2, ek2, np2, nq2, hd2⟩
      · exact ih h1 h2 ow ow2 n1 n2
      · exact absurd (conn_wk h1 ow) (bad kp2 op2 kq2 oq2 (hd2.imp (fun z => z.2) fun z => z.2))
    · rcases once e h2 o2 n2 with ow2 | ⟨p2, s2, q2, x2, y2, rfl, op2, oq2, kp2, kq2, es2, ek2, np2, nq2, hd2⟩
      · exact absurd (conn_wk h2 ow2) (bad kp op kq oq (hd.imp (fun z => z.2) fun z => z.2))
      · have xx : Conn rs ts x x2 := (conn_wk kp op).symm.trans (conn_wk kp2 op2)
        obtain ⟨s1', d1⟩ := s
        obtain ⟨s2', d2⟩ := s2
        have ek : s1' = (k : Nat) := ek
        have ek2 : s2' = (k : Nat) := ek2
        subst ek ek2
        rcases hd with ⟨q1, rfl, rfl⟩ | ⟨q1, rfl, rfl⟩ <;> rcases hd2 with ⟨q3, rfl, rfl⟩ | ⟨q3, rfl, rfl⟩
        · rw [ih kp kp2 op op2 np np2, ih kq kq2 oq oq2 nq nq2, show d1 = d2 from q1.trans q3.symm]
        · exact absurd xx c
        · exact absurd xx.symm c
        · rw [ih kp kp2 op op2 np np2, ih kq kq2 oq oq2 nq nq2, show d1 = d2 from q1.trans q3.symm]
end RM
namespace RM
open PySem PySem.Spec PyProof.Rows L2
/-! ### x not in a list, a dict or an own object; list * int -/
def rNotInY (K : PySem.W.Frag) (C : Addr) (sp : Sp) : R2 := fun x y H Q => rNotInX K x y H Q ∨ rInOwn C sp true x y H Q
theorem op_notInY {X : Cx} {n : Nat} {C : Addr} {sp : Sp} (hu : X.A.units + 1 < cLine) (S : Spc X.prog X.w X.K X.mg X.base n C "__contains__" sp) (hr : Room n X.A) : OpR X (compareOp .NotIn) (rNotInY X.K C sp) := by
  intro pins s σ H x y v u Q I rx ry h
  rcases h with h | h
  · exact op_notInX hu pins s σ H x y v u Q I rx ry h
  · exact op_notInOwn S hr pins s σ H x y v u Q I rx ry h
/-- o.m(..) inside a try, a method that may raise -/
def tMethXS (C : Addr) (m : Str) (sp : Sp) (E : L2.St → XK) (ta : TE) (t : TA) : TE := fun σ H Q => ta σ H fun x H1 => ∃ a dx fs, x = .ref a ∧ H1 a = some (.ins C dx fs) ∧ fs.lookup m = none ∧ t σ H1 fun vs H2 => sp (x :: vs) H2 Q (E σ)
theorem pe_mtXS {X : Cx} {k j : Nat} {C : Addr} {m : Str} {sp : Sp} {apos pos : Pos} {e o : Expr} {es : List Expr} {ta : TE} {t : TA} {W : WX} {pl : Sem Bool} (c : MetX X.prog X.w X.K X.mg X.base k C m sp []) (hr : Room j X.A) (hk : k ≤ j) (tk : Takes X W) (he : PE X o ta) (ha : PA X (e :: es) t)
    (hst : NoStar X pos e es := by exact ⟨rfl, rfl⟩) (ht : MC X o m apos pos (e :: es) [] pl := by exact rfl) : PE X (.Call (.Attribute o m apos) (e :: es) [] pos) (tMethXS C m sp (WE W) ta t) := by
  obtain ⟨f, fd, ps, ds, hc, hm, F, b, d⟩ := c.ex
  cases d
  refine ⟨fun pins s σ H Q I h => PySem.W.methodCall_KW (pl := pl) (thn (he.run pins s σ H _ I h) fun u s1 hu => ?_) ht⟩
  obtain ⟨x, H1, I1, rx, a, dx, fs, rfl, ea, l, q⟩ := hu
  cases rx
  refine getmeth_ok I1 ea hc hm l (PySem.W.callWith_K (first := [.ref a]) (h₀ := X.base) I.ok.mod.kin hm.kp (thn (ha.run pos pins s1 σ H1 _ I1 q) fun us s2 hu => ?_) hst.1 hst.2)
  obtain ⟨vs, H2, I2, r, q2⟩ := hu
  exact ⟨I2.kIn, run_fnS (E := WE W) (us := .ref a :: us) (vs := .ref a :: vs) F (hr.mono hk) b (passAt tk σ) I2 (.cons rfl r) q2⟩
section
variable {K : PySem.W.Frag} {H : Hp} {Q : VK} {C : Addr} {sp : Sp}
theorem wp_metXS {m : Str} {E : L2.St → XK} {ta : TE} {t : TA} {σ : L2.St} (h : ta σ H fun x H1 => ∃ a dx fs, x = .ref a ∧ H1 a = some (.ins C dx fs) ∧ fs.lookup m = none ∧ t σ H1 fun vs H2 => sp (x :: vs) H2 Q (E σ)) : tMethXS C m sp E ta t σ H Q := h
theorem metXS_at {m : Str} {E : XK} {t : TA} {σ : L2.St} {a dx : Addr} {fs : List (Str × V)} (ha : H a = some (.ins C dx fs)) (hl : fs.lookup m = none) (q : t σ H fun vs H2 => sp (.ref a :: vs) H2 Q E) : ∃ a' dx fs, V.ref a = .ref a' ∧ H a' = some (.ins C dx fs) ∧ fs.lookup m = none ∧ t σ H fun vs H2 => sp (.ref a :: vs) H2 Q E := ⟨a, dx, fs, rfl, ha, hl, q⟩
theorem wp_notInYL {x y : V} (h : rIn K true x y H Q) : rNotInY K C sp x y H Q := .inl (wp_notInXL h)
theorem wp_notInYD {a : Addr} {kvs : List (Key × V)} {l : List Nat} (hd : Rd H a (.dK kvs)) (h : Q (.bl (!(valV kvs (.inr (S l))).isSome)) H) : rNotInY K C sp (.str (S l)) (.ref a) H Q := .inl (wp_notInXD hd h)
theorem wp_notInYO {x y : V} (h : rInOwn C sp true x y H Q) : rNotInY K C sp x y H Q := .inr h
theorem wp_rep {l : Addr} {k : Int} {x : V} (hl : H l = some (.lst [x])) (k0 : 0 ≤ k) (k1 : k ≤ 1000) (q : ∀ p, H p = none → Q (.ref p) (upd H p (.lst (List.replicate k.toNat x)))) : rRep (.ref l) (.int k) H Q := by
  refine ⟨l, k, [x], rfl, rfl, hl, by omega, by omega, by simp [sizeLine_eq]; omega, ?_⟩
  have e : (List.replicate k.toNat [x]).flatten = List.replicate k.toNat x := by
    generalize k.toNat = n
    induction n with
    | zero => rfl
    | succ n ih => rw [List.replicate_succ, List.flatten_cons, ih, List.replicate_succ]; rfl
  first
    | (rw [e]; exact q)
    | (intro p hp; rw [e]; exact q p hp)
    | exact q
end
/-! ### arcs: (begin, end, cost, step) -/
structure Ar where
  u : List Nat
  v : List Nat
  c : Int
  s : Int × Int
inductive ArF (H0 H : Hp) : List V → List Ar → Prop
  | nil : ArF H0 H [] []
  | cons {x y : Addr} {a : Ar} {xs : List V} {as : List Ar} (f : H0 x = none) (f2 : H0 y = none) (h : H x = some (.tup [sv a.u, sv a.v, .int a.c, .ref y])) (h2 : H y = some (.tup [.int a.s.1, .int a.s.2])) (r : ArF H0 H xs as) : ArF H0 H (.ref x :: xs) (a :: as)
abbrev ArI (H : Hp) : List V → List Ar → Prop := ArF (fun _ => none) H
theorem ArF.map {H0 H K0 K : Hp} (e0 : ∀ a o, H0 a = none → H a = some o → K0 a = none ∧ K a = some o) : ∀ {xs : List V} {ss : List Ar}, ArF H0 H xs ss → ArF K0 K xs ss
  | _, _, .nil => .nil
  | _, _, .cons f f2 h h2 r => .cons (e0 _ _ f h).1 (e0 _ _ f2 h2).1 (e0 _ _ f h).2 (e0 _ _ f2 h2).2 (r.map e0)
theorem ArF.mono {H0 H H' : Hp} (e : Same H H') {xs : List V} {ss : List Ar} (h : ArF H0 H xs ss) : ArF H0 H' xs ss := h.map fun _ _ f k => ⟨f, e _ _ k⟩
theorem ArF.any {H0 H : Hp} {xs : List V} {ss : List Ar} (h : ArF H0 H xs ss) : ArI H xs ss := h.map fun _ _ _ k => ⟨rfl, k⟩
theorem ArF.back {H0 K0 H : Hp} (e : Same K0 H0) {xs : List V} {ss : List Ar} (h : ArF H0 H xs ss) : ArF K0 H xs ss := h.map fun _ _ f k => ⟨e.free f, k⟩
theorem ArF.upd {H0 H : Hp} {L : Addr} {ys : List V} {o : HO} (hL : H L = some (.lst ys)) {xs : List V} {ss : List Ar} : ArF H0 H xs ss → ArF H0 (upd H L o) xs ss := by
  intro h
  induction h with
  | nil => exact .nil
  | cons f f2 h h2 r ih => exact .cons f f2 (by rw [upd_ne (fun e => by rw [e, hL] at h; cases h)]; exact h) (by rw [upd_ne (fun e => by rw [e, hL] at h2; cases h2)]; exact h2) ih
theorem ArF.len {H0 H : Hp} : ∀ {xs : List V} {ss : List Ar}, ArF H0 H xs ss → xs.length = ss.length
  | _, _, .nil => rfl
  | _, _, .cons _ _ _ _ r => by rw [List.length_cons, List.length_cons, r.len]
theorem ArF.at_ {H0 H : Hp} : ∀ {xs : List V} {ss : List Ar} {i : Nat} {v : V}, ArF H0 H xs ss → xs[i]? = some v → ∃ (x y : Addr) (s : Ar), v = .ref x ∧ ss[i]? = some s ∧ H0 x = none ∧ H0 y = none ∧ H x = some (.tup [sv s.u, sv s.v, .int s.c, .ref y]) ∧ H y = some (.tup [.int s.s.1, .int s.s.2])
  | _, _, 0, _, .cons f f2 h h2 _, hv => by cases hv; exact ⟨_, _, _, rfl, rfl, f, f2, h, h2⟩
  | _, _, i + 1, _, .cons _ _ _ _ r, hv => r.at_ (i := i) (by simpa using hv)
theorem ArF.app {H0 H : Hp} {ys : List V} {ts : List Ar} (k : ArF H0 H ys ts) : ∀ {xs : List V} {ss : List Ar}, ArF H0 H xs ss → ArF H0 H (xs ++ ys) (ss ++ ts)
  | _, _, .nil => k
  | _, _, .cons f f2 h h2 r => .cons f f2 h h2 (ArF.app k r)
/-- the two arcs of a span -/
def ar2 (rs : List Row) (fs bs : List Int) (i : Nat) : List Ar := match rs[i]? with
  | none => []
  | some r => [⟨r.u, r.v, fs.getD i 0, ((i : Nat), 1)⟩, ⟨r.v, r.u, bs.getD i 0, ((i : Nat), -1)⟩]
def arL (rs : List Row) (fs bs : List Int) : Nat → List Ar
  | 0 => []
  | k + 1 => arL rs fs bs k ++ ar2 rs fs bs k
theorem ar2_len {rs : List Row} {fs bs : List Int} {i : Nat} : (ar2 rs fs bs i).length ≤ 2 := by unfold ar2; split <;> simp
theorem arL_len {rs : List Row} {fs bs : List Int} : ∀ k, (arL rs fs bs k).length ≤ 2 * k
  | 0 => Nat.le_refl _
  | k + 1 => by
    have := arL_len (rs := rs) (fs := fs) (bs := bs) k
    have := ar2_len (rs := rs) (fs := fs) (bs := bs) (i := k)
    show (arL rs fs bs k ++ ar2 rs fs bs k).length ≤ _
    rw [List.length_append]; omega
theorem arL_mem {rs : List Row} {fs bs : List Int} {a : Ar} : ∀ {k}, a ∈ arL rs fs bs k ↔ ∃ i, i < k ∧ a ∈ ar2 rs fs bs i
  | 0 => ⟨fun h => (nomatch h), fun ⟨i, h, _⟩ => absurd h (Nat.not_lt_zero _)⟩
  | k + 1 => by
    show a ∈ arL rs fs bs k ++ ar2 rs fs bs k ↔ _
    rw [List.mem_append, arL_mem (k := k)]
    constructor
    · rintro (⟨i, h1, h2⟩ | h)
      · exact ⟨i, by omega, h2⟩
      · exact ⟨k, by omega, h⟩
    · rintro ⟨i, h1, h2⟩
      by_cases c : i = k
      · exact .inr (by rw [← c]; exact h2)
      · exact .inl ⟨i, by omega, h2⟩
theorem ar2_sd {rs : List Row} {fs bs : List Int} {i : Nat} {a : Ar} (h : a ∈ ar2 rs fs bs i) : sd rs a.s = some (a.u, a.v) ∧ a.s.1 = (i : Nat) := by
  unfold ar2 at h
  cases e : rs[i]? with
  | none => rw [e] at h; cases h
  | some r =>
    rw [e] at h
    rcases List.mem_cons.mp h with rfl | h
    · exact ⟨sd_fwd e, rfl⟩
    · rw [List.mem_singleton.mp h]
      exact ⟨sd_bwd e, rfl⟩
end RM
namespace RM
open PySem PySem.Spec PyProof.Rows L2
/-! ### the tree of a net; walks back over a dict of steps -/
section
variable {σ : L2.St} {H : Hp} {Q : VK} {K : PySem.W.Frag} {g : TG} {tt : TT} {tk tv te : TE} {vs : List Nat} {C : Addr} {F : Str}
theorem wp_dcOwnL (h : te σ H fun x H1 => ∃ a dx fs l zs, x = .ref a ∧ H1 a = some (.ins C dx fs) ∧ fs.lookup F = some (.ref l) ∧ SqL K H1 l zs ∧ DcW (Itl K l) g tt tk tv vs σ H1 Q) : tDc (iOwnL K C F te) g tt tk tv vs σ H Q := h
theorem dcOwn {n dx l : Addr} {fs : List (Str × V)} {zs : List V} (h1 : H n = some (.ins C dx fs)) (lk : fs.lookup F = some (.ref l)) (hx : SqL K H l zs) (h : ∃ b, V.ref l = .ref b ∧ (∃ ys, SqL K H b ys) ∧ DcW (Itl K b) g tt tk tv vs σ H Q) :
    ∃ a dx fs l zs, V.ref n = .ref a ∧ H a = some (.ins C dx fs) ∧ fs.lookup F = some (.ref l) ∧ SqL K H l zs ∧ DcW (Itl K l) g tt tk tv vs σ H Q := by
  obtain ⟨b, e, _, w⟩ := h
  cases e
  exact ⟨n, dx, fs, l, zs, rfl, h1, lk, hx, w⟩
end
def iN (ts : List Nat) : List Int := ts.map fun i => ((i : Nat) : Int)
theorem iN_mem {ts : List Nat} {i : Nat} : ((i : Nat) : Int) ∈ iN ts ↔ i ∈ ts := by
  unfold iN
  rw [List.mem_map]
  exact ⟨fun ⟨j, h, e⟩ => by rw [← Int.ofNat.inj e]; exact h, fun h => ⟨i, h, rfl⟩⟩
theorem lead_step {rs : List Row} {ts : List Nat} {f : List Nat → List Nat} {i : Nat} {r : Row} (hf : ∀ x y, f x = f y ↔ Conn rs ts x y) (e : rs[i]? = some r) : ∀ x y, mrg f (r.u, r.v) x = mrg f (r.u, r.v) y ↔ Conn rs (ts ++ [i]) x y := by
  intro x y
  have up : ∀ {a b : List Nat}, Conn rs ts a b → Conn rs (ts ++ [i]) a b := fun h => h.mono fun j hj => List.mem_append_left _ hj
  have mi : i ∈ ts ++ [i] := List.mem_append_right _ (List.mem_singleton.mpr rfl)
  have uv : Conn rs (ts ++ [i]) r.u r.v := .fwd mi e .refl
  constructor
  · intro h
    have ex : ∀ z, mrg f (r.u, r.v) z = if f z = f r.v then f r.u else f z := fun _ => rfl
    rw [ex, ex] at h
    by_cases cx : f x = f r.v <;> by_cases cy : f y = f r.v
    · exact up ((hf _ _).mp (cx.trans cy.symm))
    · rw [if_pos cx, if_neg cy] at h
      exact (up ((hf _ _).mp cx)).trans (uv.symm.trans (up ((hf _ _).mp h)))
    · rw [if_neg cx, if_pos cy] at h
      exact (up ((hf _ _).mp h)).trans (uv.trans (up ((hf _ _).mp cy.symm)))
    · rw [if_neg cx, if_neg cy] at h
      exact up ((hf _ _).mp h)
  · intro h
    have st : ∀ j q, j ∈ ts ++ [i] → rs[j]? = some q → mrg f (r.u, r.v) q.u = mrg f (r.u, r.v) q.v := fun j q hj eq => by
      rcases List.mem_append.mp hj with hj | hj
      · exact mrg_mono ((hf _ _).mpr (.fwd hj eq .refl))
      · rw [List.mem_singleton.mp hj, e] at eq
        cases eq
        exact mrg_eq (e := (r.u, r.v))
    induction h with
    | refl => rfl
    | fwd hj eq _ ih => exact ih.trans (st _ _ hj eq)
    | bwd hj eq _ ih => exact ih.trans (st _ _ hj eq).symm
theorem conn_nil {rs : List Row} {x y : List Nat} : id x = id y ↔ Conn rs [] x y := by
  constructor
  · intro h
    rw [show x = y from h]
    exact .refl
  · intro h
    induction h with
    | refl => rfl
    | fwd h => cases h
    | bwd h => cases h
/-- the steps back from a place to b: P the event before, S the step; none where no way is known -/
inductive Bk (ks : List (List Nat)) (P : List Nat → List Nat) (S : List Nat → Int × Int) (b : List Nat) : Nat → List Nat → Option (List (Int × Int)) → Prop
  | here : Bk ks P S b 0 b (some [])
  | lost {n : List Nat} (h : n ≠ b) (k : n ∉ ks) : Bk ks P S b 0 n none
  | up {n : List Nat} {k : Nat} {o : Option (List (Int × Int))} (h : n ≠ b) (m : n ∈ ks) (r : Bk ks P S b k (P n) o) : Bk ks P S b (k + 1) n (o.map (· ++ [S n]))
/-- the dict of the steps back -/
structure BkD (H : Hp) (d : Addr) (ks : List (List Nat)) (P : List Nat → List Nat) (S : List Nat → Int × Int) (A B : List Nat → Addr) : Prop where
  d : H d = some (.dK (dN (fun n => .ref (A n)) ks))
  a : ∀ n ∈ ks, H (A n) = some (.tup [sv (P n), .ref (B n)])
  b : ∀ n ∈ ks, H (B n) = some (.tup [.int (S n).1, .int (S n).2])
theorem BkD.mono {H H' : Hp} {d : Addr} {ks : List (List Nat)} {P : List Nat → List Nat} {S : List Nat → Int × Int} {A B : List Nat → Addr} (s : Same H H') (h : BkD H d ks P S A B) : BkD H' d ks P S A B := ⟨s _ _ h.d, fun n m => s _ _ (h.a n m), fun n m => s _ _ (h.b n m)⟩
theorem StF.rev {H0 H : Hp} : ∀ {xs : List V} {ss : List (Int × Int)}, StF H0 H xs ss → StF H0 H xs.reverse ss.reverse
  | _, _, .nil => .nil
  | _, _, .cons f h r => by rw [List.reverse_cons, List.reverse_cons]; exact StF.app (.cons f h .nil) r.rev
theorem nodup_len : ∀ {l m : List (List Nat)}, l.Nodup → (∀ x ∈ l, x ∈ m) → l.length ≤ m.length
  | [], _, _, _ => Nat.zero_le _
  | x :: l, m, nd, s => by
    obtain ⟨h1, h2⟩ := List.nodup_cons.mp nd
    have mx := s x List.mem_cons_self
    have z := nodup_len (l := l) (m := m.erase x) h2 fun y hy => (List.mem_erase_of_ne fun e => h1 (by rw [← e]; exact hy)).mpr (s y (List.mem_cons_of_mem _ hy))
    rw [List.length_erase_of_mem mx] at z
    have := List.length_pos_of_mem mx
    simp only [List.length_cons]
    omega
/-- f with v at n -/
def up1 {β : Type} (f : List Nat → β) (n : List Nat) (v : β) : List Nat → β := fun x => if x = n then v else f x
theorem up1_eq {β : Type} {f : List Nat → β} {n : List Nat} {v : β} : up1 f n v n = v := if_pos rfl
theorem up1_ne {β : Type} {f : List Nat → β} {n x : List Nat} {v : β} (h : x ≠ n) : up1 f n v x = f x := if_neg h
theorem up1_mem {β : Type} {f : List Nat → β} {n x : List Nat} {v : β} {ks : List (List Nat)} (h : n ∉ ks) (hx : x ∈ ks) : up1 f n v x = f x := if_neg fun e => h (by rw [← e]; exact hx)
theorem dN_up1 {F : List Nat → V} {n : List Nat} {v : V} {ks : List (List Nat)} (h : n ∉ ks) : putK (dN F ks) (.inr (S n)) v = dN (up1 F n v) (ks ++ [n]) := by
  rw [← dN_put (f := up1 F n v) h, up1_eq]
  exact congrArg (fun z => putK z _ _) (dN_congr fun x hx => (up1_mem h hx).symm)
/-- the events reached from f, each by an arc from one reached before it -/
inductive Grow (as : List Ar) (f : List Nat) (P : List Nat → List Nat) (G : List Nat → Int × Int) : List (List Nat) → Prop
  | nil : Grow as f P G []
  | snoc {ks : List (List Nat)} {n : List Nat} (g : Grow as f P G ks) (m : P n = f ∨ P n ∈ ks) (ne : n ≠ f) (nm : n ∉ ks) (ar : ∃ x ∈ as, x.u = P n ∧ x.v = n ∧ x.s = G n) : Grow as f P G (ks ++ [n])
theorem Grow.congr {as : List Ar} {f : List Nat} {P P' : List Nat → List Nat} {G G' : List Nat → Int × Int} {ks : List (List Nat)} (h : Grow as f P G ks) : (∀ x ∈ ks, P' x = P x ∧ G' x = G x) → Grow as f P' G' ks := by
  induction h with
  | nil => exact fun _ => .nil
  | @snoc ks n g m ne nm ar ih =>
    intro e
    have en := e n (List.mem_append_right _ (List.mem_singleton.mpr rfl))
    obtain ⟨x, hx, e1, e2, e3⟩ := ar
    exact .snoc (ih fun x hx => e x (List.mem_append_left _ hx)) (by rw [en.1]; exact m) ne nm ⟨x, hx, e1.trans en.1.symm, e2, e3.trans en.2.symm⟩
theorem Grow.nd {as : List Ar} {f : List Nat} {P : List Nat → List Nat} {G : List Nat → Int × Int} {ks : List (List Nat)} (h : Grow as f P G ks) : ks.Nodup := by
  induction h with
  | nil => exact .nil
  | snoc g m ne nm ar ih => exact List.nodup_append.mpr ⟨ih, by simp, fun a ha b hb e => by rw [List.mem_singleton.mp hb] at e; exact nm (by rw [← e]; exact ha)⟩
theorem Grow.ff {as : List Ar} {f : List Nat} {P : List Nat → List Nat} {G : List Nat → Int × Int} {ks : List (List Nat)} (h : Grow as f P G ks) : f ∉ ks := by
  induction h with
  | nil => simp
  | snoc g m ne nm ar ih => exact fun z => (List.mem_append.mp z).elim ih fun z => ne (List.mem_singleton.mp z).symm
theorem Grow.arc {as : List Ar} {f : List Nat} {P : List Nat → List Nat} {G : List Nat → Int × Int} {ks : List (List Nat)} (h : Grow as f P G ks) : ∀ n ∈ ks, ∃ x ∈ as, x.v = n := by
  induction h with
  | nil => simp
  | snoc g m ne nm ar ih =>
    intro n hn
    rcases List.mem_append.mp hn with hn | hn
    · exact ih n hn
    · obtain ⟨x, hx, _, e, _⟩ := ar
      exact ⟨x, hx, by rw [List.mem_singleton.mp hn]; exact e⟩
theorem Grow.len {as : List Ar} {f : List Nat} {P : List Nat → List Nat} {G : List Nat → Int × Int} {ks ns : List (List Nat)} (h : Grow as f P G ks) (hin : ∀ x ∈ as, x.v ∈ ns) : ks.length ≤ ns.length :=
  nodup_len h.nd fun n hn => by
    obtain ⟨x, hx, e⟩ := h.arc n hn
    rw [← e]
    exact hin x hx
theorem Grow.add {as : List Ar} {f : List Nat} {P : List Nat → List Nat} {G : List Nat → Int × Int} {ks : List (List Nat)} (h : Grow as f P G ks) {x : Ar} (hx : x ∈ as) (hu : x.u = f ∨ x.u ∈ ks) (n1 : x.v ≠ f) (n2 : x.v ∉ ks) : Grow as f (up1 P x.v x.u) (up1 G x.v x.s) (ks ++ [x.v]) :=
  .snoc (h.congr fun _ hy => ⟨up1_mem n2 hy, up1_mem n2 hy⟩) (by rw [up1_eq]; exact hu) n1 n2 ⟨x, hx, by rw [up1_eq], rfl, by rw [up1_eq]⟩
/-- no way back to an event that is not reached -/
theorem Grow.no {as : List Ar} {f : List Nat} {P : List Nat → List Nat} {G : List Nat → Int × Int} {ks us : List (List Nat)} {b : List Nat} (fu : f ∉ us) (bf : b ≠ f) (bu : b ∉ us) (h : Grow as f P G ks) : (∀ x ∈ ks, x ∈ us) → ∀ n, n = f ∨ n ∈ ks → ∃ m, m ≤ ks.length ∧ Bk us P G b m n none := by
  have base : ∀ k, ∃ m, m ≤ k ∧ Bk us P G b m f none := fun k => ⟨0, Nat.zero_le _, .lost (fun e => bf e.symm) fu⟩
  induction h with
  | nil =>
    intro _ n hn
    rcases hn with rfl | hn
    · exact base _
    · cases hn
  | @snoc ks n g m ne nm ar ih =>
    intro sb l hl
    have sb2 := fun x (hx : x ∈ ks) => sb x (List.mem_append_left _ hx)
    rcases hl with rfl | hl
    · exact base _
    · rcases List.mem_append.mp hl with hl | hl
      · obtain ⟨k, h1, h2⟩ := ih sb2 l (.inr hl)
        exact ⟨k, by rw [List.length_append]; omega, h2⟩
      · rw [List.mem_singleton.mp hl]
        obtain ⟨k, h1, h2⟩ := ih sb2 (P n) m
        have mn := sb n (List.mem_append_right _ (List.mem_singleton.mpr rfl))
        exact ⟨k + 1, by rw [List.length_append]; simp; omega, .up (fun e => bu (by rw [← e]; exact mn)) mn h2⟩
/-- the way back to f -/
theorem Grow.way {rs : List Row} {ts : List Nat} {as : List Ar} {f : List Nat} {P : List Nat → List Nat} {G : List Nat → Int × Int} {ks us : List (List Nat)} (has : ∀ x ∈ as, sd rs x.s = some (x.u, x.v) ∧ ∃ i ∈ ts, x.s.1 = (i : Nat)) (h : Grow as f P G ks) :
    (∀ x ∈ ks, x ∈ us) → ∀ n, n = f ∨ n ∈ ks → ∃ m w, m ≤ ks.length ∧ Bk us P G f m n (some w) ∧ Wk rs w f n ∧ Over ts w ∧ (vv rs w f).Nodup ∧ (∀ z ∈ vv rs w f, z = f ∨ z ∈ ks) ∧ w.length ≤ ks.length := by
  have base : ∀ ks : List (List Nat), ∃ m w, m ≤ ks.length ∧ Bk us P G f m f (some w) ∧ Wk rs w f f ∧ Over ts w ∧ (vv rs w f).Nodup ∧ (∀ z ∈ vv rs w f, z = f ∨ z ∈ ks) ∧ w.length ≤ ks.length := fun ks =>
    ⟨0, [], Nat.zero_le _, .here, rfl, (fun s hs => nomatch hs), by show ([f] : List (List Nat)).Nodup; simp, fun z hz => .inl (List.mem_singleton.mp hz), Nat.zero_le _⟩
  induction h with
  | nil =>
    intro _ n hn
    rcases hn with rfl | hn
    · exact base _
    · cases hn
  | @snoc ks n g m ne nm ar ih =>
    intro sb l hl
    have sb2 := fun x (hx : x ∈ ks) => sb x (List.mem_append_left _ hx)
    rcases hl with rfl | hl
    · exact base _
    · rcases List.mem_append.mp hl with hl | hl
      · obtain ⟨k, w, h1, h2, h3, h4, h5, h6, h7⟩ := ih sb2 l (.inr hl)
        exact ⟨k, w, by rw [List.length_append]; omega, h2, h3, h4, h5, fun z hz => (h6 z hz).imp id fun q => List.mem_append_left _ q, by rw [List.length_append]; omega⟩
      · rw [List.mem_singleton.mp hl]
        obtain ⟨k, w, h1, h2, h3, h4, h5, h6, h7⟩ := ih sb2 (P n) m
        have mn := sb n (List.mem_append_right _ (List.mem_singleton.mpr rfl))
        obtain ⟨x, hx, e1, e2, e3⟩ := ar
        obtain ⟨a1, i, hi, a2⟩ := has x hx
        rw [e1, e2, e3] at a1
        rw [e3] at a2
        have ev : vv rs (w ++ [G n]) f = vv rs w f ++ [n] := vv_app (q := []) h3 a1
        refine ⟨k + 1, w ++ [G n], by rw [List.length_append]; simp; omega, .up ne mn h2, h3.app (Wk.one a1), ?_, ?_, ?_, by rw [List.length_append, List.length_append]; simp; omega⟩
        · intro s hs
          rcases List.mem_append.mp hs with hs | hs
          · exact h4 s hs
          · rw [List.mem_singleton.mp hs]
            exact ⟨i, hi, a2⟩
        · rw [ev]
          exact List.nodup_append.mpr ⟨h5, by simp, fun a ha b hb e => by
            rw [List.mem_singleton.mp hb] at e
            rw [e] at ha
            exact (h6 n ha).elim ne nm⟩
        · rw [ev]
          intro z hz
          rcases List.mem_append.mp hz with hz | hz
          · exact (h6 z hz).imp id fun q => List.mem_append_left _ q
          · exact .inr (List.mem_append_right _ hz)
theorem BkD.updD {H : Hp} {d D : Addr} {ks : List (List Nat)} {P : List Nat → List Nat} {G : List Nat → Int × Int} {A B : List Nat → Addr} {kvs : List (Key × V)} {o : HO} (hD : H D = some (.dK kvs)) (ne : d ≠ D) (h : BkD H d ks P G A B) : BkD (upd H D o) d ks P G A B :=
  ⟨by rw [upd_ne ne]; exact h.d, fun n m => by rw [upd_ne fun e => by have := h.a n m; rw [e, hD] at this; cases this]; exact h.a n m, fun n m => by rw [upd_ne fun e => by have := h.b n m; rw [e, hD] at this; cases this]; exact h.b n m⟩
theorem BkD.add {H : Hp} {d t y : Addr} {ks : List (List Nat)} {P : List Nat → List Nat} {G : List Nat → Int × Int} {A B : List Nat → Addr} {n u : List Nat} {s : Int × Int} (h : BkD H d ks P G A B) (hn : n ∉ ks) (ht : H t = some (.tup [sv u, .ref y])) (hy : H y = some (.tup [.int s.1, .int s.2])) :
    BkD (upd H d (.dK (putK (dN (fun n => .ref (A n)) ks) (.inr (S n)) (.ref t)))) d (ks ++ [n]) (up1 P n u) (up1 G n s) (up1 A n t) (up1 B n y) := by
  have ne : ∀ {x : Addr} {xs : List V}, H x = some (.tup xs) → x ≠ d := fun hx e => by rw [e, h.d] at hx; cases hx
  refine ⟨?_, fun l hl => ?_, fun l hl => ?_⟩
  · rw [upd_same, dN_up1 hn]
    exact congrArg (fun z => some (HO.dK z)) (dN_congr fun x _ => by
      unfold up1
      by_cases c : x = n
      · rw [if_pos c, if_pos c]
      · rw [if_neg c, if_neg c])
  · by_cases c : l = n
    · subst c
      rw [up1_eq, up1_eq, up1_eq, upd_ne (ne ht)]
      exact ht
    · have m : l ∈ ks := (List.mem_append.mp hl).resolve_right fun z => c (List.mem_singleton.mp z)
      rw [up1_ne c, up1_ne c, up1_ne c, upd_ne (ne (h.a l m))]
      exact h.a l m
  · by_cases c : l = n
    · subst c
      rw [up1_eq, up1_eq, upd_ne (ne hy)]
      exact hy
    · have m : l ∈ ks := (List.mem_append.mp hl).resolve_right fun z => c (List.mem_singleton.mp z)
      rw [up1_ne c, up1_ne c, upd_ne (ne (h.b l m))]
      exact h.b l m
theorem TreeTo.clos {rs : List Row} {k : Nat} {ts : List Nat} (h : TreeTo rs k ts) : ∀ {i : Nat} {r : Row}, i < k → i ∉ ts → rs[i]? = some r → Conn rs ts r.u r.v := by
  induction h with
  | zero => intro i r h; exact absurd h (Nat.not_lt_zero _)
  | @skip k ts q h e c ih =>
    intro i r hi hn er
    by_cases ik : i = k
    · subst ik
      rw [e] at er
      cases er
      exact c
    · exact ih (by omega) hn er
  | @take k ts q h e c ih =>
    intro i r hi hn er
    have ik : i ≠ k := fun z => hn (by rw [z]; exact List.mem_append_right _ (List.mem_singleton.mpr rfl))
    exact (ih (by omega) (fun z => hn (List.mem_append_left _ z)) er).mono fun j hj => List.mem_append_left _ hj
end RM
namespace RM
open PySem PySem.Spec PyProof.Rows L2
/-! ### insert of a list; the rings of a base -/
def rInsert : V → List V → Hp → VK → Prop := fun o as H Q => ∃ (p : Addr) (zs : List V) (k : Int) (w : V), o = .ref p ∧ as = [.int k, w] ∧ H p = some (.lst zs) ∧ zs.length < sizeLine ∧ 0 ≤ k ∧ k < 2 ^ 63 ∧ Q .non (upd H p (.lst (zs.take k.toNat ++ [w] ++ zs.drop k.toNat)))
section
variable {X : Cx}
theorem mtInsert : MtR X "list.insert" rInsert := mt_insert
end
theorem wp_insert0 {H : Hp} {Q : VK} {a : Addr} {x : V} {xs : List V} (hx : H a = some (.lst xs)) (hl : xs.length < 100000) (h : Q .non (upd H a (.lst (x :: xs)))) : rInsert (.ref a) [.int 0, x] H Q := ⟨a, xs, 0, x, rfl, rfl, hx, Nat.lt_of_lt_of_le hl (by decide), by omega, by omega, h⟩
/-! what stands besides an object that changes -/
theorem rmv_get {H : Hp} {p a : Addr} {o u : HO} (hp : H p = some u) (h : H a = some o) (ne : o ≠ u) : rmv H p a = some o :=
  (rmv_ne (fun e => by rw [e, hp] at h; exact ne (Option.some.inj h).symm)).trans h
theorem rmv_mono {H H' : Hp} {p : Addr} (s : Same H H') : Same (rmv H p) (rmv H' p) := fun a o h => by
  by_cases e : a = p
  · rw [e, rmv_same] at h; cases h
  · rw [rmv_ne e] at h ⊢; exact s _ _ h
theorem rmv_upd {H : Hp} {p : Addr} {o : HO} : rmv (upd H p o) p = rmv H p := by
  funext a
  by_cases e : a = p
  · rw [e, rmv_same, rmv_same]
  · rw [rmv_ne e, rmv_ne e, upd_ne e]
theorem same_rmv {H H' : Hp} {p : Addr} (s : Same H H') (h : H p = none) : Same H (RM.rmv H' p) := fun a o ha => by
  rw [rmv_ne (ne_of_none ha h)]
  exact s _ _ ha
section
variable {σ : L2.St} {H : Hp} {Q : VK} {K : PySem.W.Frag} {g : TG} {te : TE} {vs : List Nat}
/-- a comprehension that makes new things: all but the list itself stays -/
theorem lcAllL {a : Addr} {xs : List V} (hx : SqL K H a xs) (hn : xs.length ≤ 100000) (I : Nat → List V → Hp → Prop) (h0 : ∀ G, Same H G → I 0 [] G)
    (hs : ∀ i x acc D H2 (R : VK), xs[i]? = some x → Same H (rmv H2 D) → H2 D = some (.lst acc) → I i acc (rmv H2 D) → (∀ y H6, Same H2 H6 → I (i + 1) (acc ++ [y]) (rmv H6 D) → R y H6) → g x (wipe σ vs) H2 fun σ2 H4 => wipe σ2 vs = wipe σ vs ∧ te σ2 H4 R)
    (hq : ∀ D acc H2, H D = none → Same H (rmv H2 D) → H2 D = some (.lst acc) → acc.length ≤ xs.length → I xs.length acc (rmv H2 D) → Q (.ref D) H2) : ∃ b, V.ref a = .ref b ∧ (∃ ys, SqL K H b ys) ∧ LcW (Itl K b) g tYes te vs σ H Q := by
  refine ⟨a, rfl, ⟨xs, hx⟩, ?_⟩
  intro D hD
  refine lc_it (walk_list (xs := xs)) (fun i H2 => ∃ acc, Same H (rmv H2 D) ∧ H2 D = some (.lst acc) ∧ acc.length ≤ i ∧ I i acc (rmv H2 D)) ⟨[], same_rmv (Same.new hD) hD, upd_same, Nat.le_refl _, h0 _ (same_rmv (Same.new hD) hD)⟩ (fun i H2 _ p => ?_) (fun i x H2 H3 hi p y => ?_) (fun H2 p => ?_)
  · obtain ⟨acc, s1, _⟩ := p
    exact Same.seq (s1.trans rmv_sub) hx
  · obtain ⟨e, hi2⟩ := y
    subst e
    obtain ⟨acc, s1, hD2, hl, hI⟩ := p
    exact hs i x acc D _ (fun y H4 => ∃ acc', H4 D = some (.lst acc') ∧ acc'.length < sizeLine ∧ ∃ acc2, Same H (rmv (upd H4 D (.lst (acc' ++ [y]))) D) ∧ upd H4 D (.lst (acc' ++ [y])) D = some (.lst acc2) ∧ acc2.length ≤ i + 1 ∧ I (i + 1) acc2 (rmv (upd H4 D (.lst (acc' ++ [y]))) D)) hi2 s1 hD2 hI
      (fun y H6 t3 hI2 => ⟨acc, t3 _ _ hD2, szlt (by omega), acc ++ [y], by rw [rmv_upd]; exact s1.trans (rmv_mono t3), upd_same, by rw [List.length_append]; simp; omega, by rw [rmv_upd]; exact hI2⟩)
  · obtain ⟨acc, s1, hD2, hl, hI⟩ := p
    exact hq D acc H2 hD s1 hD2 hl hI
end
/-! steps, lists of steps -/
theorem stI_rmv {H : Hp} {p : Addr} {zs : List V} (hp : H p = some (.lst zs)) {xs : List V} {ws : List (Int × Int)} (h : StI H xs ws) : StI (rmv H p) xs ws := by
  induction h with
  | nil => exact .nil
  | cons f h r ih => exact .cons rfl (rmv_get hp h nofun) ih
inductive LsF (H0 H : Hp) : List V → List (List (Int × Int)) → Prop
  | nil : LsF H0 H [] []
  | cons {x : Addr} {xs vs : List V} {W : List (Int × Int)} {Ws : List (List (Int × Int))} (f : H0 x = none) (h : H x = some (.lst xs)) (s : StI H xs W) (r : LsF H0 H vs Ws) : LsF H0 H (.ref x :: vs) (W :: Ws)
abbrev LsI (H : Hp) : List V → List (List (Int × Int)) → Prop := LsF (fun _ => none) H
theorem LsF.mono {H0 H H' : Hp} (e : Same H H') {vs : List V} {Ws : List (List (Int × Int))} (h : LsF H0 H vs Ws) : LsF H0 H' vs Ws := by
  induction h with
  | nil => exact .nil
  | cons f h s r ih => exact .cons f (e _ _ h) (s.mono e) ih
theorem LsF.any {H0 H : Hp} {vs : List V} {Ws : List (List (Int × Int))} (h : LsF H0 H vs Ws) : LsI H vs Ws := by
  induction h with
  | nil => exact .nil
  | cons f h s r ih => exact .cons rfl h s ih
theorem LsF.len {H0 H : Hp} {vs : List V} {Ws : List (List (Int × Int))} (h : LsF H0 H vs Ws) : vs.length = Ws.length := by
  induction h with
  | nil => rfl
  | cons f h s r ih => rw [List.length_cons, List.length_cons, ih]
theorem LsF.snoc {H0 H : Hp} {x : Addr} {xs : List V} {W : List (Int × Int)} (f : H0 x = none) (h : H x = some (.lst xs)) (s : StI H xs W) {vs : List V} {Ws : List (List (Int × Int))} (r : LsF H0 H vs Ws) : LsF H0 H (vs ++ [.ref x]) (Ws ++ [W]) := by
  induction r with
  | nil => exact .cons f h s .nil
  | cons f1 h1 s1 _ ih => exact .cons f1 h1 s1 ih
theorem LsF.at_ {H0 H : Hp} {vs : List V} {Ws : List (List (Int × Int))} (r : LsF H0 H vs Ws) : ∀ {i : Nat} {v : V}, vs[i]? = some v → ∃ x xs W, v = .ref x ∧ Ws[i]? = some W ∧ H0 x = none ∧ H x = some (.lst xs) ∧ StI H xs W := by
  induction r with
  | nil => intro i v h; cases h
  | cons f h s r ih =>
    intro i v e
    cases i with
    | zero => cases e; exact ⟨_, _, _, rfl, rfl, f, h, s⟩
    | succ i => exact ih e
theorem LsF.rmvI {H0 H : Hp} {p : Addr} {o : HO} {zs : List V} (h0 : H0 p = some o) (hp : H p = some (.lst zs)) {vs : List V} {Ws : List (List (Int × Int))} (r : LsF H0 H vs Ws) : LsI (rmv H p) vs Ws := by
  induction r with
  | nil => exact .nil
  | cons f h s r ih => exact .cons rfl (by rw [rmv_ne (fun e => by rw [e, h0] at f; cases f)]; exact h) (stI_rmv hp s) ih
theorem lsF_updI {H0 H : Hp} {x C dx : Addr} {fs : List (Str × V)} {o : HO} (hx : H x = some (.ins C dx fs)) {vs : List V} {Ws : List (List (Int × Int))} (r : LsF H0 H vs Ws) : LsF H0 (upd H x o) vs Ws := by
  induction r with
  | nil => exact .nil
  | cons f h s r ih =>
    refine .cons f (by rw [upd_ne (fun e => by rw [e, hx] at h; cases h)]; exact h) ?_ ih
    clear h r ih
    induction s with
    | nil => exact .nil
    | cons f2 h2 r2 ih2 => exact .cons rfl (by rw [upd_ne (fun e => by rw [e, hx] at h2; cases h2)]; exact h2) ih2
theorem sm_stepL {H : Hp} {n : Nat} {a b : Addr} {xs ys : List V} {ws : List (Int × Int)} (ha : H a = some (.lst xs)) (hb : H b = some (.lst ys)) (h : StI H xs ws) (k : StI H ys ws) (hl : ws.length ≤ 1000) : Sm H (n + 3) (.ref a) (.ref b) := by
  refine .inr ⟨a, b, xs, ys, rfl, rfl, .inl ⟨ha, hb⟩, h.len.trans k.len.symm, by rw [k.len]; exact hl, fun i x y hx hy => ?_⟩
  obtain ⟨x, s, rfl, e1, _, h1⟩ := h.at_ hx
  obtain ⟨y, t, rfl, e2, _, h2⟩ := k.at_ hy
  rw [e1] at e2
  cases e2
  refine .inr ⟨x, y, _, _, rfl, rfl, .inr ⟨h1, h2⟩, rfl, by simp, fun i u v hu hv => ?_⟩
  rw [hu] at hv
  cases hv
  match i, hu with
  | 0, hu => cases hu; exact sm_int
  | 1, hu => cases hu; exact sm_int
theorem sm_walks {H : Hp} {n : Nat} {a b : Addr} {vs us : List V} {Ws : List (List (Int × Int))} (ha : H a = some (.lst vs)) (hb : H b = some (.lst us)) (h : LsI H vs Ws) (k : LsI H us Ws) (hl : Ws.length ≤ 1000) (hw : ∀ W ∈ Ws, W.length ≤ 1000) : Sm H (n + 4) (.ref a) (.ref b) := by
  refine .inr ⟨a, b, vs, us, rfl, rfl, .inl ⟨ha, hb⟩, h.len.trans k.len.symm, by rw [k.len]; exact hl, fun i x y hx hy => ?_⟩
  obtain ⟨x, xs, W, rfl, e1, _, h1, s1⟩ := h.at_ hx
  obtain ⟨y, ys, U, rfl, e2, _, h2, s2⟩ := k.at_ hy
  rw [e1] at e2
  cases e2
  exact sm_stepL h1 h2 s1 s2 (hw _ (List.mem_of_getElem? e1))
/-! the ring of a span beside the tree: the span, then the simple walk back along the tree -/
def Rng (rs : List Row) (ts : List Nat) (i : Nat) (W : List (Int × Int)) : Prop := ∃ (r : Row) (w : List (Int × Int)), W = (((i : Nat) : Int), (1 : Int)) :: w ∧ rs[i]? = some r ∧ Wk rs w r.v r.u ∧ Over ts w ∧ (vv rs w r.v).Nodup
theorem Rng.uniq {rs : List Row} {ts : List Nat} {k i : Nat} {W U : List (Int × Int)} (t : TreeTo rs k ts) (h : Rng rs ts i W) (g : Rng rs ts i U) : W = U := by
  obtain ⟨r, w, rfl, e, h1, h2, h3⟩ := h
  obtain ⟨r2, w2, rfl, e2, g1, g2, g3⟩ := g
  rw [e] at e2
  cases e2
  rw [forest_uniq t h1 g1 h2 g2 h3 g3]
inductive Rngs (rs : List Row) (ts : List Nat) : List Nat → List (List (Int × Int)) → Prop
  | nil : Rngs rs ts [] []
  | cons {i : Nat} {W : List (Int × Int)} {is : List Nat} {Ws : List (List (Int × Int))} (h : Rng rs ts i W) (r : Rngs rs ts is Ws) : Rngs rs ts (i :: is) (W :: Ws)
theorem Rngs.snoc {rs : List Row} {ts : List Nat} {i : Nat} {W : List (Int × Int)} (h : Rng rs ts i W) {is : List Nat} {Ws : List (List (Int × Int))} (r : Rngs rs ts is Ws) : Rngs rs ts (is ++ [i]) (Ws ++ [W]) := by
  induction r with
  | nil => exact .cons h .nil
  | cons h1 _ ih => exact .cons h1 ih
theorem Rngs.uniq {rs : List Row} {ts : List Nat} {k : Nat} (t : TreeTo rs k ts) {is : List Nat} {Ws : List (List (Int × Int))} (h : Rngs rs ts is Ws) : ∀ {Us : List (List (Int × Int))}, Rngs rs ts is Us → Ws = Us := by
  induction h with
  | nil => intro Us g; cases g; rfl
  | cons h _ ih =>
    intro Us g
    cases g with
    | cons g gr => rw [h.uniq t g, ih gr]
theorem Rngs.len {rs : List Row} {ts : List Nat} {is : List Nat} {Ws : List (List (Int × Int))} (h : Rngs rs ts is Ws) : Ws.length = is.length := by
  induction h with
  | nil => rfl
  | cons _ _ ih => rw [List.length_cons, List.length_cons, ih]
theorem Rngs.at_ {rs : List Row} {ts : List Nat} {is : List Nat} {Ws : List (List (Int × Int))} (h : Rngs rs ts is Ws) : ∀ {k : Nat} {W : List (Int × Int)}, Ws[k]? = some W → ∃ i, is[k]? = some i ∧ Rng rs ts i W := by
  induction h with
  | nil => intro k W e; cases e
  | cons h _ ih =>
    intro k W e
    cases k with
    | zero => cases e; exact ⟨_, rfl, h⟩
    | succ k => exact ih e
/-! the closing spans: those beside the tree -/
def clN (ts : List Nat) (n : Nat) : List Nat := (List.range n).filter fun i => decide (i ∉ ts)
theorem clN_succ {ts : List Nat} {n : Nat} : clN ts (n + 1) = clN ts n ++ (if n ∈ ts then [] else [n]) := by
  unfold clN
  rw [List.range_succ, List.filter_append]
  congr 1
  by_cases c : n ∈ ts
  · rw [if_pos c, List.filter_cons_of_neg (by simpa using c)]
    rfl
  · rw [if_neg c, List.filter_cons_of_pos (by simpa using c)]
    rfl
theorem iN_app {a b : List Nat} : (iN (a ++ b)).map V.int = (iN a).map V.int ++ (iN b).map V.int := by unfold iN; rw [List.map_append, List.map_append]
theorem iN_len {a : List Nat} : ((iN a).map V.int).length = a.length := by unfold iN; rw [List.length_map, List.length_map]
theorem clN_len {ts : List Nat} {n : Nat} : (clN ts n).length ≤ n := by
  have := List.length_filter_le (fun i => decide (i ∉ ts)) (List.range n)
  rw [List.length_range] at this
  exact this
/-! rows that join the same events -/
def Eu (rs qs : List Row) : Prop := rs.map (fun r : Row => (r.u, r.v)) = qs.map fun r : Row => (r.u, r.v)
theorem Eu.len {rs qs : List Row} (h : Eu rs qs) : rs.length = qs.length := by
  have := congrArg List.length h
  rwa [List.length_map, List.length_map] at this
theorem Eu.at_ {rs qs : List Row} (h : Eu rs qs) {i : Nat} {r : Row} (e : rs[i]? = some r) : ∃ q, qs[i]? = some q ∧ q.u = r.u ∧ q.v = r.v := by
  have z := congrArg (fun l => l[i]?) h
  simp only [List.getElem?_map, e] at z
  cases c : qs[i]? with
  | none => rw [c] at z; cases z
  | some q =>
    rw [c] at z
    have z := Option.some.inj z
    exact ⟨q, rfl, (congrArg Prod.fst z).symm, (congrArg Prod.snd z).symm⟩
theorem Eu.symm {rs qs : List Row} (h : Eu rs qs) : Eu qs rs := Eq.symm h
theorem Eu.refl {rs : List Row} : Eu rs rs := rfl
theorem Eu.sd {rs qs : List Row} (h : Eu rs qs) (s : Int × Int) : RM.sd rs s = RM.sd qs s := by
  unfold RM.sd
  by_cases c : 0 ≤ s.1
  · rw [if_pos c, if_pos c]
    cases e : rs[s.1.toNat]? with
    | none =>
      cases e2 : qs[s.1.toNat]? with
      | none => rfl
      | some q =>
        obtain ⟨r, e3, _⟩ := h.symm.at_ e2
        rw [e] at e3
        cases e3
    | some r =>
      obtain ⟨q, e2, e3, e4⟩ := h.at_ e
      rw [e2]
      show (if s.2 = 1 then some (r.u, r.v) else if s.2 = -1 then some (r.v, r.u) else none) = (if s.2 = 1 then some (q.u, q.v) else if s.2 = -1 then some (q.v, q.u) else none)
      rw [e3, e4]
  · rw [if_neg c, if_neg c]
theorem Eu.wk {rs qs : List Row} (h : Eu rs qs) : ∀ {w : List (Int × Int)} {a b : List Nat}, Wk rs w a b → Wk qs w a b
  | [], _, _, e => e
  | s :: w, _, _, ⟨c, e1, e2⟩ => ⟨c, by rw [← h.sd s]; exact e1, h.wk e2⟩
theorem Eu.vv {rs qs : List Row} (h : Eu rs qs) : ∀ (w : List (Int × Int)) (a : List Nat), RM.vv rs w a = RM.vv qs w a
  | [], _ => rfl
  | s :: w, a => by
    have e : endS rs s = endS qs s := by unfold endS; rw [h.sd s]
    unfold RM.vv
    rw [e, h.vv w]
theorem Eu.conn {rs qs : List Row} (h : Eu rs qs) {ts : List Nat} {a b : List Nat} (k : Conn rs ts a b) : Conn qs ts a b := by
  induction k with
  | refl => exact .refl
  | fwd m e _ ih =>
    obtain ⟨q, e2, e3, e4⟩ := h.at_ e
    rw [← e4]
    exact .fwd m e2 (by rw [e3]; exact ih)
  | bwd m e _ ih =>
    obtain ⟨q, e2, e3, e4⟩ := h.at_ e
    rw [← e3]
    exact .bwd m e2 (by rw [e4]; exact ih)
theorem Eu.tree {rs qs : List Row} (h : Eu rs qs) {k : Nat} {ts : List Nat} (t : TreeTo rs k ts) : TreeTo qs k ts := by
  induction t with
  | zero => exact .zero
  | skip _ e c ih =>
    obtain ⟨q, e2, e3, e4⟩ := h.at_ e
    exact .skip ih e2 (by rw [e3, e4]; exact h.conn c)
  | take _ e c ih =>
    obtain ⟨q, e2, e3, e4⟩ := h.at_ e
    exact .take ih e2 (by rw [e3, e4]; exact fun z => c (h.symm.conn z))
theorem Eu.rngs {rs qs : List Row} (h : Eu rs qs) {ts is : List Nat} {Ws : List (List (Int × Int))} (k : Rngs rs ts is Ws) : Rngs qs ts is Ws := by
  induction k with
  | nil => exact .nil
  | cons g _ ih =>
    obtain ⟨r, w, rfl, e, h1, h2, h3⟩ := g
    obtain ⟨q, e2, e3, e4⟩ := h.at_ e
    exact .cons ⟨q, w, rfl, e2, by rw [e3, e4]; exact h.wk h1, h2, by rw [e4, ← h.vv]; exact h3⟩ ih
/-! sums over a walk between bounds -/
theorem stp_wk {rs : List Row} : ∀ {w : List (Int × Int)} {a b : List Nat}, Wk rs w a b → Stp rs.length w
  | [], _, _, _ => fun _ h => nomatch h
  | s :: w, a, b, ⟨c, h1, h2⟩ => fun z hz => by
    rcases List.mem_cons.mp hz with rfl | hz
    · obtain ⟨i, r, e1, e2, e3⟩ := sd_row h1
      have := (List.getElem?_eq_some_iff.mp e2).1
      exact ⟨by omega, by omega, e3.imp (fun h => h.1) fun h => h.1⟩
    · exact stp_wk h2 z hz
theorem Rng.wk {rs : List Row} {ts : List Nat} {i : Nat} {W : List (Int × Int)} (h : Rng rs ts i W) : ∃ a, Wk rs W a a := by
  obtain ⟨r, w, rfl, e, h1, _⟩ := h
  refine ⟨r.u, r.v, ?_, h1⟩
  unfold sd
  rw [if_pos (show (0 : Int) ≤ (i : Nat) by omega)]
  show (match rs[((i : Nat) : Int).toNat]? with
    | none => none
    | some r => if (1 : Int) = 1 then some (r.u, r.v) else if (1 : Int) = -1 then some (r.v, r.u) else none) = _
  rw [Int.toNat_natCast, e]
  exact if_pos rfl
abbrev los (rs : List Row) : List Int := rs.map fun r : Row => r.lo
abbrev his (rs : List Row) : List Int := rs.map fun r : Row => r.hi
abbrev ngs (is : List Int) : List Int := is.map fun i => -i
theorem getD_map {α : Type} {f : α → Int} {xs : List α} {i : Nat} {x : α} (e : xs[i]? = some x) : (xs.map f).getD i 0 = f x := by
  rw [List.getD_eq_getElem?_getD, List.getElem?_map, e]
  rfl
theorem sov_le {fs bs gs cs : List Int} {n : Nat} (h1 : ∀ i < n, fs.getD i 0 ≤ gs.getD i 0) (h2 : ∀ i < n, bs.getD i 0 ≤ cs.getD i 0) : ∀ {w : List (Int × Int)}, Stp n w → sov fs bs w ≤ sov gs cs w
  | [], _ => Int.le_refl _
  | s :: w, h => by
    rw [sov_cons, sov_cons]
    obtain ⟨o1, o2, _⟩ := h s List.mem_cons_self
    have y : stv fs bs s ≤ stv gs cs s := by
      unfold stv
      split
      · exact h1 _ (by omega)
      · exact h2 _ (by omega)
    have := sov_le h1 h2 (w := w) fun z hz => h z (List.mem_cons_of_mem _ hz)
    omega
theorem ngs_map {α : Type} {f : α → Int} {xs : List α} : ngs (xs.map f) = xs.map fun x => -f x := by
  unfold ngs
  rw [List.map_map]
  rfl
theorem sov_kept {T : Int} {m : List Nat → Int} {rs : List Row} (hT : 0 < T) (hk : ∀ r ∈ rs, isK T m r = true) {w : List (Int × Int)} (h : Stp rs.length w) : sov (los rs) (ngs (his rs)) w ≤ sov (gvs T m rs) (ngs (gvs T m rs)) w ∧ sov (gvs T m rs) (ngs (gvs T m rs)) w ≤ sov (his rs) (ngs (los rs)) w := by
  have bd : ∀ i < rs.length, ∃ r, rs[i]? = some r ∧ r.lo ≤ gv T m r ∧ gv T m r ≤ r.hi := fun i hi => by
    have e : rs[i]? = some rs[i] := List.getElem?_eq_getElem hi
    refine ⟨_, e, ?_, of_decide_eq_true (hk _ (List.mem_of_getElem? e))⟩
    have := Int.emod_nonneg (m rs[i].v - m rs[i].u - rs[i].lo) (show T ≠ 0 by omega)
    unfold gv
    omega
  unfold gvs
  rw [ngs_map, ngs_map, ngs_map]
  constructor
  · refine sov_le (fun i hi => ?_) (fun i hi => ?_) h
    · obtain ⟨r, e, h1, h2⟩ := bd i hi
      rw [getD_map e, getD_map e]; exact h1
    · obtain ⟨r, e, h1, h2⟩ := bd i hi
      rw [getD_map e, getD_map e]; omega
  · refine sov_le (fun i hi => ?_) (fun i hi => ?_) h
    · obtain ⟨r, e, h1, h2⟩ := bd i hi
      rw [getD_map e, getD_map e]; exact h2
    · obtain ⟨r, e, h1, h2⟩ := bd i hi
      rw [getD_map e, getD_map e]; omega
/-- the choices of a ring -/
def chL (T : Int) (rs : List Row) (W : List (Int × Int)) : Int := -(-sov (los rs) (ngs (his rs)) W / T)
def chH (T : Int) (rs : List Row) (W : List (Int × Int)) : Int := sov (his rs) (ngs (los rs)) W / T
theorem ch_lo {T x : Int} (hT : 0 < T) : x ≤ -(-x / T) * T ∧ (-(-x / T) - 1) * T < x := by
  have h1 := Int.ediv_mul_le (-x) (show T ≠ 0 by omega)
  have h2 := Int.lt_ediv_add_one_mul_self (-x) hT
  generalize -x / T = q at h1 h2 ⊢
  rw [Int.add_mul, Int.one_mul] at h2
  rw [Int.sub_mul, Int.one_mul, Int.neg_mul]
  omega
theorem ch_hi {T x : Int} (hT : 0 < T) : x / T * T ≤ x ∧ x < (x / T + 1) * T := ⟨Int.ediv_mul_le x (by omega), Int.lt_ediv_add_one_mul_self x hT⟩
theorem ch_in {T : Int} {m : List Nat → Int} {rs : List Row} {ts : List Nat} {i : Nat} {W : List (Int × Int)} (hT : 0 < T) (hk : ∀ r ∈ rs, isK T m r = true) (h : Rng rs ts i W) : chL T rs W ≤ sov (gvs T m rs) (ngs (gvs T m rs)) W / T ∧ sov (gvs T m rs) (ngs (gvs T m rs)) W / T ≤ chH T rs W := by
  obtain ⟨a, hw⟩ := h.wk
  obtain ⟨h1, h2⟩ := sov_kept hT hk (stp_wk hw)
  have h3 := sov_mod (T := T) (m := m) hw
  rw [Int.sub_self, Int.sub_zero] at h3
  have h4 := Int.ediv_mul_cancel (Int.dvd_of_emod_eq_zero h3)
  obtain ⟨l1, l2⟩ := ch_lo (x := sov (los rs) (ngs (his rs)) W) hT
  obtain ⟨u1, u2⟩ := ch_hi (x := sov (his rs) (ngs (los rs)) W) hT
  unfold chL chH
  generalize sov (gvs T m rs) (ngs (gvs T m rs)) W = t at *
  generalize t / T = q at *
  generalize sov (los rs) (ngs (his rs)) W = lo at *
  generalize sov (his rs) (ngs (los rs)) W = hi at *
  constructor
  · refine Int.le_of_lt_add_one (Int.lt_of_mul_lt_mul_right (a := T) ?_ (by omega))
    rw [Int.add_mul, Int.one_mul]
    rw [Int.sub_mul, Int.one_mul] at l2
    omega
  · refine Int.le_of_lt_add_one (Int.lt_of_mul_lt_mul_right (a := T) ?_ (by omega))
    omega
/-- the rounds of a ring at the minutes m -/
def rnd (T : Int) (m : List Nat → Int) (rs : List Row) (W : List (Int × Int)) : Int := sov (gvs T m rs) (ngs (gvs T m rs)) W / T
/-! rows that are the same but for their weights -/
inductive Ew : List Row → List Row → Prop
  | nil : Ew [] []
  | cons {a b : Row} {as bs : List Row} (u : a.u = b.u) (v : a.v = b.v) (l : a.lo = b.lo) (h : a.hi = b.hi) (t : Ew as bs) : Ew (a :: as) (b :: bs)
theorem Ew.refl : ∀ (as : List Row), Ew as as
  | [] => .nil
  | _ :: t => .cons rfl rfl rfl rfl (Ew.refl t)
theorem Ew.snoc {as bs : List Row} (h : Ew as bs) {a b : Row} (u : a.u = b.u) (v : a.v = b.v) (l : a.lo = b.lo) (k : a.hi = b.hi) : Ew (as ++ [a]) (bs ++ [b]) := by
  induction h with
  | nil => exact .cons u v l k .nil
  | cons u1 v1 l1 k1 _ ih => exact .cons u1 v1 l1 k1 ih
theorem Ew.eu {as bs : List Row} (h : Ew as bs) : Eu as bs := by
  induction h with
  | nil => rfl
  | cons u v _ _ _ ih =>
    have ih : _ = _ := ih
    show (_, _) :: List.map _ _ = (_, _) :: List.map _ _
    rw [u, v, ih]
theorem Ew.gvs {as bs : List Row} (h : Ew as bs) {T : Int} {m : List Nat → Int} : RM.gvs T m as = RM.gvs T m bs := by
  induction h with
  | nil => rfl
  | @cons a b as bs u v l _ _ ih =>
    show gv T m a :: RM.gvs T m as = gv T m b :: RM.gvs T m bs
    rw [ih]
    unfold gv
    rw [u, v, l]
theorem Ew.brk {as bs : List Row} (h : Ew as bs) {T : Int} {m : List Nat → Int} : ∀ (i : Nat), RM.brk T m i as = RM.brk T m i bs := by
  induction h with
  | nil => intro i; rfl
  | @cons a b as bs u v l k _ ih =>
    intro i
    have e : isK T m a = isK T m b := by unfold isK; rw [u, v, l, k]
    unfold RM.brk
    rw [e, ih]
theorem Ew.kept {as bs : List Row} (h : Ew as bs) {T T' : Int} {ns ms : List (List Nat)} {m : List Nat → Int} : cKept T ns as T' ms m = cKept T ns bs T' ms m := by
  unfold cKept
  rw [h.brk]
theorem Ew.rnd {as bs : List Row} (h : Ew as bs) {T : Int} {m : List Nat → Int} {W : List (Int × Int)} : RM.rnd T m as W = RM.rnd T m bs W := by
  unfold RM.rnd
  rw [h.gvs]
end RM
namespace RM
open PySem PySem.Spec PyProof.Rows L2
/-! ### least sums along arcs: what a search with costs keeps -/
theorem Bk.det {ks : List (List Nat)} {P : List Nat → List Nat} {S : List Nat → Int × Int} {b : List Nat} {m : Nat} {n : List Nat} {o : Option (List (Int × Int))} (h : Bk ks P S b m n o) : ∀ {m' : Nat} {o' : Option (List (Int × Int))}, Bk ks P S b m' n o' → m = m' ∧ o = o' := by
  induction h with
  | here =>
    intro m' o' g
    cases g with
    | here => exact ⟨rfl, rfl⟩
    | lost h _ => exact absurd rfl h
    | up h _ _ => exact absurd rfl h
  | lost h k =>
    intro m' o' g
    cases g with
    | here => exact absurd rfl h
    | lost => exact ⟨rfl, rfl⟩
    | up _ m _ => exact absurd m k
  | up h m r ih =>
    intro m' o' g
    cases g with
    | here => exact absurd rfl h
    | lost _ k => exact absurd m k
    | up _ _ r2 =>
      obtain ⟨rfl, rfl⟩ := ih r2
      exact ⟨rfl, rfl⟩
/-- the events before lead from n to f in k steps -/
inductive To (ks : List (List Nat)) (P : List Nat → List Nat) (f : List Nat) : Nat → List Nat → Prop
  | here : To ks P f 0 f
  | up {n : List Nat} {k : Nat} (h : n ≠ f) (m : n ∈ ks) (r : To ks P f k (P n)) : To ks P f (k + 1) n
theorem To.bk {ks : List (List Nat)} {P : List Nat → List Nat} {f : List Nat} {k : Nat} {n : List Nat} (h : To ks P f k n) (S : List Nat → Int × Int) : ∃ w, Bk ks P S f k n (some w) := by
  induction h with
  | here => exact ⟨[], .here⟩
  | up h m r ih =>
    obtain ⟨w, hw⟩ := ih
    exact ⟨w ++ [S _], .up h m hw⟩
theorem To.det {ks : List (List Nat)} {P : List Nat → List Nat} {f : List Nat} {k : Nat} {n : List Nat} (h : To ks P f k n) : ∀ {k' : Nat}, To ks P f k' n → k = k' := by
  induction h with
  | here =>
    intro k' g
    cases g with
    | here => rfl
    | up h _ _ => exact absurd rfl h
  | up h m r ih =>
    intro k' g
    cases g with
    | here => exact absurd rfl h
    | up _ _ r2 => rw [ih r2]
theorem To.in_ {ks : List (List Nat)} {P : List Nat → List Nat} {f : List Nat} {k : Nat} {n : List Nat} (h : To ks P f k n) : n = f ∨ n ∈ ks := by
  cases h with
  | here => exact .inl rfl
  | up _ m _ => exact .inr m
theorem To.list {ks : List (List Nat)} {P : List Nat → List Nat} {f : List Nat} {k : Nat} {n : List Nat} (h : To ks P f k n) : ∃ l : List (List Nat), l.length = k ∧ l.Nodup ∧ ∀ x ∈ l, x ∈ ks ∧ ∃ j, j ≤ k ∧ To ks P f j x := by
  induction h with
  | here => exact ⟨[], rfl, List.nodup_nil, fun _ h => nomatch h⟩
  | @up n k h m r ih =>
    obtain ⟨l, e, nd, al⟩ := ih
    refine ⟨n :: l, by rw [List.length_cons, e], List.nodup_cons.mpr ⟨fun hn => ?_, nd⟩, fun x hx => ?_⟩
    · obtain ⟨_, j, hj, g⟩ := al n hn
      have := (To.up h m r).det g
      omega
    · rcases List.mem_cons.mp hx with rfl | hx
      · exact ⟨m, k + 1, Nat.le_refl _, .up h m r⟩
      · obtain ⟨h1, j, hj, g⟩ := al x hx
        exact ⟨h1, j, by omega, g⟩
theorem To.len {ks : List (List Nat)} {P : List Nat → List Nat} {f : List Nat} {k : Nat} {n : List Nat} (h : To ks P f k n) : k ≤ ks.length := by
  obtain ⟨l, e, nd, al⟩ := h.list
  rw [← e]
  exact nodup_len nd fun x hx => (al x hx).1
/-- e does not stand on the way back from n -/
theorem To.off {ks us : List (List Nat)} {P P' : List Nat → List Nat} {S : List Nat → Int × Int} {F : List Nat → Int} {f e : List Nat} (ff : f ∉ ks) (ef : e ≠ f) (dn : ∀ x ∈ ks, F (P x) ≤ F x) (sub : ∀ x ∈ ks, x ∈ us) (hP : ∀ x, x ≠ e → P' x = P x) {k : Nat} {n : List Nat} (h : To ks P f k n) : (e ∉ ks ∨ F n < F e) → Bk ks P S e k n none ∧ To us P' f k n := by
  induction h with
  | here => exact fun _ => ⟨.lost ef.symm ff, .here⟩
  | @up n k h m r ih =>
    intro c
    have ne : n ≠ e := fun z => by
      rcases c with c | c
      · exact c (z ▸ m)
      · rw [z] at c; omega
    obtain ⟨h1, h2⟩ := ih (c.imp id fun c => Int.lt_of_le_of_lt (dn n m) c)
    exact ⟨.up (o := none) ne m h1, .up h (sub n m) (by rw [hP n ne]; exact h2)⟩
theorem To.turn {ks us : List (List Nat)} {P P' : List Nat → List Nat} {f e b : List Nat} (sub : ∀ x ∈ ks, x ∈ us) (hP : ∀ x, x ≠ e → P' x = P x) (he : P' e = b) {kb : Nat} (hb : To us P' f kb b) {k : Nat} {n : List Nat} (h : To ks P f k n) : ∃ j, To us P' f j n := by
  induction h with
  | here => exact ⟨0, .here⟩
  | @up n k h m r ih =>
    by_cases c : n = e
    · exact ⟨kb + 1, .up h (sub n m) (by rw [c, he]; exact hb)⟩
    · obtain ⟨j, hj⟩ := ih
      exact ⟨j + 1, .up h (sub n m) (by rw [hP n c]; exact hj)⟩
/-- sums F so far, along arcs of as from f; P, G: the step before -/
structure Sml (as : List Ar) (f : List Nat) (P : List Nat → List Nat) (G : List Nat → Int × Int) (F : List Nat → Int) (ks : List (List Nat)) : Prop where
  nd : ks.Nodup
  ff : f ∉ ks
  f0 : F f = 0
  pos : ∀ n ∈ ks, 0 ≤ F n
  top : ∀ n ∈ ks, F n ≤ 120 * ks.length
  ar : ∀ n ∈ ks, ∃ x ∈ as, x.u = P n ∧ x.v = n ∧ x.s = G n ∧ F (P n) + x.c ≤ F n
  to : ∀ n, n = f ∨ n ∈ ks → ∃ k, To ks P f k n
theorem Sml.nil {as : List Ar} {f : List Nat} {P : List Nat → List Nat} {G : List Nat → Int × Int} : Sml as f P G (fun _ => 0) [] :=
  ⟨List.nodup_nil, nofun, rfl, nofun, nofun, nofun, fun n h => by
    rcases h with rfl | h
    · exact ⟨0, .here⟩
    · cases h⟩
theorem Sml.pos' {as : List Ar} {f : List Nat} {P : List Nat → List Nat} {G : List Nat → Int × Int} {F : List Nat → Int} {ks : List (List Nat)} (h : Sml as f P G F ks) {n : List Nat} (hn : n = f ∨ n ∈ ks) : 0 ≤ F n := by
  rcases hn with rfl | hn
  · rw [h.f0]; omega
  · exact h.pos n hn
theorem Sml.top' {as : List Ar} {f : List Nat} {P : List Nat → List Nat} {G : List Nat → Int × Int} {F : List Nat → Int} {ks : List (List Nat)} (h : Sml as f P G F ks) {n : List Nat} (hn : n = f ∨ n ∈ ks) : F n ≤ 120 * ks.length := by
  rcases hn with rfl | hn
  · rw [h.f0]; omega
  · exact h.top n hn
theorem Sml.dn {as : List Ar} {f : List Nat} {P : List Nat → List Nat} {G : List Nat → Int × Int} {F : List Nat → Int} {ks : List (List Nat)} (h : Sml as f P G F ks) (hc : ∀ x ∈ as, 0 ≤ x.c) : ∀ n ∈ ks, F (P n) ≤ F n := fun n hn => by
  obtain ⟨x, hx, _, _, _, e⟩ := h.ar n hn
  have := hc x hx
  omega
theorem Sml.len {as : List Ar} {f : List Nat} {P : List Nat → List Nat} {G : List Nat → Int × Int} {F : List Nat → Int} {ks ns : List (List Nat)} (h : Sml as f P G F ks) (hin : ∀ x ∈ as, x.v ∈ ns) : ks.length ≤ ns.length :=
  nodup_len h.nd fun n hn => by
    obtain ⟨x, hx, _, e, _⟩ := h.ar n hn
    rw [← e]
    exact hin x hx
/-- a new event is reached -/
theorem Sml.new {as : List Ar} {f : List Nat} {P : List Nat → List Nat} {G : List Nat → Int × Int} {F : List Nat → Int} {ks : List (List Nat)} (h : Sml as f P G F ks) (hc : ∀ x ∈ as, 0 ≤ x.c ∧ x.c ≤ 120) {x : Ar} (hx : x ∈ as) (hu : x.u = f ∨ x.u ∈ ks) (n1 : x.v ≠ f) (n2 : x.v ∉ ks) :
    Sml as f (up1 P x.v x.u) (up1 G x.v x.s) (up1 F x.v (F x.u + x.c)) (ks ++ [x.v]) ∧ ∃ m, m ≤ ks.length ∧ Bk ks P G x.v m x.u none := by
  obtain ⟨c0, c1⟩ := hc x hx
  have ne : x.u ≠ x.v := fun e => by
    rcases hu with hu | hu
    · exact n1 (e ▸ hu)
    · exact n2 (e ▸ hu)
  have sub : ∀ y ∈ ks, y ∈ ks ++ [x.v] := fun y hy => List.mem_append_left _ hy
  obtain ⟨k, tk⟩ := h.to x.u hu
  obtain ⟨b1, b2⟩ := tk.off (S := G) (P' := up1 P x.v x.u) (e := x.v) h.ff n1 (h.dn fun y hy => (hc y hy).1) sub (fun y hy => up1_ne hy) (.inl n2)
  have kx : ∀ y ∈ ks, y ≠ x.v := fun y hy e => n2 (e ▸ hy)
  have p0 := h.pos' hu
  have p1 := h.top' hu
  have old : ∀ y, y = f ∨ y ∈ ks → up1 F x.v (F x.u + x.c) y = F y := fun y hy => up1_ne (hy.elim (fun e => by rw [e]; exact n1.symm) (kx y))
  refine ⟨⟨?_, ?_, ?_, ?_, ?_, ?_, ?_⟩, k, tk.len, b1⟩
  · rw [List.nodup_append]
    exact ⟨h.nd, by simp, fun a ha b hb e => by rw [List.mem_singleton.mp hb] at e; exact kx a ha e⟩
  · intro e
    rcases List.mem_append.mp e with e | e
    · exact h.ff e
    · exact n1 (List.mem_singleton.mp e).symm
  · rw [old f (.inl rfl)]; exact h.f0
  · intro n hn
    rcases List.mem_append.mp hn with hn | hn
    · rw [old n (.inr hn)]; exact h.pos n hn
    · rw [List.mem_singleton.mp hn, up1_eq]; omega
  · intro n hn
    rw [List.length_append, List.length_singleton]
    rcases List.mem_append.mp hn with hn | hn
    · rw [old n (.inr hn)]; have := h.top n hn; omega
    · rw [List.mem_singleton.mp hn, up1_eq]; omega
  · intro n hn
    rcases List.mem_append.mp hn with hn | hn
    · obtain ⟨y, hy, e1, e2, e3, e4⟩ := h.ar n hn
      obtain ⟨j, tj⟩ := h.to n (.inr hn)
      have hp : P n = f ∨ P n ∈ ks := by
        cases tj with
        | here => exact absurd hn h.ff
        | up _ _ r => exact r.in_
      exact ⟨y, hy, by rw [up1_ne (kx n hn)]; exact e1, e2, by rw [up1_ne (kx n hn)]; exact e3, by rw [up1_ne (kx n hn), old n (.inr hn), old _ hp]; exact e4⟩
    · rw [List.mem_singleton.mp hn]
      exact ⟨x, hx, up1_eq.symm, rfl, up1_eq.symm, by rw [up1_eq, up1_eq, old _ hu]; exact Int.le_refl _⟩
  · intro n hn
    have turn : ∀ y, y = f ∨ y ∈ ks → ∃ j, To (ks ++ [x.v]) (up1 P x.v x.u) f j y := fun y hy => by
      obtain ⟨j, tj⟩ := h.to y hy
      exact To.turn (P := P) (P' := up1 P x.v x.u) (e := x.v) (b := x.u) sub (fun z hz => up1_ne hz) up1_eq b2 tj
    rcases hn with hn | hn
    · exact turn n (.inl hn)
    · rcases List.mem_append.mp hn with hn | hn
      · exact turn n (.inr hn)
      · rw [List.mem_singleton.mp hn]
        exact ⟨k + 1, .up n1 (by simp) (by rw [up1_eq]; exact b2)⟩
/-- a lesser sum -/
theorem Sml.low {as : List Ar} {f : List Nat} {P : List Nat → List Nat} {G : List Nat → Int × Int} {F : List Nat → Int} {ks : List (List Nat)} (h : Sml as f P G F ks) (hc : ∀ x ∈ as, 0 ≤ x.c ∧ x.c ≤ 120) {x : Ar} (hx : x ∈ as) (hu : x.u = f ∨ x.u ∈ ks) (hv : x.v = f ∨ x.v ∈ ks) (lt : F x.u + x.c < F x.v) :
    x.v ≠ f ∧ x.v ∈ ks ∧ Sml as f (up1 P x.v x.u) (up1 G x.v x.s) (up1 F x.v (F x.u + x.c)) ks ∧ ∃ m, m ≤ ks.length ∧ Bk ks P G x.v m x.u none := by
  obtain ⟨c0, c1⟩ := hc x hx
  have p0 := h.pos' hu
  have n1 : x.v ≠ f := fun e => by rw [e, h.f0] at lt; omega
  have mv : x.v ∈ ks := hv.resolve_left n1
  obtain ⟨k, tk⟩ := h.to x.u hu
  obtain ⟨b1, b2⟩ := tk.off (S := G) (us := ks) (P' := up1 P x.v x.u) (e := x.v) h.ff n1 (h.dn fun y hy => (hc y hy).1) (fun _ h => h) (fun y hy => up1_ne hy) (.inr (by omega))
  have ne : x.u ≠ x.v := fun e => by rw [e] at lt; omega
  have dec : ∀ y, up1 F x.v (F x.u + x.c) y ≤ F y := fun y => by
    by_cases c : y = x.v
    · rw [c, up1_eq]; omega
    · rw [up1_ne c]; exact Int.le_refl _
  have oldu : up1 F x.v (F x.u + x.c) x.u = F x.u := up1_ne ne
  refine ⟨n1, mv, ⟨h.nd, h.ff, ?_, ?_, ?_, ?_, ?_⟩, k, tk.len, b1⟩
  · rw [up1_ne n1.symm]; exact h.f0
  · intro n hn
    by_cases c : n = x.v
    · rw [c, up1_eq]; omega
    · rw [up1_ne c]; exact h.pos n hn
  · intro n hn
    exact Int.le_trans (dec n) (h.top n hn)
  · intro n hn
    by_cases c : n = x.v
    · rw [c]
      exact ⟨x, hx, up1_eq.symm, rfl, up1_eq.symm, by rw [up1_eq, up1_eq, oldu]; exact Int.le_refl _⟩
    · obtain ⟨y, hy, e1, e2, e3, e4⟩ := h.ar n hn
      exact ⟨y, hy, by rw [up1_ne c]; exact e1, e2, by rw [up1_ne c]; exact e3, by rw [up1_ne c, up1_ne c]; have := dec (P n); omega⟩
  · intro n hn
    obtain ⟨j, tj⟩ := h.to n hn
    exact To.turn (P := P) (P' := up1 P x.v x.u) (e := x.v) (b := x.u) (fun _ h => h) (fun z hz => up1_ne hz) up1_eq b2 tj
/-- how much is left to do -/
def msr (F : List Nat → Int) (ks : List (List Nat)) : Nat := (12 - ks.length) * 2000 + (ks.map fun n => (F n).toNat).sum
theorem sumN_le {g g' : List Nat → Nat} : ∀ {ks : List (List Nat)}, (∀ n ∈ ks, g' n ≤ g n) → (ks.map g').sum ≤ (ks.map g).sum
  | [], _ => Nat.le_refl _
  | k :: ks, h => by
    have := sumN_le fun n hn => h n (List.mem_cons_of_mem _ hn)
    have := h k List.mem_cons_self
    simp only [List.map_cons, List.sum_cons]
    omega
theorem sumN_lt {g g' : List Nat → Nat} : ∀ {ks : List (List Nat)} {e : List Nat}, (∀ n ∈ ks, g' n ≤ g n) → e ∈ ks → g' e < g e → (ks.map g').sum < (ks.map g).sum
  | [], _, _, h, _ => nomatch h
  | k :: ks, e, h, m, l => by
    simp only [List.map_cons, List.sum_cons]
    have h1 := h k List.mem_cons_self
    rcases List.mem_cons.mp m with rfl | m
    · have := sumN_le fun n hn => h n (List.mem_cons_of_mem _ hn)
      omega
    · have := sumN_lt (fun n hn => h n (List.mem_cons_of_mem _ hn)) m l
      omega
theorem msr_low {F : List Nat → Int} {ks : List (List Nat)} {e : List Nat} {v : Int} (m : e ∈ ks) (v0 : 0 ≤ v) (lt : v < F e) : msr (up1 F e v) ks < msr F ks := by
  unfold msr
  refine Nat.add_lt_add_left (sumN_lt (fun n _ => ?_) m ?_) _
  · by_cases c : n = e
    · rw [c, up1_eq]; omega
    · rw [up1_ne c]; exact Nat.le_refl _
  · rw [up1_eq]; omega
theorem msr_new {F : List Nat → Int} {ks : List (List Nat)} {e : List Nat} {v : Int} (m : e ∉ ks) (l : ks.length < 12) (hv : v ≤ 120 * ks.length + 120) : msr (up1 F e v) (ks ++ [e]) < msr F ks := by
  unfold msr
  have z : (ks.map fun n => (up1 F e v n).toNat) = ks.map fun n => (F n).toNat := List.map_congr_left fun n hn => by rw [up1_ne (fun c : n = e => m (c ▸ hn))]
  rw [List.map_append, List.sum_append, z, List.length_append, List.length_singleton, List.map_singleton, List.sum_singleton, up1_eq]
  omega
theorem dN_set {f : List Nat → V} {l : List Nat} {v : V} : ∀ {ns : List (List Nat)}, l ∈ ns → putK (dN f ns) (.inr (S l)) v = dN (up1 f l v) ns := by
  intro ns hl
  unfold putK
  have e : ((dN f ns).any fun kv => decide (kv.1 = (.inr (S l) : Key))) = true := by
    rw [List.any_eq_true]
    exact ⟨(.inr (S l), f l), List.mem_map.mpr ⟨l, hl, rfl⟩, decide_eq_true rfl⟩
  rw [if_pos e]
  unfold dN
  rw [List.map_map]
  refine List.map_congr_left fun x _ => ?_
  show (if (Sum.inr (S x) : Key) = .inr (S l) then _ else _) = _
  by_cases h : x = l
  · subst h
    rw [if_pos rfl, up1_eq]
  · rw [if_neg (fun z => h (key_inj z)), up1_ne h]
theorem dN_int {F : List Nat → Int} {n : List Nat} {v : Int} {ks : List (List Nat)} : dN (up1 (fun l => .int (F l)) n (.int v)) ks = dN (fun l => .int (up1 F n v l)) ks := dN_congr fun x _ => by
  by_cases c : x = n
  · rw [c, up1_eq, up1_eq]
  · rw [up1_ne c, up1_ne c]
theorem BkD.set {H : Hp} {d t y : Addr} {ks : List (List Nat)} {P : List Nat → List Nat} {G : List Nat → Int × Int} {A B : List Nat → Addr} {n u : List Nat} {s : Int × Int} (h : BkD H d ks P G A B) (hn : n ∈ ks) (ht : H t = some (.tup [sv u, .ref y])) (hy : H y = some (.tup [.int s.1, .int s.2])) :
    BkD (upd H d (.dK (putK (dN (fun n => .ref (A n)) ks) (.inr (S n)) (.ref t)))) d ks (up1 P n u) (up1 G n s) (up1 A n t) (up1 B n y) := by
  have ne : ∀ {x : Addr} {xs : List V}, H x = some (.tup xs) → x ≠ d := fun hx e => by rw [e, h.d] at hx; cases hx
  refine ⟨?_, fun l hl => ?_, fun l hl => ?_⟩
  · rw [upd_same, dN_set hn]
    exact congrArg (fun z => some (HO.dK z)) (dN_congr fun x _ => by
      unfold up1
      by_cases c : x = n
      · rw [if_pos c, if_pos c]
      · rw [if_neg c, if_neg c])
  · by_cases c : l = n
    · subst c
      rw [up1_eq, up1_eq, up1_eq, upd_ne (ne ht)]
      exact ht
    · rw [up1_ne c, up1_ne c, up1_ne c, upd_ne (ne (h.a l hl))]
      exact h.a l hl
  · by_cases c : l = n
    · subst c
      rw [up1_eq, up1_eq, upd_ne (ne hy)]
      exact hy
    · rw [up1_ne c, up1_ne c, upd_ne (ne (h.b l hl))]
      exact h.b l hl
/-- no arc makes a sum less -/
def Tgt (as : List Ar) (f : List Nat) (F : List Nat → Int) (ks : List (List Nat)) : Prop := ∀ x ∈ as, x.u ∈ f :: ks → x.v ∈ f :: ks ∧ F x.v ≤ F x.u + x.c
theorem Sml.way {rs : List Row} {ts : List Nat} {as : List Ar} {f : List Nat} {P : List Nat → List Nat} {G : List Nat → Int × Int} {F : List Nat → Int} {ks : List (List Nat)} (has : ∀ x ∈ as, sd rs x.s = some (x.u, x.v) ∧ ∃ i ∈ ts, x.s.1 = (i : Nat)) (h : Sml as f P G F ks) {k : Nat} {n : List Nat} (t : To ks P f k n) :
    ∃ w, Bk ks P G f k n (some w) ∧ Wk rs w f n ∧ Over ts w ∧ w.length = k ∧ (vv rs w f).Nodup ∧ ∀ x ∈ vv rs w f, ∃ j, j ≤ k ∧ To ks P f j x := by
  induction t with
  | here => exact ⟨[], .here, rfl, fun _ h => (nomatch h), rfl, by simp [vv], fun x hx => by
      rw [show vv rs [] f = [f] from rfl, List.mem_singleton] at hx
      rw [hx]
      exact ⟨0, Nat.le_refl _, .here⟩⟩
  | @up n k c m r ih =>
    obtain ⟨w, h1, h2, h3, h4, h5, h6⟩ := ih
    obtain ⟨x, hx, e1, e2, e3, _⟩ := h.ar n m
    obtain ⟨q1, i, q2, q3⟩ := has x hx
    rw [e3, e1, e2] at q1
    rw [e3] at q3
    have ev : vv rs (w ++ [G n]) f = vv rs w f ++ [n] := vv_app h2 q1
    refine ⟨w ++ [G n], .up c m h1, Wk.app h2 ⟨n, q1, rfl⟩, fun z hz => ?_, by rw [List.length_append, h4]; rfl, ?_, fun z hz => ?_⟩
    · rcases List.mem_append.mp hz with hz | hz
      · exact h3 z hz
      · rw [List.mem_singleton.mp hz]; exact ⟨i, q2, q3⟩
    · rw [ev, List.nodup_append]
      refine ⟨h5, by simp, fun a ha b hb e => ?_⟩
      rw [List.mem_singleton.mp hb] at e
      obtain ⟨j, hj, g⟩ := h6 a ha
      have := (To.up c m r).det (e ▸ g)
      omega
    · rw [ev] at hz
      rcases List.mem_append.mp hz with hz | hz
      · obtain ⟨j, hj, g⟩ := h6 z hz
        exact ⟨j, by omega, g⟩
      · rw [List.mem_singleton.mp hz]
        exact ⟨k + 1, Nat.le_refl _, .up c m r⟩
section
variable {σ : L2.St} {H : Hp} {Q : VK} {K : PySem.W.Frag} {g : TG} {tk tv : TE} {vs : List Nat}
/-- a dict comprehension over a list of names that makes new things: all but the dict itself stays -/
theorem dcAllN {a : Addr} {ns : List (List Nat)} (σ0 : L2.St) (hw : wipe σ vs = σ0) (nd : ns.Nodup) (hx : SqL K H a (ns.map sv)) (hn : ns.length ≤ 100000) (I : Nat → (List Nat → V) → Hp → Prop) (f0 : List Nat → V) (h0 : ∀ G, Same H G → I 0 f0 G)
    (hs : ∀ (i : Nat) (l : List Nat) (f : List Nat → V) (D : Addr) H2 (R : V → V → Hp → Prop), ns[i]? = some l → Same H (rmv H2 D) → H2 D = some (.dK (dN f (ns.take i))) → I i f (rmv H2 D) → (∀ v H5, Same H2 H5 → I (i + 1) (up1 f l v) (rmv H5 D) → R (.str (S l)) v H5) →
      g (.str (S l)) σ0 H2 fun σ2 H3 => wipe σ2 vs = σ0 ∧ tk σ2 H3 fun y H4 => tv σ2 H4 fun z H5 => R y z H5)
    (hq : ∀ D f H2, H D = none → Same H (rmv H2 D) → H2 D = some (.dK (dN f ns)) → I ns.length f (rmv H2 D) → Q (.ref D) H2) : ∃ b, V.ref a = .ref b ∧ (∃ ys, SqL K H b ys) ∧ DcW (Itl K b) g tYes tk tv vs σ H Q := by
  have el : (ns.map sv).length = ns.length := List.length_map ..
  refine ⟨a, rfl, ⟨_, hx⟩, ?_⟩
  intro D hD
  refine ⟨fun i m H2 => m = ns.length - i ∧ i ≤ ns.length ∧ ∃ f, Same H (rmv H2 D) ∧ H2 D = some (.dK (dN f (ns.take i))) ∧ I i f (rmv H2 D), ⟨ns.length, by simp, Nat.zero_le _, f0, same_rmv (Same.new hD) hD, upd_same, h0 _ (same_rmv (Same.new hD) hD)⟩, ?_⟩
  rintro i m H2 ⟨rfl, hi, f, s1, hD2, hI⟩
  have hx2 := Same.seq (s1.trans rmv_sub) hx
  rcases Nat.lt_or_ge i ns.length with hlt | hge
  · right
    have hi2 : i < (ns.map sv).length := by omega
    refine ⟨⟨_, (ns.map sv)[i], hx2, List.getElem?_eq_getElem hi2⟩, fun H' => ∃ f, Same H (rmv H' D) ∧ H' D = some (.dK (dN f (ns.take (i + 1)))) ∧ I (i + 1) f (rmv H' D), fun H' hN => ⟨ns.length - (i + 1), by omega, rfl, by omega, hN⟩, fun x H' hy => ?_⟩
    obtain ⟨e, hy⟩ := hy
    subst e
    have hxi := hy _ hx2
    rw [List.getElem?_map] at hxi
    obtain ⟨l, hl, rfl⟩ := Option.map_eq_some_iff.mp hxi
    rw [hw]
    have et := take_snoc hl
    refine hs i l f D _ (fun y z H5 => ∃ kvs k, y = kV k ∧ H5 D = some (.dK kvs) ∧ kvs.length < sizeLine ∧ (∃ f, Same H (rmv (upd H5 D (.dK (putK kvs k z))) D) ∧ upd H5 D (.dK (putK kvs k z)) D = some (.dK (dN f (ns.take (i + 1)))) ∧ I (i + 1) f (rmv (upd H5 D (.dK (putK kvs k z))) D))) hl s1 hD2 hI (fun v H5 s5 hI2 => ?_)
    refine ⟨_, .inr (S l), rfl, s5 _ _ hD2, szlt (by rw [dN_len, List.length_take]; omega), up1 f l v, by rw [rmv_upd]; exact s1.trans (rmv_mono s5), ?_, by rw [rmv_upd]; exact hI2⟩
    rw [upd_same, dN_up1 (take_new nd hl), et]
  · left
    have e : i = ns.length := by omega
    subst e
    rw [List.take_length] at hD2
    exact ⟨⟨_, hx2, by omega⟩, hq D f H2 hD s1 hD2 hI⟩
end
theorem BkD.rmvD {H : Hp} {d D : Addr} {ks : List (List Nat)} {P : List Nat → List Nat} {G : List Nat → Int × Int} {A B : List Nat → Addr} {kvs : List (Key × V)} (hD : H D = some (.dK kvs)) (ne : d ≠ D) (h : BkD H d ks P G A B) : BkD (rmv H D) d ks P G A B :=
  ⟨by rw [rmv_ne ne]; exact h.d, fun n m => rmv_get hD (h.a n m) nofun, fun n m => rmv_get hD (h.b n m) nofun⟩
theorem BkD.updI {H : Hp} {d x C dx : Addr} {ks : List (List Nat)} {P : List Nat → List Nat} {G : List Nat → Int × Int} {A B : List Nat → Addr} {fs : List (Str × V)} {o : HO} (hx : H x = some (.ins C dx fs)) (h : BkD H d ks P G A B) : BkD (upd H x o) d ks P G A B :=
  ⟨by rw [upd_ne fun e => by have := h.d; rw [e, hx] at this; cases this]; exact h.d, fun n m => by rw [upd_ne fun e => by have := h.a n m; rw [e, hx] at this; cases this]; exact h.a n m, fun n m => by rw [upd_ne fun e => by have := h.b n m; rw [e, hx] at this; cases this]; exact h.b n m⟩
theorem choose3 {α : Type} {p : α → Addr → Addr → Addr → Prop} {q : α → Prop} (h : ∀ a, q a → ∃ x y z, p a x y z) : ∃ f g k : α → Addr, ∀ a, q a → p a (f a) (g a) (k a) := by
  have h' : ∀ a, ∃ t : Addr × Addr × Addr, q a → p a t.1 t.2.1 t.2.2 := fun a => by
    by_cases c : q a
    · obtain ⟨x, y, z, e⟩ := h a c
      exact ⟨(x, y, z), fun _ => e⟩
    · exact ⟨(0, 0, 0), fun d => absurd d c⟩
  exact ⟨fun a => (Classical.choose (h' a)).1, fun a => (Classical.choose (h' a)).2.1, fun a => (Classical.choose (h' a)).2.2, fun a => Classical.choose_spec (h' a)⟩
/-- the slack of a walk: the most that its spans let, without what passes -/
theorem sov_slack {T : Int} {m : List Nat → Int} {rs : List Row} : ∀ {w : List (Int × Int)}, Stp rs.length w → sov (rs.map fun r : Row => r.hi - gv T m r) (rs.map fun r : Row => gv T m r - r.lo) w = sov (his rs) (ngs (los rs)) w - sov (gvs T m rs) (ngs (gvs T m rs)) w
  | [], _ => rfl
  | s :: w, h => by
    obtain ⟨o1, o2, _⟩ := h s List.mem_cons_self
    have ih := sov_slack (T := T) (m := m) (w := w) fun z hz => h z (List.mem_cons_of_mem _ hz)
    have e : rs[s.1.toNat]? = some (rs[s.1.toNat]'(by omega)) := List.getElem?_eq_getElem (by omega)
    rw [sov_cons, sov_cons, sov_cons, ih]
    have y : stv (rs.map fun r : Row => r.hi - gv T m r) (rs.map fun r : Row => gv T m r - r.lo) s = stv (his rs) (ngs (los rs)) s - stv (gvs T m rs) (ngs (gvs T m rs)) s := by
      unfold stv gvs
      rw [ngs_map, ngs_map]
      split
      · rw [getD_map e, getD_map e, getD_map e]
      · rw [getD_map e, getD_map e, getD_map e]; omega
    omega
end RM
namespace RM
open PySem PySem.Spec PyProof.Rows L2
/-! ### lists of ints compared -/
def iD (is : List Int) : List PyData := is.map .int
section
variable {K : PySem.W.Frag} {H : Hp} {Q : VK} {a b : Addr}
theorem dp_ints : ∀ is : List Int, DpAll K H (is.map V.int) (iD is)
  | [] => .nil
  | i :: is => .cons (.int i) (dp_ints is)
theorem lay_ints : ∀ is : List Int, PyData.canLayAll0 (iD is) = true ∧ PyData.depthAll (iD is) = 0
  | [] => ⟨rfl, rfl⟩
  | i :: is => by
    obtain ⟨h1, h2⟩ := lay_ints is
    refine ⟨?_, ?_⟩
    · show (true && PyData.canLayAll0 (iD is)) = true
      rw [h1]; rfl
    · show max 0 (PyData.depthAll (iD is)) = 0
      rw [h2]; rfl
theorem sh_ints (is : List Int) : SeqAt.shaped (.list (iD is)) = true := by
  obtain ⟨h1, h2⟩ := lay_ints is
  show (PyData.canLayAll0 (iD is) && decide (PyData.depthAll (iD is) + 1 ≤ 64)) = true
  rw [h1, h2]; rfl
theorem eqv_ints : ∀ {x y : List Int}, PyData.eqvAll (iD x) (iD y) = decide (x = y)
  | [], [] => rfl
  | [], _ :: _ => rfl
  | _ :: _, [] => rfl
  | i :: x, j :: y => by
    show ((i == j) && PyData.eqvAll (iD x) (iD y)) = _
    rw [eqv_ints, show (i == j) = decide (i = j) from rfl, ← Bool.decide_and]
    exact decide_eq_decide.mpr (by simp)
theorem wp_eqIs {x y : List Int} (h1 : H a = some (.lst (x.map V.int))) (h2 : H b = some (.lst (y.map V.int))) (q : Q (.bl (decide (x = y))) H) : rEqD K (.ref a) (.ref b) H Q := by
  refine ⟨.list (iD x), .list (iD y), .lst (sq_of h1) (dp_ints _), .lst (sq_of h2) (dp_ints _), sh_ints x, sh_ints y, ?_⟩
  show Q (.bl (PyData.eqvAll (iD x) (iD y))) H
  rw [eqv_ints]
  exact q
theorem wp_neIs {x y : List Int} (h1 : H a = some (.lst (x.map V.int))) (h2 : H b = some (.lst (y.map V.int))) (q : Q (.bl (!decide (x = y))) H) : rNeD K (.ref a) (.ref b) H Q := by
  refine ⟨.list (iD x), .list (iD y), .lst (sq_of h1) (dp_ints _), .lst (sq_of h2) (dp_ints _), sh_ints x, sh_ints y, ?_⟩
  show Q (.bl (!PyData.eqvAll (iD x) (iD y))) H
  rw [eqv_ints]
  exact q
theorem sm_ints {n : Nat} {x : List Int} (h1 : H a = some (.lst (x.map V.int))) (h2 : H b = some (.lst (x.map V.int))) (hl : x.length ≤ 1000) : Sm H (n + 2) (.ref a) (.ref b) :=
  sm_lst h1 h2 (by simpa using hl) fun v hv => by
    obtain ⟨i, _, rfl⟩ := List.mem_map.mp hv
    exact sm_int
end
theorem wp_mkSW {σ : L2.St} {H : Hp} {Q : VK} {C : Addr} {sp : Sp} {EE : L2.St → XK} {t : TA} (h : t σ H fun vs H1 => MkW C sp (EE σ) Q vs H1) : tMakeS C sp EE t σ H Q := h
/-- all becomes known but the pool -/
theorem Sees.all {P : Pl} {G H H' : Hp} (h : Sees P G H) (m : Same H H') : Same G (rmv H' P.p) ∧ Sees P (rmv H' P.p) H' := by
  have s1 : Same G (rmv H' P.p) := Same.rmv (h.sub.trans m) h.free
  obtain ⟨n, c, hp⟩ := h.pool
  exact ⟨s1, ⟨⟨n, c, m _ _ hp⟩, s1 _ _ h.cell, h.few, rmv_same, rmv_sub⟩⟩
/-- what a call that sees one's own list leaves and makes known -/
theorem OtG.step {P : Pl} {L : Addr} {G0 : Hp} {O : Hp → V → Prop} {n : Nat} {G G' H H' : Hp} {xs : List V} (u : Ups O) (h : OtG P L G0 O n G H xs) (g : Same (upd G L (.lst xs)) G') (s : Sees P G' H') : OtG P L G0 O n (rmv G' L) H' xs ∧ Same G (rmv G' L) := by
  have s1 : Same G (rmv G' L) := Same.rmv ((Same.new h.l.g).trans g) h.l.g
  exact ⟨⟨⟨⟨s.pool, s1 _ _ h.l.s.cell, h.l.s.few, by rw [rmv_ne h.l.ne.symm]; exact s.free, rmv_sub.trans s.sub⟩, s.sub _ _ (g _ _ upd_same), rmv_same, h.l.ne⟩, h.s.trans s1, fun x hx => u _ _ _ s1 (h.o x hx), h.n⟩, s1⟩
/-! ### the rings are short -/
theorem vv_in {rs : List Row} {ns : List (List Nat)} (hin : ∀ r ∈ rs, r.u ∈ ns ∧ r.v ∈ ns) : ∀ {w : List (Int × Int)} {a b : List Nat}, Wk rs w a b → a ∈ ns → ∀ x ∈ vv rs w a, x ∈ ns
  | [], a, b, _, ha, x, hx => by
    rw [List.mem_singleton.mp hx]; exact ha
  | s :: w, a, b, ⟨c, h1, h2⟩, ha, x, hx => by
    have hx : x ∈ a :: vv rs w (endS rs s) := hx
    rw [endS_of h1] at hx
    rcases List.mem_cons.mp hx with rfl | hx
    · exact ha
    · refine vv_in hin h2 ?_ x hx
      obtain ⟨i, r, _, er, hd⟩ := sd_row h1
      have := hin r (List.mem_of_getElem? er)
      rcases hd with ⟨_, _, rfl⟩ | ⟨_, _, rfl⟩
      · exact this.2
      · exact this.1
theorem vv_len {rs : List Row} : ∀ {w : List (Int × Int)} {a : List Nat}, (vv rs w a).length = w.length + 1
  | [], _ => rfl
  | s :: w, a => by
    show (a :: vv rs w (endS rs s)).length = _
    rw [List.length_cons, vv_len, List.length_cons]
theorem Rng.short {rs : List Row} {ts : List Nat} {i : Nat} {W : List (Int × Int)} {ns : List (List Nat)} (hin : ∀ r ∈ rs, r.u ∈ ns ∧ r.v ∈ ns) (h : Rng rs ts i W) : W.length ≤ ns.length := by
  obtain ⟨r, w, rfl, e, h1, _, h3⟩ := h
  have := nodup_len h3 (vv_in hin h1 (hin r (List.mem_of_getElem? e)).2)
  rw [vv_len] at this
  simpa using this
theorem Rngs.short {rs : List Row} {ts : List Nat} {is : List Nat} {Ws : List (List (Int × Int))} {ns : List (List Nat)} (hin : ∀ r ∈ rs, r.u ∈ ns ∧ r.v ∈ ns) (h : Rngs rs ts is Ws) : ∀ W ∈ Ws, W.length ≤ ns.length := fun W hW => by
  obtain ⟨i, hi⟩ := List.mem_iff_getElem?.mp hW
  obtain ⟨j, _, rj⟩ := h.at_ hi
  exact rj.short hin
/-- the rounds told on the rings -/
theorem Rngs.ok {rs : List Row} {ts : List Nat} {is : List Nat} {Ws : List (List (Int × Int))} {ns : List (List Nat)} (hin : ∀ r ∈ rs, r.u ∈ ns ∧ r.v ∈ ns) (l : ns.length ≤ 12) (h : Rngs rs ts is Ws) (T : Int) (m : List Nat → Int) : ∀ W ∈ Ws, W.length ≤ 25 ∧ Stp (gvs T m rs).length W := fun W hW => by
  obtain ⟨i, hi⟩ := List.mem_iff_getElem?.mp hW
  obtain ⟨j, _, rj⟩ := h.at_ hi
  obtain ⟨_, wk⟩ := rj.wk
  exact ⟨by have := rj.short hin; omega, by unfold gvs; rw [List.length_map]; exact stp_wk wk⟩
end RM
namespace RM
open PySem PySem.Spec PyProof.Rows L2
/-! ### the least sums from each event to each other, as one function -/
structure Lst (as : List Ar) (ns : List (List Nat)) (R : List Nat → List Nat → Option Int) : Prop where
  each : ∀ a ∈ ns, ∃ ks P G F, Sml as a P G F ks ∧ Tgt as a F ks ∧ ∀ b, R a b = if b ∈ a :: ks then some (F b) else none
theorem up1_at {F : List Nat → Int} {e n : List Nat} {v : Int} : up1 F e v n = if n = e then v else F n := rfl
theorem Sml.done {as : List Ar} {f : List Nat} {ns : List (List Nat)} (hc : ∀ x ∈ as, 0 ≤ x.c ∧ x.c ≤ 120) (hin : ∀ x ∈ as, x.v ∈ ns) (ln : ns.length ≤ 12) : ∀ (n : Nat) {P : List Nat → List Nat} {G : List Nat → Int × Int} {F : List Nat → Int} {ks : List (List Nat)}, msr F ks ≤ n → Sml as f P G F ks → ∃ ks P G F, Sml as f P G F ks ∧ Tgt as f F ks := by
  intro n
  induction n with
  | zero =>
    intro P G F ks hm h
    refine ⟨ks, P, G, F, h, fun x hx hu => ?_⟩
    have hu' : x.u = f ∨ x.u ∈ ks := List.mem_cons.mp hu
    by_cases n1 : x.v = f ∨ x.v ∈ ks
    · refine ⟨List.mem_cons.mpr n1, ?_⟩
      rcases Int.lt_or_le (F x.u + x.c) (F x.v) with lt | le
      · obtain ⟨_, mv, _, _⟩ := h.low hc hx hu' n1 lt
        have := msr_low mv (by have := h.pos' hu'; have := (hc x hx).1; omega) lt
        omega
      · exact le
    · have n2 := not_or.mp n1
      obtain ⟨h2, _⟩ := h.new hc hx hu' n2.1 n2.2
      have l2 := h2.len hin
      rw [List.length_append, List.length_singleton] at l2
      have := msr_new (F := F) n2.2 (by omega) (v := F x.u + x.c) (by have := h.top' hu'; have := (hc x hx).2; omega)
      omega
  | succ n ih =>
    intro P G F ks hm h
    by_cases t : Tgt as f F ks
    · exact ⟨ks, P, G, F, h, t⟩
    · obtain ⟨x, t⟩ := Classical.not_forall.mp t
      obtain ⟨hx, t⟩ := Classical.not_forall.mp t
      obtain ⟨hu, t⟩ := Classical.not_forall.mp t
      have hu' : x.u = f ∨ x.u ∈ ks := List.mem_cons.mp hu
      by_cases n1 : x.v = f ∨ x.v ∈ ks
      · have lt : F x.u + x.c < F x.v := by
          rcases Int.lt_or_le (F x.u + x.c) (F x.v) with lt | le
          · exact lt
          · exact absurd ⟨List.mem_cons.mpr n1, le⟩ t
        obtain ⟨_, mv, h2, _⟩ := h.low hc hx hu' n1 lt
        have := msr_low mv (by have := h.pos' hu'; have := (hc x hx).1; omega) lt
        exact ih (by omega) h2
      · have n2 := not_or.mp n1
        obtain ⟨h2, _⟩ := h.new hc hx hu' n2.1 n2.2
        have l2 := h2.len hin
        rw [List.length_append, List.length_singleton] at l2
        have := msr_new (F := F) n2.2 (by omega) (v := F x.u + x.c) (by have := h.top' hu'; have := (hc x hx).2; omega)
        exact ih (by omega) h2
theorem Lst.ex {as : List Ar} {ns : List (List Nat)} (hc : ∀ x ∈ as, 0 ≤ x.c ∧ x.c ≤ 120) (hin : ∀ x ∈ as, x.v ∈ ns) (ln : ns.length ≤ 12) : ∃ R, Lst as ns R := by
  have one : ∀ a : List Nat, ∃ g : List Nat → Option Int, ∃ ks P G F, Sml as a P G F ks ∧ Tgt as a F ks ∧ ∀ b, g b = if b ∈ a :: ks then some (F b) else none := fun a => by
    obtain ⟨ks, P, G, F, h1, h2⟩ := Sml.done hc hin ln _ (Nat.le_refl _) (Sml.nil (as := as) (f := a) (P := fun x => x) (G := fun _ => (0, 0)))
    exact ⟨fun b => if b ∈ a :: ks then some (F b) else none, ks, P, G, F, h1, h2, fun _ => rfl⟩
  refine ⟨fun a => Classical.choose (one a), ⟨fun a _ => Classical.choose_spec (one a)⟩⟩
theorem sml_le {as : List Ar} {a : List Nat} {ks us : List (List Nat)} {P P' : List Nat → List Nat} {G G' : List Nat → Int × Int} {F F' : List Nat → Int} (s : Sml as a P G F ks) (s' : Sml as a P' G' F' us) (t' : Tgt as a F' us) {k : Nat} {b : List Nat} (h : To ks P a k b) : b ∈ a :: us ∧ F' b ≤ F b := by
  induction h with
  | here => exact ⟨List.mem_cons_self, by rw [s.f0, s'.f0]; exact Int.le_refl _⟩
  | @up n k ne m r ih =>
    obtain ⟨x, hx, e1, e2, _, e4⟩ := s.ar n m
    obtain ⟨i1, i2⟩ := ih
    rw [← e1] at i1 i2
    obtain ⟨j1, j2⟩ := t' x hx i1
    rw [e2] at j1 j2
    rw [e1] at i2 j2
    exact ⟨j1, by omega⟩
/-- least sums are the only ones -/
theorem sml_uniq {as : List Ar} {a : List Nat} {ks us : List (List Nat)} {P P' : List Nat → List Nat} {G G' : List Nat → Int × Int} {F F' : List Nat → Int} (s : Sml as a P G F ks) (t : Tgt as a F ks) (s' : Sml as a P' G' F' us) (t' : Tgt as a F' us) (b : List Nat) : (if b ∈ a :: ks then some (F b) else none) = if b ∈ a :: us then some (F' b) else none := by
  by_cases h : b ∈ a :: ks
  · obtain ⟨k, hk⟩ := s.to b (List.mem_cons.mp h)
    obtain ⟨h2, l1⟩ := sml_le s s' t' hk
    obtain ⟨k', hk'⟩ := s'.to b (List.mem_cons.mp h2)
    obtain ⟨_, l2⟩ := sml_le s' s t hk'
    rw [if_pos h, if_pos h2, show F b = F' b by omega]
  · by_cases h2 : b ∈ a :: us
    · obtain ⟨k', hk'⟩ := s'.to b (List.mem_cons.mp h2)
      exact absurd (sml_le s' s t hk').1 h
    · rw [if_neg h, if_neg h2]
theorem Lst.at_ {as : List Ar} {ns : List (List Nat)} {R : List Nat → List Nat → Option Int} (l : Lst as ns R) {a : List Nat} (ha : a ∈ ns) {ks : List (List Nat)} {P : List Nat → List Nat} {G : List Nat → Int × Int} {F : List Nat → Int} (s : Sml as a P G F ks) (t : Tgt as a F ks) (b : List Nat) : R a b = if b ∈ a :: ks then some (F b) else none := by
  obtain ⟨us, P', G', F', s', t', e⟩ := l.each a ha
  rw [e, sml_uniq s' t' s t]
theorem Lst.self {as : List Ar} {ns : List (List Nat)} {R : List Nat → List Nat → Option Int} (l : Lst as ns R) {a : List Nat} (ha : a ∈ ns) : R a a = some 0 := by
  obtain ⟨us, P', G', F', s', t', e⟩ := l.each a ha
  rw [e, if_pos List.mem_cons_self, s'.f0]
theorem Lst.pos {as : List Ar} {ns : List (List Nat)} {R : List Nat → List Nat → Option Int} (l : Lst as ns R) {a b : List Nat} {v : Int} (ha : a ∈ ns) (h : R a b = some v) : 0 ≤ v := by
  obtain ⟨us, P', G', F', s', t', e⟩ := l.each a ha
  rw [e] at h
  split at h
  · rename_i hb
    cases h
    exact s'.pos' (List.mem_cons.mp hb)
  · cases h
/-- along an arc -/
theorem Lst.arc {as : List Ar} {ns : List (List Nat)} {R : List Nat → List Nat → Option Int} (l : Lst as ns R) {a : List Nat} {x : Ar} {v : Int} (ha : a ∈ ns) (hx : x ∈ as) (h : R a x.u = some v) : ∃ w, R a x.v = some w ∧ w ≤ v + x.c := by
  obtain ⟨us, P', G', F', s', t', e⟩ := l.each a ha
  rw [e] at h
  split at h
  · rename_i hb
    cases h
    obtain ⟨h1, h2⟩ := t' x hx hb
    exact ⟨F' x.v, by rw [e, if_pos h1], h2⟩
  · cases h
/-! ### tables over pairs of names -/
def k2 (a b : List Nat) : List Key := [.inr (S a), .inr (S b)]
theorem k2_iff {a b c d : List Nat} : k2 a b = k2 c d ↔ a = c ∧ b = d := by
  constructor
  · intro h
    unfold k2 at h
    injection h with h1 h2
    injection h2 with h2 _
    injection h1 with h1
    injection h2 with h2
    exact ⟨S_inj h1, S_inj h2⟩
  · rintro ⟨rfl, rfl⟩
    rfl
def oV : Option Int → V
  | none => .non
  | some i => .int i
def up2 (g : List Nat → List Nat → Option Int) (a b : List Nat) (v : Option Int) : List Nat → List Nat → Option Int := fun x y => if x = a ∧ y = b then v else g x y
theorem up2_eq {g : List Nat → List Nat → Option Int} {a b : List Nat} {v : Option Int} : up2 g a b v a b = v := if_pos ⟨rfl, rfl⟩
theorem up2_ne {g : List Nat → List Nat → Option Int} {a b x y : List Nat} {v : Option Int} (h : ¬ (x = a ∧ y = b)) : up2 g a b v x y = g x y := if_neg h
structure Tab (H : Hp) (d : Addr) (p : List Nat → List Nat → Prop) (g : List Nat → List Nat → Option Int) (n : Nat) : Prop where
  ex : ∃ kvs : List (List Key × V), H d = some (.dT kvs) ∧ kvs.length ≤ n ∧ ∀ a b, p a b → valV kvs (k2 a b) = some (oV (g a b))
theorem Tab.mono {H H' : Hp} (s : Same H H') {d : Addr} {p : List Nat → List Nat → Prop} {g : List Nat → List Nat → Option Int} {n : Nat} (h : Tab H d p g n) : Tab H' d p g n := by
  obtain ⟨kvs, h1, h2⟩ := h.ex
  exact ⟨kvs, s _ _ h1, h2⟩
theorem Tab.weak {H : Hp} {d : Addr} {p q : List Nat → List Nat → Prop} {g f : List Nat → List Nat → Option Int} {n m : Nat} (h : Tab H d p g n) (hp : ∀ a b, q a b → p a b ∧ g a b = f a b) (hn : n ≤ m) : Tab H d q f m := by
  obtain ⟨kvs, h1, h2, h3⟩ := h.ex
  exact ⟨kvs, h1, by omega, fun a b hq => by rw [h3 a b (hp a b hq).1, (hp a b hq).2]⟩
theorem Tab.nil {H : Hp} {d : Addr} {g : List Nat → List Nat → Option Int} (hd : H d = some (.dT [])) : Tab H d (fun _ _ => False) g 0 := ⟨[], hd, Nat.le_refl _, fun _ _ h => h.elim⟩
theorem len_put_in {kvs : List (List Key × V)} {k : List Key} {v w : V} (h : valV kvs k = some w) : (putK kvs k v).length = kvs.length := by
  unfold putK
  rw [valV_any, h]
  simp
section
variable {H : Hp} {d : Addr} {p : List Nat → List Nat → Prop} {g : List Nat → List Nat → Option Int} {n : Nat} {a b : List Nat}
/-- d[(a, b)] -/
theorem tab_get {R : V → Prop} {t : Addr} (h : Tab H d p g n) (hp : p a b) (ht : H t = some (.tup [sv a, sv b])) (q : R (oV (g a b))) : ∃ e v, V.ref d = .ref e ∧ DGet H e (.ref t) (some v) ∧ R v := by
  obtain ⟨kvs, h1, _, h3⟩ := h.ex
  refine ⟨d, _, rfl, ?_, q⟩
  have := DGet.t (k := k2 a b) h1 ht
  rw [h3 a b hp] at this
  exact this
/-- d[(a, b)] = i -/
theorem tab_put {R : Hp → Prop} {t : Addr} {i : Option Int} (h : Tab H d p g n) (ht : H t = some (.tup [sv a, sv b])) (hn : n ≤ 1000)
    (q : ∀ o, Tab (upd H d o) d (fun x y => p x y ∨ (x = a ∧ y = b)) (up2 g a b i) (n + 1) → (p a b → Tab (upd H d o) d p (up2 g a b i) n) → R (upd H d o)) : rSetD (.ref d) (.ref t) (oV i) H R := by
  obtain ⟨kvs, h1, h2, h3⟩ := h.ex
  have key : ∀ x y, p x y ∨ (x = a ∧ y = b) → valV (putK kvs (k2 a b) (oV i)) (k2 x y) = some (oV (up2 g a b i x y)) := fun x y hxy => by
    rw [valV_put]
    by_cases e : x = a ∧ y = b
    · rw [if_pos (k2_iff.mpr e), e.1, e.2, up2_eq]
    · rw [if_neg (fun z => e (k2_iff.mp z)), up2_ne e]
      exact h3 x y (hxy.resolve_right e)
  refine ⟨d, _, rfl, DPut.t (k := k2 a b) h1 ht (by rw [sizeLine_eq]; omega), q _ ⟨_, upd_same, ?_, key⟩ fun hp => ⟨_, upd_same, ?_, fun x y hxy => key x y (.inl hxy)⟩⟩
  · have := length_putK kvs (k2 a b) (oV i); omega
  · rw [len_put_in (h3 a b hp)]; exact h2
end
/-! ### one step of the plain table -/
def near (g : List Nat → List Nat → Option Int) (a b c : List Nat) (s : Int) : List Nat → List Nat → Option Int :=
  match g a b with
  | none => g
  | some v => match g a c with
    | none => up2 g a c (some (v + s))
    | some w => if v + s < w then up2 g a c (some (v + s)) else g
section
variable {g : List Nat → List Nat → Option Int} {a b c : List Nat} {s : Int}
theorem near_non (h : g a b = none) : near g a b c s = g := by unfold near; rw [h]
theorem near_new {v : Int} (h : g a b = some v) (k : g a c = none) : near g a b c s = up2 g a c (some (v + s)) := by unfold near; rw [h, k]
theorem near_low {v w : Int} (h : g a b = some v) (k : g a c = some w) (lt : v + s < w) : near g a b c s = up2 g a c (some (v + s)) := by
  unfold near
  rw [h, k]
  exact if_pos lt
theorem near_hi {v w : Int} (h : g a b = some v) (k : g a c = some w) (lt : ¬ v + s < w) : near g a b c s = g := by
  unfold near
  rw [h, k]
  exact if_neg lt
theorem near_le {x y : List Nat} {v : Int} (h : g x y = some v) : ∃ w, near g a b c s x y = some w ∧ w ≤ v := by
  cases hz : g a b with
  | none => rw [near_non hz]; exact ⟨v, h, Int.le_refl _⟩
  | some z =>
    cases hw : g a c with
    | none =>
      rw [near_new hz hw]
      by_cases e : x = a ∧ y = c
      · rw [e.1, e.2, hw] at h; cases h
      · exact ⟨v, by rw [up2_ne e]; exact h, Int.le_refl _⟩
    | some w =>
      by_cases lt : z + s < w
      · rw [near_low hz hw lt]
        by_cases e : x = a ∧ y = c
        · rw [e.1, e.2, hw] at h
          cases h
          rw [e.1, e.2]
          exact ⟨z + s, up2_eq, by omega⟩
        · exact ⟨v, by rw [up2_ne e]; exact h, Int.le_refl _⟩
      · rw [near_hi hz hw lt]
        exact ⟨v, h, Int.le_refl _⟩
theorem near_at {v : Int} (h : g a b = some v) : ∃ w, near g a b c s a c = some w ∧ w ≤ v + s := by
  cases hw : g a c with
  | none => rw [near_new h hw]; exact ⟨_, up2_eq, Int.le_refl _⟩
  | some w =>
    by_cases lt : v + s < w
    · rw [near_low h hw lt]; exact ⟨_, up2_eq, Int.le_refl _⟩
    · rw [near_hi h hw lt]; exact ⟨w, hw, by omega⟩
theorem near_or (x y : List Nat) : near g a b c s x y = g x y ∨ (x = a ∧ y = c ∧ ∃ v, g a b = some v ∧ near g a b c s x y = some (v + s)) := by
  cases hz : g a b with
  | none => rw [near_non hz]; exact .inl rfl
  | some z =>
    have up : near g a b c s = up2 g a c (some (z + s)) → near g a b c s x y = g x y ∨ (x = a ∧ y = c ∧ ∃ v, some z = some v ∧ near g a b c s x y = some (v + s)) := fun e0 => by
      rw [e0]
      by_cases e : x = a ∧ y = c
      · rw [e.1, e.2]
        exact .inr ⟨rfl, rfl, z, rfl, up2_eq⟩
      · exact .inl (up2_ne e)
    cases hw : g a c with
    | none => exact up (near_new hz hw)
    | some w =>
      by_cases lt : z + s < w
      · exact up (near_low hz hw lt)
      · rw [near_hi hz hw lt]; exact .inl rfl
end
/-- what the table says is no less than the least sums -/
def Snd (ns : List (List Nat)) (R g : List Nat → List Nat → Option Int) : Prop := ∀ a ∈ ns, ∀ b ∈ ns, ∀ v, g a b = some v → ∃ w, R a b = some w ∧ w ≤ v
theorem Snd.near {as : List Ar} {ns : List (List Nat)} {R g : List Nat → List Nat → Option Int} (l : Lst as ns R) (h : Snd ns R g) {a : List Nat} {x : Ar} (ha : a ∈ ns) (hx : x ∈ as) (hu : x.u ∈ ns) : Snd ns R (near g a x.u x.v x.c) := fun p hp q hq v e => by
  rcases near_or (g := g) (a := a) (b := x.u) (c := x.v) (s := x.c) p q with h1 | ⟨rfl, rfl, v0, h2, h3⟩
  · exact h p hp q hq v (h1 ▸ e)
  · rw [h3] at e
    cases e
    obtain ⟨w, h4, h5⟩ := h p ha x.u hu v0 h2
    obtain ⟨w2, h6, h7⟩ := l.arc ha hx h4
    exact ⟨w2, h6, by omega⟩
/-- no more than before -/
def Mon (g0 g : List Nat → List Nat → Option Int) : Prop := ∀ a b v, g0 a b = some v → ∃ w, g a b = some w ∧ w ≤ v
theorem Mon.refl (g : List Nat → List Nat → Option Int) : Mon g g := fun _ _ v h => ⟨v, h, Int.le_refl _⟩
theorem Mon.trans {g0 g1 g2 : List Nat → List Nat → Option Int} (h : Mon g0 g1) (k : Mon g1 g2) : Mon g0 g2 := fun a b v e => by
  obtain ⟨w, e1, l1⟩ := h a b v e
  obtain ⟨u, e2, l2⟩ := k a b w e1
  exact ⟨u, e2, by omega⟩
theorem Mon.near {g : List Nat → List Nat → Option Int} {a b c : List Nat} {s : Int} : Mon g (near g a b c s) := fun _ _ _ h => near_le h
/-- the arcs of A have been looked at for the events of N -/
def Rlx (g0 g : List Nat → List Nat → Option Int) (a : List Nat) (x : Ar) : Prop := ∀ v, g0 a x.u = some v → ∃ w, g a x.v = some w ∧ w ≤ v + x.c
theorem Rlx.mon {g0 g1 g2 : List Nat → List Nat → Option Int} {a : List Nat} {x : Ar} (h : Rlx g0 g1 a x) (m : Mon g1 g2) : Rlx g0 g2 a x := fun v e => by
  obtain ⟨w, e1, l1⟩ := h v e
  obtain ⟨u, e2, l2⟩ := m _ _ _ e1
  exact ⟨u, e2, by omega⟩
theorem Rlx.new {g0 g : List Nat → List Nat → Option Int} {a : List Nat} {x : Ar} (m : Mon g0 g) : Rlx g0 (near g a x.u x.v x.c) a x := fun v e => by
  obtain ⟨w, e1, l1⟩ := m _ _ _ e
  obtain ⟨u, e2, l2⟩ := near_at (c := x.v) (s := x.c) e1
  exact ⟨u, e2, by omega⟩
/-- least sums over at most j steps back are in the table -/
def Prg (as : List Ar) (ns : List (List Nat)) (g : List Nat → List Nat → Option Int) (j : Nat) : Prop := ∀ a ∈ ns, ∀ ks P G F, Sml as a P G F ks → ∀ k b, k ≤ j → To ks P a k b → ∃ v, g a b = some v ∧ v ≤ F b
theorem Prg.next {as : List Ar} {ns : List (List Nat)} {g0 g : List Nat → List Nat → Option Int} {j : Nat} (h : Prg as ns g0 j) (m : Mon g0 g) (r : ∀ a ∈ ns, ∀ x ∈ as, Rlx g0 g a x) : Prg as ns g (j + 1) := fun a ha ks P G F s k b hk t => by
  cases t with
  | here =>
    obtain ⟨v, e, l⟩ := h a ha ks P G F s 0 _ (Nat.zero_le _) .here
    obtain ⟨w, e1, l1⟩ := m _ _ _ e
    exact ⟨w, e1, by omega⟩
  | @up _ k ne mb t =>
    obtain ⟨v, e, l⟩ := h a ha ks P G F s k _ (by omega) t
    obtain ⟨x, hx, e1, e2, _, e4⟩ := s.ar b mb
    rw [← e1] at e l e4
    obtain ⟨w, e5, l5⟩ := r a ha x hx v e
    rw [e2] at e5
    exact ⟨w, e5, by omega⟩
theorem tab_done {as : List Ar} {ns : List (List Nat)} {R g : List Nat → List Nat → Option Int} (l : Lst as ns R) (hin : ∀ x ∈ as, x.v ∈ ns) (sn : Snd ns R g) (pr : Prg as ns g ns.length) : ∀ a ∈ ns, ∀ b ∈ ns, g a b = R a b := fun a ha b hb => by
  obtain ⟨ks, P, G, F, s, t, e⟩ := l.each a ha
  cases hg : g a b with
  | none =>
    rw [e]
    by_cases hm : b ∈ a :: ks
    · obtain ⟨k, hk⟩ := s.to b (List.mem_cons.mp hm)
      obtain ⟨v, e1, _⟩ := pr a ha ks P G F s k b (Nat.le_trans hk.len (s.len hin)) hk
      rw [hg] at e1
      cases e1
    · rw [if_neg hm]
  | some v =>
    obtain ⟨w, e1, l1⟩ := sn a ha b hb v hg
    rw [e1]
    rw [e] at e1
    split at e1
    · rename_i hm
      cases e1
      obtain ⟨k, hk⟩ := s.to b (List.mem_cons.mp hm)
      obtain ⟨v', e2, l2⟩ := pr a ha ks P G F s k b (Nat.le_trans hk.len (s.len hin)) hk
      rw [hg] at e2
      cases e2
      exact congrArg some (by omega)
    · cases e1
theorem wp_dnewT {σ : L2.St} {H : Hp} {Q : VK} (h : ∀ p, H p = none → Q (.ref p) (upd H p (.dT []))) : tDNewT σ H Q := h
theorem wp_dget1 {σ : L2.St} {H : Hp} {Q : VK} {td ty : TE} (h : td σ H fun x H1 => ∃ a, x = .ref a ∧ IsD H1 a ∧ ty σ H1 fun y H2 => ∃ o, DGet H2 a y o ∧ Q (o.getD .non) H2) : tDGet1 td ty σ H Q := h
end RM
namespace RM
open PySem PySem.Spec PyProof.Rows L2
local macro_rules | `(tactic| walk_at "vn") => `(tactic| (first
  | with_reducible refine wp_v0 ?_
  | with_reducible refine wp_v1 ?_
  | with_reducible refine wp_v2 ?_
  | with_reducible refine wp_v3 ?_
  | with_reducible refine wp_v4 ?_
  | with_reducible refine wp_v5 ?_
  | with_reducible refine wp_v6 ?_
  | with_reducible refine wp_v7 ?_
  | with_reducible refine wp_v8 ?_
  | with_reducible refine wp_v9 ?_
  | with_reducible refine wp_v10 ?_
  | with_reducible refine wp_v11 ?_
  | with_reducible refine wp_v12 ?_
  | with_reducible refine wp_v13 ?_
  | with_reducible refine wp_v14 ?_
  | with_reducible refine wp_v15 ?_
  | with_reducible refine wp_v16 ?_
  | with_reducible refine wp_v17 ?_
  | with_reducible refine wp_v18 ?_
  | with_reducible refine wp_v19 ?_
  | with_reducible refine wp_v20 ?_
  | with_reducible refine wp_v21 ?_
  | with_reducible refine wp_v22 ?_
  | with_reducible refine wp_v23 ?_
  | with_reducible refine wp_v24 ?_
  | with_reducible refine wp_v25 ?_))
local macro_rules | `(tactic| walk_at "gn") => `(tactic| (first
  | with_reducible refine wp_g0 ?_
  | with_reducible refine wp_g1 ?_
  | with_reducible refine wp_g2 ?_
  | with_reducible refine wp_g3 ?_
  | with_reducible refine wp_g4 ?_
  | with_reducible refine wp_g5 ?_
  | with_reducible refine wp_g6 ?_
  | with_reducible refine wp_g7 ?_
  | with_reducible refine wp_g8 ?_
  | with_reducible refine wp_g9 ?_
  | with_reducible refine wp_g10 ?_
  | with_reducible refine wp_g11 ?_
  | with_reducible refine wp_g12 ?_
  | with_reducible refine wp_g13 ?_
  | with_reducible refine wp_g14 ?_
  | with_reducible refine wp_g15 ?_
  | with_reducible refine wp_g16 ?_
  | with_reducible refine wp_g17 ?_
  | with_reducible refine wp_g18 ?_
  | with_reducible refine wp_g19 ?_
  | with_reducible refine wp_g20 ?_
  | with_reducible refine wp_g21 ?_
  | with_reducible refine wp_g22 ?_
  | with_reducible refine wp_g23 ?_
  | with_reducible refine wp_g24 ?_
  | with_reducible refine wp_g25 ?_))
local macro_rules | `(tactic| walk_at "h") => `(tactic| (first
  | assumption
  | exact upd_same
  | exact (Sees.sub (by assumption) _ _ (by assumption))
  | exact (Sees.sub (by assumption) _ _ upd_same)
  | exact (Sees.sub (by assumption) _ _ (Eq.trans (upd_ne (by first | assumption | exact Ne.symm (by assumption))) (by assumption)))
  | exact (Sees.cell (by assumption))
  | exact (Sees.sub (by assumption) _ _ (Sees.cell (by assumption))) | fail "h"))
local macro_rules | `(tactic| walk_at "sq") => `(tactic| (first | assumption | exact sq_of (by walk_at "h") | fail "sq"))
local macro_rules | `(tactic| walk_at "tq") => `(tactic| (first | assumption | exact st_of (by walk_at "h") | fail "tq"))
local macro_rules | `(tactic| walk_at "isi") => `(tactic| (first
  | with_reducible refine is_non_int ?_
  | with_reducible refine is_non_bool ?_
  | with_reducible refine is_non_str ?_
  | with_reducible refine is_non_dict ?_
  | with_reducible refine is_non_list ?_
  | with_reducible refine is_non_tuple ?_
  | with_reducible refine is_bl_int ?_
  | with_reducible refine is_bl_bool ?_
  | with_reducible refine is_bl_str ?_
  | with_reducible refine is_bl_dict ?_
  | with_reducible refine is_bl_list ?_
  | with_reducible refine is_bl_tuple ?_
  | with_reducible refine is_int_int ?_
  | with_reducible refine is_int_bool ?_
  | with_reducible refine is_int_str ?_
  | with_reducible refine is_int_dict ?_
  | with_reducible refine is_int_list ?_
  | with_reducible refine is_int_tuple ?_
  | with_reducible refine is_str_int ?_
  | with_reducible refine is_str_bool ?_
  | with_reducible refine is_str_str ?_
  | with_reducible refine is_str_dict ?_
  | with_reducible refine is_str_list ?_
  | with_reducible refine is_str_tuple ?_
  | ((with_reducible refine' is_lst_int ?k1 ?_); (case k1 => walk_at "h"))
  | ((with_reducible refine' is_lst_bool ?k1 ?_); (case k1 => walk_at "h"))
  | ((with_reducible refine' is_lst_str ?k1 ?_); (case k1 => walk_at "h"))
  | ((with_reducible refine' is_lst_dict ?k1 ?_); (case k1 => walk_at "h"))
  | ((with_reducible refine' is_lst_list ?k1 ?_); (case k1 => walk_at "h"))
  | ((with_reducible refine' is_lst_tuple ?k1 ?_); (case k1 => walk_at "h"))
  | ((with_reducible refine' is_tup_int ?k1 ?_); (case k1 => walk_at "h"))
  | ((with_reducible refine' is_tup_bool ?k1 ?_); (case k1 => walk_at "h"))
  | ((with_reducible refine' is_tup_str ?k1 ?_); (case k1 => walk_at "h"))
  | ((with_reducible refine' is_tup_dict ?k1 ?_); (case k1 => walk_at "h"))
  | ((with_reducible refine' is_tup_list ?k1 ?_); (case k1 => walk_at "h"))
  | ((with_reducible refine' is_tup_tuple ?k1 ?_); (case k1 => walk_at "h"))
  | ((with_reducible refine' is_dK_int ?k1 ?_); (case k1 => walk_at "h"))
  | ((with_reducible refine' is_dK_bool ?k1 ?_); (case k1 => walk_at "h"))
  | ((with_reducible refine' is_dK_str ?k1 ?_); (case k1 => walk_at "h"))
  | ((with_reducible refine' is_dK_dict ?k1 ?_); (case k1 => walk_at "h"))
  | ((with_reducible refine' is_dK_list ?k1 ?_); (case k1 => walk_at "h"))
  | ((with_reducible refine' is_dK_tuple ?k1 ?_); (case k1 => walk_at "h"))
  | fail "isi"))
local macro_rules | `(tactic| walk_at "len") => `(tactic| (first | assumption | omega | (simp only [List.length_map, List.length_append, List.length_cons, List.length_nil] <;> omega) | decide | fail "len"))
local macro_rules | `(tactic| walk_at "at") => `(tactic| (first | exact at0 | exact at1 | exact at2 | exact at3 | exact at4 | rfl | assumption | fail "at"))
local macro_rules | `(tactic| walk_at "one") => `(tactic| (first
  | with_reducible refine wp_seq ?_
  | with_reducible refine wp_asg ?_
  | ((with_reducible refine is_var ?_); walk_at "vn")
  | ((with_reducible refine is_gname ?_); walk_at "gn")
  | with_reducible refine wp_c ?_
  | with_reducible refine wp_op ?_
  | with_reducible refine wp_cb ?_
  | with_reducible refine wp_cons ?_
  | with_reducible refine wp_nil ?_
  | with_reducible refine wp_call ?_
  | with_reducible refine wp_ret ?_
  | with_reducible refine wp_dgetE ?_
  | with_reducible refine wp_forItems ?_
  | with_reducible refine wp_forOwnL ?_
  | with_reducible refine wp_forOwnK ?_
  | with_reducible refine wp_subOwn ?_
  | with_reducible refine wp_din ?_
  | with_reducible refine wp_next ?_
  | with_reducible refine wp_rI0 ?_
  | with_reducible refine wp_int1 ?_
  | with_reducible refine wp_test ?_
  | with_reducible refine wp_bl ?_
  | with_reducible refine wp_ifS ?_
  | with_reducible refine wp_drop ?_
  | with_reducible refine wp_eqI ?_
  | with_reducible refine wp_eqS ?_
  | with_reducible refine wp_eqB ?_
  | with_reducible refine wp_neI ?_
  | with_reducible refine wp_neS ?_
  | with_reducible refine wp_min2 ?_
  | with_reducible refine wp_max2 ?_
  | with_reducible refine wp_find ?_
  | with_reducible refine wp_B ?_
  | with_reducible refine wp_not ?_
  | with_reducible refine wp_and ?_
  | with_reducible refine wp_or ?_
  | with_reducible refine wp_notV ?_
  | with_reducible refine wp_andV ?_
  | with_reducible refine wp_orV ?_
  | with_reducible refine wp_ifE ?_
  | with_reducible refine wp_chain ?_
  | with_reducible refine wp_slice ?_
  | with_reducible refine wp_noPart ?_
  | with_reducible refine wp_part ?_
  | with_reducible refine wp_partI ?_
  | with_reducible refine wp_for1 ?_
  | with_reducible refine wp_for2 ?_
  | with_reducible refine wp_forL ?_
  | with_reducible refine wp_forT ?_
  | with_reducible refine wp_forS ?_
  | with_reducible refine wp_lcL ?_
  | with_reducible refine wp_lcT ?_
  | with_reducible refine wp_lcS ?_
  | with_reducible refine wp_lc1 ?_
  | with_reducible refine wp_lcE ?_
  | with_reducible refine wp_starT ?_
  | with_reducible refine wp_brk ?_
  | with_reducible refine wp_cont ?_
  | with_reducible refine wp_bm ?_
  | with_reducible refine wp_bm0 ?_
  | with_reducible refine wp_gsub ?_
  | with_reducible refine wp_inS ?_
  | with_reducible refine wp_notInS ?_
  | with_reducible refine wp_un ?_
  | with_reducible refine wp_rU ?_
  | with_reducible refine wp_tup ?_
  | with_reducible refine wp_lst ?_
  | with_reducible refine ty_str ?_
  | with_reducible refine ite_t ?_
  | with_reducible refine ite_f ?_
  | with_reducible refine ite_nt ?_
  | with_reducible refine ite_nff ?_
  | ((with_reducible refine' ite_T ?k1 ?_); (case k1 => omega))
  | ((with_reducible refine' ite_F ?k1 ?_); (case k1 => omega))
  | ((with_reducible refine' ite_nT ?k1 ?_); (case k1 => omega))
  | ((with_reducible refine' ite_nF ?k1 ?_); (case k1 => omega))
  | ((with_reducible refine' wp_rI ?k1 ?_); (case k1 => (first | omega | exact ⟨by omega, by omega⟩ | exact .inr ⟨by decide, by decide⟩ | exact .inl ⟨by omega, by omega⟩ | exact .inl ⟨by decide, by decide⟩ | exact ⟨by decide, by decide, by decide⟩)))
  | ((with_reducible refine' wp_ixL ?k1 ?k2 ?_); (case k1 => walk_at "sq"); (case k2 => walk_at "at"))
  | ((with_reducible refine' wp_setL0 ?k1 ?_); (case k1 => walk_at "h"))
  | ((with_reducible refine' wp_setL1 ?k1 ?_); (case k1 => walk_at "h"))
  | ((with_reducible refine' wp_setL ?k1 ?k2 ?_); (case k1 => walk_at "h"); (case k2 => walk_at "at"))
  | ((with_reducible refine' wp_ixT ?k1 ?k2 ?_); (case k1 => walk_at "tq"); (case k2 => walk_at "at"))
  | ((with_reducible refine' wp_lenL ?k1 ?_); (case k1 => walk_at "sq"))
  | ((with_reducible refine' wp_lenT ?k1 ?_); (case k1 => walk_at "tq"))
  | ((with_reducible refine' wp_sliceS ?k1 ?_); (case k1 => walk_at "len"))
  | ((with_reducible refine is_isi ?_); walk_at "isi")
  | ((with_reducible refine' wp_lenS ?k1 ?_); (case k1 => walk_at "len"))
  | ((with_reducible refine' wp_addS ?k1 ?_); (case k1 => walk_at "len"))
  | ((with_reducible refine' wp_lenStr ?k1 ?_); (case k1 => walk_at "len"))
  | ((with_reducible refine' ty_list ?k1 ?_); (case k1 => walk_at "sq"))
  | ((with_reducible refine' wp_addStr ?k1 ?_); (case k1 => walk_at "len"))
  | with_reducible refine wp_fldC ?_
  | with_reducible refine wp_sfldC ?_
  | with_reducible refine wp_prop ?_
  | with_reducible refine wp_meth ?_
  | with_reducible refine wp_methD ?_
  | with_reducible refine wp_methK ?_
  | with_reducible refine wp_yes ?_
  | with_reducible refine wp_methR ?_
  | with_reducible refine wp_make ?_
  | with_reducible refine wp_isN ?_
  | with_reducible refine wp_enum ?_
  | with_reducible refine wp_gcons ?_
  | with_reducible refine wp_gnil ?_
  | ((with_reducible refine' wp_gtup ?k1 ?k2 ?_); (case k1 => walk_at "tq"); (case k2 => first | rfl | fail "gtup"))
  | ((with_reducible refine' fld_at ?k1 lk_T ?_); (case k1 => walk_at "h"))
  | ((with_reducible refine' fld_at ?k1 lk_e ?_); (case k1 => walk_at "h"))
  | ((with_reducible refine' fld_at ?k1 lk_mT ?_); (case k1 => walk_at "h"))
  | ((with_reducible refine' fld_at ?k1 lk_md ?_); (case k1 => walk_at "h"))
  | ((with_reducible refine' fld_at ?k1 lk_s ?_); (case k1 => walk_at "h"))
  | ((with_reducible refine' fld_at ?k1 lk_sm ?_); (case k1 => walk_at "h"))
  | with_reducible refine wp_dget2 ?_
  | with_reducible refine wp_ckw ?_
  | with_reducible refine wp_smeth ?_
  | with_reducible refine wp_forKeys ?_
  | with_reducible refine wp_dcL ?_
  | with_reducible refine wp_dcT ?_
  | with_reducible refine wp_subOwnX ?_
  | with_reducible refine wp_starO ?_
  | with_reducible refine wp_ownIX ?_
  | with_reducible refine wp_ownIS ?_
  | with_reducible refine wp_ownOX ?_
  | with_reducible refine wp_lcKeysF ?_
  | with_reducible refine wp_lcZ ?_
  | with_reducible refine wp_makeSt ?_
  | with_reducible refine wp_callS0 ?_
  | with_reducible refine wp_fs ?_
  | with_reducible refine wp_js ?_
  | with_reducible refine wp_js0 ?_
  | with_reducible refine wp_fmt ?_
  | with_reducible refine wp_cms ?_
  | with_reducible refine wp_cmk ?_
  | with_reducible refine wp_tru ?_
  | ((with_reducible refine' wp_isC ?k1 ?_); (case k1 => walk_at "h"))
  | fail "no step"))
local macro_rules | `(tactic| walk_at "st") => `(tactic| (repeat' walk_at "one"))
def sp_check_range (K : PySem.W.Frag) : Sp := fun vs H Q _ => ∃ (n lo hi : Int), vs = [.int n, .int lo, .int hi] ∧ lo ≤ n ∧ n ≤ hi ∧ Q .non H
abbrev N_check_range : List Str := ["number", "low", "high"]
theorem st_check_range {a0 a1 a2 : V} : L2.start N_check_range [a0, a1, a2] = [some a0, some a1, some a2] := rfl
def t_check_range (K : PySem.W.Frag) : TS :=
  (tIfS ((tNot ((tTest (tChain (rI0 fun i j => .bl (decide (i ≤ j))) (rI0 fun i j => .bl (decide (i ≤ j))) (tVar 1) (tVar 0) (tVar 2)))))) (tNever) (tNext))

theorem pure_check_range (K : PySem.W.Frag) (vs : List V) (H : Hp) (Q : VK) (E : XK) (h : sp_check_range K vs H Q E) : t_check_range K { nx := fun _ H' => Q .non H', rt := Q } (L2.start N_check_range vs) H := by
  obtain ⟨n, lo, hi, rfl, h1, h2, k⟩ := h
  rw [st_check_range]
  unfold t_check_range
  walk_at "st"
  exact k
theorem len_check_range (K : PySem.W.Frag) (vs : List V) (H : Hp) (Q : VK) (E : XK) (h : sp_check_range K vs H Q E) : vs.length = 3 := by
  obtain ⟨n, lo, hi, rfl, _⟩ := h
  rfl
theorem c_check_range {K : PySem.W.Frag} {n lo hi : Int} {H : Hp} {Q : VK} {E : XK} (h : lo ≤ n ∧ n ≤ hi) (k : Q .non H) : sp_check_range K [.int n, .int lo, .int hi] H Q E := ⟨n, lo, hi, rfl, h.1, h.2, k⟩
def sp_check_round_length (K : PySem.W.Frag) : Sp := fun vs H Q _ => ∃ (n : Int), vs = [.int n] ∧ 3 ≤ n ∧ n ≤ 120 ∧ Q .non H
abbrev N_check_round_length : List Str := ["round_length"]
theorem st_check_round_length {a0 : V} : L2.start N_check_round_length [a0] = [some a0] := rfl
def t_check_round_length (K : PySem.W.Frag) : TS :=
  (tDrop ((tCall (sp_check_range K) [] E0 ((tCons (tVar 0) ((tCons (tC (.int 3)) ((tCons (tC (.int 120)) (tNil))))))))))

theorem pure_check_round_length (K : PySem.W.Frag) (vs : List V) (H : Hp) (Q : VK) (E : XK) (h : sp_check_round_length K vs H Q E) : t_check_round_length K { nx := fun _ H' => Q .non H', rt := Q } (L2.start N_check_round_length vs) H := by
  obtain ⟨n, rfl, h1, h2, k⟩ := h
  rw [st_check_round_length]
  unfold t_check_round_length
  walk_at "st"
  refine c_check_range ⟨h1, h2⟩ ?_
  walk_at "st"
  exact k
theorem len_check_round_length (K : PySem.W.Frag) (vs : List V) (H : Hp) (Q : VK) (E : XK) (h : sp_check_round_length K vs H Q E) : vs.length = 1 := by
  obtain ⟨n, rfl, _⟩ := h
  rfl
theorem c_check_round_length {K : PySem.W.Frag} {n : Int} {H : Hp} {Q : VK} {E : XK} (h : 3 ≤ n ∧ n ≤ 120) (k : Q .non H) : sp_check_round_length K [.int n] H Q E := ⟨n, rfl, h.1, h.2, k⟩
def sp_check_count (K : PySem.W.Frag) : Sp := fun vs H Q _ => ∃ (n m : Int), vs = [.int n, .int m] ∧ n ≤ m ∧ Q .non H
abbrev N_check_count : List Str := ["count", "limit"]
theorem st_check_count {a0 a1 : V} : L2.start N_check_count [a0, a1] = [some a0, some a1] := rfl
def t_check_count (K : PySem.W.Frag) : TS :=
  (tIfS ((tTest (tOp (rI0 fun i j => .bl (decide (j < i))) (tVar 0) (tVar 1)))) (tNever) (tNext))

theorem pure_check_count (K : PySem.W.Frag) (vs : List V) (H : Hp) (Q : VK) (E : XK) (h : sp_check_count K vs H Q E) : t_check_count K { nx := fun _ H' => Q .non H', rt := Q } (L2.start N_check_count vs) H := by
  obtain ⟨n, m, rfl, h1, k⟩ := h
  rw [st_check_count]
  unfold t_check_count
  walk_at "st"
  exact k
theorem len_check_count (K : PySem.W.Frag) (vs : List V) (H : Hp) (Q : VK) (E : XK) (h : sp_check_count K vs H Q E) : vs.length = 2 := by
  obtain ⟨n, m, rfl, _⟩ := h
  rfl
theorem c_check_count {K : PySem.W.Frag} {n m : Int} {H : Hp} {Q : VK} {E : XK} (h : n ≤ m) (k : Q .non H) : sp_check_count K [.int n, .int m] H Q E := ⟨n, m, rfl, h, k⟩
def sp_is_name (K : PySem.W.Frag) : Sp := fun vs H Q _ => ∃ (l : List Nat), vs = [.str (S l)] ∧ l.length ≤ 1000 ∧ ∀ H', Same H H' → Q (.bl (isNm l)) H'
abbrev N_is_name : List Str := ["text", "sign"]
theorem st_is_name {a0 : V} : L2.start N_is_name [a0] = [some a0, none] := rfl
def t_is_name (K : PySem.W.Frag) : TS :=
  (tSeq ((tIfS ((tNot ((tTest (tChain (rI0 fun i j => .bl (decide (i ≤ j))) (rI0 fun i j => .bl (decide (i ≤ j))) (tC (.int 1)) ((tCB rLenStr ((tCons (tVar 0) (tNil))))) (tC (.int 8))))))) ((tRet (tC (.bl false)))) (tNext)))
    ((tRet ((tAndV ((tOp rInS ((tOp rIxS (tVar 0) (tC (.int 0)))) (tC (.str (S Z26))))) ((tCB (rAll K) ((tCons ((tLc ((iStr (tVar 0))) ((gName 1)) (tYes) ((tOrV ((tOp rInS (tVar 1) (tC (.str (S Z26))))) ((tOp rInS (tVar 1) (tC (.str (S Z10))))))) [1])) (tNil))))))))))

theorem pure_is_name (K : PySem.W.Frag) (vs : List V) (H : Hp) (Q : VK) (E : XK) (h : sp_is_name K vs H Q E) : t_is_name K { nx := fun _ H' => Q .non H', rt := Q } (L2.start N_is_name vs) H := by
  obtain ⟨l, rfl, hl, k⟩ := h
  rw [st_is_name]
  unfold t_is_name
  walk_at "st"
  have no : isNm l = false → Q (.bl false) H := fun e => by
    have z := k H (Same.refl H)
    rw [e] at z
    exact z
  refine ite_dec (fun h => ?_) (fun h => ?_)
  · walk_at "st"
    refine ite_ndec (fun h2 => ?_) (fun h2 => ?_)
    · walk_at "st"
      refine no ?_
      unfold isNm
      rw [decide_eq_false (by omega : ¬ l.length ≤ 8), Bool.false_and, Bool.and_false]
    · walk_at "st"
      cases l with
      | nil => exact absurd h (by simp)
      | cons c r =>
        refine wp_ixS (by rw [S_len]; omega) (c := c) at0 ?_
        walk_at "st"
        have hlen : decide (1 ≤ (c :: r).length) = true := by simp
        have hlen2 : decide ((c :: r).length ≤ 8) = true := by rw [decide_eq_true_eq]; omega
        refine ite_dec (fun h3 => ?_) (fun h3 => ?_)
        · walk_at "st"
          refine lcMapS (by omega) (fun x => [some (.str (S (c :: r))), some x]) (fun x => ⟨rfl, rfl⟩) (fun c => .bl (decide (LD c))) (fun c H2 hxm _ R hR => ?_) (fun D H2 hD s2 hD2 => ?_)
          · walk_at "st"
            have e : decide (LD c) = (decide (c ∈ Z26) || decide (c ∈ Z10)) := by
              rw [← Bool.decide_or, decide_eq_decide, z26, z10]
              rfl
            have z := hR H2 (Same.refl _)
            rw [e] at z
            refine ite_b (fun q => ?_) (fun q => ?_)
            · have q2 : decide (c ∈ Z26) = true := q
              rw [q2] at z
              exact z
            · have q2 : decide (c ∈ Z26) = false := q
              rw [q2] at z
              walk_at "st"
              exact z
          walk_at "st"
          refine wp_allL (bs := (c :: r).map fun c => decide (LD c)) (sq_of (by rw [List.map_map]; exact hD2)) ?_
          have e : ((c :: r).map fun c => decide (LD c)).all id = isNm (c :: r) := by
            unfold isNm
            have hc : decide (LT c) = true := decide_eq_true (z26.mp h3)
            rw [hlen, hlen2]
            show _ = (true && (true && (decide (LT c) && _)))
            rw [hc, List.all_map]
            rfl
          rw [e]
          exact k H2 s2
        · walk_at "st"
          refine no ?_
          rw [Bool.eq_false_iff]
          intro q
          obtain ⟨x, y, e, hx⟩ := (nm_iff.mp q).first
          cases e
          exact h3 (z26.mpr hx)
  · walk_at "st"
    refine no ?_
    unfold isNm
    rw [decide_eq_false (by omega : ¬ 1 ≤ l.length)]
    rfl
theorem len_is_name (K : PySem.W.Frag) (vs : List V) (H : Hp) (Q : VK) (E : XK) (h : sp_is_name K vs H Q E) : vs.length = 1 := by
  obtain ⟨l, rfl, _⟩ := h
  rfl
theorem c_is_name {K : PySem.W.Frag} {l : List Nat} {H : Hp} {Q : VK} {E : XK} (hl : l.length ≤ 1000) (k : ∀ H', Same H H' → Q (.bl (isNm l)) H') : sp_is_name K [.str (S l)] H Q E := ⟨l, rfl, hl, k⟩

def sp_check_name (K : PySem.W.Frag) : Sp := fun vs H Q _ => ∃ (l : List Nat), vs = [.str (S l)] ∧ Nm l ∧ ∀ H', Same H H' → Q .non H'
abbrev N_check_name : List Str := ["text"]
theorem st_check_name {a0 : V} : L2.start N_check_name [a0] = [some a0] := rfl
def t_check_name (K : PySem.W.Frag) : TS :=
  (tIfS ((tNot ((tB ((tCall (sp_is_name K) [] E0 ((tCons (tVar 0) (tNil))))))))) (tNever) (tNext))

theorem pure_check_name (K : PySem.W.Frag) (vs : List V) (H : Hp) (Q : VK) (E : XK) (h : sp_check_name K vs H Q E) : t_check_name K { nx := fun _ H' => Q .non H', rt := Q } (L2.start N_check_name vs) H := by
  obtain ⟨l, rfl, hn, k⟩ := h
  rw [st_check_name]
  unfold t_check_name
  have := hn.len
  walk_at "st"
  refine c_is_name (by omega) fun H2 s2 => ?_
  walk_at "st"
  rw [nm_iff.mpr hn]
  walk_at "st"
  exact k _ s2
theorem len_check_name (K : PySem.W.Frag) (vs : List V) (H : Hp) (Q : VK) (E : XK) (h : sp_check_name K vs H Q E) : vs.length = 1 := by
  obtain ⟨n, rfl, _⟩ := h
  rfl
theorem c_check_name {K : PySem.W.Frag} {l : List Nat} {H : Hp} {Q : VK} {E : XK} (hn : Nm l) (k : ∀ H', Same H H' → Q .non H') : sp_check_name K [.str (S l)] H Q E := ⟨l, rfl, hn, k⟩
def sp_check_event (K : PySem.W.Frag) : Sp := fun vs H Q _ => ∃ (l : List Nat) (b : Addr) (ms : List (List Nat)), vs = [.str (S l), .ref b] ∧ H b = some (.lst (ms.map sv)) ∧ Nm l ∧ l ∉ ms ∧ ∀ H', Same H H' → Q .non H'
abbrev N_check_event : List Str := ["name", "before"]
theorem st_check_event {a0 a1 : V} : L2.start N_check_event [a0, a1] = [some a0, some a1] := rfl
def t_check_event (K : PySem.W.Frag) : TS :=
  (tSeq ((tDrop ((tCall (sp_check_name K) [] E0 ((tCons (tVar 0) (tNil)))))))
    ((tIfS ((tTest (tOp (rIn K false) (tVar 0) (tVar 1)))) (tNever) (tNext))))

theorem pure_check_event (K : PySem.W.Frag) (vs : List V) (H : Hp) (Q : VK) (E : XK) (h : sp_check_event K vs H Q E) : t_check_event K { nx := fun _ H' => Q .non H', rt := Q } (L2.start N_check_event vs) H := by
  obtain ⟨l, b, ms, rfl, hb, hn, hm, k⟩ := h
  rw [st_check_event]
  unfold t_check_event
  walk_at "st"
  refine c_check_name hn fun H2 s2 => ?_
  walk_at "st"
  refine wp_inSv (sq_of (s2 _ _ hb)) ?_
  rw [decide_eq_false hm]
  walk_at "st"
  exact k _ s2
theorem len_check_event (K : PySem.W.Frag) (vs : List V) (H : Hp) (Q : VK) (E : XK) (h : sp_check_event K vs H Q E) : vs.length = 2 := by
  obtain ⟨n, m, ms, rfl, _⟩ := h
  rfl
theorem c_check_event {K : PySem.W.Frag} {l : List Nat} {b : Addr} {ms : List (List Nat)} {H : Hp} {Q : VK} {E : XK} (hb : H b = some (.lst (ms.map sv))) (hn : Nm l) (hm : l ∉ ms) (k : ∀ H', Same H H' → Q .non H') : sp_check_event K [.str (S l), .ref b] H Q E := ⟨l, b, ms, rfl, hb, hn, hm, k⟩
def sp_Net_contains (K : PySem.W.Frag) : Sp := fun vs H Q _ => ∃ (a : Addr) (T : Int) (ns : List (List Nat)) (ss : List V) (l : List Nat), vs = [.ref a, .str (S l)] ∧ IsNet (C_Net K) H a T ns ss ∧ Q (.bl (decide (l ∈ ns))) H
abbrev N_Net_contains : List Str := ["self", "name"]
theorem st_Net_contains {a0 a1 : V} : L2.start N_Net_contains [a0, a1] = [some a0, some a1] := rfl
def t_Net_contains (K : PySem.W.Frag) : TS :=
  (tRet ((tOp (rIn K false) (tVar 1) ((tFldC (C_Net K) (tVar 0) "_events")))))

theorem pure_Net_contains (K : PySem.W.Frag) (vs : List V) (H : Hp) (Q : VK) (E : XK) (h : sp_Net_contains K vs H Q E) : t_Net_contains K { nx := fun _ H' => Q .non H', rt := Q } (L2.start N_Net_contains vs) H := by
  obtain ⟨a, T, ns, ss, l, rfl, ⟨dx, le, ls, h1, h2, h3⟩, k⟩ := h
  rw [st_Net_contains]
  unfold t_Net_contains
  walk_at "st"
  exact wp_inSv (sq_of h2) k
theorem len_Net_contains (K : PySem.W.Frag) (vs : List V) (H : Hp) (Q : VK) (E : XK) (h : sp_Net_contains K vs H Q E) : vs.length = 2 := by
  obtain ⟨n, m, ms, a, _, rfl, _⟩ := h
  rfl
theorem c_inNet {K : PySem.W.Frag} {a : Addr} {T : Int} {ns : List (List Nat)} {ss : List V} {l : List Nat} {H : Hp} {Q : VK} (h : IsNet (C_Net K) H a T ns ss) (k : Q (.bl (decide (l ∈ ns))) H) : rInOwn (C_Net K) (sp_Net_contains K) false (.str (S l)) (.ref a) H Q := by
  have h0 := h
  obtain ⟨dx, le, ls, h1, h2, h3⟩ := h
  exact ⟨a, dx, _, rfl, h1, a, T, ns, ss, l, rfl, h0, _, rfl, k⟩
theorem c_notInNet {K : PySem.W.Frag} {a : Addr} {T : Int} {ns : List (List Nat)} {ss : List V} {l : List Nat} {H : Hp} {Q : VK} (h : IsNet (C_Net K) H a T ns ss) (k : Q (.bl (!decide (l ∈ ns))) H) : rInOwn (C_Net K) (sp_Net_contains K) true (.str (S l)) (.ref a) H Q := by
  have h0 := h
  obtain ⟨dx, le, ls, h1, h2, h3⟩ := h
  exact ⟨a, dx, _, rfl, h1, a, T, ns, ss, l, rfl, h0, _, rfl, k⟩
def cK1 (ms : List (List Nat)) (l : List Nat) : Option Er := if l ∈ ms then none else some (eS "UnknownEvent" l)
def sp_check_known (K : PySem.W.Frag) : Sp := fun vs H Q _ => ∃ (a b : Addr) (ls ms : List (List Nat)), vs = [.ref a, .ref b] ∧ H a = some (.lst (ls.map sv)) ∧ (H b = some (.lst (ms.map sv)) ∨ (∃ f, Rd H b (.dK (dN f ms))) ∨ ∃ T ss, IsNet (C_Net K) H b T ms ss) ∧ (∀ l ∈ ls, l ∈ ms) ∧ Q .non H
abbrev N_check_known : List Str := ["names", "known", "name"]
theorem st_check_known {a0 a1 : V} : L2.start N_check_known [a0, a1] = [some a0, some a1, none] := rfl
def t_check_known (K : PySem.W.Frag) : TS :=
  (tFor ((iList K (tVar 0))) (gName 2) ((tIfS ((tTest (tOp (rNotInY K (C_Net K) (sp_Net_contains K)) (tVar 2) (tVar 1)))) (tNever) (tNext))))

theorem pure_check_known (K : PySem.W.Frag) (vs : List V) (H : Hp) (Q : VK) (E : XK) (h : sp_check_known K vs H Q E) : t_check_known K { nx := fun _ H' => Q .non H', rt := Q } (L2.start N_check_known vs) H := by
  obtain ⟨a, b, ls, ms, rfl, ha, hb, hm, k⟩ := h
  rw [st_check_known]
  unfold t_check_known
  walk_at "st"
  refine loopL (sq_of ha) (fun i σ' H' => ∃ x, σ' = [some (.ref a), some (.ref b), x] ∧ H' = H) ⟨_, rfl, rfl⟩ ?_ ?_ ?_
  · rintro i σ' H' _ ⟨x, rfl, rfl⟩
    exact sq_of ha
  · rintro i x σ' H' hx ⟨y, rfl, rfl⟩
    rw [List.getElem?_map] at hx
    obtain ⟨l, hl, rfl⟩ := Option.map_eq_some_iff.mp hx
    walk_at "st"
    have ask : ∀ {R : VK}, R (.bl (!decide (l ∈ ms))) H' → rNotInY K (C_Net K) (sp_Net_contains K) (.str (S l)) (.ref b) H' R := fun {R} r => by
      rcases hb with hb | ⟨f, hb⟩ | ⟨T, ss, hb⟩
      · exact wp_notInYL (wp_notInSv (sq_of hb) r)
      · exact wp_notInYD hb (by rw [dN_some]; exact r)
      · exact wp_notInYO (c_notInNet hb r)
    refine ask ?_
    rw [decide_eq_true (hm l (List.mem_of_getElem? hl))]
    walk_at "st"
    exact ⟨_, rfl, rfl⟩
  · rintro σ' H' ⟨x, rfl, rfl⟩
    exact k
theorem len_check_known (K : PySem.W.Frag) (vs : List V) (H : Hp) (Q : VK) (E : XK) (h : sp_check_known K vs H Q E) : vs.length = 2 := by
  obtain ⟨n, m, ls, ms, rfl, _⟩ := h
  rfl
theorem cK1_all {ls ms : List (List Nat)} (h : ∀ l ∈ ls, l ∈ ms) : cFold (cK1 ms) ls = none := cFold_none fun l hl => if_pos (h l hl)
theorem c_check_knownY {K : PySem.W.Frag} {a b : Addr} {ls ms : List (List Nat)} {H : Hp} {Q : VK} {E : XK} (ha : H a = some (.lst (ls.map sv))) (hb : H b = some (.lst (ms.map sv)) ∨ (∃ f, Rd H b (.dK (dN f ms))) ∨ ∃ T ss, IsNet (C_Net K) H b T ms ss) (hm : ∀ l ∈ ls, l ∈ ms) (k : Q .non H) : sp_check_known K [.ref a, .ref b] H Q E := ⟨a, b, ls, ms, rfl, ha, hb, hm, k⟩
theorem c_check_known {K : PySem.W.Frag} {a b : Addr} {ls ms : List (List Nat)} {H : Hp} {Q : VK} {E : XK} (ha : H a = some (.lst (ls.map sv))) (hb : H b = some (.lst (ms.map sv))) (hm : ∀ l ∈ ls, l ∈ ms) (k : Q .non H) : sp_check_known K [.ref a, .ref b] H Q E :=
  ⟨a, b, ls, ms, rfl, ha, .inl hb, hm, k⟩
theorem c_check_knownD {K : PySem.W.Frag} {a b : Addr} {ls ms : List (List Nat)} {f : List Nat → V} {H : Hp} {Q : VK} {E : XK} (ha : H a = some (.lst (ls.map sv))) (hb : Rd H b (.dK (dN f ms))) (hm : ∀ l ∈ ls, (valV (dN f ms) (.inr (S l))).isSome = true) (k : Q .non H) : sp_check_known K [.ref a, .ref b] H Q E :=
  have hm2 : ∀ l ∈ ls, l ∈ ms := fun l hl => of_decide_eq_true (by rw [← dN_some (f := f)]; exact hm l hl)
  ⟨a, b, ls, ms, rfl, ha, .inr (.inl ⟨f, hb⟩), hm2, k⟩
def sp_check_span (K : PySem.W.Frag) : Sp := fun vs H Q _ => ∃ (T : Int) (e p : Addr) (ns : List (List Nat)) (r : Row), vs = [.int T, .ref e, .ref p] ∧ H e = some (.lst (ns.map sv)) ∧ H p = some (.tup (rowV r)) ∧ OkR T ns r ∧ ∀ H', Same H H' → Q .non H'
abbrev N_check_span : List Str := ["round_length", "events", "span", "start", "end", "least", "most", "weight"]
theorem st_check_span {a0 a1 a2 : V} : L2.start N_check_span [a0, a1, a2] = [some a0, some a1, some a2, none, none, none, none, none] := rfl
def t_check_span (K : PySem.W.Frag) : TS :=
  (tSeq ((tAsg (tVar 2) (gTup K 5 (gCons (gName 3) (gCons (gName 4) (gCons (gName 5) (gCons (gName 6) (gCons (gName 7) gNil))))))))
    ((tSeq ((tDrop ((tCall (sp_check_known K) [] E0 ((tCons ((tLst ((tCons (tVar 3) ((tCons (tVar 4) (tNil))))))) ((tCons (tVar 1) (tNil)))))))))
    ((tSeq ((tIfS ((tTest (tOp rEq (tVar 3) (tVar 4)))) (tNever) (tNext)))
    ((tSeq ((tDrop ((tCall (sp_check_range K) [] E0 ((tCons (tVar 5) ((tCons (tC (.int 0)) ((tCons ((tOp (rI0 fun i j => .int (i - j)) (tVar 0) (tC (.int 1)))) (tNil)))))))))))
    ((tSeq ((tDrop ((tCall (sp_check_range K) [] E0 ((tCons (tVar 6) ((tCons (tVar 5) ((tCons ((tOp (rI0 fun i j => .int (i - j)) ((tOp (rI0 fun i j => .int (i + j)) (tVar 5) (tVar 0))) (tC (.int 3)))) (tNil)))))))))))
    ((tDrop ((tCall (sp_check_range K) [] E0 ((tCons (tVar 7) ((tCons (tC (.int 0)) ((tCons (tC (.int 99)) (tNil))))))))))))))))))))

theorem pure_check_span (K : PySem.W.Frag) (vs : List V) (H : Hp) (Q : VK) (E : XK) (h : sp_check_span K vs H Q E) : t_check_span K { nx := fun _ H' => Q .non H', rt := Q } (L2.start N_check_span vs) H := by
  obtain ⟨T, e, p, ns, r, rfl, he, hp, ok, k⟩ := h
  rw [st_check_span]
  unfold t_check_span
  unfold rowV at hp
  walk_at "st"
  refine ⟨by simp [sizeLine_eq], fun q hq => ?_⟩
  have s2 := Same.new (o := .lst ([r.u, r.v].map sv)) hq
  walk_at "st"
  refine c_check_known (ls := [r.u, r.v]) upd_same (s2 _ _ he) (fun l hl => by
    simp only [List.mem_cons, List.not_mem_nil, or_false] at hl
    rcases hl with rfl | rfl
    · exact ok.u
    · exact ok.v) ?_
  walk_at "st"
  rw [decide_eq_false (fun h => ok.ne (S_inj h))]
  walk_at "st"
  refine c_check_range ⟨ok.l0, ok.l1⟩ ?_
  walk_at "st"
  refine c_check_range ⟨ok.h0, ok.h1⟩ ?_
  walk_at "st"
  refine c_check_range ⟨ok.w0, ok.w1⟩ ?_
  walk_at "st"
  exact k _ s2
theorem len_check_span (K : PySem.W.Frag) (vs : List V) (H : Hp) (Q : VK) (E : XK) (h : sp_check_span K vs H Q E) : vs.length = 3 := by
  obtain ⟨n, m, ms, a, b, rfl, _⟩ := h
  rfl
theorem c_check_span {K : PySem.W.Frag} {T : Int} {e : Addr} {x : V} {ns : List (List Nat)} {H : Hp} {Q : VK} {E : XK} (he : H e = some (.lst (ns.map sv))) (hx : IsSp H T ns x) (k : ∀ H', Same H H' → Q .non H') : sp_check_span K [.int T, .ref e, x] H Q E := by
  obtain ⟨r, ⟨p, rfl, hp⟩, ok⟩ := hx
  exact ⟨T, e, p, ns, r, rfl, he, hp, ok, k⟩
theorem nodup_take {ns : List (List Nat)} (h : ns.Nodup) {i : Nat} {l : List Nat} (e : ns[i]? = some l) : l ∉ ns.take i := by
  intro hm
  obtain ⟨j, hj⟩ := List.getElem?_of_mem hm
  have hj2 : j < i ∧ ns[j]? = some l := by
    rw [List.getElem?_take] at hj
    split at hj
    · exact ⟨by omega, hj⟩
    · cases hj
  have hl : i < ns.length := (List.getElem?_eq_some_iff.mp e).1
  have hjl : j < ns.length := (List.getElem?_eq_some_iff.mp hj2.2).1
  have z := List.pairwise_iff_getElem.mp h j i hjl hl hj2.1
  exact z ((List.getElem?_eq_some_iff.mp hj2.2).2.trans (List.getElem?_eq_some_iff.mp e).2.symm)
def sp_check_net (K : PySem.W.Frag) : Sp := fun vs H Q _ => ∃ (T : Int) (e s : Addr) (ns : List (List Nat)) (ss : List V), vs = [.int T, .ref e, .ref s] ∧ H e = some (.lst (ns.map sv)) ∧ H s = some (.lst ss) ∧ OkNs T ns ∧ OkSp H T ns ss ∧ ∀ H', Same H H' → Q .non H'
abbrev N_check_net : List Str := ["round_length", "events", "spans", "at", "name", "span"]
theorem st_check_net {a0 a1 a2 : V} : L2.start N_check_net [a0, a1, a2] = [some a0, some a1, some a2, none, none, none] := rfl
def t_check_net (K : PySem.W.Frag) : TS :=
  (tSeq ((tDrop ((tCall (sp_check_round_length K) [] E0 ((tCons (tVar 0) (tNil)))))))
    ((tSeq ((tDrop ((tCall (sp_check_count K) [] E0 ((tCons ((tCB (rLenS K) ((tCons (tVar 1) (tNil))))) ((tCons (tC (.int 12)) (tNil)))))))))
    ((tSeq ((tFor ((iEnum K ((tCons (tVar 1) (tNil))))) (gTup K 2 (gCons (gName 3) (gCons (gName 4) gNil))) ((tDrop ((tCall (sp_check_event K) [] E0 ((tCons (tVar 4) ((tCons ((tSl (rSlL K) (tVar 1) tNoPart (tPart (tVar 3)))) (tNil)))))))))))
    ((tSeq ((tDrop ((tCall (sp_check_count K) [] E0 ((tCons ((tCB (rLenS K) ((tCons (tVar 2) (tNil))))) ((tCons (tC (.int 24)) (tNil)))))))))
    ((tFor ((iList K (tVar 2))) (gName 5) ((tDrop ((tCall (sp_check_span K) [] E0 ((tCons (tVar 0) ((tCons (tVar 1) ((tCons (tVar 5) (tNil))))))))))))))))))))

theorem pure_check_net (K : PySem.W.Frag) (vs : List V) (H : Hp) (Q : VK) (E : XK) (h : sp_check_net K vs H Q E) : t_check_net K { nx := fun _ H' => Q .non H', rt := Q } (L2.start N_check_net vs) H := by
  obtain ⟨T, e, s, ns, ss, rfl, he, hs, ok, os, k⟩ := h
  rw [st_check_net]
  unfold t_check_net
  have f1 := ok.few
  have f2 := os.few
  walk_at "st"
  refine c_check_round_length ⟨ok.t0, ok.t1⟩ ?_
  walk_at "st"
  refine c_check_count (by rw [List.length_map]; omega) ?_
  walk_at "st"
  refine loopE (sq_of he) (fun i σ' H' => ∃ x y z, σ' = [some (.int T), some (.ref e), some (.ref s), x, y, z] ∧ Same H H') ⟨_, _, _, rfl, Same.refl _⟩ ?_ ?_ ?_
  · rintro i σ' H' _ ⟨x, y, z, rfl, s2⟩
    exact sq_of (s2 _ _ he)
  · rintro i x q σ' H' hx ⟨y, z, w, rfl, s2⟩ hq
    rw [List.getElem?_map] at hx
    obtain ⟨l, hl, rfl⟩ := Option.map_eq_some_iff.mp hx
    have s3 := s2.trans (Same.new (o := .tup [.int (i : Nat), sv l]) hq)
    have hil : i < ns.length := (List.getElem?_eq_some_iff.mp hl).1
    walk_at "st"
    refine wp_sliceL (sq_of (s3 _ _ he)) fun b hb => ?_
    rw [cutG_to (by rw [List.length_map]; omega), ← List.map_take]
    walk_at "st"
    refine c_check_event upd_same (ok.nm _ (List.mem_of_getElem? hl)) (nodup_take ok.nodup hl) fun H4 s4 => ?_
    walk_at "st"
    exact ⟨_, _, _, rfl, (s3.trans (Same.new hb)).trans s4⟩
  · rintro σ' H' ⟨x, y, z, rfl, s2⟩
    have hs2 := s2 _ _ hs
    walk_at "st"
    refine c_check_count (by omega) ?_
    walk_at "st"
    refine loopL (sq_of hs2) (fun i σ' H' => ∃ x y z, σ' = [some (.int T), some (.ref e), some (.ref s), x, y, z] ∧ Same H H') ⟨_, _, _, rfl, s2⟩ ?_ ?_ ?_
    · rintro i σ' H' _ ⟨x, y, z, rfl, s2⟩
      exact sq_of (s2 _ _ hs)
    · rintro i x σ' H' hx ⟨y, z, w, rfl, s3⟩
      walk_at "st"
      refine c_check_span (s3 _ _ he) ((os.sp x (List.mem_of_getElem? hx)).mono s3) fun H4 s4 => ?_
      walk_at "st"
      exact ⟨_, _, _, rfl, s3.trans s4⟩
    · rintro σ' H' ⟨x, y, z, rfl, s3⟩
      exact k _ s3
theorem len_check_net (K : PySem.W.Frag) (vs : List V) (H : Hp) (Q : VK) (E : XK) (h : sp_check_net K vs H Q E) : vs.length = 3 := by
  obtain ⟨n, m, ms, a, b, rfl, _⟩ := h
  rfl
theorem c_check_net {K : PySem.W.Frag} {T : Int} {e s : Addr} {ns : List (List Nat)} {ss : List V} {H : Hp} {Q : VK} {E : XK} (he : H e = some (.lst (ns.map sv))) (hs : H s = some (.lst ss)) (ok : OkNs T ns) (os : OkSp H T ns ss) (k : ∀ H', Same H H' → Q .non H') : sp_check_net K [.int T, .ref e, .ref s] H Q E := ⟨T, e, s, ns, ss, rfl, he, hs, ok, os, k⟩
def sp_Net_init (K : PySem.W.Frag) : Sp := fun vs H Q _ => ∃ (x dx : Addr) (T : Int) (e s : Addr) (ns : List (List Nat)) (ss : List V), vs = [.ref x, .int T, .ref e, .ref s] ∧ H x = some (.ins (C_Net K) dx []) ∧ H e = some (.lst (ns.map sv)) ∧ H s = some (.lst ss) ∧ OkNs T ns ∧ OkSp H T ns ss ∧
  ∀ (le ls : Addr) H', H' x = some (.ins (C_Net K) dx (netF T le ls)) → H' le = some (.lst (ns.map sv)) → H' ls = some (.lst ss) → H le = none → H ls = none → le ≠ ls → (∀ a o, a ≠ x → H a = some o → H' a = some o) → Q .non H'
abbrev N_Net_init : List Str := ["self", "round_length", "events", "spans"]
theorem st_Net_init {a0 a1 a2 a3 : V} : L2.start N_Net_init [a0, a1, a2, a3] = [some a0, some a1, some a2, some a3] := rfl
def t_Net_init (K : PySem.W.Frag) : TS :=
  (tSeq ((tDrop ((tCall (sp_check_net K) [] E0 ((tCons (tVar 1) ((tCons (tVar 2) ((tCons (tVar 3) (tNil)))))))))))
    ((tSeq ((sFldC (C_Net K) (tVar 0) (tVar 1) "_round_length"))
    ((tSeq ((sFldC (C_Net K) (tVar 0) ((tCB (rListS K) ((tCons (tVar 2) (tNil))))) "_events"))
    ((sFldC (C_Net K) (tVar 0) ((tCB (rListS K) ((tCons (tVar 3) (tNil))))) "_spans")))))))

theorem pure_Net_init (K : PySem.W.Frag) (vs : List V) (H : Hp) (Q : VK) (E : XK) (h : sp_Net_init K vs H Q E) : t_Net_init K { nx := fun _ H' => Q .non H', rt := Q } (L2.start N_Net_init vs) H := by
  obtain ⟨x, dx, T, e, s, ns, ss, rfl, hx, he, hs, ok, os, k⟩ := h
  rw [st_Net_init]
  unfold t_Net_init
  have nex : e ≠ x := fun h => by rw [h, hx] at he; cases he
  have nsx : s ≠ x := fun h => by rw [h, hx] at hs; cases hs
  walk_at "st"
  refine c_check_net he hs ok os fun H2 s2 => ?_
  walk_at "st"
  refine sfld_at (s2 _ _ hx) (by decide) pt_1 ?_
  walk_at "st"
  refine wp_listL (sq_of (by rw [upd_ne nex]; exact s2 _ _ he)) fun le hle => ?_
  have nlx : le ≠ x := fun h => by rw [h, upd_same] at hle; cases hle
  rw [upd_ne nlx] at hle
  walk_at "st"
  refine sfld_at (by rw [upd_ne nlx.symm]; exact upd_same) (by simp) pt_2 ?_
  walk_at "st"
  have nls : s ≠ le := ne_of_none (s2 _ _ hs) hle
  refine wp_listL (sq_of (by rw [upd_ne nsx, upd_ne nls, upd_ne nsx]; exact s2 _ _ hs)) fun ls hls => ?_
  have nsx2 : ls ≠ x := fun h => by rw [h, upd_same] at hls; cases hls
  rw [upd_ne nsx2] at hls
  have nsl : ls ≠ le := fun h => by rw [h, upd_same] at hls; cases hls
  rw [upd_ne nsl, upd_ne nsx2] at hls
  walk_at "st"
  refine sfld_at (by rw [upd_ne nsx2.symm]; exact upd_same) (by simp) pt_3 ?_
  refine k le ls _ upd_same ?_ ?_ (s2.free hle) (s2.free hls) nsl.symm ?_
  · rw [upd_ne nlx, upd_ne nsl.symm, upd_ne nlx]; exact upd_same
  · rw [upd_ne nsx2]; exact upd_same
  · intro a o ha h
    have h2 := s2 _ _ h
    rw [upd_ne ha, upd_ne (ne_of_none h2 hls), upd_ne ha, upd_ne (ne_of_none h2 hle), upd_ne ha]
    exact h2
theorem len_Net_init (K : PySem.W.Frag) (vs : List V) (H : Hp) (Q : VK) (E : XK) (h : sp_Net_init K vs H Q E) : vs.length = 4 := by
  obtain ⟨n, m, ms, a, b, c, d, rfl, _⟩ := h
  rfl
theorem c_NetG {K : PySem.W.Frag} {G H : Hp} {T : Int} {e s : Addr} {ns : List (List Nat)} {ss : List V} {Q : VK} {E : XK} (sub : Same G H) (he : H e = some (.lst (ns.map sv))) (hss : H s = some (.lst ss)) (ok : OkNs T ns) (os : OkSp H T ns ss)
    (k : ∀ a G' H', Same G G' → Same G' H' → Same H H' → (∀ q o, H q = some o → G q = none → G' q = none) → IsNet (C_Net K) G' a T ns ss → Q (.ref a) H') : MkW (C_Net K) (sp_Net_init K) E Q [.int T, .ref e, .ref s] H := by
  intro x dx hx hdx nd
  have s1 : Same H (upd (upd H dx (.own x)) x (.ins (C_Net K) dx [])) := (Same.new hdx).trans (Same.new (by rw [upd_ne nd.symm]; exact hx))
  refine ⟨x, dx, T, e, s, ns, ss, rfl, upd_same, s1 _ _ he, s1 _ _ hss, ok, os.mono s1, fun le ls H' h1 h2 h3 h4 h5 h6 h7 => ⟨rfl, ?_⟩⟩
  have nlx : le ≠ x := fun h => by rw [h, upd_same] at h4; cases h4
  have nsx : ls ≠ x := fun h => by rw [h, upd_same] at h5; cases h5
  have fl := s1.free h4
  have fs := s1.free h5
  have sH : Same H H' := fun a o h => h7 a o (ne_of_none h hx) (s1 _ _ h)
  have gx := sub.free hx
  have gl := sub.free fl
  have gs := sub.free fs
  have sG : Same G (upd (upd (upd G x (.ins (C_Net K) dx (netF T le ls))) le (.lst (ns.map sv))) ls (.lst ss)) :=
    ((Same.new gx).trans (Same.new (by rw [upd_ne nlx]; exact gl))).trans (Same.new (by rw [upd_ne h6.symm, upd_ne nsx]; exact gs))
  refine k x (upd (upd (upd G x (.ins (C_Net K) dx (netF T le ls))) le (.lst (ns.map sv))) ls (.lst ss)) H' sG (fun a o ha => ?_) sH (fun q o hq hG => ?_) ⟨dx, le, ls, ?_, ?_, upd_same⟩
  · by_cases e1 : a = ls
    · subst e1; rw [upd_same] at ha; cases ha; exact h3
    · rw [upd_ne e1] at ha
      by_cases e2 : a = le
      · subst e2; rw [upd_same] at ha; cases ha; exact h2
      · rw [upd_ne e2] at ha
        by_cases e3 : a = x
        · subst e3; rw [upd_same] at ha; cases ha; exact h1
        · rw [upd_ne e3] at ha
          exact sH _ _ (sub _ _ ha)
  · rw [upd_ne (ne_of_none hq fs), upd_ne (ne_of_none hq fl), upd_ne (ne_of_none hq hx)]; exact hG
  · rw [upd_ne nsx.symm, upd_ne nlx.symm]; exact upd_same
  · rw [upd_ne h6]; exact upd_same
theorem c_Net {K : PySem.W.Frag} {P : Pl} {G H : Hp} {T : Int} {e s : Addr} {ns : List (List Nat)} {ss : List V} {Q : VK} {E : XK} (hs : Sees P G H) (he : H e = some (.lst (ns.map sv))) (hss : H s = some (.lst ss)) (ok : OkNs T ns) (os : OkSp H T ns ss)
    (k : ∀ a G' H', Same G G' → Same H H' → (∀ q o, H q = some o → G q = none → G' q = none) → IsNet (C_Net K) G' a T ns ss → Sees P G' H' → Q (.ref a) H') : MkW (C_Net K) (sp_Net_init K) E Q [.int T, .ref e, .ref s] H :=
  c_NetG hs.sub he hss ok os fun a G' H' s1 s2 s3 kp n => k a G' H' s1 s3 kp n (hs.grow s1 s2 s3 kp)
/-- a new net is handed out -/
def NewNet (K : PySem.W.Frag) (G H : Hp) (T : Int) (ns : List (List Nat)) (rs : List Row) (Q : VK) : Prop := ∀ b ss' G' H', Same G G' → Same G' H' → Same H H' → (∀ q o, H q = some o → G q = none → G' q = none) → IsNet (C_Net K) G' b T ns ss' → Rws G' ss' rs → OkSp G' T ns ss' → Q (.ref b) H'
def sp_Net_round_length (K : PySem.W.Frag) : Sp := fun vs H Q _ => ∃ (a : Addr) (T : Int) (ns : List (List Nat)) (ss : List V), vs = [.ref a] ∧ IsNet (C_Net K) H a T ns ss ∧ Q (.int T) H
abbrev N_Net_round_length : List Str := ["self"]
theorem st_Net_round_length {a0 : V} : L2.start N_Net_round_length [a0] = [some a0] := rfl
def t_Net_round_length (K : PySem.W.Frag) : TS :=
  (tRet ((tFldC (C_Net K) (tVar 0) "_round_length")))

theorem pure_Net_round_length (K : PySem.W.Frag) (vs : List V) (H : Hp) (Q : VK) (E : XK) (h : sp_Net_round_length K vs H Q E) : t_Net_round_length K { nx := fun _ H' => Q .non H', rt := Q } (L2.start N_Net_round_length vs) H := by
  obtain ⟨a, T, ns, ss, rfl, ⟨dx, le, ls, h1, h2, h3⟩, k⟩ := h
  rw [st_Net_round_length]
  unfold t_Net_round_length
  walk_at "st"
  exact k
theorem len_Net_round_length (K : PySem.W.Frag) (vs : List V) (H : Hp) (Q : VK) (E : XK) (h : sp_Net_round_length K vs H Q E) : vs.length = 1 := by
  obtain ⟨n, m, ms, a, rfl, _⟩ := h
  rfl
theorem c_Net_round_length {K : PySem.W.Frag} {a : Addr} {T : Int} {ns : List (List Nat)} {ss : List V} {H : Hp} {Q : VK} {E : XK} (h : IsNet (C_Net K) H a T ns ss) (k : Q (.int T) H) : ∃ a' dx fs, V.ref a = .ref a' ∧ H a' = some (.ins (C_Net K) dx fs) ∧ sp_Net_round_length K [.ref a'] H Q E := by
  obtain ⟨dx, le, ls, h1, h2, h3⟩ := h
  exact ⟨a, dx, _, rfl, h1, a, T, ns, ss, rfl, ⟨dx, le, ls, h1, h2, h3⟩, k⟩
def sp_Net_spans (K : PySem.W.Frag) : Sp := fun vs H Q _ => ∃ (a : Addr) (T : Int) (ns : List (List Nat)) (ss : List V), vs = [.ref a] ∧ IsNet (C_Net K) H a T ns ss ∧ ∀ q, H q = none → Q (.ref q) (upd H q (.lst ss))
abbrev N_Net_spans : List Str := ["self"]
theorem st_Net_spans {a0 : V} : L2.start N_Net_spans [a0] = [some a0] := rfl
def t_Net_spans (K : PySem.W.Frag) : TS :=
  (tRet ((tCB (rListS K) ((tCons ((tFldC (C_Net K) (tVar 0) "_spans")) (tNil))))))

theorem pure_Net_spans (K : PySem.W.Frag) (vs : List V) (H : Hp) (Q : VK) (E : XK) (h : sp_Net_spans K vs H Q E) : t_Net_spans K { nx := fun _ H' => Q .non H', rt := Q } (L2.start N_Net_spans vs) H := by
  obtain ⟨a, T, ns, ss, rfl, ⟨dx, le, ls, h1, h2, h3⟩, k⟩ := h
  rw [st_Net_spans]
  unfold t_Net_spans
  walk_at "st"
  exact wp_listL (sq_of (by assumption)) k
theorem len_Net_spans (K : PySem.W.Frag) (vs : List V) (H : Hp) (Q : VK) (E : XK) (h : sp_Net_spans K vs H Q E) : vs.length = 1 := by
  obtain ⟨n, m, ms, a, rfl, _⟩ := h
  rfl
theorem c_Net_spans {K : PySem.W.Frag} {a : Addr} {T : Int} {ns : List (List Nat)} {ss : List V} {H : Hp} {Q : VK} {E : XK} (h : IsNet (C_Net K) H a T ns ss) (k : ∀ q, H q = none → Q (.ref q) (upd H q (.lst ss))) : ∃ a' dx fs, V.ref a = .ref a' ∧ H a' = some (.ins (C_Net K) dx fs) ∧ sp_Net_spans K [.ref a'] H Q E := by
  obtain ⟨dx, le, ls, h1, h2, h3⟩ := h
  exact ⟨a, dx, _, rfl, h1, a, T, ns, ss, rfl, ⟨dx, le, ls, h1, h2, h3⟩, k⟩
def sp_Times_round_length (K : PySem.W.Frag) : Sp := fun vs H Q _ => ∃ (a dx d : Addr) (T : Int), vs = [.ref a] ∧ H a = some (.ins (C_Times K) dx (tmF T d)) ∧ Q (.int T) H
abbrev N_Times_round_length : List Str := ["self"]
theorem st_Times_round_length {a0 : V} : L2.start N_Times_round_length [a0] = [some a0] := rfl
def t_Times_round_length (K : PySem.W.Frag) : TS :=
  (tRet ((tFldC (C_Times K) (tVar 0) "_round_length")))

theorem pure_Times_round_length (K : PySem.W.Frag) (vs : List V) (H : Hp) (Q : VK) (E : XK) (h : sp_Times_round_length K vs H Q E) : t_Times_round_length K { nx := fun _ H' => Q .non H', rt := Q } (L2.start N_Times_round_length vs) H := by
  obtain ⟨a, dx, d, T, rfl, h1, k⟩ := h
  rw [st_Times_round_length]
  unfold t_Times_round_length
  walk_at "st"
  exact k
theorem len_Times_round_length (K : PySem.W.Frag) (vs : List V) (H : Hp) (Q : VK) (E : XK) (h : sp_Times_round_length K vs H Q E) : vs.length = 1 := by
  obtain ⟨n, m, ms, a, rfl, _⟩ := h
  rfl
theorem c_Times_round_length {K : PySem.W.Frag} {a : Addr} {T : Int} {ns : List (List Nat)} {m : List Nat → Int} {H : Hp} {Q : VK} {E : XK} (h : IsTimes (C_Times K) H a T ns m) (k : Q (.int T) H) : ∃ a' dx fs, V.ref a = .ref a' ∧ H a' = some (.ins (C_Times K) dx fs) ∧ sp_Times_round_length K [.ref a'] H Q E := by
  obtain ⟨dx, d, h1, h2⟩ := h
  exact ⟨a, dx, _, rfl, h1, a, dx, d, T, rfl, h1, k⟩
def sp_Times_contains (K : PySem.W.Frag) : Sp := fun vs H Q _ => ∃ (a dx d : Addr) (T : Int) (f : List Nat → V) (ns : List (List Nat)) (l : List Nat), vs = [.ref a, .str (S l)] ∧ H a = some (.ins (C_Times K) dx (tmF T d)) ∧ Rd H d (.dK (dN f ns)) ∧ Q (.bl (decide (l ∈ ns))) H
abbrev N_Times_contains : List Str := ["self", "name"]
theorem st_Times_contains {a0 a1 : V} : L2.start N_Times_contains [a0, a1] = [some a0, some a1] := rfl
def t_Times_contains (K : PySem.W.Frag) : TS :=
  (tRet ((tDIn (tVar 1) ((tFldC (C_Times K) (tVar 0) "_minutes")))))

theorem pure_Times_contains (K : PySem.W.Frag) (vs : List V) (H : Hp) (Q : VK) (E : XK) (h : sp_Times_contains K vs H Q E) : t_Times_contains K { nx := fun _ H' => Q .non H', rt := Q } (L2.start N_Times_contains vs) H := by
  obtain ⟨a, dx, d, T, f, ns, l, rfl, h1, h2, k⟩ := h
  rw [st_Times_contains]
  unfold t_Times_contains
  walk_at "st"
  refine din_s h2 ?_
  rw [dN_some]
  exact k
theorem len_Times_contains (K : PySem.W.Frag) (vs : List V) (H : Hp) (Q : VK) (E : XK) (h : sp_Times_contains K vs H Q E) : vs.length = 2 := by
  obtain ⟨n, m, ms, a, b, _, _, rfl, _⟩ := h
  rfl
theorem c_notInTimes {K : PySem.W.Frag} {a : Addr} {T : Int} {ns : List (List Nat)} {m : List Nat → Int} {l : List Nat} {H : Hp} {Q : VK} (h : IsTimes (C_Times K) H a T ns m) (k : Q (.bl (!decide (l ∈ ns))) H) : rInOwn (C_Times K) (sp_Times_contains K) true (.str (S l)) (.ref a) H Q := by
  obtain ⟨dx, d, h1, h2⟩ := h
  exact ⟨a, dx, _, rfl, h1, a, dx, d, T, _, ns, l, rfl, h1, .inl h2, _, rfl, k⟩
theorem c_inTimes {K : PySem.W.Frag} {a : Addr} {T : Int} {ns : List (List Nat)} {m : List Nat → Int} {l : List Nat} {H : Hp} {Q : VK} (h : IsTimes (C_Times K) H a T ns m) (k : Q (.bl (decide (l ∈ ns))) H) : rInOwn (C_Times K) (sp_Times_contains K) false (.str (S l)) (.ref a) H Q := by
  obtain ⟨dx, d, h1, h2⟩ := h
  exact ⟨a, dx, _, rfl, h1, a, dx, d, T, _, ns, l, rfl, h1, .inl h2, _, rfl, k⟩
theorem c_notInTimesR {K : PySem.W.Frag} {a dx d : Addr} {T : Int} {f : List Nat → V} {ns : List (List Nat)} {l : List Nat} {H : Hp} {Q : VK} (h1 : H a = some (.ins (C_Times K) dx (tmF T d))) (h2 : Rd H d (.dK (dN f ns))) (k : Q (.bl (!decide (l ∈ ns))) H) : rInOwn (C_Times K) (sp_Times_contains K) true (.str (S l)) (.ref a) H Q :=
  ⟨a, dx, _, rfl, h1, a, dx, d, T, _, ns, l, rfl, h1, h2, _, rfl, k⟩
def sp_check_names (K : PySem.W.Frag) : Sp := fun vs H Q E => ∃ (a b : Addr) (T T' : Int) (ns ms : List (List Nat)) (ss : List V) (m : List Nat → Int), vs = [.ref a, .ref b] ∧ IsNet (C_Net K) H a T ns ss ∧ IsTimes (C_Times K) H b T' ms m ∧
  Ck K (if T' ≠ T then some (eN T') else (cFold (cIn ms) ns).or (cFold (cIn ns) ms)) E H Q
abbrev N_check_names : List Str := ["net", "times", "name"]
theorem st_check_names {a0 a1 : V} : L2.start N_check_names [a0, a1] = [some a0, some a1, none] := rfl
def t_check_names (K : PySem.W.Frag) (E : XK) : TS :=
  (tSeq ((tIfS ((tTest (tOp rNe ((tProp (C_Times K) (sp_Times_round_length K) [] E0 (tVar 1))) ((tProp (C_Net K) (sp_Net_round_length K) [] E0 (tVar 0)))))) ((tRs (C_BadNumber K) ["number"] E ((tCons ((tProp (C_Times K) (sp_Times_round_length K) [] E0 (tVar 1))) (tNil))))) (tNext)))
    ((tSeq ((tFor ((iOwnL K (C_Net K) "_events" (tVar 0))) (gName 2) ((tIfS ((tTest (tOp (rInOwn (C_Times K) (sp_Times_contains K) true) (tVar 2) (tVar 1)))) ((tRs (C_WrongNames K) ["name"] E ((tCons (tVar 2) (tNil))))) (tNext)))))
    ((tLockX (fun E1 => (tFor ((iOwnK (C_Times K) "_minutes" (tVar 1))) (gName 2) ((tIfS ((tTest (tOp (rInOwn (C_Net K) (sp_Net_contains K) true) (tVar 2) (tVar 0)))) ((tRs (C_WrongNames K) ["name"] E1 ((tCons (tVar 2) (tNil))))) (tNext))))) E)))))

theorem pure_check_names (K : PySem.W.Frag) (vs : List V) (H : Hp) (Q : VK) (E : XK) (h : sp_check_names K vs H Q E) : t_check_names K E { nx := fun _ H' => Q .non H', rt := Q } (L2.start N_check_names vs) H := by
  obtain ⟨a, b, T, T', ns, ms, ss, m, rfl, hn, ht, k⟩ := h
  obtain ⟨dx, le, ls, n1, n2, n3⟩ := id hn
  obtain ⟨dt, d, t1, t2⟩ := id ht
  unfold mD at t2
  rw [st_check_names]
  unfold t_check_names
  walk_at "st"
  refine c_Times_round_length ht ?_
  walk_at "st"
  refine c_Net_round_length hn ?_
  walk_at "st"
  refine ite_ndec (fun h1 => ?_) (fun h1 => ?_)
  · walk_at "st"
    refine wp_rs ?_
    walk_at "st"
    refine c_Times_round_length ht ?_
    walk_at "st"
    exact rs_of rfl (by decide) (k.rz (e := eN T') (if_pos h1))
  subst h1
  rw [if_neg (by simp)] at k
  walk_at "st"
  refine loopOwnL n1 lk_e (sq_of n2) (fun i σ' H' => ∃ x, σ' = [some (.ref a), some (.ref b), x] ∧ H' = H ∧ ∀ l ∈ ns.take i, cIn ms l = none) ⟨_, rfl, rfl, by simp⟩ ?_ ?_ ?_
  · rintro i σ' H' _ ⟨_, rfl, rfl, _⟩
    exact sq_of n2
  · rintro i x σ' H' hx ⟨_, rfl, rfl, ha⟩
    rw [List.getElem?_map] at hx
    obtain ⟨l, hl, rfl⟩ := Option.map_eq_some_iff.mp hx
    walk_at "st"
    refine c_notInTimes ht ?_
    walk_at "st"
    refine ite_ndec (fun h2 => ?_) (fun h2 => ?_)
    · walk_at "st"
      refine wp_rs ?_
      walk_at "st"
      exact rs_of rfl (by decide) (k.rz (e := eW l) (by rw [cFold_at (er := eW l) hl ha (if_neg h2)]; rfl))
    · walk_at "st"
      refine ⟨_, rfl, rfl, fun z hz => ?_⟩
      rw [take_snoc hl] at hz
      rcases List.mem_append.mp hz with h | h
      · exact ha z h
      · rw [List.mem_singleton.mp h]; exact if_pos h2
  · rintro σ' H' ⟨x, rfl, rfl, ha⟩
    rw [List.length_map, List.take_length] at ha
    have k := k.fst (cFold_none ha)
    dsimp only
    refine wp_lockX (kvs := dN (fun l => .int (m l)) ms) (d := d) t2 fun od => ?_
    have nbd : b ≠ d := fun e => by rw [e, t2] at t1; cases t1
    have nad : a ≠ d := fun e => by rw [e, t2] at n1; cases n1
    walk_at "st"
    refine loopOwnKN (by rw [upd_ne nbd]; exact t1) lk_md upd_same (fun i σ' H2 => ∃ x, σ' = [some (.ref a), some (.ref b), x] ∧ Same (upd H' d (.frz od (.dK (dN (fun l => .int (m l)) ms)))) H2 ∧ ∀ l ∈ ms.take i, cIn ns l = none) ⟨_, rfl, Same.refl _, by simp⟩ ?_ ?_ ?_
    · rintro i σ' H' _ ⟨_, rfl, s, _⟩
      exact s _ _ upd_same
    · rintro i l σ' H2 hl ⟨_, rfl, s, hb⟩
      have hn2 : IsNet (C_Net K) H2 a T' ns ss := ⟨dx, le, ls, frz_ne t2 s n1 (by simp), frz_ne t2 s n2 (by simp), frz_ne t2 s n3 (by simp)⟩
      walk_at "st"
      refine c_notInNet hn2 ?_
      walk_at "st"
      refine ite_ndec (fun h2 => ?_) (fun h2 => ?_)
      · walk_at "st"
        refine wp_rs ?_
        walk_at "st"
        exact rs_of rfl (by decide) ((Rzd.unl (od := od) t2 (k.rz (e := eW l) (cFold_at (er := eW l) hl hb (if_neg h2)))).mono s)
      · walk_at "st"
        refine ⟨_, rfl, s, fun z hz => ?_⟩
        rw [take_snoc hl] at hz
        rcases List.mem_append.mp hz with h | h
        · exact hb z h
        · rw [List.mem_singleton.mp h]; exact if_pos h2
    · rintro σ' H2 ⟨_, rfl, s, hb⟩
      rw [List.take_length] at hb
      exact ⟨s _ _ upd_same, (k _ (unl t2 s)).1 (cFold_none hb)⟩
theorem len_check_names (K : PySem.W.Frag) (vs : List V) (H : Hp) (Q : VK) (E : XK) (h : sp_check_names K vs H Q E) : vs.length = 2 := by
  obtain ⟨n, m, ms, a, b, _, _, _, rfl, _⟩ := h
  rfl
theorem c_check_names {K : PySem.W.Frag} {a b : Addr} {T T' : Int} {ns ms : List (List Nat)} {ss : List V} {m : List Nat → Int} {H : Hp} {Q : VK} {E : XK} (hn : IsNet (C_Net K) H a T ns ss) (ht : IsTimes (C_Times K) H b T' ms m) (k : Ck K (if T' ≠ T then some (eN T') else (cFold (cIn ms) ns).or (cFold (cIn ns) ms)) E H Q) : sp_check_names K [.ref a, .ref b] H Q E := ⟨a, b, T, T', ns, ms, ss, m, rfl, hn, ht, k⟩
/-- .. its dict perhaps locked -/
def IsTimesR (C : Addr) (H : Hp) (a : Addr) (T : Int) (ns : List (List Nat)) (m : List Nat → Int) : Prop := ∃ dx d, H a = some (.ins C dx (tmF T d)) ∧ Rd H d (.dK (mD m ns))
theorem IsTimes.rd {C : Addr} {H : Hp} {a : Addr} {T : Int} {ns : List (List Nat)} {m : List Nat → Int} (h : IsTimes C H a T ns m) : IsTimesR C H a T ns m := by
  obtain ⟨dx, d, h1, h2⟩ := h
  exact ⟨dx, d, h1, .inl h2⟩
theorem rd_mono {H H' : Hp} {d : Addr} {o : HO} (e : Same H H') (h : Rd H d o) : Rd H' d o := by
  rcases h with h | ⟨ob, h⟩
  · exact .inl (e _ _ h)
  · exact .inr ⟨ob, e _ _ h⟩
theorem IsTimesR.mono {C : Addr} {H H' : Hp} (e : Same H H') {a : Addr} {T : Int} {ns : List (List Nat)} {m : List Nat → Int} (h : IsTimesR C H a T ns m) : IsTimesR C H' a T ns m := by
  obtain ⟨dx, d, h1, h2⟩ := h
  exact ⟨dx, d, e _ _ h1, rd_mono e h2⟩
theorem IsTimesR.lock {C : Addr} {H : Hp} {p : Addr} {kvs : List (Key × V)} {od : Obj} (hp : H p = some (.dK kvs)) {a : Addr} {T : Int} {ns : List (List Nat)} {m : List Nat → Int} (h : IsTimes C H a T ns m) : IsTimesR C (upd H p (.frz od (.dK kvs))) a T ns m := by
  obtain ⟨dx, d, h1, h2⟩ := h
  have nap : a ≠ p := fun e => by rw [e, hp] at h1; cases h1
  refine ⟨dx, d, (upd_ne nap).trans h1, ?_⟩
  by_cases e : d = p
  · subst e
    rw [hp] at h2
    cases h2
    exact .inr ⟨od, upd_same⟩
  · exact .inl ((upd_ne e).trans h2)
def sp_Times_getitem (K : PySem.W.Frag) : Sp := fun vs H Q _ => ∃ (a : Addr) (T : Int) (ns : List (List Nat)) (m : List Nat → Int) (l : List Nat), vs = [.ref a, .str (S l)] ∧ IsTimesR (C_Times K) H a T ns m ∧ l ∈ ns ∧ ∀ H', Same H H' → Q (.int (m l)) H'
abbrev N_Times_getitem : List Str := ["self", "name"]
theorem st_Times_getitem {a0 a1 : V} : L2.start N_Times_getitem [a0, a1] = [some a0, some a1] := rfl
def t_Times_getitem (K : PySem.W.Frag) : TS :=
  (tSeq ((tDrop ((tCall (sp_check_known K) [] E0 ((tCons ((tLst ((tCons (tVar 1) (tNil))))) ((tCons ((tFldC (C_Times K) (tVar 0) "_minutes")) (tNil)))))))))
    ((tRet ((tDGet ((tFldC (C_Times K) (tVar 0) "_minutes")) (tVar 1))))))

theorem pure_Times_getitem (K : PySem.W.Frag) (vs : List V) (H : Hp) (Q : VK) (E : XK) (h : sp_Times_getitem K vs H Q E) : t_Times_getitem K { nx := fun _ H' => Q .non H', rt := Q } (L2.start N_Times_getitem vs) H := by
  obtain ⟨a, T, ns, m, l, rfl, ⟨dx, d, h1, h2⟩, hl, k⟩ := h
  rw [st_Times_getitem]
  unfold t_Times_getitem
  walk_at "st"
  refine ⟨by simp [sizeLine_eq], fun q hq => ?_⟩
  have s2 := Same.new (o := .lst [sv l]) hq
  have h1' := s2 _ _ h1
  have h2' := rd_mono s2 h2
  unfold mD at h2'
  walk_at "st"
  refine c_check_knownD (ls := [l]) upd_same h2' (fun x hx => by rw [List.mem_singleton.mp hx, dN_some, decide_eq_true hl]) ?_
  walk_at "st"
  refine dget_s h2' (dN_val hl) ?_
  exact k _ s2
theorem len_Times_getitem (K : PySem.W.Frag) (vs : List V) (H : Hp) (Q : VK) (E : XK) (h : sp_Times_getitem K vs H Q E) : vs.length = 2 := by
  obtain ⟨n, m, ms, a, b, rfl, _⟩ := h
  rfl
theorem c_Times_getitemR {K : PySem.W.Frag} {a : Addr} {T : Int} {ns : List (List Nat)} {m : List Nat → Int} {l : List Nat} {H : Hp} {Q : VK} (h : IsTimesR (C_Times K) H a T ns m) (hl : l ∈ ns) (k : ∀ H', Same H H' → Q (.int (m l)) H') : ∃ a' dx fs, V.ref a = .ref a' ∧ H a' = some (.ins (C_Times K) dx fs) ∧ sp_Times_getitem K [.ref a', .str (S l)] H Q E0 := by
  obtain ⟨dx, d, h1, h2⟩ := h
  exact ⟨a, dx, _, rfl, h1, a, T, ns, m, l, rfl, ⟨dx, d, h1, h2⟩, hl, k⟩
theorem c_Times_getitem {K : PySem.W.Frag} {a : Addr} {T : Int} {ns : List (List Nat)} {m : List Nat → Int} {l : List Nat} {H : Hp} {Q : VK} (h : IsTimes (C_Times K) H a T ns m) (hl : l ∈ ns) (k : ∀ H', Same H H' → Q (.int (m l)) H') : ∃ a' dx fs, V.ref a = .ref a' ∧ H a' = some (.ins (C_Times K) dx fs) ∧ sp_Times_getitem K [.ref a', .str (S l)] H Q E0 :=
  c_Times_getitemR h.rd hl k
def sp_on_span (K : PySem.W.Frag) : Sp := fun vs H Q _ => ∃ (b p : Addr) (T : Int) (ms : List (List Nat)) (m : List Nat → Int) (r : Row), vs = [.ref b, .ref p] ∧ IsTimes (C_Times K) H b T ms m ∧ H p = some (.tup (rowV r)) ∧ r.u ∈ ms ∧ r.v ∈ ms ∧ 0 < T ∧ T < 1000 ∧ ∀ H', Same H H' → Q (pas T m r) H'
abbrev N_on_span : List Str := ["times", "span", "start", "end", "least", "most", "_", "minutes"]
theorem st_on_span {a0 a1 : V} : L2.start N_on_span [a0, a1] = [some a0, some a1, none, none, none, none, none, none] := rfl
def t_on_span (K : PySem.W.Frag) : TS :=
  (tSeq ((tAsg (tVar 1) (gTup K 5 (gCons (gName 2) (gCons (gName 3) (gCons (gName 4) (gCons (gName 5) (gCons (gName 6) gNil))))))))
    ((tSeq ((tAsg ((tOp (rI0 fun i j => .int (i + j)) (tVar 4) ((tOp (rI (fun _ j => 0 < j) fun i j => .int (i % j)) ((tOp (rI0 fun i j => .int (i - j)) ((tOp (rI0 fun i j => .int (i - j)) ((tSubOwn (C_Times K) (sp_Times_getitem K) (tVar 0) (tVar 3))) ((tSubOwn (C_Times K) (sp_Times_getitem K) (tVar 0) (tVar 2))))) (tVar 4))) ((tProp (C_Times K) (sp_Times_round_length K) [] E0 (tVar 0))))))) (gName 7)))
    ((tRet ((tIf ((tTest (tOp (rI0 fun i j => .bl (decide (i ≤ j))) (tVar 7) (tVar 5)))) (tVar 7) (tC .non))))))))

theorem pure_on_span (K : PySem.W.Frag) (vs : List V) (H : Hp) (Q : VK) (E : XK) (h : sp_on_span K vs H Q E) : t_on_span K { nx := fun _ H' => Q .non H', rt := Q } (L2.start N_on_span vs) H := by
  obtain ⟨b, p, T, ms, m, r, rfl, ht, hp, hu, hv, T0, T1, k⟩ := h
  rw [st_on_span]
  unfold t_on_span
  unfold rowV at hp
  walk_at "st"
  refine c_Times_getitem ht hv fun H2 s2 => ?_
  walk_at "st"
  refine c_Times_getitem (ht.mono s2) hu fun H3 s3 => ?_
  walk_at "st"
  refine c_Times_round_length ((ht.mono s2).mono s3) ?_
  walk_at "st"
  have z := k H3 (s2.trans s3)
  unfold pas at z
  refine ite_dec (fun h => ?_) (fun h => ?_)
  · rw [if_pos h] at z
    walk_at "st"
    exact z
  · rw [if_neg h] at z
    walk_at "st"
    exact z
theorem len_on_span (K : PySem.W.Frag) (vs : List V) (H : Hp) (Q : VK) (E : XK) (h : sp_on_span K vs H Q E) : vs.length = 2 := by
  obtain ⟨n, m, ms, a, b, _, rfl, _⟩ := h
  rfl
theorem c_on_span {K : PySem.W.Frag} {b p : Addr} {T : Int} {ms : List (List Nat)} {m : List Nat → Int} {r : Row} {H : Hp} {Q : VK} {E : XK} (ht : IsTimes (C_Times K) H b T ms m) (hp : H p = some (.tup (rowV r))) (hu : r.u ∈ ms) (hv : r.v ∈ ms) (T0 : 0 < T) (T1 : T < 1000) (k : ∀ H', Same H H' → Q (pas T m r) H') : sp_on_span K [.ref b, .ref p] H Q E := ⟨b, p, T, ms, m, r, rfl, ht, hp, hu, hv, T0, T1, k⟩
def cNms (T : Int) (ns : List (List Nat)) (T' : Int) (ms : List (List Nat)) : Option Er := if T' ≠ T then some (eN T') else (cFold (cIn ms) ns).or (cFold (cIn ns) ms)
def sp_on_all_spans (K : PySem.W.Frag) : Sp := fun vs H Q E => ∃ (a b : Addr) (T T' : Int) (ns ms : List (List Nat)) (ss : List V) (rs : List Row) (m : List Nat → Int), vs = [.ref a, .ref b] ∧ IsNet (C_Net K) H a T ns ss ∧ IsTimes (C_Times K) H b T' ms m ∧ Rws H ss rs ∧ (∀ r ∈ rs, r.u ∈ ns ∧ r.v ∈ ns) ∧ rs.length ≤ 100 ∧ 0 < T ∧ T < 1000 ∧
  (∀ er, cNms T ns T' ms = some er → Rzd (He.ga K er.c) er.fs E H) ∧ (cNms T ns T' ms = none → ∀ D H', H D = none → Same H H' → H' D = some (.lst (rs.map (pas T m))) → Q (.ref D) H')
abbrev N_on_all_spans : List Str := ["net", "times", "span"]
theorem st_on_all_spans {a0 a1 : V} : L2.start N_on_all_spans [a0, a1] = [some a0, some a1, none] := rfl
def t_on_all_spans (K : PySem.W.Frag) (E : XK) : TS :=
  (tSeq ((tDrop ((tCall (sp_check_names K) [] E ((tCons (tVar 0) ((tCons (tVar 1) (tNil)))))))))
    ((tRet ((tLc ((iList K ((tProp (C_Net K) (sp_Net_spans K) [] E0 (tVar 0))))) ((gName 2)) (tYes) ((tCall (sp_on_span K) [] E0 ((tCons (tVar 1) ((tCons (tVar 2) (tNil))))))) [2])))))

theorem pure_on_all_spans (K : PySem.W.Frag) (vs : List V) (H : Hp) (Q : VK) (E : XK) (h : sp_on_all_spans K vs H Q E) : t_on_all_spans K E { nx := fun _ H' => Q .non H', rt := Q } (L2.start N_on_all_spans vs) H := by
  obtain ⟨a, b, T, T', ns, ms, ss, rs, m, rfl, hn, ht, hr, hu, h100, T0, T1, kx, k⟩ := h
  have lr := hr.len
  rw [st_on_all_spans]
  unfold t_on_all_spans
  walk_at "st"
  refine c_check_names hn ht fun H2 s2 => ⟨fun e0 => ?_, fun er e0 => (kx er e0).mono s2⟩
  have k := k e0
  have eT : T' = T := by
    by_cases h : T' = T
    · exact h
    · rw [if_pos h] at e0; cases e0
  subst eT
  rw [if_neg (by simp)] at e0
  have inm := cIn_none (Option.or_eq_none_iff.mp e0).1
  have hn2 := hn.mono s2
  walk_at "st"
  refine c_Net_spans hn2 fun p hp => ?_
  have s3 := Same.new (o := .lst ss) hp
  walk_at "st"
  refine lcGL (sq_of upd_same) (by omega) (fun i => (rs.take i).map (pas T' m)) rfl (fun i => by rw [List.length_map, List.length_take]; omega) (fun i x H4 R R0 hx s4 k1 k0 => ?_) (fun D H4 hD s4 hD2 => ?_)
  · obtain ⟨r, hri, q, rfl, hq⟩ := hr.at hx
    obtain ⟨ru, rv⟩ := hu r (List.mem_of_getElem? hri)
    have s24 := (s2.trans s3).trans s4
    rw [show wipe [some (V.ref a), some (V.ref b), none] [2] = [some (V.ref a), some (V.ref b), none] from rfl]
    show gName 2 (.ref q) _ _ _
    walk_at "st"
    refine ⟨rfl, ?_⟩
    walk_at "st"
    refine c_on_span (ht.mono s24) (s24 _ _ hq) (inm _ ru) (inm _ rv) T0 T1 fun H5 s5 => ?_
    refine k1 _ _ s5 ?_
    rw [take_snoc hri, List.map_append]
    rfl
  · rw [lr, List.take_length] at hD2
    have s23 := s2.trans s3
    exact k D H4 (s23.free hD) (s23.trans s4) hD2
theorem len_on_all_spans (K : PySem.W.Frag) (vs : List V) (H : Hp) (Q : VK) (E : XK) (h : sp_on_all_spans K vs H Q E) : vs.length = 2 := by
  obtain ⟨n, m, ms, a, b, _, _, _, _, rfl, _⟩ := h
  rfl
theorem pas_non {T : Int} {m : List Nat → Int} {r : Row} (h : isK T m r = false) : pas T m r = .non := by
  unfold isK at h
  unfold pas
  rw [if_neg (of_decide_eq_false h)]
theorem pas_int {T : Int} {m : List Nat → Int} {r : Row} (h : isK T m r = true) : ∃ i, pas T m r = .int i := by
  unfold isK at h
  unfold pas
  rw [if_pos (of_decide_eq_true h)]
  exact ⟨_, rfl⟩
theorem pas_flat {T : Int} {m : List Nat → Int} {rs : List Row} : (rs.map (pas T m)).all flatV = true := by
  rw [List.all_eq_true]
  intro x hx
  obtain ⟨r, _, rfl⟩ := List.mem_map.mp hx
  cases h : isK T m r with
  | false => rw [pas_non h]; rfl
  | true => obtain ⟨i, e⟩ := pas_int h; rw [e]; rfl
theorem brk_some {T : Int} {m : List Nat → Int} : ∀ {rs : List Row} {i : Nat} {er : Er}, brk T m i rs = some er → ∃ j r, rs[j]? = some r ∧ isK T m r = false ∧ (∀ x ∈ rs.take j, isK T m x = true) ∧ er = eB ((i + j : Nat) : Int)
  | x :: rs, i, er, h => by
    have h : (if isK T m x = true then brk T m (i + 1) rs else some (eB i)) = some er := h
    by_cases e : isK T m x = true
    · rw [if_pos e] at h
      obtain ⟨j, r, h1, h2, h3, h4⟩ := brk_some h
      refine ⟨j + 1, r, h1, h2, fun y hy => ?_, by rw [h4, show i + 1 + j = i + (j + 1) by omega]⟩
      rw [List.take_succ_cons] at hy
      rcases List.mem_cons.mp hy with rfl | hy
      · exact e
      · exact h3 y hy
    · rw [if_neg e] at h
      cases h
      exact ⟨0, x, rfl, by simpa using e, by simp, rfl⟩
theorem brk_all {T : Int} {m : List Nat → Int} : ∀ {rs : List Row} {i : Nat}, brk T m i rs = none → ∀ r ∈ rs, isK T m r = true
  | x :: rs, i, h, r, hr => by
    have h : (if isK T m x = true then brk T m (i + 1) rs else some (eB i)) = none := h
    by_cases e : isK T m x = true
    · rw [if_pos e] at h
      rcases List.mem_cons.mp hr with rfl | hr
      · exact e
      · exact brk_all h r hr
    · rw [if_neg e] at h
      cases h
theorem cKept_eq {T : Int} {ns : List (List Nat)} {rs : List Row} {T' : Int} {ms : List (List Nat)} {m : List Nat → Int} : cKept T ns rs T' ms m = (cNms T ns T' ms).or (if T' ≠ T then none else brk T m 0 rs) := by
  unfold cKept cNms
  by_cases h : T' ≠ T
  · rw [if_pos h, if_pos h]; rfl
  · rw [if_neg h, if_neg h, if_neg h, Option.or_assoc]
def sp_kept_minutes (K : PySem.W.Frag) : Sp := fun vs H Q E => ∃ (a b : Addr) (T T' : Int) (ns ms : List (List Nat)) (ss : List V) (rs : List Row) (m : List Nat → Int), vs = [.ref a, .ref b] ∧ IsNet (C_Net K) H a T ns ss ∧ IsTimes (C_Times K) H b T' ms m ∧ Rws H ss rs ∧ (∀ r ∈ rs, r.u ∈ ns ∧ r.v ∈ ns) ∧ rs.length ≤ 100 ∧ 0 < T ∧ T < 1000 ∧
  (∀ er, cKept T ns rs T' ms m = some er → Rzd (He.ga K er.c) er.fs E H) ∧ (cKept T ns rs T' ms m = none → ∀ D H', H D = none → Same H H' → H' D = some (.lst (rs.map (pas T m))) → Q (.ref D) H')
abbrev N_kept_minutes : List Str := ["net", "times", "minutes"]
theorem st_kept_minutes {a0 a1 : V} : L2.start N_kept_minutes [a0, a1] = [some a0, some a1, none] := rfl
def t_kept_minutes (K : PySem.W.Frag) (E : XK) : TS :=
  (tSeq ((tAsg ((tCall (sp_on_all_spans K) [] E ((tCons (tVar 0) ((tCons (tVar 1) (tNil))))))) (gName 2)))
    ((tSeq ((tIfS ((tTest (tOp (rIn K false) (tC .non) (tVar 2)))) ((tRs (C_BrokenSpan K) ["number"] E ((tCons ((tBM K "list" (rIndex K) (tVar 2) ((tCons (tC .non) (tNil))))) (tNil))))) (tNext)))
    ((tRet (tVar 2))))))

theorem pure_kept_minutes (K : PySem.W.Frag) (vs : List V) (H : Hp) (Q : VK) (E : XK) (h : sp_kept_minutes K vs H Q E) : t_kept_minutes K E { nx := fun _ H' => Q .non H', rt := Q } (L2.start N_kept_minutes vs) H := by
  obtain ⟨a, b, T, T', ns, ms, ss, rs, m, rfl, hn, ht, hr, hu, h100, T0, T1, kx, k⟩ := h
  rw [cKept_eq] at kx k
  rw [st_kept_minutes]
  unfold t_kept_minutes
  walk_at "st"
  refine ⟨a, b, T, T', ns, ms, ss, rs, m, rfl, hn, ht, hr, hu, h100, T0, T1, fun er e => kx er (by rw [e]; rfl), fun e0 D H2 hD s2 hD2 => ?_⟩
  have eT : T' = T := by
    by_cases h : T' = T
    · exact h
    · unfold cNms at e0; rw [if_pos h] at e0; cases e0
  rw [e0, Option.none_or, if_neg (by simp [eT])] at kx k
  walk_at "st"
  refine ⟨D, _, rfl, .inl (sq_of hD2), rfl, pas_flat, ?_⟩
  cases hb : brk T m 0 rs with
  | none =>
    have al := brk_all hb
    have e : inV V.non (rs.map (pas T m)) = false := by
      cases hi : inV V.non (rs.map (pas T m)) with
      | false => rfl
      | true =>
        unfold inV at hi
        obtain ⟨x, hx, e⟩ := List.any_eq_true.mp hi
        obtain ⟨r, hr', rfl⟩ := List.mem_map.mp hx
        obtain ⟨i, e2⟩ := pas_int (al r hr')
        rw [e2] at e
        cases e
    rw [if_neg (by decide), e]
    walk_at "st"
    exact k hb D H2 hD s2 hD2
  | some er =>
    obtain ⟨j, r, hj, hk, hall, rfl⟩ := brk_some hb
    have hjp : (rs.map (pas T m))[j]? = some .non := by rw [List.getElem?_map, hj]; show some (pas T m r) = _; rw [pas_non hk]
    have e : inV V.non (rs.map (pas T m)) = true := by
      unfold inV
      exact List.any_eq_true.mpr ⟨.non, List.mem_of_getElem? hjp, rfl⟩
    rw [if_neg (by decide), e]
    walk_at "st"
    refine wp_rs ?_
    walk_at "st"
    refine ⟨D, _, .non, j, .non, rfl, rfl, sq_of hD2, rfl, pas_flat, hjp, rfl, fun i z hi hz => ?_, ?_⟩
    · rw [List.getElem?_map] at hz
      obtain ⟨r', hr', rfl⟩ := Option.map_eq_some_iff.mp hz
      obtain ⟨n, e2⟩ := pas_int (hall r' (List.mem_of_getElem? (by rw [List.getElem?_take, if_pos hi]; exact hr')))
      rw [e2]
      rfl
    · walk_at "st"
      have z := (kx _ hb).mono s2
      rw [Nat.zero_add] at z
      exact rs_of rfl (by decide) z
theorem len_kept_minutes (K : PySem.W.Frag) (vs : List V) (H : Hp) (Q : VK) (E : XK) (h : sp_kept_minutes K vs H Q E) : vs.length = 2 := by
  obtain ⟨n, m, ms, a, b, _, _, _, _, rfl, _⟩ := h
  rfl
def sp_arcs_of (K : PySem.W.Frag) : Sp := fun vs H Q _ => ∃ (n f b : Addr) (T : Int) (ns : List (List Nat)) (ss : List V) (rs : List Row) (fs bs : List Int), vs = [.ref n, .ref f, .ref b] ∧ IsNet (C_Net K) H n T ns ss ∧ Rws H ss rs ∧ ss.length ≤ 1000 ∧ H f = some (.lst (fs.map V.int)) ∧ H b = some (.lst (bs.map V.int)) ∧ fs.length = ss.length ∧ bs.length = ss.length ∧
  ∀ D xs H', Same H H' → H D = none → H' D = some (.lst xs) → ArF H H' xs (arL rs fs bs rs.length) → Q (.ref D) H'
abbrev N_arcs_of : List Str := ["net", "forward", "backward", "arcs", "number", "span", "start", "end"]
theorem st_arcs_of {a0 a1 a2 : V} : L2.start N_arcs_of [a0, a1, a2] = [some a0, some a1, some a2, none, none, none, none, none] := rfl
def t_arcs_of (K : PySem.W.Frag) : TS :=
  (tSeq ((tAsg ((tLst (tNil))) (gName 3)))
    ((tSeq ((tFor ((iEnum K ((tCons ((tProp (C_Net K) (sp_Net_spans K) [] E0 (tVar 0))) (tNil))))) (gTup K 2 (gCons (gName 4) (gCons (gName 5) gNil))) ((tSeq ((tAsg ((tSl (rSlA K) (tVar 5) tNoPart (tPart (tC (.int 2))))) (gTup K 2 (gCons (gName 6) (gCons (gName 7) gNil)))))
    ((tSeq ((tDrop ((tBM K "list" rAppend (tVar 3) ((tCons ((tTup ((tCons (tVar 6) ((tCons (tVar 7) ((tCons ((tOp (rIxL K) (tVar 1) (tVar 4))) ((tCons ((tTup ((tCons (tVar 4) ((tCons (tC (.int 1)) (tNil))))))) (tNil))))))))))) (tNil)))))))
    ((tDrop ((tBM K "list" rAppend (tVar 3) ((tCons ((tTup ((tCons (tVar 7) ((tCons (tVar 6) ((tCons ((tOp (rIxL K) (tVar 2) (tVar 4))) ((tCons ((tTup ((tCons (tVar 4) ((tCons ((tUn (rU fun i => .int (-i)) (tC (.int 1)))) (tNil))))))) (tNil))))))))))) (tNil)))))))))))))
    ((tRet (tVar 3))))))

theorem pure_arcs_of (K : PySem.W.Frag) (vs : List V) (H : Hp) (Q : VK) (E : XK) (h : sp_arcs_of K vs H Q E) : t_arcs_of K { nx := fun _ H' => Q .non H', rt := Q } (L2.start N_arcs_of vs) H := by
  obtain ⟨n, f, b, T, ns, ss, rs, fs, bs, rfl, hn, rws, few, hf, hb, lf, lb, k⟩ := h
  have elr := rws.len
  rw [st_arcs_of]
  unfold t_arcs_of
  walk_at "st"
  refine ⟨Nat.zero_le _, fun L hL => ?_⟩
  have t0 := Same.new (o := .lst []) hL
  have e0 : upd H L (.lst []) L = some (.lst []) := upd_same
  revert t0 e0
  generalize upd H L (.lst []) = H0
  intro t0 e0
  walk_at "st"
  refine c_Net_spans (hn.mono t0) fun q hq => ?_
  have t1 := t0.trans (Same.new (o := .lst ss) hq)
  have hq1 : upd H0 q (.lst ss) q = some (.lst ss) := upd_same
  have e1 := Same.new (o := .lst ss) hq _ _ e0
  have nLq : L ≠ q := ne_of_none e0 hq
  have q0 : H q = none := t0.free hq
  revert t1 hq1 e1
  generalize upd H0 q (.lst ss) = H1
  intro t1 hq1 e1
  refine loopE (sq_of hq1) (fun i σ' H' => ∃ (y4 y5 y6 y7 : Option V) (xs : List V), σ' = [some (.ref n), some (.ref f), some (.ref b), some (.ref L), y4, y5, y6, y7] ∧ Same H H' ∧ H' q = some (.lst ss) ∧ H' L = some (.lst xs) ∧ ArF H H' xs (arL rs fs bs i)) ⟨_, _, _, _, [], rfl, t1, hq1, e1, .nil⟩ ?_ ?_ ?_
  · rintro i σ' H' _ ⟨y4, y5, y6, y7, xs, rfl, t2, hq2, _⟩
    exact sq_of hq2
  · rintro i v A σ' H' hv ⟨y4, y5, y6, y7, xs, rfl, t2, hq2, e2, ar⟩ hA
    obtain ⟨r, er, p, rfl, hp⟩ := rws.at hv
    have hp : H p = some (.tup [sv r.u, sv r.v, .int r.lo, .int r.hi, .int r.w]) := hp
    have hi := (List.getElem?_eq_some_iff.mp hv).1
    obtain ⟨fv, ef⟩ : ∃ fv, fs[i]? = some fv := ⟨_, List.getElem?_eq_getElem (by omega)⟩
    obtain ⟨bv, eb⟩ : ∃ bv, bs[i]? = some bv := ⟨_, List.getElem?_eq_getElem (by omega)⟩
    have v1 := Same.new (o := .tup [.int (i : Nat), .ref p]) hA
    have hA2 : upd H' A (.tup [.int (i : Nat), .ref p]) A = some (.tup [.int (i : Nat), .ref p]) := upd_same
    have t3 := t2.trans v1
    have hq3 := v1 _ _ hq2
    have e3 := v1 _ _ e2
    have ar3 := ar.mono v1
    revert t3 hA2 hq3 e3 ar3
    generalize upd H' A (.tup [.int (i : Nat), .ref p]) = H2
    intro hA2 t3 hq3 e3 ar3
    have hp3 := t3 _ _ hp
    walk_at "st"
    refine sl_to2 hp3 fun c hc => ?_
    have v2 := Same.new (o := .tup [sv r.u, sv r.v]) hc
    have hc4 : upd H2 c (.tup [sv r.u, sv r.v]) c = some (.tup [sv r.u, sv r.v]) := upd_same
    have t4 := t3.trans v2
    have hq4 := v2 _ _ hq3
    have e4 := v2 _ _ e3
    have ar4 := ar3.mono v2
    revert t4 hc4 hq4 e4 ar4
    generalize upd H2 c (.tup [sv r.u, sv r.v]) = H4
    intro hc4 t4 hq4 e4 ar4
    have hf4 := t4 _ _ hf
    have hb4 := t4 _ _ hb
    have la := arL_len (rs := rs) (fs := fs) (bs := bs) i
    have lx := ar4.len
    walk_at "st"
    refine wp_ixL (sq_of hf4) (at_nth (by rw [List.getElem?_map, ef]; rfl)) ?_
    walk_at "st"
    refine ⟨by simp [sizeLine_eq], fun y1 hy1 => ?_⟩
    walk_at "st"
    refine ⟨by simp [sizeLine_eq], fun x1 hx1 => ?_⟩
    have v5 := (Same.new (o := .tup [.int (i : Nat), .int 1]) hy1).trans (Same.new (o := .tup [sv r.u, sv r.v, .int fv, .ref y1]) hx1)
    have e5 := v5 _ _ e4
    walk_at "st"
    refine wp_append e5 (by omega) ?_
    have ar5 : ArF H (upd (upd (upd H4 y1 (.tup [.int (i : Nat), .int 1])) x1 (.tup [sv r.u, sv r.v, .int fv, .ref y1])) L (.lst (xs ++ [.ref x1]))) (xs ++ [.ref x1]) (arL rs fs bs i ++ [⟨r.u, r.v, fv, ((i : Nat), 1)⟩]) :=
      ArF.upd e5 (ArF.app (.cons (a := ⟨r.u, r.v, fv, ((i : Nat), 1)⟩) ((t4.trans (Same.new hy1)).free hx1) (t4.free hy1) upd_same (Same.new hx1 _ _ upd_same) .nil) (ar4.mono v5))
    have t5 := Same.mut (o := .lst (xs ++ [.ref x1])) (t4.trans v5) hL
    have e6 : upd (upd (upd H4 y1 (.tup [.int (i : Nat), .int 1])) x1 (.tup [sv r.u, sv r.v, .int fv, .ref y1])) L (.lst (xs ++ [.ref x1])) L = some (.lst (xs ++ [.ref x1])) := upd_same
    have hq5 : upd (upd (upd H4 y1 (.tup [.int (i : Nat), .int 1])) x1 (.tup [sv r.u, sv r.v, .int fv, .ref y1])) L (.lst (xs ++ [.ref x1])) q = some (.lst ss) := by rw [upd_ne nLq.symm]; exact v5 _ _ hq4
    revert ar5 t5 e6 hq5
    generalize upd (upd (upd H4 y1 (.tup [.int (i : Nat), .int 1])) x1 (.tup [sv r.u, sv r.v, .int fv, .ref y1])) L (.lst (xs ++ [.ref x1])) = H5
    intro ar5 t5 e6 hq5
    have hb5 := t5 _ _ hb
    walk_at "st"
    refine wp_ixL (sq_of hb5) (at_nth (by rw [List.getElem?_map, eb]; rfl)) ?_
    walk_at "st"
    refine ⟨by simp [sizeLine_eq], fun y2 hy2 => ?_⟩
    walk_at "st"
    refine ⟨by simp [sizeLine_eq], fun x2 hx2 => ?_⟩
    have v6 := (Same.new (o := .tup [.int (i : Nat), .int (-1)]) hy2).trans (Same.new (o := .tup [sv r.v, sv r.u, .int bv, .ref y2]) hx2)
    have e7 := v6 _ _ e6
    walk_at "st"
    refine wp_append e7 (by rw [List.length_append]; simp; omega) ?_
    have ea : arL rs fs bs (i + 1) = arL rs fs bs i ++ [⟨r.u, r.v, fv, ((i : Nat), 1)⟩] ++ [⟨r.v, r.u, bv, ((i : Nat), -1)⟩] := by
      show arL rs fs bs i ++ ar2 rs fs bs i = _
      unfold ar2
      rw [er]
      show _ ++ [(⟨r.u, r.v, fs.getD i 0, ((i : Nat), 1)⟩ : Ar), ⟨r.v, r.u, bs.getD i 0, ((i : Nat), -1)⟩] = _
      rw [List.getD_eq_getElem?_getD, List.getD_eq_getElem?_getD, ef, eb, List.append_assoc]
      rfl
    walk_at "st"
    refine ⟨_, _, _, _, xs ++ [.ref x1] ++ [.ref x2], rfl, Same.mut (t5.trans v6) hL, by rw [upd_ne nLq.symm]; exact v6 _ _ hq5, upd_same, ?_⟩
    rw [ea]
    exact ArF.upd e7 (ArF.app (.cons (a := ⟨r.v, r.u, bv, ((i : Nat), -1)⟩) ((t5.trans (Same.new hy2)).free hx2) (t5.free hy2) upd_same (Same.new hx2 _ _ upd_same) .nil) (ar5.mono v6))
  · rintro σ' H' ⟨y4, y5, y6, y7, xs, rfl, t2, hq2, e2, ar⟩
    rw [elr] at ar
    walk_at "st"
    exact k L xs H' t2 hL e2 ar
theorem len_arcs_of (K : PySem.W.Frag) (vs : List V) (H : Hp) (Q : VK) (E : XK) (h : sp_arcs_of K vs H Q E) : vs.length = 3 := by
  obtain ⟨_, _, _, _, _, _, _, _, _, rfl, _⟩ := h
  rfl
theorem c_arcs_of {K : PySem.W.Frag} {n f b : Addr} {T : Int} {ns : List (List Nat)} {ss : List V} {rs : List Row} {fs bs : List Int} {H : Hp} {Q : VK} {E : XK} (hn : IsNet (C_Net K) H n T ns ss) (rws : Rws H ss rs) (few : ss.length ≤ 1000) (hf : H f = some (.lst (fs.map V.int))) (hb : H b = some (.lst (bs.map V.int))) (lf : fs.length = ss.length) (lb : bs.length = ss.length)
    (k : ∀ D xs H', Same H H' → H D = none → H' D = some (.lst xs) → ArF H H' xs (arL rs fs bs rs.length) → Q (.ref D) H') : sp_arcs_of K [.ref n, .ref f, .ref b] H Q E := ⟨n, f, b, T, ns, ss, rs, fs, bs, rfl, hn, rws, few, hf, hb, lf, lb, k⟩
def sp_walk_along (K : PySem.W.Frag) : Sp := fun vs H Q _ => ∃ (d : Addr) (b n : List Nat) (ks : List (List Nat)) (P : List Nat → List Nat) (G : List Nat → Int × Int) (A B : List Nat → Addr) (m : Nat) (o : Option (List (Int × Int))), vs = [.ref d, .str (S b), .str (S n)] ∧ BkD H d ks P G A B ∧ Bk ks P G b m n o ∧ m ≤ 1000 ∧
  (o = none → ∀ H', Same H H' → Q .non H') ∧ (∀ w, o = some w → ∀ D xs H', Same H H' → H D = none → H' D = some (.lst xs) → StI H' xs w → Q (.ref D) H')
abbrev N_walk_along : List Str := ["last", "begin", "end", "walk", "place", "step"]
theorem st_walk_along {a0 a1 a2 : V} : L2.start N_walk_along [a0, a1, a2] = [some a0, some a1, some a2, none, none, none] := rfl
def t_walk_along (K : PySem.W.Frag) : TS :=
  (tSeq ((tAsg ((tLst (tNil))) (gName 3)))
    ((tSeq ((tAsg (tVar 2) (gName 4)))
    ((tSeq ((tWhile ((tTest (tOp rNe (tVar 4) (tVar 1)))) ((tSeq ((tIfS ((tB (tDNotIn (tVar 4) (tVar 0)))) ((tRet (tC .non))) (tNext)))
    ((tSeq ((tAsg ((tDGet (tVar 0) (tVar 4))) (gTup K 2 (gCons (gName 4) (gCons (gName 5) gNil)))))
    ((tDrop ((tBM K "list" rAppend (tVar 3) ((tCons (tVar 5) (tNil)))))))))))))
    ((tRet ((tRevL K (tVar 3))))))))))

theorem pure_walk_along (K : PySem.W.Frag) (vs : List V) (H : Hp) (Q : VK) (E : XK) (h : sp_walk_along K vs H Q E) : t_walk_along K { nx := fun _ H' => Q .non H', rt := Q } (L2.start N_walk_along vs) H := by
  obtain ⟨d, b, n, ks, P, G, A, B, m, o, rfl, hd, bk, hm, k1, k2⟩ := h
  rw [st_walk_along]
  unfold t_walk_along
  walk_at "st"
  refine ⟨Nat.zero_le _, fun R hR => ?_⟩
  have t0 := Same.new (o := .lst []) hR
  have e0 : upd H R (.lst []) R = some (.lst []) := upd_same
  revert t0 e0
  generalize upd H R (.lst []) = H0
  intro t0 e0
  walk_at "st"
  refine ⟨fun m σ' H' => ∃ (l : List Nat) (w2 : List (Int × Int)) (xs : List V) (y5 : Option V) (o2 : Option (List (Int × Int))), σ' = [some (.ref d), some (.str (S b)), some (.str (S n)), some (.ref R), some (.str (S l)), y5] ∧ Same H H' ∧ H' R = some (.lst xs) ∧ StI H' xs w2 ∧ Bk ks P G b m l o2 ∧ o = o2.map (· ++ w2.reverse) ∧ m + xs.length ≤ 1000, ⟨m, n, [], [], _, o, rfl, t0, e0, .nil, bk, by cases o <;> simp, by simpa using hm⟩, ?_⟩
  rintro m σ' H' ⟨l, w2, xs, y5, o2, rfl, s1, hr, st, bk, eo, hl⟩
  have hd1 := hd.mono s1
  walk_at "st"
  cases bk with
  | here =>
    rw [decide_eq_true rfl]
    walk_at "st"
    refine wp_revW ?_
    walk_at "st"
    refine ⟨R, xs, rfl, sq_of hr, fun p hp => ?_⟩
    exact k2 _ eo p xs.reverse _ (s1.trans (Same.new hp)) (s1.free hp) upd_same (by simpa using (st.rev).mono (Same.new hp))
  | lost h hk =>
    rw [decide_eq_false (fun e => h (S_inj e))]
    refine ⟨fun _ _ => False, fun _ _ z => z.elim, ?_⟩
    walk_at "st"
    refine wp_dnotin ?_
    walk_at "st"
    refine dnin_s (.inl hd1.d) ?_
    rw [dN_none hk]
    walk_at "st"
    exact k1 eo _ s1
  | @up _ k o3 h hk r =>
    rw [decide_eq_false (fun e => h (S_inj e))]
    have ha := hd1.a l hk
    have hb := hd1.b l hk
    refine ⟨_, fun σ2 H2 z => ⟨k, Nat.lt_succ_self k, z⟩, ?_⟩
    walk_at "st"
    refine wp_dnotin ?_
    walk_at "st"
    refine dnin_s (.inl hd1.d) ?_
    rw [dN_val hk]
    walk_at "st"
    rw [show (!(some (V.ref (A l))).isSome) = false from rfl]
    walk_at "st"
    refine dget_s (.inl hd1.d) (dN_val hk) ?_
    walk_at "st"
    refine wp_append hr (by omega) ?_
    walk_at "st"
    have nR : ∀ x o, H x = some o → x ≠ R := fun x o e z => by rw [z, hR] at e; cases e
    refine ⟨P l, w2 ++ [G l], xs ++ [.ref (B l)], _, o3, rfl, Same.mut s1 hR, upd_same, ?_, r, ?_, by rw [List.length_append]; simp; omega⟩
    · exact StF.upd hr (StF.app (.cons (s := G l) rfl hb .nil) st)
    · rw [eo]
      cases o3 <;> simp
theorem len_walk_along (K : PySem.W.Frag) (vs : List V) (H : Hp) (Q : VK) (E : XK) (h : sp_walk_along K vs H Q E) : vs.length = 3 := by
  obtain ⟨_, _, _, _, _, _, _, _, _, _, rfl, _⟩ := h
  rfl
theorem c_walk_along {K : PySem.W.Frag} {d : Addr} {b n : List Nat} {ks : List (List Nat)} {P : List Nat → List Nat} {G : List Nat → Int × Int} {A B : List Nat → Addr} {m : Nat} {o : Option (List (Int × Int))} {H : Hp} {Q : VK} {E : XK} (hd : BkD H d ks P G A B) (bk : Bk ks P G b m n o) (hm : m ≤ 1000)
    (k1 : o = none → ∀ H', Same H H' → Q .non H') (k2 : ∀ w, o = some w → ∀ D xs H', Same H H' → H D = none → H' D = some (.lst xs) → StI H' xs w → Q (.ref D) H') : sp_walk_along K [.ref d, .str (S b), .str (S n)] H Q E := ⟨d, b, n, ks, P, G, A, B, m, o, rfl, hd, bk, hm, k1, k2⟩
def sp_least_walks (K : PySem.W.Frag) : Sp := fun vs H Q _ => ∃ (a : Addr) (f : List Nat) (xs : List V) (as : List Ar) (ns : List (List Nat)), vs = [.ref a, .str (S f)] ∧ H a = some (.lst xs) ∧ ArI H xs as ∧ (∀ x ∈ as, (0 ≤ x.c ∧ x.c ≤ 120) ∧ x.v ∈ ns) ∧ ns.length ≤ 12 ∧
  ∀ D dm dl ks P G A B F H', Same H H' → H D = none → H dm = none → H dl = none → H' D = some (.tup [.ref dm, .ref dl, .non]) → H' dm = some (.dK (dN (fun l => .int (F l)) (f :: ks))) → BkD H' dl ks P G A B → Sml as f P G F ks → ks.length ≤ 12 → Tgt as f F ks → Q (.ref D) H'
abbrev N_least_walks : List Str := ["arcs", "first", "sums", "last", "better", "begin", "end", "cost", "step", "way"]
theorem st_least_walks {a0 a1 : V} : L2.start N_least_walks [a0, a1] = [some a0, some a1, none, none, none, none, none, none, none, none] := rfl
def t_least_walks (K : PySem.W.Frag) : TS :=
  (tSeq ((tAsg ((tDisp ((tVar 1, tC (.int 0)) :: []))) (gName 2)))
    ((tSeq ((tAsg (tDNewK) (gName 3)))
    ((tSeq ((tAsg (tC (.bl true)) (gName 4)))
    ((tSeq ((tWhile ((tB (tVar 4))) ((tSeq ((tAsg (tC (.bl false)) (gName 4)))
    ((tFor ((iList K (tVar 0))) (gTup K 4 (gCons (gName 5) (gCons (gName 6) (gCons (gName 7) (gCons (gName 8) gNil))))) ((tIfS ((tAnd ((tB (tDIn (tVar 5) (tVar 2)))) ((tOr ((tB (tDNotIn (tVar 6) (tVar 2)))) ((tTest (tOp (rI0 fun i j => .bl (decide (i < j))) ((tOp (rI0 fun i j => .int (i + j)) ((tDGet (tVar 2) (tVar 5))) (tVar 7))) ((tDGet (tVar 2) (tVar 6)))))))))) ((tSeq ((tAsg ((tCall (sp_walk_along K) [] E0 ((tCons (tVar 3) ((tCons (tVar 6) ((tCons (tVar 5) (tNil))))))))) (gName 9)))
    ((tSeq ((tIfS ((tTest (tOp rNotN (tVar 9) (tC .non)))) ((tRet ((tTup ((tCons (tVar 2) ((tCons (tVar 3) ((tCons ((tLst ((StX.tStar K (tVar 9) ((tCons (tVar 8) (tNil))))))) (tNil))))))))))) (tNext)))
    ((tSeq ((tAsg ((tOp (rI0 fun i j => .int (i + j)) ((tDGet (tVar 2) (tVar 5))) (tVar 7))) (gSub (tVar 2) (tVar 6) rSetD)))
    ((tSeq ((tAsg ((tTup ((tCons (tVar 5) ((tCons (tVar 8) (tNil))))))) (gSub (tVar 3) (tVar 6) rSetD)))
    ((tAsg (tC (.bl true)) (gName 4))))))))))) (tNext)))))))))
    ((tRet ((tTup ((tCons (tVar 2) ((tCons (tVar 3) ((tCons (tC .non) (tNil))))))))))))))))))

theorem pure_least_walks (K : PySem.W.Frag) (vs : List V) (H : Hp) (Q : VK) (E : XK) (h : sp_least_walks K vs H Q E) : t_least_walks K { nx := fun _ H' => Q .non H', rt := Q } (L2.start N_least_walks vs) H := by
  obtain ⟨a, f, xs, as, ns, rfl, ha, ar, has, ln, k⟩ := h
  have elx := ar.len
  have hc : ∀ x ∈ as, 0 ≤ x.c ∧ x.c ≤ 120 := fun x hx => (has x hx).1
  have hin : ∀ x ∈ as, x.v ∈ ns := fun x hx => (has x hx).2
  rw [st_least_walks]
  unfold t_least_walks
  walk_at "st"
  refine wp_disp fun dm hdm0 => ?_
  show tVar 1 _ _ _
  walk_at "st"
  refine ⟨upd_same, [(.inr (S f), .int 0)], rfl, by simp, ?_⟩
  have t0 : Same H (upd (upd H dm (.dK [])) dm (.dK (mergeK [] [(.inr (S f), .int 0)]))) := Same.mut (Same.new hdm0) hdm0
  have hm0 : upd (upd H dm (.dK [])) dm (.dK (mergeK [] [(.inr (S f), .int 0)])) dm = some (.dK (dN (fun _ => .int 0) [f])) := upd_same
  revert t0 hm0
  generalize upd (upd H dm (.dK [])) dm (.dK (mergeK [] [(.inr (S f), .int 0)])) = H0
  intro t0 hm0
  walk_at "st"
  refine fun dl hdl => ?_
  have nld : dl ≠ dm := fun e => by rw [e, hm0] at hdl; cases hdl
  have dl0 := t0.free hdl
  have t1 := t0.trans (Same.new (o := .dK []) hdl)
  have hm1 := Same.new (o := .dK []) hdl _ _ hm0
  have hb1 : BkD (upd H0 dl (.dK [])) dl [] (fun _ => []) (fun _ => (0, 0)) (fun _ => 0) (fun _ => 0) := ⟨upd_same, fun _ h => (nomatch h), fun _ h => (nomatch h)⟩
  revert t1 hm1 hb1
  generalize upd H0 dl (.dK []) = H1
  intro t1 hm1 hb1
  walk_at "st"
  refine ⟨fun m σ' H' => ∃ (bt : Bool) (ks : List (List Nat)) (P : List Nat → List Nat) (G : List Nat → Int × Int) (A B : List Nat → Addr) (F : List Nat → Int) (y5 y6 y7 y8 y9 : Option V), σ' = [some (.ref a), some (.str (S f)), some (.ref dm), some (.ref dl), some (.bl bt), y5, y6, y7, y8, y9] ∧ Same H H' ∧ H' dm = some (.dK (dN (fun l => .int (F l)) (f :: ks))) ∧ BkD H' dl ks P G A B ∧ Sml as f P G F ks ∧ (bt = false → Tgt as f F ks) ∧ 2 * msr F ks + (if bt = true then 1 else 0) = m, ⟨_, true, [], _, _, _, _, (fun _ => 0), _, _, _, _, _, rfl, t1, hm1, hb1, .nil, fun e => (nomatch e), rfl⟩, ?_⟩
  rintro m σ' H' ⟨bt, k0, P0, G0, A0, B0, F0, y5, y6, y7, y8, y9, rfl, s1, hm, hb, gr, cl, em⟩
  walk_at "st"
  cases bt with
  | false =>
    walk_at "st"
    refine ⟨by simp [sizeLine_eq], fun D hD => ?_⟩
    have v := Same.new (o := .tup [.ref dm, .ref dl, .non]) hD
    exact k D dm dl k0 P0 G0 A0 B0 F0 _ (s1.trans v) (s1.free hD) hdm0 dl0 upd_same (v _ _ hm) (hb.mono v) gr (Nat.le_trans (gr.len hin) ln) (cl rfl)
  | true =>
    have em : 2 * msr F0 k0 + 1 = m := em
    refine ⟨_, fun σ2 H2 z => z, ?_⟩
    walk_at "st"
    refine loopL (sq_of (s1 _ _ ha)) (fun i σ' H' => ∃ (bt : Bool) (ks : List (List Nat)) (P : List Nat → List Nat) (G : List Nat → Int × Int) (A B : List Nat → Addr) (F : List Nat → Int) (y5 y6 y7 y8 y9 : Option V), σ' = [some (.ref a), some (.str (S f)), some (.ref dm), some (.ref dl), some (.bl bt), y5, y6, y7, y8, y9] ∧ Same H H' ∧ H' dm = some (.dK (dN (fun l => .int (F l)) (f :: ks))) ∧ BkD H' dl ks P G A B ∧ Sml as f P G F ks ∧ (bt = true → msr F ks < msr F0 k0) ∧ (bt = false → msr F ks = msr F0 k0 ∧ Tgt (as.take i) f F ks)) ⟨false, k0, P0, G0, A0, B0, F0, _, _, _, _, _, rfl, s1, hm, hb, gr, fun e => (nomatch e), fun _ => ⟨rfl, fun x hx => (nomatch hx)⟩⟩ ?_ ?_ ?_
    · rintro i σ' H' _ ⟨bt, ks, P, G, A, B, F, y5, y6, y7, y8, y9, rfl, s1, _⟩
      exact sq_of (s1 _ _ ha)
    · clear hb hm s1 gr cl
      rintro i v σ' H' hv ⟨bt, ks, P, G, A, B, F, y5, y6, y7, y8, y9, rfl, s1, hm, hb, gr, l1, cl⟩
      obtain ⟨x, y, s, rfl, es, _, _, hx, hy⟩ := ar.at_ hv
      have ms := List.mem_of_getElem? es
      have mle : msr F ks ≤ msr F0 k0 := by
        cases bt with
        | true => exact Nat.le_of_lt (l1 rfl)
        | false => exact Nat.le_of_eq (cl rfl).1
      have hx1 := s1 _ _ hx
      have hy1 := s1 _ _ hy
      have lk := Nat.le_trans (gr.len hin) ln
      have cl1 : (s.u ∈ f :: ks → s.v ∈ f :: ks ∧ F s.v ≤ F s.u + s.c) → bt = false → msr F ks = msr F0 k0 ∧ Tgt (as.take (i + 1)) f F ks := fun e1 e2 => by
        refine ⟨(cl e2).1, fun z hz => ?_⟩
        rw [take_snoc es] at hz
        rcases List.mem_append.mp hz with hz | hz
        · exact (cl e2).2 z hz
        · rw [List.mem_singleton.mp hz]
          exact e1
      walk_at "st"
      refine din_s (.inl hm) ?_
      rw [dN_some]
      walk_at "st"
      refine ite_dec (fun hu => ?_) (fun hu => ?_)
      · have hu2 : s.u = f ∨ s.u ∈ ks := List.mem_cons.mp hu
        have go : ∀ (hw : s.v ∉ f :: ks ∨ (s.v ∈ f :: ks ∧ F s.u + s.c < F s.v)), True := fun _ => trivial
        walk_at "st"
        refine wp_dnotin ?_
        walk_at "st"
        refine dnin_s (.inl hm) ?_
        by_cases hv : s.v ∈ f :: ks
        · rw [dN_some, decide_eq_true hv, show (!true) = false from rfl]
          walk_at "st"
          refine dget_s (.inl hm) (dN_val hu) ?_
          walk_at "st"
          refine dget_s (.inl hm) (dN_val hv) ?_
          walk_at "st"
          refine ite_dec (fun lt => ?_) (fun lt => ?_)
          · obtain ⟨n1, mv, gr2, m2, h1, h2⟩ := gr.low hc ms hu2 (List.mem_cons.mp hv) lt
            walk_at "st"
            refine c_walk_along hb h2 (by omega) (fun _ H2 s2 => ?_) (fun w e => (nomatch e))
            have s3 := s1.trans s2
            have hm3 := s2 _ _ hm
            have hb3 := hb.mono s2
            walk_at "st"
            refine wp_notN ?_
            walk_at "st"
            rw [show (!decide (V.non = V.non)) = false from by simp]
            walk_at "st"
            refine dget_s (.inl hm3) (dN_val hu) ?_
            walk_at "st"
            refine dput_s hm3 (by rw [dN_len]; simp; omega) ?_
            rw [dN_set hv, dN_int]
            have hm4 : upd H2 dm (.dK (dN (fun l => .int (up1 F s.v (F s.u + s.c) l)) (f :: ks))) dm = some (.dK (dN (fun l => .int (up1 F s.v (F s.u + s.c) l)) (f :: ks))) := upd_same
            have hb4 := hb3.updD (o := .dK (dN (fun l => .int (up1 F s.v (F s.u + s.c) l)) (f :: ks))) hm3 nld
            have s4 := Same.mut (o := .dK (dN (fun l => .int (up1 F s.v (F s.u + s.c) l)) (f :: ks))) s3 hdm0
            have hy4 : upd H2 dm (.dK (dN (fun l => .int (up1 F s.v (F s.u + s.c) l)) (f :: ks))) y = some (.tup [.int s.s.1, .int s.s.2]) := s4 _ _ hy
            revert hm4 hb4 s4 hy4
            generalize upd H2 dm (.dK (dN (fun l => .int (up1 F s.v (F s.u + s.c) l)) (f :: ks))) = H4
            intro hm4 hb4 s4 hy4
            walk_at "st"
            refine ⟨by simp [sizeLine_eq], fun t ht => ?_⟩
            have v5 := Same.new (o := .tup [sv s.u, .ref y]) ht
            have hb5 := hb4.mono v5
            walk_at "st"
            refine dput_s hb5.d (by rw [dN_len]; omega) ?_
            walk_at "st"
            refine ⟨true, ks, _, _, _, _, _, _, _, _, _, _, rfl, Same.mut (s4.trans v5) dl0, by rw [upd_ne nld.symm]; exact v5 _ _ hm4, hb5.set mv upd_same (v5 _ _ hy4), gr2, fun _ => Nat.lt_of_lt_of_le (msr_low mv (by have := gr.pos' hu2; have := (hc s ms).1; omega) lt) mle, fun e => (nomatch e)⟩
          · walk_at "st"
            exact ⟨bt, ks, P, G, A, B, F, _, _, _, _, _, rfl, s1, hm, hb, gr, l1, cl1 fun _ => ⟨hv, by omega⟩⟩
        · rw [dN_some, decide_eq_false hv, show (!false) = true from rfl]
          have n1 : s.v ≠ f := fun e => hv (by rw [e]; exact List.mem_cons_self)
          have n2 : s.v ∉ ks := fun e => hv (List.mem_cons_of_mem _ e)
          obtain ⟨gr2, m2, h1, h2⟩ := gr.new hc ms hu2 n1 n2
          have lk2 := Nat.le_trans (gr2.len hin) ln
          rw [List.length_append, List.length_singleton] at lk2
          walk_at "st"
          refine c_walk_along hb h2 (by omega) (fun _ H2 s2 => ?_) (fun w e => (nomatch e))
          have s3 := s1.trans s2
          have hm3 := s2 _ _ hm
          have hb3 := hb.mono s2
          walk_at "st"
          refine wp_notN ?_
          walk_at "st"
          rw [show (!decide (V.non = V.non)) = false from by simp]
          walk_at "st"
          refine dget_s (.inl hm3) (dN_val hu) ?_
          walk_at "st"
          refine dput_s hm3 (by rw [dN_len]; simp; omega) ?_
          rw [dN_up1 hv, dN_int, List.cons_append]
          have hm4 : upd H2 dm (.dK (dN (fun l => .int (up1 F s.v (F s.u + s.c) l)) (f :: (ks ++ [s.v])))) dm = some (.dK (dN (fun l => .int (up1 F s.v (F s.u + s.c) l)) (f :: (ks ++ [s.v])))) := upd_same
          have hb4 := hb3.updD (o := .dK (dN (fun l => .int (up1 F s.v (F s.u + s.c) l)) (f :: (ks ++ [s.v])))) hm3 nld
          have s4 := Same.mut (o := .dK (dN (fun l => .int (up1 F s.v (F s.u + s.c) l)) (f :: (ks ++ [s.v])))) s3 hdm0
          have hy4 : upd H2 dm (.dK (dN (fun l => .int (up1 F s.v (F s.u + s.c) l)) (f :: (ks ++ [s.v])))) y = some (.tup [.int s.s.1, .int s.s.2]) := s4 _ _ hy
          revert hm4 hb4 s4 hy4
          generalize upd H2 dm (.dK (dN (fun l => .int (up1 F s.v (F s.u + s.c) l)) (f :: (ks ++ [s.v])))) = H4
          intro hm4 hb4 s4 hy4
          walk_at "st"
          refine ⟨by simp [sizeLine_eq], fun t ht => ?_⟩
          have v5 := Same.new (o := .tup [sv s.u, .ref y]) ht
          have hb5 := hb4.mono v5
          walk_at "st"
          refine dput_s hb5.d (by rw [dN_len]; omega) ?_
          walk_at "st"
          refine ⟨true, ks ++ [s.v], _, _, _, _, _, _, _, _, _, _, rfl, Same.mut (s4.trans v5) dl0, by rw [upd_ne nld.symm]; exact v5 _ _ hm4, hb5.add n2 upd_same (v5 _ _ hy4), gr2, fun _ => Nat.lt_of_lt_of_le (msr_new n2 (by omega) (by have := gr.top' hu2; have := (hc s ms).2; omega)) mle, fun e => (nomatch e)⟩
      · walk_at "st"
        exact ⟨bt, ks, P, G, A, B, F, _, _, _, _, _, rfl, s1, hm, hb, gr, l1, cl1 fun e => absurd e hu⟩
    · rintro σ' H' ⟨bt, ks, P, G, A, B, F, y5, y6, y7, y8, y9, rfl, s1, hm, hb, gr, l1, cl⟩
      rw [elx, List.take_length] at cl
      walk_at "st"
      refine ⟨_, ?_, bt, ks, P, G, A, B, F, _, _, _, _, _, rfl, s1, hm, hb, gr, fun e => (cl e).2, rfl⟩
      cases bt with
      | false => have := (cl rfl).1; show 2 * msr F ks + 0 < m; omega
      | true => have := l1 rfl; show 2 * msr F ks + 1 < m; omega
theorem len_least_walks (K : PySem.W.Frag) (vs : List V) (H : Hp) (Q : VK) (E : XK) (h : sp_least_walks K vs H Q E) : vs.length = 2 := by
  obtain ⟨_, _, _, _, _, rfl, _⟩ := h
  rfl
theorem c_least_walksG {K : PySem.W.Frag} {a : Addr} {f : List Nat} {xs : List V} {as : List Ar} {ns : List (List Nat)} {H : Hp} {Q : VK} {E : XK} (ha : H a = some (.lst xs)) (ar : ArI H xs as) (has : ∀ x ∈ as, (0 ≤ x.c ∧ x.c ≤ 120) ∧ x.v ∈ ns) (ln : ns.length ≤ 12)
    (k : ∀ D dm dl ks P G A B F H', Same H H' → H D = none → H dm = none → H dl = none → H' D = some (.tup [.ref dm, .ref dl, .non]) → H' dm = some (.dK (dN (fun l => .int (F l)) (f :: ks))) → BkD H' dl ks P G A B → Sml as f P G F ks → ks.length ≤ 12 → Tgt as f F ks → Q (.ref D) H') : sp_least_walks K [.ref a, .str (S f)] H Q E := ⟨a, f, xs, as, ns, rfl, ha, ar, has, ln, k⟩
def sp_joined (K : PySem.W.Frag) : Sp := fun vs H Q _ => ∃ (d : Addr) (u v : List Nat) (ns : List (List Nat)) (f : List Nat → List Nat), vs = [.ref d, .str (S u), .str (S v)] ∧ H d = some (.dK (dN (fun x => sv (f x)) ns)) ∧ u ∈ ns ∧ v ∈ ns ∧ ns.length ≤ 12 ∧ ns.Nodup ∧
  ∀ D H', H D = none → Same H H' → H' D = some (.dK (dN (fun x => sv (mrg f (u, v) x)) ns)) → Q (.ref D) H'
abbrev N_joined : List Str := ["leaders", "first", "second", "kept", "dropped", "name"]
theorem st_joined {a0 a1 a2 : V} : L2.start N_joined [a0, a1, a2] = [some a0, some a1, some a2, none, none, none] := rfl
def t_joined (K : PySem.W.Frag) : TS :=
  (tSeq ((tAsg ((tTup ((tCons ((tDGet (tVar 0) (tVar 1))) ((tCons ((tDGet (tVar 0) (tVar 2))) (tNil))))))) (gTup K 2 (gCons (gName 3) (gCons (gName 4) gNil)))))
    ((tRet ((tLockE (tDc ((iKeys (tVar 0))) ((gName 5)) (tYes) (tVar 5) ((tIf ((tTest (tOp rEq ((tDGet (tVar 0) (tVar 5))) (tVar 4)))) (tVar 3) ((tDGet (tVar 0) (tVar 5))))) [5]))))))

theorem pure_joined (K : PySem.W.Frag) (vs : List V) (H : Hp) (Q : VK) (E : XK) (h : sp_joined K vs H Q E) : t_joined K { nx := fun _ H' => Q .non H', rt := Q } (L2.start N_joined vs) H := by
  obtain ⟨d, u, v, ns, f, rfl, hd, hu, hv, ln, nd, k⟩ := h
  rw [st_joined]
  unfold t_joined
  walk_at "st"
  refine dget_s (.inl hd) (dN_val hu) ?_
  walk_at "st"
  refine dget_s (.inl hd) (dN_val hv) ?_
  walk_at "st"
  refine ⟨by simp [sizeLine_eq], fun q hq => ?_⟩
  have s0 := Same.new (o := .tup [sv (f u), sv (f v)]) hq
  walk_at "st"
  have el := dN_len (f := fun x => sv (f x)) (ns := ns)
  refine lock_dc (s0 _ _ hd) (by rw [el]; omega) (fun _ _ r => wp_v0 r) (fun i => dN (fun x => sv (mrg f (u, v) x)) (ns.take i)) rfl (fun i => by rw [dN_len, List.length_take]; omega) (fun i k x od H2 R hk s2 k1 => ?_) (fun D H2 hD s2 hD2 => ?_)
  · obtain ⟨l, hl, rfl, rfl⟩ := dN_at hk
    have hln := List.mem_of_getElem? hl
    have fz := frz_at s2
    have k2 := fun H5 s5 => k1 (.inr (S l)) (sv (mrg f (u, v) l)) H5 s5 (by rw [dN_put (nodup_take nd hl), ← take_snoc hl])
    rw [show wipe [some (V.ref d), some (sv u), some (sv v), some (sv (f u)), some (sv (f v)), none] [5] = [some (V.ref d), some (sv u), some (sv v), some (sv (f u)), some (sv (f v)), none] from rfl]
    show gName 5 (sv l) _ _ _
    walk_at "st"
    refine ⟨rfl, ?_⟩
    walk_at "st"
    refine dget_s (.inr ⟨od, fz⟩) (dN_val hln) ?_
    walk_at "st"
    have em : mrg f (u, v) l = if f l = f v then f u else f l := rfl
    refine ite_dec (fun h => ?_) (fun h => ?_)
    · walk_at "st"
      rw [em, if_pos (S_inj h)] at k2
      exact k2 _ (Same.refl _)
    · walk_at "st"
      refine dget_s (.inr ⟨od, fz⟩) (dN_val hln) ?_
      rw [em, if_neg (fun e => h (by rw [e]))] at k2
      exact k2 _ (Same.refl _)
  · rw [el, List.take_length] at hD2
    exact k D H2 (s0.free hD) (s0.trans s2) hD2
theorem len_joined (K : PySem.W.Frag) (vs : List V) (H : Hp) (Q : VK) (E : XK) (h : sp_joined K vs H Q E) : vs.length = 3 := by
  obtain ⟨_, _, _, _, _, rfl, _⟩ := h
  rfl
theorem c_joined {K : PySem.W.Frag} {d : Addr} {u v : List Nat} {ns : List (List Nat)} {f : List Nat → List Nat} {H : Hp} {Q : VK} {E : XK} (hd : H d = some (.dK (dN (fun x => sv (f x)) ns))) (hu : u ∈ ns) (hv : v ∈ ns) (ln : ns.length ≤ 12) (nd : ns.Nodup)
    (k : ∀ D H', H D = none → Same H H' → H' D = some (.dK (dN (fun x => sv (mrg f (u, v) x)) ns)) → Q (.ref D) H') : sp_joined K [.ref d, .str (S u), .str (S v)] H Q E := ⟨d, u, v, ns, f, rfl, hd, hu, hv, ln, nd, k⟩
def sp_tree_of (K : PySem.W.Frag) : Sp := fun vs H Q _ => ∃ (n : Addr) (T : Int) (ns : List (List Nat)) (ss : List V) (rs : List Row), vs = [.ref n] ∧ IsNet (C_Net K) H n T ns ss ∧ Rws H ss rs ∧ (∀ r ∈ rs, r.u ∈ ns ∧ r.v ∈ ns) ∧ ns.length ≤ 12 ∧ ns.Nodup ∧ ss.length ≤ 1000 ∧
  ∀ D ts H', Same H H' → H D = none → H' D = some (.lst ((iN ts).map V.int)) → TreeTo rs rs.length ts → Q (.ref D) H'
abbrev N_tree_of : List Str := ["net", "leaders", "tree", "number", "span", "start", "end", "name"]
theorem st_tree_of {a0 : V} : L2.start N_tree_of [a0] = [some a0, none, none, none, none, none, none, none] := rfl
def t_tree_of (K : PySem.W.Frag) : TS :=
  (tSeq ((tAsg (tDc ((iOwnL K (C_Net K) "_events" (tVar 0))) ((gName 7)) (tYes) (tVar 7) (tVar 7) [7]) (gName 1)))
    ((tSeq ((tAsg ((tLst (tNil))) (gName 2)))
    ((tSeq ((tFor ((iEnum K ((tCons ((tProp (C_Net K) (sp_Net_spans K) [] E0 (tVar 0))) (tNil))))) (gTup K 2 (gCons (gName 3) (gCons (gName 4) gNil))) ((tSeq ((tAsg ((tSl (rSlA K) (tVar 4) tNoPart (tPart (tC (.int 2))))) (gTup K 2 (gCons (gName 5) (gCons (gName 6) gNil)))))
    ((tIfS ((tTest (tOp rNe ((tDGet (tVar 1) (tVar 5))) ((tDGet (tVar 1) (tVar 6)))))) ((tSeq ((tDrop ((tBM K "list" rAppend (tVar 2) ((tCons (tVar 3) (tNil)))))))
    ((tAsg ((tCall (sp_joined K) [] E0 ((tCons (tVar 1) ((tCons (tVar 5) ((tCons (tVar 6) (tNil))))))))) (gName 1))))) (tNext)))))))
    ((tRet (tVar 2))))))))

theorem pure_tree_of (K : PySem.W.Frag) (vs : List V) (H : Hp) (Q : VK) (E : XK) (h : sp_tree_of K vs H Q E) : t_tree_of K { nx := fun _ H' => Q .non H', rt := Q } (L2.start N_tree_of vs) H := by
  obtain ⟨n, T, ns, ss, rs, rfl, hn, rws, hin, ln, nd, few, k⟩ := h
  have elr := rws.len
  have el : (ns.map sv).length = ns.length := List.length_map ..
  obtain ⟨dx, le, ls, h1, h2, h3⟩ := id hn
  rw [st_tree_of]
  unfold t_tree_of
  walk_at "st"
  refine wp_dcOwnL ?_
  walk_at "st"
  refine dcOwn h1 lk_e (sq_of h2) (dcL (sq_of h2) (by omega) (fun i => dN (fun x => sv x) (ns.take i)) rfl (fun i => by rw [dN_len, List.length_take]; omega) (fun i x H2 R hx s2 k1 => ?_) (fun L H2 hL s2 hL2 => ?_))
  · rw [List.getElem?_map] at hx
    obtain ⟨l, hl, rfl⟩ := Option.map_eq_some_iff.mp hx
    rw [show wipe [some (V.ref n), none, none, none, none, none, none, none] [7] = [some (V.ref n), none, none, none, none, none, none, none] from rfl]
    walk_at "st"
    refine ⟨rfl, ?_⟩
    walk_at "st"
    exact k1 (.inr (S l)) (sv l) _ (Same.refl _) (by rw [dN_put (f := fun x => sv x) (nodup_take nd hl), ← take_snoc hl])
  rw [el, List.take_length] at hL2
  walk_at "st"
  refine ⟨Nat.zero_le _, fun R hR => ?_⟩
  have t0 := s2.trans (Same.new (o := .lst []) hR)
  have R0 := s2.free hR
  have hL3 := Same.new (o := .lst []) hR _ _ hL2
  have e0 : upd H2 R (.lst []) R = some (.lst []) := upd_same
  revert t0 e0 hL3
  generalize upd H2 R (.lst []) = H3
  intro t0 hL3 e0
  walk_at "st"
  refine c_Net_spans (hn.mono t0) fun q hq => ?_
  have v1 := Same.new (o := .lst ss) hq
  have t1 := t0.trans v1
  have hq1 : upd H3 q (.lst ss) q = some (.lst ss) := upd_same
  have e1 := v1 _ _ e0
  have hL4 := v1 _ _ hL3
  have nRq : q ≠ R := fun e => by rw [e] at hq; rw [hq] at e0; cases e0
  revert t1 hq1 e1 hL4
  generalize upd H3 q (.lst ss) = H4
  intro t1 hq1 e1 hL4
  refine loopE (sq_of hq1) (fun i σ' H' => ∃ (y3 y4 y5 y6 y7 : Option V) (L : Addr) (f : List Nat → List Nat) (ts : List Nat), σ' = [some (.ref n), some (.ref L), some (.ref R), y3, y4, y5, y6, y7] ∧ Same H H' ∧ H' q = some (.lst ss) ∧ H' L = some (.dK (dN (fun x => sv (f x)) ns)) ∧ H' R = some (.lst ((iN ts).map V.int)) ∧ TreeTo rs i ts ∧ (∀ x y, f x = f y ↔ Conn rs ts x y)) ⟨_, _, _, _, _, L, id, [], rfl, t1, hq1, hL4, e1, .zero, fun x y => conn_nil⟩ ?_ ?_ ?_
  · rintro i σ' H' _ ⟨y3, y4, y5, y6, y7, L, f, ts, rfl, t2, hq2, _⟩
    exact sq_of hq2
  · rintro i v A σ' H' hv ⟨y3, y4, y5, y6, y7, L, f, ts, rfl, t2, hq2, hd2, hr2, tr, hf⟩ hA
    obtain ⟨r, er, p, rfl, hp⟩ := rws.at hv
    have hp : H p = some (.tup [sv r.u, sv r.v, .int r.lo, .int r.hi, .int r.w]) := hp
    have hi := (List.getElem?_eq_some_iff.mp hv).1
    obtain ⟨mu, mv⟩ := hin r (List.mem_of_getElem? er)
    have v1 := Same.new (o := .tup [.int (i : Nat), .ref p]) hA
    have hA2 : upd H' A (.tup [.int (i : Nat), .ref p]) A = some (.tup [.int (i : Nat), .ref p]) := upd_same
    have t3 := t2.trans v1
    have hq3 := v1 _ _ hq2
    have hd3 := v1 _ _ hd2
    have hr3 := v1 _ _ hr2
    revert t3 hA2 hq3 hd3 hr3
    generalize upd H' A (.tup [.int (i : Nat), .ref p]) = H2
    intro hA2 t3 hq3 hd3 hr3
    have hp3 := t3 _ _ hp
    walk_at "st"
    refine sl_to2 hp3 fun c hc => ?_
    have v2 := Same.new (o := .tup [sv r.u, sv r.v]) hc
    have hc4 : upd H2 c (.tup [sv r.u, sv r.v]) c = some (.tup [sv r.u, sv r.v]) := upd_same
    have t4 := t3.trans v2
    have hq4 := v2 _ _ hq3
    have hd4 := v2 _ _ hd3
    have hr4 := v2 _ _ hr3
    revert t4 hc4 hq4 hd4 hr4
    generalize upd H2 c (.tup [sv r.u, sv r.v]) = H4
    intro hc4 t4 hq4 hd4 hr4
    walk_at "st"
    refine dget_s (.inl hd4) (dN_val mu) ?_
    walk_at "st"
    refine dget_s (.inl hd4) (dN_val mv) ?_
    walk_at "st"
    by_cases c : f r.u = f r.v
    · rw [decide_eq_true (congrArg S c)]
      walk_at "st"
      exact ⟨_, _, _, _, _, L, f, ts, rfl, t4, hq4, hd4, hr4, .skip tr er ((hf _ _).mp c), hf⟩
    · rw [decide_eq_false (fun e => c (S_inj e))]
      have lt := tr.len
      walk_at "st"
      refine wp_append hr4 (by rw [List.length_map]; unfold iN; rw [List.length_map]; omega) ?_
      have nLR : L ≠ R := fun e => by rw [e, hr4] at hd4; cases hd4
      have hd5 : upd H4 R (.lst ((iN ts).map V.int ++ [.int (i : Nat)])) L = some (.dK (dN (fun x => sv (f x)) ns)) := by rw [upd_ne nLR]; exact hd4
      have hq5 : upd H4 R (.lst ((iN ts).map V.int ++ [.int (i : Nat)])) q = some (.lst ss) := by rw [upd_ne nRq]; exact hq4
      have hr5 : upd H4 R (.lst ((iN ts).map V.int ++ [.int (i : Nat)])) R = some (.lst ((iN (ts ++ [i])).map V.int)) := by rw [upd_same]; unfold iN; rw [List.map_append, List.map_append]; rfl
      have t5 := Same.mut (o := .lst ((iN ts).map V.int ++ [.int (i : Nat)])) t4 R0
      revert hd5 hq5 hr5 t5
      generalize upd H4 R (.lst ((iN ts).map V.int ++ [.int (i : Nat)])) = H5
      intro hd5 hq5 hr5 t5
      walk_at "st"
      refine c_joined hd5 mu mv ln nd fun L2 H6 _ s6 hL6 => ?_
      walk_at "st"
      exact ⟨_, _, _, _, _, L2, _, ts ++ [i], rfl, t5.trans s6, s6 _ _ hq5, hL6, s6 _ _ hr5, .take tr er fun z => c ((hf _ _).mpr z), lead_step hf er⟩
  · rintro σ' H' ⟨y3, y4, y5, y6, y7, L, f, ts, rfl, t2, hq2, hd2, hr2, tr, hf⟩
    rw [elr] at tr
    walk_at "st"
    exact k R ts H' t2 R0 hr2 tr
theorem len_tree_of (K : PySem.W.Frag) (vs : List V) (H : Hp) (Q : VK) (E : XK) (h : sp_tree_of K vs H Q E) : vs.length = 1 := by
  obtain ⟨_, _, _, _, _, rfl, _⟩ := h
  rfl
theorem c_tree_of {K : PySem.W.Frag} {n : Addr} {T : Int} {ns : List (List Nat)} {ss : List V} {rs : List Row} {H : Hp} {Q : VK} {E : XK} (hn : IsNet (C_Net K) H n T ns ss) (rws : Rws H ss rs) (hin : ∀ r ∈ rs, r.u ∈ ns ∧ r.v ∈ ns) (ln : ns.length ≤ 12) (nd : ns.Nodup) (few : ss.length ≤ 1000)
    (k : ∀ D ts H', Same H H' → H D = none → H' D = some (.lst ((iN ts).map V.int)) → TreeTo rs rs.length ts → Q (.ref D) H') : sp_tree_of K [.ref n] H Q E := ⟨n, T, ns, ss, rs, rfl, hn, rws, hin, ln, nd, few, k⟩
def sp_Netcheck_number (K : PySem.W.Frag) : Sp := fun vs H Q _ => ∃ (a : Addr) (T : Int) (ns : List (List Nat)) (ss : List V) (i : Int), vs = [.ref a, .int i] ∧ IsNet (C_Net K) H a T ns ss ∧ 0 ≤ i ∧ i < ss.length ∧ Q .non H
abbrev N_Netcheck_number : List Str := ["self", "number"]
theorem st_Netcheck_number {a0 a1 : V} : L2.start N_Netcheck_number [a0, a1] = [some a0, some a1] := rfl
def t_Netcheck_number (K : PySem.W.Frag) : TS :=
  (tIfS ((tNot ((tTest (tChain (rI0 fun i j => .bl (decide (i ≤ j))) (rI0 fun i j => .bl (decide (i < j))) (tC (.int 0)) (tVar 1) ((tCB (rLenS K) ((tCons ((tFldC (C_Net K) (tVar 0) "_spans")) (tNil)))))))))) (tNever) (tNext))

theorem pure_Netcheck_number (K : PySem.W.Frag) (vs : List V) (H : Hp) (Q : VK) (E : XK) (h : sp_Netcheck_number K vs H Q E) : t_Netcheck_number K { nx := fun _ H' => Q .non H', rt := Q } (L2.start N_Netcheck_number vs) H := by
  obtain ⟨a, T, ns, ss, i, rfl, ⟨dx, le, ls, h1, h2, h3⟩, i0, i1, k⟩ := h
  rw [st_Netcheck_number]
  unfold t_Netcheck_number
  walk_at "st"
  exact k
theorem len_Netcheck_number (K : PySem.W.Frag) (vs : List V) (H : Hp) (Q : VK) (E : XK) (h : sp_Netcheck_number K vs H Q E) : vs.length = 2 := by
  obtain ⟨n, m, ms, a, _, rfl, _⟩ := h
  rfl
theorem c_Netcheck_number {K : PySem.W.Frag} {a : Addr} {T : Int} {ns : List (List Nat)} {ss : List V} {i : Int} {H : Hp} {Q : VK} {E : XK} (h : IsNet (C_Net K) H a T ns ss) (hi : 0 ≤ i ∧ i < ss.length) (k : Q .non H) : sp_Netcheck_number K [.ref a, .int i] H Q E := ⟨a, T, ns, ss, i, rfl, h, hi.1, hi.2, k⟩
def sp_Net_span (K : PySem.W.Frag) : Sp := fun vs H Q _ => ∃ (a : Addr) (T : Int) (ns : List (List Nat)) (ss : List V) (i : Int), vs = [.ref a, .int i] ∧ IsNet (C_Net K) H a T ns ss ∧ 0 ≤ i ∧ i < ss.length ∧ ∀ x, x ∈ ss → ss[i.toNat]? = some x → Q x H
abbrev N_Net_span : List Str := ["self", "number"]
theorem st_Net_span {a0 a1 : V} : L2.start N_Net_span [a0, a1] = [some a0, some a1] := rfl
def t_Net_span (K : PySem.W.Frag) : TS :=
  (tSeq ((tDrop ((tMeth (C_Net K) "_check_number" (sp_Netcheck_number K) [] E0 (tVar 0) ((tCons (tVar 1) (tNil)))))))
    ((tRet ((tOp (rIxL K) ((tFldC (C_Net K) (tVar 0) "_spans")) (tVar 1))))))

theorem pure_Net_span (K : PySem.W.Frag) (vs : List V) (H : Hp) (Q : VK) (E : XK) (h : sp_Net_span K vs H Q E) : t_Net_span K { nx := fun _ H' => Q .non H', rt := Q } (L2.start N_Net_span vs) H := by
  obtain ⟨a, T, ns, ss, i, rfl, h0, i0, i1, k⟩ := h
  have h9 := h0
  obtain ⟨dx, le, ls, h1, h2, h3⟩ := h0
  rw [st_Net_span]
  unfold t_Net_span
  walk_at "st"
  refine met_at h1 rfl ?_
  walk_at "st"
  refine c_Netcheck_number h9 ⟨i0, i1⟩ ?_
  walk_at "st"
  exact wp_ixLM (sq_of h3) i0 i1 k
theorem len_Net_span (K : PySem.W.Frag) (vs : List V) (H : Hp) (Q : VK) (E : XK) (h : sp_Net_span K vs H Q E) : vs.length = 2 := by
  obtain ⟨n, m, ms, a, _, rfl, _⟩ := h
  rfl
theorem c_Net_span {K : PySem.W.Frag} {a : Addr} {T : Int} {ns : List (List Nat)} {ss : List V} {i : Int} {H : Hp} {Q : VK} {E : XK} (h : IsNet (C_Net K) H a T ns ss) (hi : 0 ≤ i ∧ i < ss.length) (k : ∀ x, x ∈ ss → ss[i.toNat]? = some x → Q x H) : sp_Net_span K [.ref a, .int i] H Q E := ⟨a, T, ns, ss, i, rfl, h, hi.1, hi.2, k⟩
theorem met_Net {C : Addr} {H : Hp} {a : Addr} {T : Int} {ns : List (List Nat)} {ss : List V} {m : Str} {sp : Sp} {E : XK} {tl : TA} {σ : L2.St} {Q : VK} (h : IsNet C H a T ns ss) (hl : ∀ le ls, (netF T le ls).lookup m = none) (q : tl σ H fun vs H2 => sp (.ref a :: vs) H2 Q E) : MetW C m sp E tl σ Q (.ref a) H := by
  obtain ⟨dx, le, ls, h1, h2, h3⟩ := h
  exact met_at h1 (hl le ls) q
/-- the arcs of the tree ts -/
structure TrA (rs : List Row) (ts : List Nat) (as : List Ar) : Prop where
  a : ∀ x ∈ as, x.c = 0 ∧ sd rs x.s = some (x.u, x.v) ∧ ∃ i ∈ ts, x.s.1 = (i : Nat)
  f : ∀ i ∈ ts, ∀ r, rs[i]? = some r → (∃ x ∈ as, x.u = r.u ∧ x.v = r.v) ∧ ∃ x ∈ as, x.u = r.v ∧ x.v = r.u
/-- what a path needs of a base -/
structure BaseP (K : PySem.W.Frag) (H : Hp) (b : Addr) (ns : List (List Nat)) (rs : List Row) (ts : List Nat) : Prop where
  ex : ∃ (dx n a : Addr) (fs : List (Str × V)) (T : Int) (ss xs : List V) (as : List Ar), H b = some (.ins (C_Base K) dx fs) ∧ fs.lookup ("_net" : Str) = some (.ref n) ∧ fs.lookup ("_arcs" : Str) = some (.ref a) ∧ IsNet (C_Net K) H n T ns ss ∧ H a = some (.lst xs) ∧ ArI H xs as ∧ TrA rs ts as ∧ Rws H ss rs ∧ fs.lookup ("path" : Str) = none
  hin : ∀ r ∈ rs, r.u ∈ ns ∧ r.v ∈ ns
  len : ns.length ≤ 12
theorem BaseP.mono {K : PySem.W.Frag} {H H' : Hp} {b : Addr} {ns : List (List Nat)} {rs : List Row} {ts : List Nat} (s : Same H H') (h : BaseP K H b ns rs ts) : BaseP K H' b ns rs ts := by
  obtain ⟨⟨dx, n, a, fs, T, ss, xs, as, h1, h2, h3, h4, h5, h6, h7, h8, h9⟩, hin, len⟩ := h
  exact ⟨⟨dx, n, a, fs, T, ss, xs, as, s _ _ h1, h2, h3, h4.mono s, s _ _ h5, h6.mono s, h7, h8.mono s, h9⟩, hin, len⟩
def sp_Base_path (K : PySem.W.Frag) : Sp := fun vs H Q _ => ∃ (b : Addr) (x y : List Nat) (ns : List (List Nat)) (rs : List Row) (ts : List Nat), vs = [.ref b, .str (S x), .str (S y)] ∧ BaseP K H b ns rs ts ∧
  (∀ l ∈ [x, y], l ∈ ns) ∧ ((¬ Conn rs ts x y → ∀ H', Same H H' → Q .non H') ∧ ∀ D xs w H', Same H H' → H D = none → H' D = some (.lst xs) → StI H' xs w → Wk rs w x y → Over ts w → (vv rs w x).Nodup → w.length ≤ 12 → Q (.ref D) H')
abbrev N_Base_path : List Str := ["self", "first", "second", "last"]
theorem st_Base_path {a0 a1 a2 : V} : L2.start N_Base_path [a0, a1, a2] = [some a0, some a1, some a2, none] := rfl
def t_Base_path (K : PySem.W.Frag) : TS :=
  (tSeq ((tDrop ((tCall (sp_check_known K) [] E0 ((tCons ((tLst ((tCons (tVar 1) ((tCons (tVar 2) (tNil))))))) ((tCons ((tFldC (C_Base K) (tVar 0) "_net")) (tNil)))))))))
    ((tSeq ((tAsg ((tOp (rIxT K) ((tCall (sp_least_walks K) [] E0 ((tCons ((tFldC (C_Base K) (tVar 0) "_arcs")) ((tCons (tVar 1) (tNil))))))) (tC (.int 1)))) (gName 3)))
    ((tRet ((tCall (sp_walk_along K) [] E0 ((tCons (tVar 3) ((tCons (tVar 1) ((tCons (tVar 2) (tNil))))))))))))))

theorem pure_Base_path (K : PySem.W.Frag) (vs : List V) (H : Hp) (Q : VK) (E : XK) (h : sp_Base_path K vs H Q E) : t_Base_path K { nx := fun _ H' => Q .non H', rt := Q } (L2.start N_Base_path vs) H := by
  obtain ⟨b, x, y, ns, rs, ts, rfl, ⟨⟨dx, n, a, fs, T, ss, xs, as, hb, l1, l2, hn, ha, ar, tr, rws, l3⟩, hin, ln⟩, hm, k1, k2⟩ := h
  rw [st_Base_path]
  unfold t_Base_path
  walk_at "st"
  refine ⟨by simp [sizeLine_eq], fun q hq => ?_⟩
  have s1 := Same.new (o := .lst ([x, y].map sv)) hq
  have hq1 : upd H q (.lst ([x, y].map sv)) q = some (.lst ([x, y].map sv)) := upd_same
  show tCons _ _ _ (upd H q (.lst ([x, y].map sv))) _
  revert s1 hq1
  generalize upd H q (.lst ([x, y].map sv)) = H1
  intro s1 hq1
  have hb1 := s1 _ _ hb
  have ha1 := s1 _ _ ha
  have hn1 := hn.mono s1
  have ar1 := ar.mono s1
  walk_at "st"
  refine ⟨b, dx, fs, _, rfl, hb1, l1, ?_⟩
  walk_at "st"
  refine c_check_knownY hq1 (.inr (.inr ⟨T, ss, hn1⟩)) hm ?_
  have has : ∀ z ∈ as, z.c = 0 ∧ z.v ∈ ns := fun z hz => by
    obtain ⟨c0, e1, i, hi, e2⟩ := tr.a z hz
    obtain ⟨j, r, _, er, hd⟩ := sd_row e1
    have m := hin r (List.mem_of_getElem? er)
    rcases hd with ⟨_, _, e4⟩ | ⟨_, _, e4⟩
    · exact ⟨c0, by rw [e4]; exact m.2⟩
    · exact ⟨c0, by rw [e4]; exact m.1⟩
  walk_at "st"
  refine ⟨b, dx, fs, _, rfl, hb1, l2, ?_⟩
  walk_at "st"
  refine c_least_walksG ha1 ar1 (fun z hz => ⟨by rw [(has z hz).1]; exact ⟨by omega, by omega⟩, (has z hz).2⟩) ln fun D dm dl ks P G A B F H2 s2 _ _ _ hD _ bd gr lk cl => ?_
  have s3 := s1.trans s2
  walk_at "st"
  by_cases hy : y ∈ x :: ks
  · obtain ⟨m, to⟩ := gr.to y (List.mem_cons.mp hy)
    have tl := to.len
    obtain ⟨w, h2, h3, h4, h6, h5, _⟩ := gr.way (fun z hz => (tr.a z hz).2) to
    refine c_walk_along bd h2 (by omega) (fun e => nomatch e) fun w2 e2 D2 xs2 H4 s4 f4 h8 st => ?_
    cases e2
    walk_at "st"
    exact k2 D2 xs2 w H4 (s3.trans s4) (s3.free f4) h8 st h3 h4 h5 (by omega)
  · have n1 : y ≠ x := fun e => hy (by rw [e]; exact List.mem_cons_self)
    have n2 : y ∉ ks := fun e => hy (List.mem_cons_of_mem _ e)
    refine c_walk_along bd (.lost n1 n2) (Nat.zero_le _) (fun _ H4 s4 => ?_) fun w2 e2 => nomatch e2
    walk_at "st"
    refine k1 (fun z => hy ?_) H4 (s3.trans s4)
    refine z.closed (M := fun l => l ∈ x :: ks) List.mem_cons_self fun i r hi er => ?_
    obtain ⟨⟨p, p1, p2, p3⟩, ⟨q, q1, q2, q3⟩⟩ := tr.f i hi r er
    exact ⟨fun h => by rw [← p3]; exact (cl p p1 (by rw [p2]; exact h)).1, fun h => by rw [← q3]; exact (cl q q1 (by rw [q2]; exact h)).1⟩
theorem len_Base_path (K : PySem.W.Frag) (vs : List V) (H : Hp) (Q : VK) (E : XK) (h : sp_Base_path K vs H Q E) : vs.length = 3 := by
  obtain ⟨_, _, _, _, _, _, rfl, _⟩ := h
  rfl
theorem cK1_mem {ns : List (List Nat)} : ∀ {ls : List (List Nat)}, (∀ e, cFold (cK1 ns) ls = some e → False) → ∀ l ∈ ls, l ∈ ns
  | [], _ => fun _ h => nomatch h
  | x :: xs, k => fun l hl => by
    by_cases c : x ∈ ns
    · rcases List.mem_cons.mp hl with rfl | hl
      · exact c
      · refine cK1_mem (fun e h => k e ?_) l hl
        show (cK1 ns x).or (cFold (cK1 ns) xs) = some e
        rw [show cK1 ns x = none from if_pos c, Option.none_or, h]
    · refine (k (eS "UnknownEvent" x) ?_).elim
      show (cK1 ns x).or (cFold (cK1 ns) xs) = _
      rw [show cK1 ns x = some (eS "UnknownEvent" x) from if_neg c]
      rfl
theorem c_Base_path {K : PySem.W.Frag} {b : Addr} {x y : List Nat} {ns : List (List Nat)} {rs : List Row} {ts : List Nat} {H : Hp} {Q : VK} {E : XK} (hb : BaseP K H b ns rs ts) (kE : ∀ e, cFold (cK1 ns) [x, y] = some e → False)
    (kQ : cFold (cK1 ns) [x, y] = none → (¬ Conn rs ts x y → ∀ H', Same H H' → Q .non H') ∧ ∀ D xs w H', Same H H' → H D = none → H' D = some (.lst xs) → StI H' xs w → Wk rs w x y → Over ts w → (vv rs w x).Nodup → w.length ≤ 12 → Q (.ref D) H') : sp_Base_path K [.ref b, .str (S x), .str (S y)] H Q E :=
  have hm := cK1_mem kE
  ⟨b, x, y, ns, rs, ts, rfl, hb, hm, kQ (cK1_all hm)⟩
def sp_Basebase_ring (K : PySem.W.Frag) : Sp := fun vs H Q _ => ∃ (b : Addr) (i : Nat) (ns : List (List Nat)) (rs : List Row) (ts : List Nat) (r : Row), vs = [.ref b, .int (i : Nat)] ∧ BaseP K H b ns rs ts ∧ rs[i]? = some r ∧ Conn rs ts r.u r.v ∧
  ∀ D xs w H', Same H H' → H D = none → H' D = some (.lst xs) → StI H' xs (((i : Nat), 1) :: w) → Wk rs w r.v r.u → Over ts w → (vv rs w r.v).Nodup → w.length ≤ 12 → Q (.ref D) H'
abbrev N_Basebase_ring : List Str := ["self", "number", "start", "end"]
theorem st_Basebase_ring {a0 a1 : V} : L2.start N_Basebase_ring [a0, a1] = [some a0, some a1, none, none] := rfl
def t_Basebase_ring (K : PySem.W.Frag) : TS :=
  (tSeq ((tAsg ((tSl (rSlA K) ((tMeth (C_Net K) "span" (sp_Net_span K) [] E0 ((tFldC (C_Base K) (tVar 0) "_net")) ((tCons (tVar 1) (tNil))))) tNoPart (tPart (tC (.int 2))))) (gTup K 2 (gCons (gName 2) (gCons (gName 3) gNil)))))
    ((tRet ((tOp rCat ((tLst ((tCons ((tTup ((tCons (tVar 1) ((tCons (tC (.int 1)) (tNil))))))) (tNil))))) ((tMeth (C_Base K) "path" (sp_Base_path K) [] E0 (tVar 0) ((tCons (tVar 3) ((tCons (tVar 2) (tNil))))))))))))

theorem pure_Basebase_ring (K : PySem.W.Frag) (vs : List V) (H : Hp) (Q : VK) (E : XK) (h : sp_Basebase_ring K vs H Q E) : t_Basebase_ring K { nx := fun _ H' => Q .non H', rt := Q } (L2.start N_Basebase_ring vs) H := by
  obtain ⟨b, i, ns, rs, ts, r, rfl, bp, er, cn, k⟩ := h
  obtain ⟨⟨dx, n, a, fs, T, ss, xs, as, hb, l1, l2, hn, ha, ar, tr, rws, l3⟩, hin, ln⟩ := id bp
  have elr := rws.len
  have hi := (List.getElem?_eq_some_iff.mp er).1
  obtain ⟨mu, mv⟩ := hin r (List.mem_of_getElem? er)
  rw [st_Basebase_ring]
  unfold t_Basebase_ring
  walk_at "st"
  refine ⟨b, dx, fs, _, rfl, hb, l1, ?_⟩
  refine met_Net hn (fun _ _ => rfl) ?_
  walk_at "st"
  refine c_Net_span hn ⟨by omega, by omega⟩ fun x _ ex => ?_
  rw [Int.toNat_natCast] at ex
  obtain ⟨r2, er2, p, rfl, hp⟩ := rws.at ex
  rw [er] at er2
  cases er2
  have hp : H p = some (.tup [sv r.u, sv r.v, .int r.lo, .int r.hi, .int r.w]) := hp
  walk_at "st"
  refine sl_to2 hp fun c hc => ?_
  have s1 := Same.new (o := .tup [sv r.u, sv r.v]) hc
  have hc1 : upd H c (.tup [sv r.u, sv r.v]) c = some (.tup [sv r.u, sv r.v]) := upd_same
  revert s1 hc1
  generalize upd H c (.tup [sv r.u, sv r.v]) = H1
  intro s1 hc1
  walk_at "st"
  refine ⟨by simp [sizeLine_eq], fun t ht => ?_⟩
  have s2 := s1.trans (Same.new (o := .tup [.int (i : Nat), .int 1]) ht)
  have ht2 : upd H1 t (.tup [.int (i : Nat), .int 1]) t = some (.tup [.int (i : Nat), .int 1]) := upd_same
  revert s2 ht2
  generalize upd H1 t (.tup [.int (i : Nat), .int 1]) = H2
  intro s2 ht2
  walk_at "st"
  refine ⟨by simp [sizeLine_eq], fun l hl => ?_⟩
  have s3 := s2.trans (Same.new (o := .lst [.ref t]) hl)
  have ht3 := Same.new (o := .lst [.ref t]) hl _ _ ht2
  have hl3 : upd H2 l (.lst [.ref t]) l = some (.lst [.ref t]) := upd_same
  revert s3 ht3 hl3
  generalize upd H2 l (.lst [.ref t]) = H3
  intro s3 ht3 hl3
  walk_at "st"
  refine met_at (s3 _ _ hb) l3 ?_
  walk_at "st"
  have none2 : cFold (cK1 ns) [r.v, r.u] = none := cK1_all fun l hl => by
    simp only [List.mem_cons, List.not_mem_nil, or_false] at hl
    rcases hl with rfl | rfl
    · exact mv
    · exact mu
  refine c_Base_path (bp.mono s3) (fun e he => by rw [none2] at he; cases he) fun _ => ⟨fun z => absurd cn.symm z, fun D xs w H4 s4 f4 hD st wk ov nd lw => ?_⟩
  have hl4 := s4 _ _ hl3
  have ht4 := s4 _ _ ht3
  refine wp_cat hl4 hD (by rw [st.len]; simp; omega) fun q hq => ?_
  have v5 := Same.new (o := .lst ([.ref t] ++ xs)) hq
  exact k q _ w _ ((s3.trans s4).trans v5) ((s3.trans s4).free hq) upd_same (.cons (s := ((i : Nat), 1)) rfl (v5 _ _ ht4) (st.mono v5)) wk ov nd lw
theorem len_Basebase_ring (K : PySem.W.Frag) (vs : List V) (H : Hp) (Q : VK) (E : XK) (h : sp_Basebase_ring K vs H Q E) : vs.length = 2 := by
  obtain ⟨_, _, _, _, _, _, rfl, _⟩ := h
  rfl
theorem c_Basebase_ring {K : PySem.W.Frag} {b : Addr} {i : Nat} {ns : List (List Nat)} {rs : List Row} {ts : List Nat} {r : Row} {H : Hp} {Q : VK} {E : XK} (bp : BaseP K H b ns rs ts) (er : rs[i]? = some r) (cn : Conn rs ts r.u r.v)
    (k : ∀ D xs w H', Same H H' → H D = none → H' D = some (.lst xs) → StI H' xs (((i : Nat), 1) :: w) → Wk rs w r.v r.u → Over ts w → (vv rs w r.v).Nodup → w.length ≤ 12 → Q (.ref D) H') : sp_Basebase_ring K [.ref b, .int (i : Nat)] H Q E := ⟨b, i, ns, rs, ts, r, rfl, bp, er, cn, k⟩
theorem arF_updI {H0 H : Hp} {x C dx : Addr} {fs : List (Str × V)} {o : HO} (hx : H x = some (.ins C dx fs)) {xs : List V} {ss : List Ar} : ArF H0 H xs ss → ArF H0 (upd H x o) xs ss := by
  intro h
  induction h with
  | nil => exact .nil
  | cons f f2 h h2 r ih => exact .cons f f2 (by rw [upd_ne (fun e => by rw [e, hx] at h; cases h)]; exact h) (by rw [upd_ne (fun e => by rw [e, hx] at h2; cases h2)]; exact h2) ih
/-- the arcs over the spans ts -/
def flA (ts : List Nat) (xs : List V) (as : List Ar) : List V := ((xs.zip as).filter fun p => decide (p.2.s.1 ∈ iN ts)).map Prod.fst
theorem flA_ar {H : Hp} {ts : List Nat} : ∀ {xs : List V} {as : List Ar}, ArI H xs as → ArI H (flA ts xs as) (as.filter fun x => decide (x.s.1 ∈ iN ts))
  | _, _, .nil => .nil
  | _, _, @ArF.cons _ _ x y a xs as f f2 h h2 r => by
    have ih := flA_ar (ts := ts) r
    unfold flA at ih ⊢
    rw [List.zip_cons_cons]
    by_cases c : a.s.1 ∈ iN ts
    · rw [List.filter_cons_of_pos (by simpa using c), List.filter_cons_of_pos (by simpa using c), List.map_cons]
      exact .cons f f2 h h2 ih
    · rw [List.filter_cons_of_neg (by simpa using c), List.filter_cons_of_neg (by simpa using c)]
      exact ih
theorem flA_snoc {ts : List Nat} {xs : List V} {as : List Ar} {i : Nat} {v : V} {a : Ar} (el : xs.length = as.length) (h1 : xs[i]? = some v) (h2 : as[i]? = some a) : flA ts (xs.take (i + 1)) (as.take (i + 1)) = flA ts (xs.take i) (as.take i) ++ (if a.s.1 ∈ iN ts then [v] else []) := by
  unfold flA
  rw [take_snoc h1, take_snoc h2, List.zip_append (by rw [List.length_take, List.length_take, el]), List.filter_append, List.map_append]
  congr 1
  show ((List.filter _ [(v, a)]).map Prod.fst) = _
  by_cases c : a.s.1 ∈ iN ts
  · rw [if_pos c, List.filter_cons_of_pos (by simpa using c)]
    rfl
  · rw [if_neg c, List.filter_cons_of_neg (by simpa using c)]
    rfl
theorem ar2_zero {rs : List Row} {n i : Nat} {a : Ar} (h : a ∈ ar2 rs (List.replicate n 0) (List.replicate n 0) i) : a.c = 0 := by
  have z : (List.replicate n (0 : Int)).getD i 0 = 0 := by
    rw [List.getD_eq_getElem?_getD, List.getElem?_replicate]
    split <;> rfl
  unfold ar2 at h
  cases e : rs[i]? with
  | none => rw [e] at h; cases h
  | some r =>
    rw [e] at h
    rcases List.mem_cons.mp h with rfl | h
    · exact z
    · rw [List.mem_singleton.mp h]
      exact z
theorem tra_of {rs : List Row} {ts : List Nat} {n : Nat} (lt : ∀ i ∈ ts, i < rs.length) : TrA rs ts ((arL rs (List.replicate n 0) (List.replicate n 0) rs.length).filter fun x => decide (x.s.1 ∈ iN ts)) := by
  refine ⟨fun x hx => ?_, fun i hi r er => ?_⟩
  · obtain ⟨h1, h2⟩ := List.mem_filter.mp hx
    obtain ⟨i, hi, hm⟩ := arL_mem.mp h1
    obtain ⟨e1, e2⟩ := ar2_sd hm
    have h2 : x.s.1 ∈ iN ts := by simpa using h2
    rw [e2] at h2
    exact ⟨ar2_zero hm, e1, i, iN_mem.mp h2, e2⟩
  · have mem : ∀ a, a ∈ ar2 rs (List.replicate n 0) (List.replicate n 0) i → a ∈ (arL rs (List.replicate n 0) (List.replicate n 0) rs.length).filter fun x => decide (x.s.1 ∈ iN ts) := fun a ha =>
      List.mem_filter.mpr ⟨arL_mem.mpr ⟨i, lt i hi, ha⟩, by rw [(ar2_sd ha).2]; simpa using iN_mem.mpr hi⟩
    have e : ar2 rs (List.replicate n 0) (List.replicate n 0) i = [⟨r.u, r.v, (List.replicate n (0 : Int)).getD i 0, ((i : Nat), 1)⟩, ⟨r.v, r.u, (List.replicate n (0 : Int)).getD i 0, ((i : Nat), -1)⟩] := by unfold ar2; rw [er]
    exact ⟨⟨_, mem _ (by rw [e]; exact List.mem_cons_self), rfl, rfl⟩, ⟨_, mem _ (by rw [e]; exact List.mem_cons_of_mem _ List.mem_cons_self), rfl, rfl⟩⟩
/-- a base whole: its tree, its closing spans, its rings -/
structure BaseR (K : PySem.W.Frag) (H : Hp) (b : Addr) (ns : List (List Nat)) (rs : List Row) (ts : List Nat) (Ws : List (List (Int × Int))) : Prop where
  p : BaseP K H b ns rs ts
  ex : ∃ (dx t c g : Addr) (fs : List (Str × V)) (vs : List V), H b = some (.ins (C_Base K) dx fs) ∧ fs.lookup ("_tree" : Str) = some (.ref t) ∧ fs.lookup ("_closing" : Str) = some (.ref c) ∧ fs.lookup ("_rings" : Str) = some (.ref g) ∧ H t = some (.lst ((iN ts).map V.int)) ∧ H c = some (.lst ((iN (clN ts rs.length)).map V.int)) ∧ H g = some (.lst vs) ∧ LsI H vs Ws
  rg : Rngs rs ts (clN ts rs.length) Ws
  len : ∀ W ∈ Ws, W.length ≤ 13
  few : rs.length ≤ 24
theorem BaseR.mono {K : PySem.W.Frag} {H H' : Hp} {b : Addr} {ns : List (List Nat)} {rs : List Row} {ts : List Nat} {Ws : List (List (Int × Int))} (s : Same H H') (h : BaseR K H b ns rs ts Ws) : BaseR K H' b ns rs ts Ws := by
  obtain ⟨p, ⟨dx, t, c, g, fs, vs, h1, h2, h3, h4, h5, h6, h7, h8⟩, rg, len, few⟩ := h
  exact ⟨p.mono s, ⟨dx, t, c, g, fs, vs, s _ _ h1, h2, h3, h4, s _ _ h5, s _ _ h6, s _ _ h7, h8.mono s⟩, rg, len, few⟩
def sp_Base_init (K : PySem.W.Frag) : Sp := fun vs H Q _ => ∃ (x dx n : Addr) (G : Hp) (T : Int) (ns : List (List Nat)) (ss : List V) (rs : List Row), vs = [.ref x, .ref n] ∧ H x = some (.ins (C_Base K) dx []) ∧ G x = none ∧ Same G H ∧ IsNet (C_Net K) G n T ns ss ∧ Rws G ss rs ∧ (∀ r ∈ rs, r.u ∈ ns ∧ r.v ∈ ns) ∧ ns.length ≤ 12 ∧ ns.Nodup ∧ ss.length ≤ 24 ∧
  ∀ ts Ws H', Same G H' → BaseR K H' x ns rs ts Ws → TreeTo rs rs.length ts → Q .non H'
abbrev N_Base_init : List Str := ["self", "net", "count", "arcs", "number", "arc"]
theorem st_Base_init {a0 a1 : V} : L2.start N_Base_init [a0, a1] = [some a0, some a1, none, none, none, none] := rfl
def t_Base_init (K : PySem.W.Frag) : TS :=
  (tSeq ((tAsg ((tCB (rLenS K) ((tCons ((tProp (C_Net K) (sp_Net_spans K) [] E0 (tVar 1))) (tNil))))) (gName 2)))
    ((tSeq ((sFldC (C_Base K) (tVar 0) (tVar 1) "_net"))
    ((tSeq ((sFldC (C_Base K) (tVar 0) ((tCall (sp_tree_of K) [] E0 ((tCons (tVar 1) (tNil))))) "_tree"))
    ((tSeq ((sFldC (C_Base K) (tVar 0) ((tLc ((iRng1 ((tCons (tVar 2) (tNil))))) ((gName 4)) ((tTest (tOp (rIn K true) (tVar 4) ((tFldC (C_Base K) (tVar 0) "_tree"))))) (tVar 4) [4])) "_closing"))
    ((tSeq ((tAsg ((tCall (sp_arcs_of K) [] E0 ((tCons (tVar 1) ((tCons ((tOp rRep ((tLst ((tCons (tC (.int 0)) (tNil))))) (tVar 2))) ((tCons ((tOp rRep ((tLst ((tCons (tC (.int 0)) (tNil))))) (tVar 2))) (tNil))))))))) (gName 3)))
    ((tSeq ((sFldC (C_Base K) (tVar 0) ((tLc ((iList K (tVar 3))) ((gName 5)) ((tTest (tOp (rIn K false) ((tOp (rIxT K) ((tOp (rIxT K) (tVar 5) (tC (.int 3)))) (tC (.int 0)))) ((tFldC (C_Base K) (tVar 0) "_tree"))))) (tVar 5) [5])) "_arcs"))
    ((sFldC (C_Base K) (tVar 0) ((tLc ((iList K ((tFldC (C_Base K) (tVar 0) "_closing")))) ((gName 4)) (tYes) ((tMeth (C_Base K) "_base_ring" (sp_Basebase_ring K) [] E0 (tVar 0) ((tCons (tVar 4) (tNil))))) [4])) "_rings")))))))))))))

theorem pure_Base_init (K : PySem.W.Frag) (vs : List V) (H : Hp) (Q : VK) (E : XK) (h : sp_Base_init K vs H Q E) : t_Base_init K { nx := fun _ H' => Q .non H', rt := Q } (L2.start N_Base_init vs) H := by
  obtain ⟨x, dx, n, G, T, ns, ss, rs, rfl, hx, gx, sG, hn, rws, hin, ln, nd, few, k⟩ := h
  have elr := rws.len
  rw [st_Base_init]
  unfold t_Base_init
  walk_at "st"
  refine c_Net_spans (hn.mono sG) fun q hq => ?_
  have s1 := sG.trans (Same.new (o := .lst ss) hq)
  have hx1 := Same.new (o := .lst ss) hq _ _ hx
  have hq1 : upd H q (.lst ss) q = some (.lst ss) := upd_same
  revert s1 hx1 hq1
  generalize upd H q (.lst ss) = H1
  intro s1 hx1 hq1
  walk_at "st"
  refine sfld_at hx1 (by decide) (gs := [("_net", .ref n)]) rfl ?_
  have s2 := Same.mut (o := .ins (C_Base K) dx [("_net", .ref n)]) s1 gx
  have hx2 : upd H1 x (.ins (C_Base K) dx [("_net", .ref n)]) x = some (.ins (C_Base K) dx [("_net", .ref n)]) := upd_same
  revert s2 hx2
  generalize upd H1 x (.ins (C_Base K) dx [("_net", .ref n)]) = H2
  intro s2 hx2
  walk_at "st"
  refine c_tree_of (hn.mono s2) (rws.mono s2) hin ln nd (by omega) fun R ts H3 s3 fR hR tr => ?_
  have nRx : R ≠ x := fun e => by rw [e, hx2] at fR; cases fR
  walk_at "st"
  refine sfld_at (s3 _ _ hx2) (by simp) (gs := [("_net", .ref n), ("_tree", .ref R)]) rfl ?_
  have s4 := Same.mut (o := .ins (C_Base K) dx [("_net", .ref n), ("_tree", .ref R)]) (s2.trans s3) gx
  have hx4 : upd H3 x (.ins (C_Base K) dx [("_net", .ref n), ("_tree", .ref R)]) x = some (.ins (C_Base K) dx [("_net", .ref n), ("_tree", .ref R)]) := upd_same
  have hR4 : upd H3 x (.ins (C_Base K) dx [("_net", .ref n), ("_tree", .ref R)]) R = some (.lst ((iN ts).map V.int)) := by rw [upd_ne nRx]; exact hR
  revert s4 hx4 hR4
  generalize upd H3 x (.ins (C_Base K) dx [("_net", .ref n), ("_tree", .ref R)]) = H4
  intro s4 hx4 hR4
  walk_at "st"
  refine lcGR (by omega) (fun i => (iN (clN ts i)).map V.int) rfl (fun i => by rw [iN_len]; exact clN_len) (fun i H5 W W0 hi s5 k1 k0 => ?_) (fun D H5 hD s5 hD5 => ?_)
  · rw [show wipe [some (V.ref x), some (.ref n), some (.int (ss.length : Nat)), none, none, none] [4] = [some (V.ref x), some (.ref n), some (.int (ss.length : Nat)), none, none, none] from rfl]
    walk_at "st"
    refine ⟨rfl, ?_⟩
    walk_at "st"
    refine ⟨x, dx, _, .ref R, rfl, s5 _ _ hx4, rfl, ?_⟩
    refine wp_notInI (.inl (sq_of (s5 _ _ hR4))) ?_
    by_cases c : i ∈ ts
    · rw [decide_eq_true (iN_mem.mpr c)]
      walk_at "st"
      exact k0 _ (Same.refl _) (by rw [clN_succ, if_pos c, List.append_nil])
    · rw [decide_eq_false (fun z => c (iN_mem.mp z))]
      walk_at "st"
      exact k1 _ _ (Same.refl _) (by rw [clN_succ, if_neg c, iN_app]; rfl)
  have nDx : D ≠ x := fun e => by rw [e, hx4] at hD; cases hD
  walk_at "st"
  refine sfld_at (s5 _ _ hx4) (by simp) (gs := [("_net", .ref n), ("_tree", .ref R), ("_closing", .ref D)]) rfl ?_
  have s6 := Same.mut (o := .ins (C_Base K) dx [("_net", .ref n), ("_tree", .ref R), ("_closing", .ref D)]) (s4.trans s5) gx
  have hx6 : upd H5 x (.ins (C_Base K) dx [("_net", .ref n), ("_tree", .ref R), ("_closing", .ref D)]) x = some (.ins (C_Base K) dx [("_net", .ref n), ("_tree", .ref R), ("_closing", .ref D)]) := upd_same
  have hR6 : upd H5 x (.ins (C_Base K) dx [("_net", .ref n), ("_tree", .ref R), ("_closing", .ref D)]) R = some (.lst ((iN ts).map V.int)) := by rw [upd_ne nRx]; exact s5 _ _ hR4
  have hD6 : upd H5 x (.ins (C_Base K) dx [("_net", .ref n), ("_tree", .ref R), ("_closing", .ref D)]) D = some (.lst ((iN (clN ts ss.length)).map V.int)) := by rw [upd_ne nDx]; exact hD5
  revert s6 hx6 hR6 hD6
  generalize upd H5 x (.ins (C_Base K) dx [("_net", .ref n), ("_tree", .ref R), ("_closing", .ref D)]) = H6
  intro s6 hx6 hR6 hD6
  walk_at "st"
  refine ⟨by simp [sizeLine_eq], fun l1 hl1 => ?_⟩
  walk_at "st"
  refine wp_rep (k := (ss.length : Int)) upd_same (by omega) (by omega) fun z1 hz1 => ?_
  have v1 := (Same.new (o := .lst [.int 0]) hl1).trans (Same.new (o := .lst (List.replicate (ss.length : Int).toNat (.int 0))) hz1)
  have hz2 : upd (upd H6 l1 (.lst [.int 0])) z1 (.lst (List.replicate (ss.length : Int).toNat (.int 0))) z1 = some (.lst ((List.replicate ss.length (0 : Int)).map V.int)) := by rw [upd_same, Int.toNat_natCast, List.map_replicate]
  revert v1 hz2
  generalize upd (upd H6 l1 (.lst [.int 0])) z1 (.lst (List.replicate (ss.length : Int).toNat (.int 0))) = H7
  intro v1 hz2
  walk_at "st"
  refine ⟨by simp [sizeLine_eq], fun l2 hl2 => ?_⟩
  walk_at "st"
  refine wp_rep (k := (ss.length : Int)) upd_same (by omega) (by omega) fun z3 hz3 => ?_
  have v2 := (Same.new (o := .lst [.int 0]) hl2).trans (Same.new (o := .lst (List.replicate (ss.length : Int).toNat (.int 0))) hz3)
  have hz4 : upd (upd H7 l2 (.lst [.int 0])) z3 (.lst (List.replicate (ss.length : Int).toNat (.int 0))) z3 = some (.lst ((List.replicate ss.length (0 : Int)).map V.int)) := by rw [upd_same, Int.toNat_natCast, List.map_replicate]
  have hz5 := v2 _ _ hz2
  have v3 := v1.trans v2
  revert v3 hz4 hz5
  generalize upd (upd H7 l2 (.lst [.int 0])) z3 (.lst (List.replicate (ss.length : Int).toNat (.int 0))) = H8
  intro hz4 hz5 v3
  walk_at "st"
  refine c_arcs_of (hn.mono (s6.trans v3)) (rws.mono (s6.trans v3)) (by omega) hz5 hz4 (List.length_replicate ..) (List.length_replicate ..) fun L xs H9 s9 _ hL ar => ?_
  have s9 := v3.trans s9
  have arI := ar.any
  have elx := arI.len
  have lx : xs.length ≤ 48 := by rw [elx]; have := arL_len (rs := rs) (fs := List.replicate ss.length 0) (bs := List.replicate ss.length 0) rs.length; omega
  have hx9 := s9 _ _ hx6
  have hR9 := s9 _ _ hR6
  walk_at "st"
  refine lcGL (sq_of hL) (by omega) (fun i => flA ts (xs.take i) ((arL rs (List.replicate ss.length 0) (List.replicate ss.length 0) rs.length).take i)) rfl (fun i => ?_) (fun i v H10 W W0 hv s10 k1 k0 => ?_) (fun M H10 hM s10 hM10 => ?_)
  · unfold flA
    rw [List.length_map]
    refine Nat.le_trans (List.length_filter_le _ _) ?_
    rw [List.length_zip, List.length_take]
    omega
  · obtain ⟨a, y, s, rfl, es, _, _, ha, hy⟩ := arI.at_ hv
    have ha1 := s10 _ _ ha
    have hy1 := s10 _ _ hy
    have fs := flA_snoc (ts := ts) elx hv es
    rw [show wipe [some (V.ref x), some (.ref n), some (.int (ss.length : Nat)), some (.ref L), none, none] [5] = [some (V.ref x), some (.ref n), some (.int (ss.length : Nat)), some (.ref L), none, none] from rfl]
    walk_at "st"
    refine ⟨rfl, ?_⟩
    walk_at "st"
    refine ⟨x, dx, _, .ref R, rfl, s10 _ _ hx9, rfl, ?_⟩
    refine wp_inL (sq_of (s10 _ _ hR9)) rfl (by unfold iN; simp [flatV]) ?_
    rw [inV_int]
    by_cases c : s.s.1 ∈ iN ts
    · rw [decide_eq_true c]
      walk_at "st"
      exact k1 _ _ (Same.refl _) (by rw [fs, if_pos c])
    · rw [decide_eq_false c]
      walk_at "st"
      exact k0 _ (Same.refl _) (by rw [fs, if_neg c, List.append_nil])
  have nMx : M ≠ x := fun e => by rw [e, hx9] at hM; cases hM
  rw [List.take_length, elx, List.take_length] at hM10
  have ar10 := flA_ar (ts := ts) (arI.mono s10)
  walk_at "st"
  have hx10 := s10 _ _ hx9
  have hD10 := s10 _ _ (s9 _ _ hD6)
  have hR10 := s10 _ _ hR9
  refine sfld_at hx10 (by simp) (gs := [("_net", .ref n), ("_tree", .ref R), ("_closing", .ref D), ("_arcs", .ref M)]) rfl ?_
  have s11 := Same.mut (o := .ins (C_Base K) dx [("_net", .ref n), ("_tree", .ref R), ("_closing", .ref D), ("_arcs", .ref M)]) ((s6.trans s9).trans s10) gx
  have hx11 : upd H10 x (.ins (C_Base K) dx [("_net", .ref n), ("_tree", .ref R), ("_closing", .ref D), ("_arcs", .ref M)]) x = some (.ins (C_Base K) dx [("_net", .ref n), ("_tree", .ref R), ("_closing", .ref D), ("_arcs", .ref M)]) := upd_same
  have hM11 : upd H10 x (.ins (C_Base K) dx [("_net", .ref n), ("_tree", .ref R), ("_closing", .ref D), ("_arcs", .ref M)]) M = some (.lst (flA ts xs (arL rs (List.replicate ss.length 0) (List.replicate ss.length 0) rs.length))) := by rw [upd_ne nMx]; exact hM10
  have hD11 : upd H10 x (.ins (C_Base K) dx [("_net", .ref n), ("_tree", .ref R), ("_closing", .ref D), ("_arcs", .ref M)]) D = some (.lst ((iN (clN ts ss.length)).map V.int)) := by rw [upd_ne nDx]; exact hD10
  have hR11 : upd H10 x (.ins (C_Base K) dx [("_net", .ref n), ("_tree", .ref R), ("_closing", .ref D), ("_arcs", .ref M)]) R = some (.lst ((iN ts).map V.int)) := by rw [upd_ne nRx]; exact hR10
  have ar11 : ArI (upd H10 x (.ins (C_Base K) dx [("_net", .ref n), ("_tree", .ref R), ("_closing", .ref D), ("_arcs", .ref M)])) (flA ts xs (arL rs (List.replicate ss.length 0) (List.replicate ss.length 0) rs.length)) ((arL rs (List.replicate ss.length 0) (List.replicate ss.length 0) rs.length).filter fun x => decide (x.s.1 ∈ iN ts)) := arF_updI hx10 ar10
  revert s11 hx11 hM11 hD11 hR11 ar11
  generalize upd H10 x (.ins (C_Base K) dx [("_net", .ref n), ("_tree", .ref R), ("_closing", .ref D), ("_arcs", .ref M)]) = H11
  intro s11 hx11 hM11 hD11 hR11 ar11
  have tra : TrA rs ts _ := tra_of (n := ss.length) tr.lt
  have bp : ∀ {H' : Hp}, Same H11 H' → BaseP K H' x ns rs ts := fun {H'} s => ⟨⟨dx, n, M, _, T, ss, _, _, s _ _ hx11, rfl, rfl, hn.mono (s11.trans s), s _ _ hM11, ar11.mono s, tra, rws.mono (s11.trans s), rfl⟩, hin, ln⟩
  walk_at "st"
  refine ⟨x, dx, _, .ref D, rfl, hx11, rfl, ?_⟩
  have lcl : ((iN (clN ts ss.length)).map V.int).length ≤ 24 := by rw [iN_len]; exact Nat.le_trans clN_len few
  refine lcAllL (sq_of hD11) (by omega) (fun i acc G' => ∃ Ws, LsI G' acc Ws ∧ Rngs rs ts ((clN ts ss.length).take i) Ws ∧ ∀ W ∈ Ws, W.length ≤ 13) (fun _ _ => ⟨[], .nil, .nil, fun _ h => nomatch h⟩) (fun i v acc Z H12 W hv sG2 hZ hI k1 => ?_) (fun Z acc H12 hZ sG2 hZ12 _ hI => ?_)
  · unfold iN at hv
    rw [List.map_map, List.getElem?_map] at hv
    obtain ⟨j, hj, rfl⟩ := Option.map_eq_some_iff.mp hv
    obtain ⟨hj1, hj2⟩ := List.mem_filter.mp (List.mem_of_getElem? hj)
    have hj1 := List.mem_range.mp hj1
    have hj2 : j ∉ ts := by simpa using hj2
    obtain ⟨r, er⟩ : ∃ r, rs[j]? = some r := ⟨_, List.getElem?_eq_getElem (by omega)⟩
    have s13 := sG2.trans rmv_sub
    rw [show wipe [some (V.ref x), some (.ref n), some (.int (ss.length : Nat)), some (.ref L), none, none] [4] = [some (V.ref x), some (.ref n), some (.int (ss.length : Nat)), some (.ref L), none, none] from rfl]
    show gName 4 (.int (j : Nat)) _ _ _
    walk_at "st"
    refine ⟨rfl, ?_⟩
    walk_at "st"
    refine met_at (s13 _ _ hx11) rfl ?_
    walk_at "st"
    refine c_Basebase_ring (bp s13) er (tr.clos (by omega) hj2 er) fun D2 xs2 w2 H14 s14 f14 hD2 st2 wk2 ov2 nd2 lw2 => ?_
    obtain ⟨Ws, lsW, rgW, lnW⟩ := hI
    refine k1 _ H14 s14 ⟨Ws ++ [(((j : Nat) : Int), (1 : Int)) :: w2], ?_, ?_, fun W hW => ?_⟩
    · refine (lsW.mono (rmv_mono s14)).snoc rfl ?_ (stI_rmv (s14 _ _ hZ) st2)
      rw [rmv_ne (fun e => by rw [e, hZ] at f14; cases f14)]
      exact hD2
    · rw [take_snoc hj]
      exact rgW.snoc ⟨r, w2, rfl, er, wk2, ov2, nd2⟩
    · rcases List.mem_append.mp hW with hW | hW
      · exact lnW W hW
      · rw [List.mem_singleton.mp hW, List.length_cons]; omega
  obtain ⟨Ws, lsW, rgW, lnW⟩ := hI
  rw [List.take_of_length_le (by rw [iN_len]; exact Nat.le_refl _)] at rgW
  walk_at "st"
  have s13 := sG2.trans rmv_sub
  have nZx : Z ≠ x := fun e => by rw [e, hx11] at hZ; cases hZ
  refine sfld_at (s13 _ _ hx11) (by simp) (gs := [("_net", .ref n), ("_tree", .ref R), ("_closing", .ref D), ("_arcs", .ref M), ("_rings", .ref Z)]) rfl ?_
  have s15 := Same.mut (o := .ins (C_Base K) dx [("_net", .ref n), ("_tree", .ref R), ("_closing", .ref D), ("_arcs", .ref M), ("_rings", .ref Z)]) (s11.trans s13) gx
  have hx12 := s13 _ _ hx11
  have ar12 := ar11.mono s13
  refine k ts Ws _ s15 ⟨⟨⟨dx, n, M, _, T, ss, _, _, upd_same, rfl, rfl, hn.mono s15, by rw [upd_ne nMx]; exact s13 _ _ hM11, arF_updI hx12 ar12, tra, rws.mono s15, rfl⟩, hin, ln⟩, ⟨dx, R, D, Z, _, acc, upd_same, rfl, rfl, rfl, by rw [upd_ne nRx]; exact s13 _ _ hR11, by rw [upd_ne nDx, ← elr]; exact s13 _ _ hD11, by rw [upd_ne nZx]; exact hZ12, lsF_updI hx12 (lsW.mono rmv_sub)⟩, by rw [← elr]; exact rgW, lnW, by rw [← elr]; exact few⟩ tr
theorem len_Base_init (K : PySem.W.Frag) (vs : List V) (H : Hp) (Q : VK) (E : XK) (h : sp_Base_init K vs H Q E) : vs.length = 2 := by
  obtain ⟨_, _, _, _, _, _, _, _, rfl, _⟩ := h
  rfl
theorem c_BaseR {K : PySem.W.Frag} {n : Addr} {T : Int} {ns : List (List Nat)} {ss : List V} {rs : List Row} {H : Hp} {Q : VK} {E : XK} (hn : IsNet (C_Net K) H n T ns ss) (rws : Rws H ss rs) (hin : ∀ r ∈ rs, r.u ∈ ns ∧ r.v ∈ ns) (ln : ns.length ≤ 12) (nd : ns.Nodup) (few : ss.length ≤ 24)
    (k : ∀ b ts Ws H', Same H H' → BaseR K H' b ns rs ts Ws → TreeTo rs rs.length ts → Q (.ref b) H') : MkW (C_Base K) (sp_Base_init K) E Q [.ref n] H := by
  intro x dx hx hdx ne
  have s1 : Same H (upd (upd H dx (.own x)) x (.ins (C_Base K) dx [])) := (Same.new hdx).trans (Same.new (by rw [upd_ne ne.symm]; exact hx))
  exact ⟨x, dx, n, H, T, ns, ss, rs, rfl, upd_same, hx, s1, hn, rws, hin, ln, nd, few, fun ts Ws H' s bp tr => ⟨rfl, k x ts Ws H' s bp tr⟩⟩
theorem c_Base {K : PySem.W.Frag} {n : Addr} {T : Int} {ns : List (List Nat)} {ss : List V} {rs : List Row} {H : Hp} {Q : VK} {E : XK} (hn : IsNet (C_Net K) H n T ns ss) (rws : Rws H ss rs) (hin : ∀ r ∈ rs, r.u ∈ ns ∧ r.v ∈ ns) (ln : ns.length ≤ 12) (nd : ns.Nodup) (few : ss.length ≤ 24)
    (k : ∀ b ts H', Same H H' → BaseP K H' b ns rs ts → TreeTo rs rs.length ts → Q (.ref b) H') : MkW (C_Base K) (sp_Base_init K) E Q [.ref n] H :=
  c_BaseR hn rws hin ln nd few fun b ts _ H' s br tr => k b ts H' s br.p tr
def sp_Base_rings (K : PySem.W.Frag) : Sp := fun vs H Q _ => ∃ (b : Addr) (ns : List (List Nat)) (rs : List Row) (ts : List Nat) (Ws : List (List (Int × Int))), vs = [.ref b] ∧ BaseR K H b ns rs ts Ws ∧ ∀ D vs H', Same H H' → H D = none → H' D = some (.lst vs) → LsF H H' vs Ws → (∀ x, V.ref x ∈ vs → x ≠ D) → Q (.ref D) H'
abbrev N_Base_rings : List Str := ["self", "ring"]
theorem st_Base_rings {a0 : V} : L2.start N_Base_rings [a0] = [some a0, none] := rfl
def t_Base_rings (K : PySem.W.Frag) : TS :=
  (tRet ((tLc ((iList K ((tFldC (C_Base K) (tVar 0) "_rings")))) ((gName 1)) (tYes) ((tCB (rListS K) ((tCons (tVar 1) (tNil))))) [1])))

theorem pure_Base_rings (K : PySem.W.Frag) (vs : List V) (H : Hp) (Q : VK) (E : XK) (h : sp_Base_rings K vs H Q E) : t_Base_rings K { nx := fun _ H' => Q .non H', rt := Q } (L2.start N_Base_rings vs) H := by
  obtain ⟨b, ns, rs, ts, Ws, rfl, ⟨p, ⟨dx, t, c, g, fs, us, h1, h2, h3, h4, h5, h6, h7, h8⟩, rg, len, few⟩, k⟩ := h
  have el := h8.len
  have lw := rg.len
  rw [st_Base_rings]
  unfold t_Base_rings
  walk_at "st"
  refine ⟨b, dx, fs, _, rfl, h1, h4, ?_⟩
  have lus : us.length ≤ 24 := by
    rw [el, lw]
    exact Nat.le_trans clN_len few
  refine lcAllL (sq_of h7) (by omega) (fun i acc G' => LsF H G' acc (Ws.take i)) (fun _ _ => .nil) (fun i v acc Z H2 W hv s1 hZ hI k1 => ?_) (fun Z acc H2 hZ s1 hZ2 la hI => ?_)
  · obtain ⟨x, xs, W1, rfl, e1, _, hx, st⟩ := h8.at_ hv
    have s2 := s1.trans rmv_sub
    rw [show wipe [some (V.ref b), none] [1] = [some (V.ref b), none] from rfl]
    walk_at "st"
    refine ⟨rfl, ?_⟩
    walk_at "st"
    refine wp_listL (sq_of (s2 _ _ hx)) fun q hq => ?_
    have nq : q ≠ Z := fun e => by rw [e, hZ] at hq; cases hq
    refine k1 _ _ (Same.new hq) ?_
    rw [take_snoc e1]
    refine (hI.mono (rmv_mono (Same.new hq))).snoc (s2.free hq) (by rw [rmv_ne nq]; exact upd_same) (st.mono (s1.trans (rmv_mono (Same.new hq))))
  · refine k Z acc H2 (s1.trans rmv_sub) hZ hZ2 ?_ fun x hx e => ?_
    · rw [el, List.take_length] at hI
      exact hI.mono rmv_sub
    · obtain ⟨i, hi⟩ := List.mem_iff_getElem?.mp hx
      obtain ⟨y, xs, W1, e1, _, _, hy, _⟩ := hI.at_ hi
      cases e1
      rw [e, rmv_same] at hy
      cases hy
theorem len_Base_rings (K : PySem.W.Frag) (vs : List V) (H : Hp) (Q : VK) (E : XK) (h : sp_Base_rings K vs H Q E) : vs.length = 1 := by
  obtain ⟨_, _, _, _, _, rfl, _⟩ := h
  rfl
theorem c_Base_rings {K : PySem.W.Frag} {b : Addr} {ns : List (List Nat)} {rs : List Row} {ts : List Nat} {Ws : List (List (Int × Int))} {H : Hp} {Q : VK} {E : XK} (h : BaseR K H b ns rs ts Ws) (k : ∀ D vs H', Same H H' → H D = none → H' D = some (.lst vs) → LsF H H' vs Ws → (∀ x, V.ref x ∈ vs → x ≠ D) → Q (.ref D) H') : ∃ a' dx fs, V.ref b = .ref a' ∧ H a' = some (.ins (C_Base K) dx fs) ∧ sp_Base_rings K [.ref a'] H Q E := by
  obtain ⟨dx, _, _, _, fs, _, h1, _⟩ := h.ex
  exact ⟨b, dx, _, rfl, h1, b, ns, rs, ts, Ws, rfl, h, k⟩
def sp_sum_over (K : PySem.W.Frag) : Sp := fun vs H Q _ => ∃ (w f b : Addr) (xs : List V) (ws : List (Int × Int)) (fs bs : List Int), vs = [.ref w, .ref f, .ref b] ∧ H w = some (.lst xs) ∧ StI H xs ws ∧ ws.length ≤ 1000 ∧ H f = some (.lst (fs.map V.int)) ∧ H b = some (.lst (bs.map V.int)) ∧ bs.length = fs.length ∧ Stp fs.length ws ∧ ∀ H', Same H H' → Q (.int (sov fs bs ws)) H'
abbrev N_sum_over : List Str := ["walk", "forward", "backward", "number", "direction"]
theorem st_sum_over {a0 a1 a2 : V} : L2.start N_sum_over [a0, a1, a2] = [some a0, some a1, some a2, none, none] := rfl
def t_sum_over (K : PySem.W.Frag) : TS :=
  (tRet ((tCB (rSum K) ((tCons ((tLc ((iList K (tVar 0))) ((gTup K 2 (gCons (gName 3) (gCons (gName 4) gNil)))) (tYes) ((tIf ((tTest (tOp rEq (tVar 4) (tC (.int 1))))) ((tOp (rIxL K) (tVar 1) (tVar 3))) ((tOp (rIxL K) (tVar 2) (tVar 3))))) [3, 4])) (tNil))))))

theorem pure_sum_over (K : PySem.W.Frag) (vs : List V) (H : Hp) (Q : VK) (E : XK) (h : sp_sum_over K vs H Q E) : t_sum_over K { nx := fun _ H' => Q .non H', rt := Q } (L2.start N_sum_over vs) H := by
  obtain ⟨w, f, b, xs, ws, fs, bs, rfl, hw, st, few, hf, hb, lb, ok, k⟩ := h
  have elx := st.len
  rw [st_sum_over]
  unfold t_sum_over
  walk_at "st"
  refine lcGL (sq_of hw) (by omega) (fun i => ((ws.take i).map (stv fs bs)).map V.int) rfl (fun i => by simp only [List.length_map, List.length_take]; omega) (fun i x H2 R R0 hi s2 k1 k0 => ?_) (fun D H2 hD s2 hD2 => ?_)
  · obtain ⟨y, s, rfl, he, _, hy⟩ := (st.mono s2).at_ hi
    obtain ⟨n, d⟩ := s
    obtain ⟨o1, o2, o3⟩ := ok _ (List.mem_of_getElem? he)
    obtain ⟨j, rfl⟩ : ∃ j : Nat, n = j := ⟨n.toNat, by have : 0 ≤ n := o1; omega⟩
    have hj : j < fs.length := by have : (j : Int) < fs.length := o2; omega
    obtain ⟨v, ev⟩ : ∃ v, fs[j]? = some v := ⟨_, List.getElem?_eq_getElem hj⟩
    obtain ⟨u, eu⟩ : ∃ u, bs[j]? = some u := ⟨_, List.getElem?_eq_getElem (by omega)⟩
    have hy : H2 y = some (.tup [.int (j : Int), .int d]) := hy
    have hf2 := s2 _ _ hf
    have hb2 := s2 _ _ hb
    have e1 : ((ws.take (i + 1)).map (stv fs bs)).map V.int = ((ws.take i).map (stv fs bs)).map V.int ++ [V.int (stv fs bs ((j : Int), d))] := by
      rw [take_snoc he, List.map_append, List.map_append]
      rfl
    rw [show wipe ([some (.ref w), some (.ref f), some (.ref b), none, none] : L2.St) [3, 4] = [some (.ref w), some (.ref f), some (.ref b), none, none] from rfl]
    walk_at "st"
    refine ⟨rfl, ?_⟩
    rcases o3 with o3 | o3
    · obtain rfl : d = 1 := o3
      walk_at "st"
      refine wp_ixL (sq_of hf2) (at_nth (by rw [List.getElem?_map, ev]; rfl)) ?_
      refine k1 _ _ (Same.refl _) ?_
      rw [e1, show stv fs bs ((j : Int), 1) = v from by unfold stv; rw [if_pos rfl, Int.toNat_natCast, List.getD_eq_getElem?_getD, ev]; rfl]
    · obtain rfl : d = -1 := o3
      walk_at "st"
      refine wp_ixL (sq_of hb2) (at_nth (by rw [List.getElem?_map, eu]; rfl)) ?_
      refine k1 _ _ (Same.refl _) ?_
      rw [e1, show stv fs bs ((j : Int), -1) = u from by unfold stv; rw [if_neg (show ¬ (-1 : Int) = 1 by decide), Int.toNat_natCast, List.getD_eq_getElem?_getD, eu]; rfl]
  rw [elx, List.take_length] at hD2
  walk_at "st"
  refine wp_sumW (sq_of hD2) ?_
  exact k H2 s2
theorem len_sum_over (K : PySem.W.Frag) (vs : List V) (H : Hp) (Q : VK) (E : XK) (h : sp_sum_over K vs H Q E) : vs.length = 3 := by
  obtain ⟨_, _, _, _, _, _, _, rfl, _⟩ := h
  rfl
theorem c_sum_over {K : PySem.W.Frag} {w f b : Addr} {xs : List V} {ws : List (Int × Int)} {fs bs : List Int} {H : Hp} {Q : VK} {E : XK} (hw : H w = some (.lst xs)) (st : StI H xs ws) (few : ws.length ≤ 1000) (hf : H f = some (.lst (fs.map V.int))) (hb : H b = some (.lst (bs.map V.int))) (lb : bs.length = fs.length) (ok : Stp fs.length ws) (k : ∀ H', Same H H' → Q (.int (sov fs bs ws)) H') : sp_sum_over K [.ref w, .ref f, .ref b] H Q E := ⟨w, f, b, xs, ws, fs, bs, rfl, hw, st, few, hf, hb, lb, ok, k⟩
def sp_turn_of (K : PySem.W.Frag) : Sp := fun vs H Q _ => ∃ (w f : Addr) (xs : List V) (ws : List (Int × Int)) (fs : List Int), vs = [.ref w, .ref f] ∧ H w = some (.lst xs) ∧ StI H xs ws ∧ ws.length ≤ 1000 ∧ H f = some (.lst (fs.map V.int)) ∧ fs.length ≤ 1000 ∧ Stp fs.length ws ∧ ∀ H', Same H H' → Q (.int (sov fs (fs.map fun i => -i) ws)) H'
abbrev N_turn_of : List Str := ["walk", "minutes", "passing"]
theorem st_turn_of {a0 a1 : V} : L2.start N_turn_of [a0, a1] = [some a0, some a1, none] := rfl
def t_turn_of (K : PySem.W.Frag) : TS :=
  (tRet ((tCall (sp_sum_over K) [] E0 ((tCons (tVar 0) ((tCons (tVar 1) ((tCons ((tLc ((iList K (tVar 1))) ((gName 2)) (tYes) ((tUn (rU fun i => .int (-i)) (tVar 2))) [2])) (tNil))))))))))

theorem pure_turn_of (K : PySem.W.Frag) (vs : List V) (H : Hp) (Q : VK) (E : XK) (h : sp_turn_of K vs H Q E) : t_turn_of K { nx := fun _ H' => Q .non H', rt := Q } (L2.start N_turn_of vs) H := by
  obtain ⟨w, f, xs, ws, fs, rfl, hw, st, few, hf, lf, ok, k⟩ := h
  rw [st_turn_of]
  unfold t_turn_of
  walk_at "st"
  refine lcGL (sq_of hf) (by rw [List.length_map]; omega) (fun i => ((fs.take i).map fun i => -i).map V.int) rfl (fun i => by simp only [List.length_map, List.length_take]; omega) (fun i x H2 R R0 hi s2 k1 k0 => ?_) (fun D H2 hD s2 hD2 => ?_)
  · rw [List.getElem?_map] at hi
    obtain ⟨v, hv, rfl⟩ := Option.map_eq_some_iff.mp hi
    rw [show wipe ([some (.ref w), some (.ref f), none] : L2.St) [2] = [some (.ref w), some (.ref f), none] from rfl]
    walk_at "st"
    refine ⟨rfl, ?_⟩
    walk_at "st"
    exact k1 _ _ (Same.refl _) (by rw [take_snoc hv, List.map_append, List.map_append]; rfl)
  rw [List.length_map, List.take_length] at hD2
  walk_at "st"
  exact c_sum_over (s2 _ _ hw) (st.mono s2) few (s2 _ _ hf) hD2 (List.length_map ..) ok fun H3 s3 => k H3 (s2.trans s3)
theorem len_turn_of (K : PySem.W.Frag) (vs : List V) (H : Hp) (Q : VK) (E : XK) (h : sp_turn_of K vs H Q E) : vs.length = 2 := by
  obtain ⟨_, _, _, _, _, rfl, _⟩ := h
  rfl
theorem c_turn_of {K : PySem.W.Frag} {w f : Addr} {xs : List V} {ws : List (Int × Int)} {fs : List Int} {H : Hp} {Q : VK} {E : XK} (hw : H w = some (.lst xs)) (st : StI H xs ws) (few : ws.length ≤ 1000) (hf : H f = some (.lst (fs.map V.int))) (lf : fs.length ≤ 1000) (ok : Stp fs.length ws) (k : ∀ H', Same H H' → Q (.int (sov fs (fs.map fun i => -i) ws)) H') : sp_turn_of K [.ref w, .ref f] H Q E := ⟨w, f, xs, ws, fs, rfl, hw, st, few, hf, lf, ok, k⟩
def sp_rounds_on (K : PySem.W.Frag) : Sp := fun vs H Q _ => ∃ (g f : Addr) (T : Int) (us : List V) (Ws : List (List (Int × Int))) (gs : List Int), vs = [.ref g, .ref f, .int T] ∧ 0 < T ∧ T ≤ 120 ∧ H g = some (.lst us) ∧ LsI H us Ws ∧ Ws.length ≤ 24 ∧ (∀ W ∈ Ws, W.length ≤ 25 ∧ Stp gs.length W) ∧ H f = some (.lst (gs.map V.int)) ∧ gs.length ≤ 24 ∧
  ∀ D H', Same H H' → H D = none → H' D = some (.lst ((Ws.map fun W => sov gs (ngs gs) W / T).map V.int)) → Q (.ref D) H'
abbrev N_rounds_on : List Str := ["rings", "minutes", "round_length", "ring"]
theorem st_rounds_on {a0 a1 a2 : V} : L2.start N_rounds_on [a0, a1, a2] = [some a0, some a1, some a2, none] := rfl
def t_rounds_on (K : PySem.W.Frag) : TS :=
  (tRet ((tLc ((iList K (tVar 0))) ((gName 3)) (tYes) ((tOp (rI CDiv fun i j => .int (i / j)) ((tCall (sp_turn_of K) [] E0 ((tCons (tVar 3) ((tCons (tVar 1) (tNil))))))) (tVar 2))) [3])))

theorem pure_rounds_on (K : PySem.W.Frag) (vs : List V) (H : Hp) (Q : VK) (E : XK) (h : sp_rounds_on K vs H Q E) : t_rounds_on K { nx := fun _ H' => Q .non H', rt := Q } (L2.start N_rounds_on vs) H := by
  obtain ⟨g, f, T, us, Ws, gs, rfl, hT, hT2, hg, ls, lw, ok, hf, lg, k⟩ := h
  have elv := ls.len
  rw [st_rounds_on]
  unfold t_rounds_on
  walk_at "st"
  refine lcGL (sq_of hg) (by omega) (fun i => ((Ws.take i).map fun W => sov gs (ngs gs) W / T).map V.int) rfl (fun i => by simp only [List.length_map, List.length_take]; omega) (fun i v H3 W W0 hv s3 k1 k0 => ?_) (fun D H3 hD s3 hD3 => ?_)
  · obtain ⟨x, xs, U, rfl, e1, _, hx, st⟩ := ls.at_ hv
    obtain ⟨o1, o2⟩ := ok U (List.mem_of_getElem? e1)
    rw [show wipe [some (V.ref g), some (.ref f), some (.int T), none] [3] = [some (V.ref g), some (.ref f), some (.int T), none] from rfl]
    walk_at "st"
    refine ⟨rfl, ?_⟩
    walk_at "st"
    refine c_turn_of (s3 _ _ hx) (st.mono s3) (by omega) (s3 _ _ hf) (by omega) o2 fun H4 s4 => ?_
    walk_at "st"
    exact k1 _ _ s4 (by rw [take_snoc e1, List.map_append, List.map_append]; rfl)
  rw [elv, List.take_length] at hD3
  exact k D H3 s3 hD hD3
theorem len_rounds_on (K : PySem.W.Frag) (vs : List V) (H : Hp) (Q : VK) (E : XK) (h : sp_rounds_on K vs H Q E) : vs.length = 3 := by
  obtain ⟨_, _, _, _, _, _, rfl, _⟩ := h
  rfl
theorem c_rounds_on {K : PySem.W.Frag} {g f : Addr} {T : Int} {us : List V} {Ws : List (List (Int × Int))} {gs : List Int} {H : Hp} {Q : VK} {E : XK} (hT : 0 < T) (hT2 : T ≤ 120) (hg : H g = some (.lst us)) (ls : LsI H us Ws) (lw : Ws.length ≤ 24) (ok : ∀ W ∈ Ws, W.length ≤ 25 ∧ Stp gs.length W) (hf : H f = some (.lst (gs.map V.int))) (lg : gs.length ≤ 24)
    (k : ∀ D H', Same H H' → H D = none → H' D = some (.lst ((Ws.map fun W => sov gs (ngs gs) W / T).map V.int)) → Q (.ref D) H') : sp_rounds_on K [.ref g, .ref f, .int T] H Q E := ⟨g, f, T, us, Ws, gs, rfl, hT, hT2, hg, ls, lw, ok, hf, lg, k⟩
/-- the slack of each span forwards and backwards -/
abbrev fwd (T : Int) (m : List Nat → Int) (rs : List Row) : List Int := rs.map fun r : Row => r.hi - gv T m r
abbrev bwd (T : Int) (m : List Nat → Int) (rs : List Row) : List Int := rs.map fun r : Row => gv T m r - r.lo
abbrev slA (T : Int) (m : List Nat → Int) (rs : List Row) : List Ar := arL rs (fwd T m rs) (bwd T m rs) rs.length
abbrev isF1 (n : Addr) : List (Str × V) := [("_net", .ref n)]
abbrev isF2 (n t : Addr) : List (Str × V) := [("_net", .ref n), ("_times", .ref t)]
abbrev isF3 (n t R : Addr) : List (Str × V) := [("_net", .ref n), ("_times", .ref t), ("_rings", .ref R)]
abbrev isF4 (n t R Q : Addr) : List (Str × V) := [("_net", .ref n), ("_times", .ref t), ("_rings", .ref R), ("_rounds", .ref Q)]
abbrev isF5 (n t R Q fo : Addr) : List (Str × V) := [("_net", .ref n), ("_times", .ref t), ("_rings", .ref R), ("_rounds", .ref Q), ("_forward", .ref fo)]
abbrev isF6 (n t R Q fo ba : Addr) : List (Str × V) := [("_net", .ref n), ("_times", .ref t), ("_rings", .ref R), ("_rounds", .ref Q), ("_forward", .ref fo), ("_backward", .ref ba)]
abbrev isF7 (n t R Q fo ba ro : Addr) : List (Str × V) := [("_net", .ref n), ("_times", .ref t), ("_rings", .ref R), ("_rounds", .ref Q), ("_forward", .ref fo), ("_backward", .ref ba), ("_rooms", .ref ro)]
abbrev isF8 (n t R Q fo ba ro la : Addr) : List (Str × V) := [("_net", .ref n), ("_times", .ref t), ("_rings", .ref R), ("_rounds", .ref Q), ("_forward", .ref fo), ("_backward", .ref ba), ("_rooms", .ref ro), ("_last", .ref la)]
/-- what an island knows of one event: the least slack to each other -/
structure RoomK (H : Hp) (as : List Ar) (l : List Nat) (M L : Addr) : Prop where
  ex : ∃ ks P G A B F, H M = some (.dK (dN (fun x => .int (F x)) (l :: ks))) ∧ BkD H L ks P G A B ∧ Sml as l P G F ks ∧ ks.length ≤ 12 ∧ Tgt as l F ks
theorem RoomK.mono {H H' : Hp} (s : Same H H') {as : List Ar} {l : List Nat} {M L : Addr} (h : RoomK H as l M L) : RoomK H' as l M L := by
  obtain ⟨ks, P, G, A, B, F, h1, h2, h3⟩ := h
  exact ⟨ks, P, G, A, B, F, s _ _ h1, h2.mono s, h3⟩
structure Isl (K : PySem.W.Frag) (H : Hp) (b n t : Addr) (T : Int) (ns ms : List (List Nat)) (ss : List V) (rs : List Row) (m : List Nat → Int) (ts : List Nat) (Ws : List (List (Int × Int))) : Prop where
  nt : IsNet (C_Net K) H n T ns ss
  tm : IsTimes (C_Times K) H t T ms m
  r : Rws H ss rs
  u : ∀ r ∈ rs, r.u ∈ ns ∧ r.v ∈ ns
  h : rs.length ≤ 24
  l : ns.length ≤ 12
  d : ns.Nodup
  t0 : 0 < T
  t1 : T ≤ 120
  k : cKept T ns rs T ms m = none
  tr : TreeTo rs rs.length ts
  rg : Rngs rs ts (clN ts rs.length) Ws
  ex : ∃ (dx R Q fo ba ro la : Addr) (vs : List V) (M L : List Nat → Addr), H b = some (.ins (C_Island K) dx (isF8 n t R Q fo ba ro la)) ∧ H R = some (.lst vs) ∧ LsI H vs Ws ∧ H Q = some (.lst ((Ws.map (rnd T m rs)).map V.int)) ∧ H fo = some (.lst ((fwd T m rs).map V.int)) ∧ H ba = some (.lst ((bwd T m rs).map V.int)) ∧ H ro = some (.dK (dN (fun l => .ref (M l)) ns)) ∧ H la = some (.dK (dN (fun l => .ref (L l)) ns)) ∧ ∀ l ∈ ns, RoomK H (slA T m rs) l (M l) (L l)
theorem Isl.mono {K : PySem.W.Frag} {H H' : Hp} (s : Same H H') {b n t : Addr} {T : Int} {ns ms : List (List Nat)} {ss : List V} {rs : List Row} {m : List Nat → Int} {ts : List Nat} {Ws : List (List (Int × Int))} (h : Isl K H b n t T ns ms ss rs m ts Ws) : Isl K H' b n t T ns ms ss rs m ts Ws := by
  obtain ⟨h1, h2, h3, h4, h5, h6, h7, h8, h9, h10, h11, h12, ⟨dx, R, Q, fo, ba, ro, la, vs, M, L, e1, e3, e4, e5, e6, e7, e8, e9, e10⟩⟩ := h
  exact ⟨h1.mono s, h2.mono s, h3.mono s, h4, h5, h6, h7, h8, h9, h10, h11, h12, ⟨dx, R, Q, fo, ba, ro, la, vs, M, L, s _ _ e1, s _ _ e3, e4.mono s, s _ _ e5, s _ _ e6, s _ _ e7, s _ _ e8, s _ _ e9, fun l hl => (e10 l hl).mono s⟩⟩
theorem RoomK.updI {H : Hp} {x C dx : Addr} {fs : List (Str × V)} {o : HO} (hx : H x = some (.ins C dx fs)) {as : List Ar} {l : List Nat} {M L : Addr} (h : RoomK H as l M L) : RoomK (upd H x o) as l M L := by
  obtain ⟨ks, P, G, A, B, F, h1, h2, h3⟩ := h
  exact ⟨ks, P, G, A, B, F, by rw [upd_ne fun e => by rw [e, hx] at h1; cases h1]; exact h1, h2.updI hx, h3⟩
theorem up_room {H : Hp} {x C dx : Addr} {fs : List (Str × V)} {o : HO} (hx : H x = some (.ins C dx fs)) {as : List Ar} {ns : List (List Nat)} {Df Mf Lf : List Nat → Addr} (h : ∀ l ∈ ns, H (Df l) = some (.tup [.ref (Mf l), .ref (Lf l), .non]) ∧ RoomK H as l (Mf l) (Lf l)) : ∀ l ∈ ns, upd H x o (Df l) = some (.tup [.ref (Mf l), .ref (Lf l), .non]) ∧ RoomK (upd H x o) as l (Mf l) (Lf l) := fun l hl =>
  ⟨by rw [upd_ne fun e => by have := (h l hl).1; rw [e, hx] at this; cases this]; exact (h l hl).1, (h l hl).2.updI hx⟩
theorem slA_ok {T : Int} {m : List Nat → Int} {rs : List Row} {ns : List (List Nat)} (hin : ∀ r ∈ rs, r.u ∈ ns ∧ r.v ∈ ns) (hb : ∀ r ∈ rs, 0 ≤ r.lo ∧ r.hi ≤ r.lo + T - 3) (al : ∀ r ∈ rs, isK T m r = true) (hT : 0 < T) (hT2 : T ≤ 120) : ∀ x ∈ slA T m rs, (0 ≤ x.c ∧ x.c ≤ 120) ∧ x.v ∈ ns := fun x hx => by
  obtain ⟨i, hi, hm⟩ := arL_mem.mp hx
  have e : rs[i]? = some rs[i] := List.getElem?_eq_getElem hi
  have mr := List.mem_of_getElem? e
  have k1 : gv T m rs[i] ≤ rs[i].hi := of_decide_eq_true (al _ mr)
  have k0 : rs[i].lo ≤ gv T m rs[i] := by
    have := Int.emod_nonneg (m rs[i].v - m rs[i].u - rs[i].lo) (show T ≠ 0 by omega)
    unfold gv
    omega
  have k2 := (hb _ mr).2
  have e1 : (fwd T m rs).getD i 0 = rs[i].hi - gv T m rs[i] := getD_map e
  have e2 : (bwd T m rs).getD i 0 = gv T m rs[i] - rs[i].lo := getD_map e
  unfold ar2 at hm
  rw [e] at hm
  rcases List.mem_cons.mp hm with rfl | hm
  · exact ⟨⟨by show 0 ≤ (fwd T m rs).getD i 0; omega, by show (fwd T m rs).getD i 0 ≤ 120; omega⟩, (hin _ mr).2⟩
  · rw [List.mem_singleton.mp hm]
    exact ⟨⟨by show 0 ≤ (bwd T m rs).getD i 0; omega, by show (bwd T m rs).getD i 0 ≤ 120; omega⟩, (hin _ mr).1⟩
/-- the lists of an island are its own -/
structure IslF (K : PySem.W.Frag) (G H : Hp) (b : Addr) (Ws : List (List (Int × Int))) : Prop where
  ex : ∃ (dx n t R Q fo ba ro la : Addr) (vs : List V), H b = some (.ins (C_Island K) dx (isF8 n t R Q fo ba ro la)) ∧ H R = some (.lst vs) ∧ LsF G H vs Ws ∧ G R = none ∧ G Q = none ∧ G fo = none ∧ G ba = none
theorem IslF.mono {K : PySem.W.Frag} {G H H' : Hp} (s : Same H H') {b : Addr} {Ws : List (List (Int × Int))} (h : IslF K G H b Ws) : IslF K G H' b Ws := by
  obtain ⟨dx, n, t, R, Q, fo, ba, ro, la, vs, e1, e2, e3, e4⟩ := h
  exact ⟨dx, n, t, R, Q, fo, ba, ro, la, vs, s _ _ e1, s _ _ e2, e3.mono s, e4⟩
theorem LsF.back {G H0 H : Hp} (s : Same G H0) {vs : List V} {Ws : List (List (Int × Int))} (h : LsF H0 H vs Ws) : LsF G H vs Ws := by
  induction h with
  | nil => exact .nil
  | cons f h st r ih => exact .cons (s.free f) h st ih
theorem LsF.rmvO {G H : Hp} {p : Addr} {zs : List V} (hp : H p = some (.lst zs)) (gp : G p ≠ none) {vs : List V} {Ws : List (List (Int × Int))} (h : LsF G H vs Ws) : LsF G (rmv H p) vs Ws := by
  induction h with
  | nil => exact .nil
  | cons f h st r ih => exact .cons f ((rmv_ne (fun e => gp (by rw [← e]; exact f))).trans h) (stI_rmv hp st) ih
theorem RoomK.rmvO {H : Hp} {p : Addr} {zs : List V} (hp : H p = some (.lst zs)) {as : List Ar} {l : List Nat} {M L : Addr} (h : RoomK H as l M L) : RoomK (rmv H p) as l M L := by
  obtain ⟨ks, P, G, A, B, F, h1, h2, h3⟩ := h
  exact ⟨ks, P, G, A, B, F, rmv_get hp h1 nofun, ⟨rmv_get hp h2.d nofun, fun n m => rmv_get hp (h2.a n m) nofun, fun n m => rmv_get hp (h2.b n m) nofun⟩, h3⟩
/-- an island stands without a list that was there before it -/
theorem Isl.less {K : PySem.W.Frag} {G H : Hp} {p : Addr} {zs : List V} {b n t : Addr} {T : Int} {ns ms : List (List Nat)} {ss : List V} {rs : List Row} {m : List Nat → Int} {ts : List Nat} {Ws : List (List (Int × Int))} (il : Isl K H b n t T ns ms ss rs m ts Ws) (f : IslF K G H b Ws) (hp : H p = some (.lst zs)) (gp : G p ≠ none)
    (gn : IsNet (C_Net K) (rmv H p) n T ns ss) (gt : IsTimes (C_Times K) (rmv H p) t T ms m) (gr : Rws (rmv H p) ss rs) : Isl K (rmv H p) b n t T ns ms ss rs m ts Ws ∧ IslF K G (rmv H p) b Ws := by
  obtain ⟨h1, h2, h3, h4, h5, h6, h7, h8, h9, h10, h11, h12, ⟨dx, R, Q, fo, ba, ro, la, vs, M, L, e1, e3, e4, e5, e6, e7, e8, e9, e10⟩⟩ := il
  obtain ⟨dx', n', t', R', Q', fo', ba', ro', la', vs', f1, f2, f3, f4, f5, f6, f7⟩ := f
  rw [e1] at f1
  cases f1
  rw [e3] at f2
  cases f2
  have ne : ∀ {a : Addr}, G a = none → a ≠ p := fun ha e => gp (e ▸ ha)
  have b1 := rmv_get hp e1 nofun
  have b3 : rmv H p R = some (.lst vs) := by rw [rmv_ne (ne f4)]; exact e3
  have lsF := f3.rmvO hp gp
  exact ⟨⟨gn, gt, gr, h4, h5, h6, h7, h8, h9, h10, h11, h12, ⟨dx, R, Q, fo, ba, ro, la, vs, M, L, b1, b3, lsF.any, by rw [rmv_ne (ne f5)]; exact e5, by rw [rmv_ne (ne f6)]; exact e6, by rw [rmv_ne (ne f7)]; exact e7, rmv_get hp e8 nofun, rmv_get hp e9 nofun, fun l hl => (e10 l hl).rmvO hp⟩⟩, ⟨dx, n, t, R, Q, fo, ba, ro, la, vs, b1, b3, lsF, f4, f5, f6, f7⟩⟩
def sp_Island_init (K : PySem.W.Frag) : Sp := fun vs H Q _ => ∃ (x dx n t : Addr) (G : Hp) (T : Int) (ns ms : List (List Nat)) (ss : List V) (rs : List Row) (m : List Nat → Int), vs = [.ref x, .ref n, .ref t] ∧ H x = some (.ins (C_Island K) dx []) ∧ G x = none ∧ Same G H ∧ IsNet (C_Net K) G n T ns ss ∧ IsTimes (C_Times K) G t T ms m ∧ Rws G ss rs ∧ (∀ r ∈ rs, r.u ∈ ns ∧ r.v ∈ ns) ∧ (∀ r ∈ rs, 0 ≤ r.lo ∧ r.hi ≤ r.lo + T - 3) ∧ rs.length ≤ 24 ∧ ns.length ≤ 12 ∧ ns.Nodup ∧ 0 < T ∧ T ≤ 120 ∧ cKept T ns rs T ms m = none ∧
  ∀ ts Ws H', Same G H' → Isl K H' x n t T ns ms ss rs m ts Ws → IslF K G H' x Ws → Q .non H'
abbrev N_Island_init : List Str := ["self", "net", "times", "minutes", "arcs", "found", "span", "passing", "name"]
theorem st_Island_init {a0 a1 a2 : V} : L2.start N_Island_init [a0, a1, a2] = [some a0, some a1, some a2, none, none, none, none, none, none] := rfl
def t_Island_init (K : PySem.W.Frag) : TS :=
  (tSeq ((tAsg ((tCall (sp_kept_minutes K) [] E0 ((tCons (tVar 1) ((tCons (tVar 2) (tNil))))))) (gName 3)))
    ((tSeq ((sFldC (C_Island K) (tVar 0) (tVar 1) "_net"))
    ((tSeq ((sFldC (C_Island K) (tVar 0) (tVar 2) "_times"))
    ((tSeq ((sFldC (C_Island K) (tVar 0) ((tProp (C_Base K) (sp_Base_rings K) [] E0 ((tMake (C_Base K) (sp_Base_init K) [] E0 ((tCons (tVar 1) (tNil))))))) "_rings"))
    ((tSeq ((sFldC (C_Island K) (tVar 0) ((tCall (sp_rounds_on K) [] E0 ((tCons ((tFldC (C_Island K) (tVar 0) "_rings")) ((tCons (tVar 3) ((tCons ((tProp (C_Net K) (sp_Net_round_length K) [] E0 (tVar 1))) (tNil))))))))) "_rounds"))
    ((tSeq ((sFldC (C_Island K) (tVar 0) ((tLc ((iZip K ((tCons ((tProp (C_Net K) (sp_Net_spans K) [] E0 (tVar 1))) ((tCons (tVar 3) (tNil))))))) ((gTup K 2 (gCons (gName 6) (gCons (gName 7) gNil)))) (tYes) ((tOp (rI0 fun i j => .int (i - j)) ((tOp (rIxT K) (tVar 6) (tC (.int 3)))) (tVar 7))) [6, 7])) "_forward"))
    ((tSeq ((sFldC (C_Island K) (tVar 0) ((tLc ((iZip K ((tCons ((tProp (C_Net K) (sp_Net_spans K) [] E0 (tVar 1))) ((tCons (tVar 3) (tNil))))))) ((gTup K 2 (gCons (gName 6) (gCons (gName 7) gNil)))) (tYes) ((tOp (rI0 fun i j => .int (i - j)) (tVar 7) ((tOp (rIxT K) (tVar 6) (tC (.int 2)))))) [6, 7])) "_backward"))
    ((tSeq ((tAsg ((tCall (sp_arcs_of K) [] E0 ((tCons (tVar 1) ((tCons ((tFldC (C_Island K) (tVar 0) "_forward")) ((tCons ((tFldC (C_Island K) (tVar 0) "_backward")) (tNil))))))))) (gName 4)))
    ((tSeq ((tAsg ((tDc ((iOwnL K (C_Net K) "_events" (tVar 1))) ((gName 8)) (tYes) (tVar 8) ((tCall (sp_least_walks K) [] E0 ((tCons (tVar 4) ((tCons (tVar 8) (tNil))))))) [8])) (gName 5)))
    ((tSeq ((sFldC (C_Island K) (tVar 0) ((tLockE (tDc ((iKeys (tVar 5))) ((gName 8)) (tYes) (tVar 8) ((tOp (rIxT K) ((tDGet (tVar 5) (tVar 8))) (tC (.int 0)))) [8]))) "_rooms"))
    ((sFldC (C_Island K) (tVar 0) ((tLockE (tDc ((iKeys (tVar 5))) ((gName 8)) (tYes) (tVar 8) ((tOp (rIxT K) ((tDGet (tVar 5) (tVar 8))) (tC (.int 1)))) [8]))) "_last")))))))))))))))))))))

theorem pure_Island_init (K : PySem.W.Frag) (vs : List V) (H : Hp) (Q : VK) (E : XK) (h : sp_Island_init K vs H Q E) : t_Island_init K { nx := fun _ H' => Q .non H', rt := Q } (L2.start N_Island_init vs) H := by
  obtain ⟨x, dx, n, t, G, T, ns, ms, ss, rs, m, rfl, hx, gx, sG, hn, ht, rws, hin, hb, few, ln, nd, hT, hT2, ec, k⟩ := h
  have elr := rws.len
  rw [st_Island_init]
  unfold t_Island_init
  walk_at "st"
  refine ⟨n, t, T, T, ns, ms, ss, rs, m, rfl, hn.mono sG, ht.mono sG, rws.mono sG, hin, by omega, hT, by omega, (fun er e => by rw [ec] at e; cases e), fun _ M0 H1 fM s1 hM => ?_⟩
  obtain ⟨_, _, al⟩ : T = T ∧ (∀ l ∈ ns, l ∈ ms) ∧ ∀ r ∈ rs, isK T m r = true := by
    unfold cKept at ec
    split at ec
    · cases ec
    · obtain ⟨h1, h2⟩ := Option.or_eq_none_iff.mp ec
      obtain ⟨_, h3⟩ := Option.or_eq_none_iff.mp h2
      exact ⟨rfl, cIn_none h1, brk_all h3⟩
  rw [pas_gvs al] at hM
  have nMx : M0 ≠ x := fun e => by rw [e, hx] at fM; cases fM
  have hx1 := s1 _ _ hx
  have s1 := sG.trans s1
  have lg : (gvs T m rs).length = rs.length := List.length_map ..
  walk_at "st"
  refine sfld_at hx1 (by decide) (gs := isF1 n) rfl ?_
  have s2 := Same.mut (o := .ins (C_Island K) dx (isF1 n)) s1 gx
  have hx2 : upd H1 x (.ins (C_Island K) dx (isF1 n)) x = some (.ins (C_Island K) dx (isF1 n)) := upd_same
  have hM2 : upd H1 x (.ins (C_Island K) dx (isF1 n)) M0 = some (.lst ((gvs T m rs).map V.int)) := by rw [upd_ne nMx]; exact hM
  revert s2 hx2 hM2
  generalize upd H1 x (.ins (C_Island K) dx (isF1 n)) = H2
  intro s2 hx2 hM2
  walk_at "st"
  refine sfld_at hx2 (by simp) (gs := isF2 n t) rfl ?_
  have s3 := Same.mut (o := .ins (C_Island K) dx (isF2 n t)) s2 gx
  have hx3 : upd H2 x (.ins (C_Island K) dx (isF2 n t)) x = some (.ins (C_Island K) dx (isF2 n t)) := upd_same
  have hM3 : upd H2 x (.ins (C_Island K) dx (isF2 n t)) M0 = some (.lst ((gvs T m rs).map V.int)) := by rw [upd_ne nMx]; exact hM2
  revert s3 hx3 hM3
  generalize upd H2 x (.ins (C_Island K) dx (isF2 n t)) = H3
  intro s3 hx3 hM3
  walk_at "st"
  refine c_BaseR (hn.mono s3) (rws.mono s3) hin ln nd (by omega) fun b0 ts Ws H4 s4 br tr => ?_
  walk_at "st"
  refine c_Base_rings br fun R us H5 s5 fR hR ls _ => ?_
  have gR : G R = none := (s3.trans s4).free fR
  have ls := ls.back (s3.trans s4)
  have s35 := s4.trans s5
  have hx5 := s35 _ _ hx3
  have hM5 := s35 _ _ hM3
  have nRx : R ≠ x := fun e => by rw [e, s4 _ _ hx3] at fR; cases fR
  have s5 := s3.trans s35
  have rg := br.rg
  have lnW := rg.len
  have bln := br.len
  have lcl : (clN ts rs.length).length ≤ 24 := Nat.le_trans clN_len (by omega)
  clear br s35 s4 fR
  walk_at "st"
  refine sfld_at hx5 (by simp) (gs := isF3 n t R) rfl ?_
  have s6 := Same.mut (o := .ins (C_Island K) dx (isF3 n t R)) s5 gx
  have hx6 : upd H5 x (.ins (C_Island K) dx (isF3 n t R)) x = some (.ins (C_Island K) dx (isF3 n t R)) := upd_same
  have hM6 : upd H5 x (.ins (C_Island K) dx (isF3 n t R)) M0 = some (.lst ((gvs T m rs).map V.int)) := by rw [upd_ne nMx]; exact hM5
  have hR6 : upd H5 x (.ins (C_Island K) dx (isF3 n t R)) R = some (.lst us) := by rw [upd_ne nRx]; exact hR
  have ls6 := lsF_updI (o := .ins (C_Island K) dx (isF3 n t R)) hx5 ls
  revert s6 hx6 hM6 hR6 ls6
  generalize upd H5 x (.ins (C_Island K) dx (isF3 n t R)) = H6
  intro s6 hx6 hM6 hR6 ls6
  walk_at "st"
  refine ⟨x, dx, _, .ref R, rfl, hx6, rfl, ?_⟩
  walk_at "st"
  refine c_Net_round_length (hn.mono s6) ?_
  walk_at "st"
  refine c_rounds_on hT hT2 hR6 ls6.any (by omega) (fun W hW => ?_) hM6 (by omega) fun Q0 H7 s7 fQ hQ => ?_
  · obtain ⟨i, hi⟩ := List.mem_iff_getElem?.mp hW
    obtain ⟨j, _, rj⟩ := rg.at_ hi
    obtain ⟨_, wk⟩ := rj.wk
    exact ⟨by have := bln W hW; omega, by rw [lg]; exact stp_wk wk⟩
  have gQ : G Q0 = none := s6.free fQ
  have hx7 := s7 _ _ hx6
  have hM7 := s7 _ _ hM6
  have hR7 := s7 _ _ hR6
  have ls7 := ls6.mono s7
  have nQx : Q0 ≠ x := fun e => by rw [e, hx6] at fQ; cases fQ
  have s7 := s6.trans s7
  walk_at "st"
  refine sfld_at hx7 (by simp) (gs := isF4 n t R Q0) rfl ?_
  have s8 := Same.mut (o := .ins (C_Island K) dx (isF4 n t R Q0)) s7 gx
  have hx8 : upd H7 x (.ins (C_Island K) dx (isF4 n t R Q0)) x = some (.ins (C_Island K) dx (isF4 n t R Q0)) := upd_same
  have hM8 : upd H7 x (.ins (C_Island K) dx (isF4 n t R Q0)) M0 = some (.lst ((gvs T m rs).map V.int)) := by rw [upd_ne nMx]; exact hM7
  have hR8 : upd H7 x (.ins (C_Island K) dx (isF4 n t R Q0)) R = some (.lst us) := by rw [upd_ne nRx]; exact hR7
  have hQ8 : upd H7 x (.ins (C_Island K) dx (isF4 n t R Q0)) Q0 = some (.lst ((Ws.map (rnd T m rs)).map V.int)) := by rw [upd_ne nQx]; exact hQ
  have ls8 := lsF_updI (o := .ins (C_Island K) dx (isF4 n t R Q0)) hx7 ls7
  revert s8 hx8 hM8 hR8 hQ8 ls8
  generalize upd H7 x (.ins (C_Island K) dx (isF4 n t R Q0)) = H8
  intro s8 hx8 hM8 hR8 hQ8 ls8
  walk_at "st"
  refine c_Net_spans (hn.mono s8) fun q hq => ?_
  have w9 := Same.new (o := .lst ss) hq
  have hq9 : upd H8 q (.lst ss) q = some (.lst ss) := upd_same
  revert w9 hq9
  generalize upd H8 q (.lst ss) = H9
  intro w9 hq9
  walk_at "st"
  refine lcGZ (sq_of hq9) (sq_of (w9 _ _ hM8)) (by rw [List.length_map, lg]; omega) (by omega) (fun i => (fwd T m (rs.take i)).map V.int) rfl (fun i => by rw [List.length_map, List.length_map, List.length_take]; omega) (fun i v y Tt H20 R0 R1 hv hy s20 hT20 k1 k0 => ?_) (fun fo H20 ffo s20 hfo => ?_)
  · obtain ⟨r, hri, c, rfl, hc⟩ := (rws.mono ((s8.trans w9).trans s20)).at hv
    unfold gvs at hy
    rw [List.getElem?_map, List.getElem?_map, hri] at hy
    cases hy
    have hc : H20 c = some (.tup [sv r.u, sv r.v, .int r.lo, .int r.hi, .int r.w]) := hc
    rw [show wipe [some (V.ref x), some (.ref n), some (.ref t), some (.ref M0), none, none, none, none, none] [6, 7] = [some (V.ref x), some (.ref n), some (.ref t), some (.ref M0), none, none, none, none, none] from rfl]
    walk_at "st"
    refine ⟨rfl, ?_⟩
    walk_at "st"
    exact k1 _ _ (Same.refl _) (by rw [take_snoc hri]; unfold fwd; rw [List.map_append, List.map_append]; rfl)
  rw [elr, List.take_length] at hfo
  have gfo : G fo = none := (s8.trans w9).free ffo
  have nfox : fo ≠ x := fun e => by rw [e, w9 _ _ hx8] at ffo; cases ffo
  have w9 := w9.trans s20
  have hx20 := w9 _ _ hx8
  have hM20 := w9 _ _ hM8
  have hR20 := w9 _ _ hR8
  have hQ20 := w9 _ _ hQ8
  have ls20 := ls8.mono w9
  have s20 := s8.trans w9
  clear w9
  walk_at "st"
  refine sfld_at hx20 (by simp) (gs := isF5 n t R Q0 fo) rfl ?_
  have s10 := Same.mut (o := .ins (C_Island K) dx (isF5 n t R Q0 fo)) s20 gx
  have hx10 : upd H20 x (.ins (C_Island K) dx (isF5 n t R Q0 fo)) x = some (.ins (C_Island K) dx (isF5 n t R Q0 fo)) := upd_same
  have hM10 : upd H20 x (.ins (C_Island K) dx (isF5 n t R Q0 fo)) M0 = some (.lst ((gvs T m rs).map V.int)) := by rw [upd_ne nMx]; exact hM20
  have hR10 : upd H20 x (.ins (C_Island K) dx (isF5 n t R Q0 fo)) R = some (.lst us) := by rw [upd_ne nRx]; exact hR20
  have hQ10 : upd H20 x (.ins (C_Island K) dx (isF5 n t R Q0 fo)) Q0 = some (.lst ((Ws.map (rnd T m rs)).map V.int)) := by rw [upd_ne nQx]; exact hQ20
  have hfo10 : upd H20 x (.ins (C_Island K) dx (isF5 n t R Q0 fo)) fo = some (.lst ((fwd T m rs).map V.int)) := by rw [upd_ne nfox]; exact hfo
  have ls10 := lsF_updI (o := .ins (C_Island K) dx (isF5 n t R Q0 fo)) hx20 ls20
  revert s10 hx10 hM10 hR10 hQ10 hfo10 ls10
  generalize upd H20 x (.ins (C_Island K) dx (isF5 n t R Q0 fo)) = H10
  intro s10 hx10 hM10 hR10 hQ10 hfo10 ls10
  walk_at "st"
  refine c_Net_spans (hn.mono s10) fun q hq => ?_
  have w11 := Same.new (o := .lst ss) hq
  have hq11 : upd H10 q (.lst ss) q = some (.lst ss) := upd_same
  revert w11 hq11
  generalize upd H10 q (.lst ss) = H11
  intro w11 hq11
  walk_at "st"
  refine lcGZ (sq_of hq11) (sq_of (w11 _ _ hM10)) (by rw [List.length_map, lg]; omega) (by omega) (fun i => (bwd T m (rs.take i)).map V.int) rfl (fun i => by rw [List.length_map, List.length_map, List.length_take]; omega) (fun i v y Tt H20 R0 R1 hv hy s20 hT20 k1 k0 => ?_) (fun ba H20 fba s20 hba => ?_)
  · obtain ⟨r, hri, c, rfl, hc⟩ := (rws.mono ((s10.trans w11).trans s20)).at hv
    unfold gvs at hy
    rw [List.getElem?_map, List.getElem?_map, hri] at hy
    cases hy
    have hc : H20 c = some (.tup [sv r.u, sv r.v, .int r.lo, .int r.hi, .int r.w]) := hc
    rw [show wipe [some (V.ref x), some (.ref n), some (.ref t), some (.ref M0), none, none, none, none, none] [6, 7] = [some (V.ref x), some (.ref n), some (.ref t), some (.ref M0), none, none, none, none, none] from rfl]
    walk_at "st"
    refine ⟨rfl, ?_⟩
    walk_at "st"
    exact k1 _ _ (Same.refl _) (by rw [take_snoc hri]; unfold bwd; rw [List.map_append, List.map_append]; rfl)
  rw [elr, List.take_length] at hba
  have gba : G ba = none := (s10.trans w11).free fba
  have nbax : ba ≠ x := fun e => by rw [e, w11 _ _ hx10] at fba; cases fba
  have w11 := w11.trans s20
  have hx20 := w11 _ _ hx10
  have hR20 := w11 _ _ hR10
  have hQ20 := w11 _ _ hQ10
  have hfo20 := w11 _ _ hfo10
  have ls20 := ls10.mono w11
  have s20 := s10.trans w11
  clear w11
  walk_at "st"
  refine sfld_at hx20 (by simp) (gs := isF6 n t R Q0 fo ba) rfl ?_
  have s12 := Same.mut (o := .ins (C_Island K) dx (isF6 n t R Q0 fo ba)) s20 gx
  have hx12 : upd H20 x (.ins (C_Island K) dx (isF6 n t R Q0 fo ba)) x = some (.ins (C_Island K) dx (isF6 n t R Q0 fo ba)) := upd_same
  have hR12 : upd H20 x (.ins (C_Island K) dx (isF6 n t R Q0 fo ba)) R = some (.lst us) := by rw [upd_ne nRx]; exact hR20
  have hQ12 : upd H20 x (.ins (C_Island K) dx (isF6 n t R Q0 fo ba)) Q0 = some (.lst ((Ws.map (rnd T m rs)).map V.int)) := by rw [upd_ne nQx]; exact hQ20
  have hfo12 : upd H20 x (.ins (C_Island K) dx (isF6 n t R Q0 fo ba)) fo = some (.lst ((fwd T m rs).map V.int)) := by rw [upd_ne nfox]; exact hfo20
  have hba12 : upd H20 x (.ins (C_Island K) dx (isF6 n t R Q0 fo ba)) ba = some (.lst ((bwd T m rs).map V.int)) := by rw [upd_ne nbax]; exact hba
  have ls12 := lsF_updI (o := .ins (C_Island K) dx (isF6 n t R Q0 fo ba)) hx20 ls20
  revert s12 hx12 hR12 hQ12 hfo12 hba12 ls12
  generalize upd H20 x (.ins (C_Island K) dx (isF6 n t R Q0 fo ba)) = H12
  intro s12 hx12 hR12 hQ12 hfo12 hba12 ls12
  walk_at "st"
  refine ⟨x, dx, _, .ref fo, rfl, hx12, rfl, ?_⟩
  walk_at "st"
  refine ⟨x, dx, _, .ref ba, rfl, hx12, rfl, ?_⟩
  walk_at "st"
  refine c_arcs_of (hn.mono s12) (rws.mono s12) (by omega) hfo12 hba12 (by rw [List.length_map]; omega) (by rw [List.length_map]; omega) fun L0 xs H13 w13 fL hL ar => ?_
  have ar := ar.any
  have elx := ar.len
  have hx13 := w13 _ _ hx12
  have hR13 := w13 _ _ hR12
  have hQ13 := w13 _ _ hQ12
  have hfo13 := w13 _ _ hfo12
  have hba13 := w13 _ _ hba12
  have ls13 := ls12.mono w13
  have s13 := s12.trans w13
  have n13 := hn.mono s13
  obtain ⟨dn, le, lz, q1, q2, q3⟩ := n13
  walk_at "st"
  refine wp_dcOwnL ?_
  walk_at "st"
  refine dcOwn q1 lk_e (sq_of q2) (dcAllN [some (V.ref x), some (.ref n), some (.ref t), some (.ref M0), some (.ref L0), none, none, none, none] rfl nd (sq_of q2) (by omega) (fun i f G' => ∀ l ∈ ns.take i, ∃ D M L, f l = .ref D ∧ G' D = some (.tup [.ref M, .ref L, .non]) ∧ RoomK G' (slA T m rs) l M L) (fun _ => .non) (fun _ _ l hl => by simp at hl) (fun i l f D H14 R2 hl sG hD hI k1 => ?_) (fun D f H14 fD sG hD hI => ?_))
  · have sA := sG.trans rmv_sub
    walk_at "st"
    refine ⟨rfl, ?_⟩
    walk_at "st"
    refine c_least_walksG (sA _ _ hL) (ar.mono sA) (slA_ok hin hb al hT hT2) ln fun D1 dm dl ks P G0 A B F H15 s15 fD1 fm fl hD1 hdm bd sm lk tg => ?_
    have hD15 := s15 _ _ hD
    have nm : dm ≠ D := fun e => by rw [e, hD] at fm; cases fm
    have nl : dl ≠ D := fun e => by rw [e, hD] at fl; cases fl
    refine k1 (.ref D1) H15 s15 fun y hy => ?_
    by_cases c : y = l
    · rw [c, up1_eq]
      exact ⟨D1, dm, dl, rfl, rmv_get hD15 hD1 nofun, ⟨ks, P, G0, A, B, F, by rw [rmv_ne nm]; exact hdm, bd.rmvD hD15 nl, sm, lk, tg⟩⟩
    · rw [take_snoc hl] at hy
      obtain ⟨D2, M2, L2, e1, e2, e3⟩ := hI y ((List.mem_append.mp hy).resolve_right fun z => c (List.mem_singleton.mp z))
      rw [up1_ne c]
      exact ⟨D2, M2, L2, e1, rmv_mono s15 _ _ e2, e3.mono (rmv_mono s15)⟩
  rw [List.take_length] at hI
  obtain ⟨Df, Mf, Lf, hI⟩ := choose3 (q := fun l => l ∈ ns) hI
  have sA := sG.trans rmv_sub
  have hI : ∀ l ∈ ns, f l = .ref (Df l) ∧ H14 (Df l) = some (.tup [.ref (Mf l), .ref (Lf l), .non]) ∧ RoomK H14 (slA T m rs) l (Mf l) (Lf l) := fun l hl => ⟨(hI l hl).1, rmv_sub _ _ (hI l hl).2.1, (hI l hl).2.2.mono rmv_sub⟩
  rw [dN_congr (g := fun l => .ref (Df l)) fun l hl => (hI l hl).1] at hD
  have hx14 := sA _ _ hx13
  have nDx : D ≠ x := fun e => by rw [e, hx13] at fD; cases fD
  have hR14 := sA _ _ hR13
  have hQ14 := sA _ _ hQ13
  have hfo14 := sA _ _ hfo13
  have hba14 := sA _ _ hba13
  have ls14 := ls13.mono sA
  have s14 := s13.trans sA
  have hI : ∀ l ∈ ns, H14 (Df l) = some (.tup [.ref (Mf l), .ref (Lf l), .non]) ∧ RoomK H14 (slA T m rs) l (Mf l) (Lf l) := fun l hl => (hI l hl).2
  walk_at "st"
  refine lock_dcN [some (.ref x), some (.ref n), some (.ref t), some (.ref M0), some (.ref L0), some (.ref D), none, none, none] (fun l => .ref (Mf l)) rfl nd hD (by omega) (fun od R9 q9 => ?_) (fun i l od H2 R9 hl s9 kR => ?_) (fun ro H16 fro w16 hro => ?_)
  · walk_at "st"
    exact q9
  · have ml := List.mem_of_getElem? hl
    have hT9 := frz_ne hD s9 (hI l ml).1 (by intro z y; cases y)
    walk_at "st"
    refine ⟨rfl, ?_⟩
    walk_at "st"
    refine dget_s (.inr ⟨od, frz_at s9⟩) (dN_val ml) ?_
    walk_at "st"
    exact kR _ (Same.refl _)
  have nrx : ro ≠ x := fun e => by rw [e, hx14] at fro; cases fro
  have hx16 := w16 _ _ hx14
  have hR16 := w16 _ _ hR14
  have hQ16 := w16 _ _ hQ14
  have hfo16 := w16 _ _ hfo14
  have hba16 := w16 _ _ hba14
  have ls16 := ls14.mono w16
  have hD16 := w16 _ _ hD
  have hI16 : ∀ l ∈ ns, H16 (Df l) = some (.tup [.ref (Mf l), .ref (Lf l), .non]) ∧ RoomK H16 (slA T m rs) l (Mf l) (Lf l) := fun l hl => ⟨w16 _ _ (hI l hl).1, (hI l hl).2.mono w16⟩
  have s16 := s14.trans w16
  walk_at "st"
  refine sfld_at hx16 (by simp) (gs := isF7 n t R Q0 fo ba ro) rfl ?_
  have s17 := Same.mut (o := .ins (C_Island K) dx (isF7 n t R Q0 fo ba ro)) s16 gx
  have hx17 : upd H16 x (.ins (C_Island K) dx (isF7 n t R Q0 fo ba ro)) x = some (.ins (C_Island K) dx (isF7 n t R Q0 fo ba ro)) := upd_same
  have hR17 : upd H16 x (.ins (C_Island K) dx (isF7 n t R Q0 fo ba ro)) R = some (.lst us) := by rw [upd_ne nRx]; exact hR16
  have hQ17 : upd H16 x (.ins (C_Island K) dx (isF7 n t R Q0 fo ba ro)) Q0 = some (.lst ((Ws.map (rnd T m rs)).map V.int)) := by rw [upd_ne nQx]; exact hQ16
  have hfo17 : upd H16 x (.ins (C_Island K) dx (isF7 n t R Q0 fo ba ro)) fo = some (.lst ((fwd T m rs).map V.int)) := by rw [upd_ne nfox]; exact hfo16
  have hba17 : upd H16 x (.ins (C_Island K) dx (isF7 n t R Q0 fo ba ro)) ba = some (.lst ((bwd T m rs).map V.int)) := by rw [upd_ne nbax]; exact hba16
  have hD17 : upd H16 x (.ins (C_Island K) dx (isF7 n t R Q0 fo ba ro)) D = some (.dK (dN (fun l => .ref (Df l)) ns)) := by rw [upd_ne nDx]; exact hD16
  have hro17 : upd H16 x (.ins (C_Island K) dx (isF7 n t R Q0 fo ba ro)) ro = some (.dK (dN (fun l => .ref (Mf l)) ns)) := by rw [upd_ne nrx]; exact hro
  have ls17 := lsF_updI (o := .ins (C_Island K) dx (isF7 n t R Q0 fo ba ro)) hx16 ls16
  have hI17 := up_room (o := .ins (C_Island K) dx (isF7 n t R Q0 fo ba ro)) hx16 hI16
  revert s17 hx17 hR17 hQ17 hfo17 hba17 hD17 hro17 ls17 hI17
  generalize upd H16 x (.ins (C_Island K) dx (isF7 n t R Q0 fo ba ro)) = H17
  intro s17 hx17 hR17 hQ17 hfo17 hba17 hD17 hro17 ls17 hI17
  walk_at "st"
  refine lock_dcN [some (.ref x), some (.ref n), some (.ref t), some (.ref M0), some (.ref L0), some (.ref D), none, none, none] (fun l => .ref (Lf l)) rfl nd hD17 (by omega) (fun od R9 q9 => ?_) (fun i l od H2 R9 hl s9 kR => ?_) (fun la H18 fla w18 hla => ?_)
  · walk_at "st"
    exact q9
  · have ml := List.mem_of_getElem? hl
    have hT9 := frz_ne hD17 s9 (hI17 l ml).1 (by intro z y; cases y)
    walk_at "st"
    refine ⟨rfl, ?_⟩
    walk_at "st"
    refine dget_s (.inr ⟨od, frz_at s9⟩) (dN_val ml) ?_
    walk_at "st"
    exact kR _ (Same.refl _)
  have nlx : la ≠ x := fun e => by rw [e, hx17] at fla; cases fla
  have hx18 := w18 _ _ hx17
  have hR18 := w18 _ _ hR17
  have hQ18 := w18 _ _ hQ17
  have hfo18 := w18 _ _ hfo17
  have hba18 := w18 _ _ hba17
  have ls18 := ls17.mono w18
  have hro18 := w18 _ _ hro17
  have hI18 : ∀ l ∈ ns, H18 (Df l) = some (.tup [.ref (Mf l), .ref (Lf l), .non]) ∧ RoomK H18 (slA T m rs) l (Mf l) (Lf l) := fun l hl => ⟨w18 _ _ (hI17 l hl).1, (hI17 l hl).2.mono w18⟩
  have s18 := s17.trans w18
  walk_at "st"
  refine sfld_at hx18 (by simp) (gs := isF8 n t R Q0 fo ba ro la) rfl ?_
  have s19 := Same.mut (o := .ins (C_Island K) dx (isF8 n t R Q0 fo ba ro la)) s18 gx
  have hx19 : upd H18 x (.ins (C_Island K) dx (isF8 n t R Q0 fo ba ro la)) x = some (.ins (C_Island K) dx (isF8 n t R Q0 fo ba ro la)) := upd_same
  have hR19 : upd H18 x (.ins (C_Island K) dx (isF8 n t R Q0 fo ba ro la)) R = some (.lst us) := by rw [upd_ne nRx]; exact hR18
  have hQ19 : upd H18 x (.ins (C_Island K) dx (isF8 n t R Q0 fo ba ro la)) Q0 = some (.lst ((Ws.map (rnd T m rs)).map V.int)) := by rw [upd_ne nQx]; exact hQ18
  have hfo19 : upd H18 x (.ins (C_Island K) dx (isF8 n t R Q0 fo ba ro la)) fo = some (.lst ((fwd T m rs).map V.int)) := by rw [upd_ne nfox]; exact hfo18
  have hba19 : upd H18 x (.ins (C_Island K) dx (isF8 n t R Q0 fo ba ro la)) ba = some (.lst ((bwd T m rs).map V.int)) := by rw [upd_ne nbax]; exact hba18
  have hro19 : upd H18 x (.ins (C_Island K) dx (isF8 n t R Q0 fo ba ro la)) ro = some (.dK (dN (fun l => .ref (Mf l)) ns)) := by rw [upd_ne nrx]; exact hro18
  have hla19 : upd H18 x (.ins (C_Island K) dx (isF8 n t R Q0 fo ba ro la)) la = some (.dK (dN (fun l => .ref (Lf l)) ns)) := by rw [upd_ne nlx]; exact hla
  have ls19 := lsF_updI (o := .ins (C_Island K) dx (isF8 n t R Q0 fo ba ro la)) hx18 ls18
  have hI19 := up_room (o := .ins (C_Island K) dx (isF8 n t R Q0 fo ba ro la)) hx18 hI18
  revert s19 hx19 hR19 hQ19 hfo19 hba19 hro19 hla19 ls19 hI19
  generalize upd H18 x (.ins (C_Island K) dx (isF8 n t R Q0 fo ba ro la)) = H19
  intro s19 hx19 hR19 hQ19 hfo19 hba19 hro19 hla19 ls19 hI19
  exact k ts Ws H19 s19 ⟨hn.mono s19, ht.mono s19, rws.mono s19, hin, few, ln, nd, hT, hT2, ec, tr, rg, ⟨dx, R, Q0, fo, ba, ro, la, us, Mf, Lf, hx19, hR19, ls19.any, hQ19, hfo19, hba19, hro19, hla19, fun l hl => (hI19 l hl).2⟩⟩ ⟨dx, n, t, R, Q0, fo, ba, ro, la, us, hx19, hR19, ls19, gR, gQ, gfo, gba⟩
theorem len_Island_init (K : PySem.W.Frag) (vs : List V) (H : Hp) (Q : VK) (E : XK) (h : sp_Island_init K vs H Q E) : vs.length = 3 := by
  obtain ⟨_, _, _, _, _, _, _, _, _, _, _, rfl, _⟩ := h
  rfl
theorem c_Island {K : PySem.W.Frag} {n t : Addr} {T : Int} {ns ms : List (List Nat)} {ss : List V} {rs : List Row} {m : List Nat → Int} {H : Hp} {Q : VK} {E : XK} (hn : IsNet (C_Net K) H n T ns ss) (ht : IsTimes (C_Times K) H t T ms m) (rws : Rws H ss rs) (hin : ∀ r ∈ rs, r.u ∈ ns ∧ r.v ∈ ns) (hb : ∀ r ∈ rs, 0 ≤ r.lo ∧ r.hi ≤ r.lo + T - 3) (few : rs.length ≤ 24) (ln : ns.length ≤ 12) (nd : ns.Nodup) (hT : 0 < T) (hT2 : T ≤ 120) (ec : cKept T ns rs T ms m = none)
    (k : ∀ b ts Ws H', Same H H' → Isl K H' b n t T ns ms ss rs m ts Ws → IslF K H H' b Ws → Q (.ref b) H') : MkW (C_Island K) (sp_Island_init K) E Q [.ref n, .ref t] H := by
  intro x dx hx hdx ne
  have s1 : Same H (upd (upd H dx (.own x)) x (.ins (C_Island K) dx [])) := (Same.new hdx).trans (Same.new (by rw [upd_ne ne.symm]; exact hx))
  exact ⟨x, dx, n, t, H, T, ns, ms, ss, rs, m, rfl, upd_same, hx, s1, hn, ht, rws, hin, hb, few, ln, nd, hT, hT2, ec, fun ts Ws H' s b f => ⟨rfl, k x ts Ws H' s b f⟩⟩
theorem room_of {as : List Ar} {ns : List (List Nat)} {R : List Nat → List Nat → Option Int} (l : Lst as ns R) {a : List Nat} (ha : a ∈ ns) {ks : List (List Nat)} {P : List Nat → List Nat} {G : List Nat → Int × Int} {F : List Nat → Int} (s : Sml as a P G F ks) (t : Tgt as a F ks) (b : List Nat) : (valV (dN (fun x => .int (F x)) (a :: ks)) (.inr (S b))).getD .non = oV (R a b) := by
  rw [l.at_ ha s t b]
  by_cases h : b ∈ a :: ks
  · rw [dN_val h, if_pos h]; rfl
  · rw [dN_none h, if_neg h]; rfl
def sp_Island_room (K : PySem.W.Frag) : Sp := fun vs H Q _ => ∃ (b n t : Addr) (x y : List Nat) (T : Int) (ns ms : List (List Nat)) (ss : List V) (rs : List Row) (m : List Nat → Int) (ts : List Nat) (Ws : List (List (Int × Int))) (R : List Nat → List Nat → Option Int), vs = [.ref b, .str (S x), .str (S y)] ∧ Isl K H b n t T ns ms ss rs m ts Ws ∧ Lst (slA T m rs) ns R ∧ (∀ l ∈ [x, y], l ∈ ns) ∧
  ∀ H', Same H H' → Q (oV (R x y)) H'
abbrev N_Island_room : List Str := ["self", "first", "second"]
theorem st_Island_room {a0 a1 a2 : V} : L2.start N_Island_room [a0, a1, a2] = [some a0, some a1, some a2] := rfl
def t_Island_room (K : PySem.W.Frag) : TS :=
  (tSeq ((tDrop ((tCall (sp_check_known K) [] E0 ((tCons ((tLst ((tCons (tVar 1) ((tCons (tVar 2) (tNil))))))) ((tCons ((tFldC (C_Island K) (tVar 0) "_net")) (tNil)))))))))
    ((tRet ((tDGet1 ((tDGet ((tFldC (C_Island K) (tVar 0) "_rooms")) (tVar 1))) (tVar 2))))))

theorem pure_Island_room (K : PySem.W.Frag) (vs : List V) (H : Hp) (Q : VK) (E : XK) (h : sp_Island_room K vs H Q E) : t_Island_room K { nx := fun _ H' => Q .non H', rt := Q } (L2.start N_Island_room vs) H := by
  obtain ⟨b, n, t, x, y, T, ns, ms, ss, rs, m, ts, Ws, R, rfl, il, ls, hm, k⟩ := h
  have hn := il.nt
  obtain ⟨dx, Rg, Q0, fo, ba, ro, la, us, M, L, e1, e3, e4, e5, e6, e7, e8, e9, e10⟩ := il.ex
  have mx := hm x (by simp)
  rw [st_Island_room]
  unfold t_Island_room
  walk_at "st"
  refine ⟨by simp [sizeLine_eq], fun q hq => ?_⟩
  have s1 := Same.new (o := .lst ([x, y].map sv)) hq
  have hq1 : upd H q (.lst ([x, y].map sv)) q = some (.lst ([x, y].map sv)) := upd_same
  show tCons _ _ _ (upd H q (.lst ([x, y].map sv))) _
  revert s1 hq1
  generalize upd H q (.lst ([x, y].map sv)) = H1
  intro s1 hq1
  have f1 := s1 _ _ e1
  walk_at "st"
  refine ⟨b, dx, _, .ref n, rfl, f1, rfl, ?_⟩
  walk_at "st"
  refine c_check_knownY hq1 (.inr (.inr ⟨T, ss, hn.mono s1⟩)) hm ?_
  obtain ⟨ks, P, G, A, B, F, r1, _, r3, _, r5⟩ := ((e10 x mx).mono s1).ex
  walk_at "st"
  refine wp_dget1 ?_
  walk_at "st"
  refine ⟨b, dx, _, .ref ro, rfl, f1, rfl, ?_⟩
  walk_at "st"
  refine dget_s (.inl (s1 _ _ e8)) (dN_val mx) ?_
  refine isd_at (.inl r1) ?_
  walk_at "st"
  refine dg_s (.inl r1) ?_
  rw [room_of ls mx r3 r5]
  walk_at "st"
  exact k H1 s1
theorem len_Island_room (K : PySem.W.Frag) (vs : List V) (H : Hp) (Q : VK) (E : XK) (h : sp_Island_room K vs H Q E) : vs.length = 3 := by
  obtain ⟨_, _, _, _, _, _, _, _, _, _, _, _, _, _, rfl, _⟩ := h
  rfl
theorem c_Island_room {K : PySem.W.Frag} {b n t : Addr} {x y : List Nat} {T : Int} {ns ms : List (List Nat)} {ss : List V} {rs : List Row} {m : List Nat → Int} {ts : List Nat} {Ws : List (List (Int × Int))} {R : List Nat → List Nat → Option Int} {H : Hp} {Q : VK} {E : XK} (il : Isl K H b n t T ns ms ss rs m ts Ws) (ls : Lst (slA T m rs) ns R) (hx : x ∈ ns) (hy : y ∈ ns)
    (k : ∀ H', Same H H' → Q (oV (R x y)) H') : sp_Island_room K [.ref b, .str (S x), .str (S y)] H Q E := ⟨b, n, t, x, y, T, ns, ms, ss, rs, m, ts, Ws, R, rfl, il, ls, by
  intro l hl
  simp only [List.mem_cons, List.not_mem_nil, or_false] at hl
  rcases hl with rfl | rfl
  · exact hx
  · exact hy, k⟩
def sp_Times_init (K : PySem.W.Frag) : Sp := fun vs H Q _ => ∃ (x dx : Addr) (T : Int) (d : Addr) (ns : List (List Nat)) (m : List Nat → Int), vs = [.ref x, .int T, .ref d] ∧ H x = some (.ins (C_Times K) dx []) ∧ H d = some (.dK (mD m ns)) ∧ OkTm T ns m ∧
  ∀ (c : Addr) H', H' x = some (.ins (C_Times K) dx (tmF T c)) → H' c = some (.dK (mD m ns)) → H c = none → (∀ a o, a ≠ x → H a = some o → H' a = some o) → Q .non H'
abbrev N_Times_init : List Str := ["self", "round_length", "minutes", "name", "minute"]
theorem st_Times_init {a0 a1 a2 : V} : L2.start N_Times_init [a0, a1, a2] = [some a0, some a1, some a2, none, none] := rfl
def t_Times_init (K : PySem.W.Frag) : TS :=
  (tSeq ((tDrop ((tCall (sp_check_round_length K) [] E0 ((tCons (tVar 1) (tNil)))))))
    ((tSeq ((tLock (tFor ((iItems (tVar 2))) (gTup K 2 (gCons (gName 3) (gCons (gName 4) gNil))) ((tSeq ((tDrop ((tCall (sp_check_name K) [] E0 ((tCons (tVar 3) (tNil)))))))
    ((tDrop ((tCall (sp_check_range K) [] E0 ((tCons (tVar 4) ((tCons (tC (.int 0)) ((tCons ((tOp (rI0 fun i j => .int (i - j)) (tVar 1) (tC (.int 1)))) (tNil))))))))))))))))
    ((tSeq ((sFldC (C_Times K) (tVar 0) (tVar 1) "_round_length"))
    ((sFldC (C_Times K) (tVar 0) ((tCB rDictOf ((tCons (tVar 2) (tNil))))) "_minutes")))))))

theorem pure_Times_init (K : PySem.W.Frag) (vs : List V) (H : Hp) (Q : VK) (E : XK) (h : sp_Times_init K vs H Q E) : t_Times_init K { nx := fun _ H' => Q .non H', rt := Q } (L2.start N_Times_init vs) H := by
  obtain ⟨x, dx, T, d, ns, m, rfl, hx, hd, ok, k⟩ := h
  rw [st_Times_init]
  unfold t_Times_init
  unfold mD at hd
  have ndx : d ≠ x := fun h => by rw [h, hx] at hd; cases hd
  walk_at "st"
  refine c_check_round_length ⟨ok.t0, ok.t1⟩ ?_
  walk_at "st"
  refine wp_lock hd fun od => ?_
  walk_at "st"
  refine loopItemsN upd_same (fun i σ' H' => ∃ a b, σ' = [some (.ref x), some (.int T), some (.ref d), a, b] ∧ Same (upd H d (.frz od (.dK (dN (fun l => .int (m l)) ns)))) H') ⟨_, _, rfl, Same.refl _⟩ ?_ ?_ ?_
  · rintro i σ' H' _ ⟨_, _, rfl, s⟩
    exact s _ _ upd_same
  · rintro i l q σ' H' hl ⟨a, b, rfl, s⟩ hq
    have hln := List.mem_of_getElem? hl
    walk_at "st"
    refine c_check_name (ok.nm l hln) fun H4 s4 => ?_
    walk_at "st"
    refine c_check_range ⟨ok.m0 l hln, ok.m1 l hln⟩ ?_
    walk_at "st"
    exact ⟨_, _, rfl, (s.trans (Same.new hq)).trans s4⟩
  · rintro σ' H1 ⟨_, _, rfl, s⟩
    refine ⟨s _ _ upd_same, ?_⟩
    have s2 := unl hd s
    generalize upd H1 d (.dK (dN (fun l => .int (m l)) ns)) = H2 at *
    walk_at "st"
    refine sfld_at (s2 _ _ hx) (by decide) pt_1 ?_
    walk_at "st"
    refine wp_dictOf (.inl (by rw [upd_ne ndx]; exact s2 _ _ hd)) fun c hc => ?_
    have ncx : c ≠ x := fun h => by rw [h, upd_same] at hc; cases hc
    rw [upd_ne ncx] at hc
    walk_at "st"
    refine sfld_at (by rw [upd_ne ncx.symm]; exact upd_same) (by simp) pt_m2 ?_
    refine k c _ upd_same (by rw [upd_ne ncx]; exact upd_same) (s2.free hc) fun a o ha h => ?_
    have h2 := s2 _ _ h
    rw [upd_ne ha, upd_ne (ne_of_none h2 hc), upd_ne ha]
    exact h2
theorem len_Times_init (K : PySem.W.Frag) (vs : List V) (H : Hp) (Q : VK) (E : XK) (h : sp_Times_init K vs H Q E) : vs.length = 3 := by
  obtain ⟨n, m, ms, a, b, c, rfl, _⟩ := h
  rfl
theorem c_TimesG {K : PySem.W.Frag} {G H : Hp} {T : Int} {d : Addr} {ns : List (List Nat)} {m : List Nat → Int} {Q : VK} {E : XK} (sub : Same G H) (hd : H d = some (.dK (mD m ns))) (ok : OkTm T ns m)
    (k : ∀ a G' H', Same G G' → Same G' H' → Same H H' → (∀ q o, H q = some o → G q = none → G' q = none) → IsTimes (C_Times K) G' a T ns m → Q (.ref a) H') : MkW (C_Times K) (sp_Times_init K) E Q [.int T, .ref d] H := by
  intro x dx hx hdx nd
  have s1 : Same H (upd (upd H dx (.own x)) x (.ins (C_Times K) dx [])) := (Same.new hdx).trans (Same.new (by rw [upd_ne nd.symm]; exact hx))
  refine ⟨x, dx, T, d, ns, m, rfl, upd_same, s1 _ _ hd, ok, fun c H' h1 h2 h4 h7 => ⟨rfl, ?_⟩⟩
  have ncx : c ≠ x := fun h => by rw [h, upd_same] at h4; cases h4
  have fl := s1.free h4
  have sH : Same H H' := fun a o h => h7 a o (ne_of_none h hx) (s1 _ _ h)
  have gx := sub.free hx
  have gl := sub.free fl
  have sG : Same G (upd (upd G x (.ins (C_Times K) dx (tmF T c))) c (.dK (mD m ns))) := (Same.new gx).trans (Same.new (by rw [upd_ne ncx]; exact gl))
  refine k x (upd (upd G x (.ins (C_Times K) dx (tmF T c))) c (.dK (mD m ns))) H' sG (fun a o ha => ?_) sH (fun q o hq hG => ?_) ⟨dx, c, by rw [upd_ne ncx.symm]; exact upd_same, upd_same⟩
  · by_cases e1 : a = c
    · subst e1; rw [upd_same] at ha; cases ha; exact h2
    · rw [upd_ne e1] at ha
      by_cases e3 : a = x
      · subst e3; rw [upd_same] at ha; cases ha; exact h1
      · rw [upd_ne e3] at ha
        exact sH _ _ (sub _ _ ha)
  · rw [upd_ne (ne_of_none hq fl), upd_ne (ne_of_none hq hx)]; exact hG
theorem c_Times {K : PySem.W.Frag} {P : Pl} {G H : Hp} {T : Int} {d : Addr} {ns : List (List Nat)} {m : List Nat → Int} {Q : VK} {E : XK} (hs : Sees P G H) (hd : H d = some (.dK (mD m ns))) (ok : OkTm T ns m)
    (k : ∀ a G' H', Same G G' → Same H H' → (∀ q o, H q = some o → G q = none → G' q = none) → IsTimes (C_Times K) G' a T ns m → Sees P G' H' → Q (.ref a) H') : MkW (C_Times K) (sp_Times_init K) E Q [.int T, .ref d] H :=
  c_TimesG hs.sub hd ok fun a G' H' s1 s2 s3 kp n => k a G' H' s1 s3 kp n (hs.grow s1 s2 s3 kp)
def sp_l_pool (K : PySem.W.Frag) : Sp := fun vs H Q _ => ∃ (a : Addr) (ns : List Int), vs = [.ref a] ∧ SqL K H a (ns.map V.int) ∧ ns.length ≤ 63 ∧ ∀ (P : Pl) (G H' : Hp), Same H G → Sees P G H' → Q (.ref P.p) H'
abbrev N_l_pool : List Str := ["_law_script", "_law_cells", "_law_number", "_law_cell"]
theorem st_l_pool {a0 : V} : L2.start N_l_pool [a0] = [some a0, none, none, none] := rfl
def t_l_pool (K : PySem.W.Frag) : TS :=
  (tSeq ((tAsg (tLc ((iList K (tVar 0))) ((gName 3)) (tYes) ((tCB rInt1 ((tCons (tVar 3) (tNil))))) [3]) (gName 1)))
    ((tSeq ((tAsg (tC (.int 0)) (gName 2)))
    ((tSeq ((tIfS ((tAnd ((tTest (tOp (rI0 fun i j => .bl (decide (j < i))) ((tCB (rLenS K) ((tCons (tVar 1) (tNil))))) (tC (.int 0))))) ((tTest (tOp (rI0 fun i j => .bl (decide (j ≤ i))) ((tOp (rIxL K) (tVar 1) (tC (.int 0)))) ((tOp (rI CPow fun i j => .int (i ^ j.toNat)) (tC (.int 10)) (tC (.int 18))))))))) ((tAsg ((tOp (rIxL K) (tVar 1) (tC (.int 0)))) (gName 2))) (tNext)))
    ((tRet ((tLst ((tCons (tVar 2) ((tCons (tC (.int 0)) ((tCons (tVar 1) (tNil))))))))))))))))

theorem pure_l_pool (K : PySem.W.Frag) (vs : List V) (H : Hp) (Q : VK) (E : XK) (h : sp_l_pool K vs H Q E) : t_l_pool K { nx := fun _ H' => Q .non H', rt := Q } (L2.start N_l_pool vs) H := by
  obtain ⟨a, ns, rfl, hx, hn, k⟩ := h
  rw [st_l_pool]
  unfold t_l_pool
  walk_at "st"
  refine lcMapL hx (by rw [List.length_map]; omega) (fun x => [some (.ref a), none, none, some x]) (fun x => ⟨rfl, rfl⟩) id (fun x H2 hxm _ R hR => ?_) (fun D H2 hD s2 hl => ?_)
  · obtain ⟨n, _, rfl⟩ := List.mem_map.mp hxm
    walk_at "st"
    exact hR _ (Same.refl _)
  rw [List.map_id] at hl
  have fin : ∀ n : Int, [V.int n, V.int 0, V.ref D].length ≤ sizeLine ∧ ∀ p, H2 p = none → Q (.ref p) (upd H2 p (.lst [V.int n, V.int 0, V.ref D])) := fun n => ⟨szl (by simp), fun p hp => by
    have e : D ≠ p := ne_of_none hl hp
    exact k ⟨p, D, ns⟩ H2 _ s2 ⟨⟨n, 0, upd_same⟩, hl, hn, hp, Same.new hp⟩⟩
  walk_at "st"
  refine ite_dec (fun h1 => ?_) (fun h1 => ?_)
  · walk_at "st"
    refine wp_ixLI (by walk_at "sq") (by omega) h1 fun x _ => ?_
    walk_at "st"
    refine ite_dec (fun h2 => ?_) (fun h2 => ?_)
    · walk_at "st"
      refine wp_ixLI (by walk_at "sq") (by omega) h1 fun y _ => ?_
      walk_at "st"
      exact fin _
    · walk_at "st"
      exact fin _
  · walk_at "st"
    exact fin _
theorem len_l_pool (K : PySem.W.Frag) (vs : List V) (H : Hp) (Q : VK) (E : XK) (h : sp_l_pool K vs H Q E) : vs.length = 1 := by
  obtain ⟨a, ns, rfl, _⟩ := h
  rfl
theorem c_l_pool {K : PySem.W.Frag} {a : Addr} {ns : List Int} {H : Hp} {Q : VK} {E : XK} (hx : SqL K H a (ns.map V.int)) (hn : ns.length ≤ 63) (k : ∀ (P : Pl) (G H' : Hp), Same H G → Sees P G H' → Q (.ref P.p) H') : sp_l_pool K [.ref a] H Q E :=
  ⟨a, ns, rfl, hx, hn, k⟩

def sp_l_draw (K : PySem.W.Frag) : Sp := fun vs H Q _ => ∃ (P : Pl) (m : Int) (G : Hp), vs = [.ref P.p, .int m] ∧ 0 < m ∧ m < 1073741824 ∧ Sees P G H ∧ ∀ d H', 0 ≤ d → d < m → Sees P G H' → Q (.int d) H'
abbrev N_l_draw : List Str := ["_law_pool_here", "_law_many", "_law_found", "_law_cells", "_law_near", "_law_head", "_law_mixed"]
theorem st_l_draw {a0 a1 : V} : L2.start N_l_draw [a0, a1] = [some a0, some a1, none, none, none, none, none] := rfl
def t_l_draw (K : PySem.W.Frag) : TS :=
  (tSeq ((tIfS ((tTest (tOp (rI0 fun i j => .bl (decide (j < i))) ((tOp (rIxL K) (tVar 0) (tC (.int 0)))) (tC (.int 1))))) ((tSeq ((tAsg ((tOp (rI (fun _ j => 0 < j) fun i j => .int (i % j)) ((tCB rInt1 ((tCons ((tOp (rIxL K) (tVar 0) (tC (.int 0)))) (tNil))))) (tVar 1))) (gName 2)))
    ((tSeq ((tAsg ((tOp (rI CDiv fun i j => .int (i / j)) ((tOp (rIxL K) (tVar 0) (tC (.int 0)))) (tVar 1))) (gSub (tVar 0) (tC (.int 0)) rSetL)))
    ((tRet (tVar 2))))))) (tNext)))
    ((tSeq ((tAsg ((tOp (rI0 fun i j => .int (i + j)) ((tOp (rIxL K) (tVar 0) (tC (.int 1)))) (tC (.int 1)))) (gSub (tVar 0) (tC (.int 1)) rSetL)))
    ((tSeq ((tAsg ((tOp (rIxL K) (tVar 0) (tC (.int 2)))) (gName 3)))
    ((tSeq ((tAsg (tC (.int 0)) (gName 4)))
    ((tSeq ((tAsg (tC (.int 0)) (gName 5)))
    ((tSeq ((tIfS ((tTest (tOp (rI0 fun i j => .bl (decide (j < i))) ((tCB (rLenS K) ((tCons (tVar 3) (tNil))))) (tC (.int 0))))) ((tSeq ((tAsg ((tOp (rIxL K) (tVar 3) ((tOp (rI (fun _ j => 0 < j) fun i j => .int (i % j)) ((tCB rInt1 ((tCons ((tOp (rIxL K) (tVar 0) (tC (.int 1)))) (tNil))))) ((tCB (rLenS K) ((tCons (tVar 3) (tNil))))))))) (gName 4)))
    ((tAsg ((tOp (rIxL K) (tVar 3) (tC (.int 0)))) (gName 5))))) (tNext)))
    ((tSeq ((tAsg ((tOp (rI (fun _ j => 0 < j) fun i j => .int (i % j)) ((tCB rInt1 ((tCons ((tOp (rI0 fun i j => .int (i + j)) ((tOp (rI0 fun i j => .int (i + j)) ((tOp (rI0 fun i j => .int (i + j)) ((tOp (rI CMul fun i j => .int (i * j)) (tVar 4) (tC (.int 48271)))) ((tOp (rI CMul fun i j => .int (i * j)) (tVar 5) (tC (.int 16807)))))) ((tOp (rI CMul fun i j => .int (i * j)) ((tOp (rIxL K) (tVar 0) (tC (.int 1)))) (tC (.int 69621)))))) (tC (.int 7)))) (tNil))))) (tC (.int 2147483647)))) (gName 6)))
    ((tSeq ((tAsg ((tOp (rI (fun _ j => 0 < j) fun i j => .int (i % j)) ((tCB rInt1 ((tCons ((tOp (rI0 fun i j => .int (i + j)) ((tOp (rI0 fun i j => .int (i + j)) ((tOp (rI CMul fun i j => .int (i * j)) (tVar 6) (tVar 6))) ((tOp (rI CMul fun i j => .int (i * j)) (tVar 6) (tC (.int 40692)))))) ((tOp (rI CMul fun i j => .int (i * j)) ((tOp (rIxL K) (tVar 0) (tC (.int 1)))) (tC (.int 7919)))))) (tNil))))) (tC (.int 1000000007)))) (gName 6)))
    ((tRet ((tOp (rI (fun _ j => 0 < j) fun i j => .int (i % j)) ((tCB rInt1 ((tCons ((tOp (rI CDiv fun i j => .int (i / j)) (tVar 6) (tC (.int 11)))) (tNil))))) (tVar 1))))))))))))))))))))

theorem pure_l_draw (K : PySem.W.Frag) (vs : List V) (H : Hp) (Q : VK) (E : XK) (h : sp_l_draw K vs H Q E) : t_l_draw K { nx := fun _ H' => Q .non H', rt := Q } (L2.start N_l_draw vs) H := by
  obtain ⟨P, m, G, rfl, hm, hm2, hs, k⟩ := h
  obtain ⟨n, c, hp⟩ := hs.pool
  rw [st_l_draw]
  unfold t_l_draw
  walk_at "st"
  refine ite_dec (fun h1 => ?_) (fun h1 => ?_)
  · walk_at "st"
    exact k _ _ (Int.emod_nonneg _ (by omega)) (Int.emod_lt_of_pos _ hm) (hs.drawn _ _)
  · walk_at "st"
    have hs2 := hs.drawn n (c + 1)
    have hp2 : upd H P.p (.lst [.int n, .int (c + 1), .ref P.l]) P.p = some (.lst [.int n, .int (c + 1), .ref P.l]) := upd_same
    revert hs2 hp2
    generalize upd H P.p (.lst [.int n, .int (c + 1), .ref P.l]) = H2
    intro hs2 hp2
    walk_at "st"
    refine ite_dec (fun h2 => ?_) (fun h2 => ?_)
    · walk_at "st"
      refine wp_ixLI (by walk_at "sq") (Int.emod_nonneg _ (by omega)) (Int.emod_lt_of_pos _ h2) fun x _ => ?_
      walk_at "st"
      refine wp_ixLI (by walk_at "sq") (by omega) h2 fun y _ => ?_
      walk_at "st"
      exact k _ _ (Int.emod_nonneg _ (by omega)) (Int.emod_lt_of_pos _ hm) hs2
    · walk_at "st"
      exact k _ _ (Int.emod_nonneg _ (by omega)) (Int.emod_lt_of_pos _ hm) hs2
theorem len_l_draw (K : PySem.W.Frag) (vs : List V) (H : Hp) (Q : VK) (E : XK) (h : sp_l_draw K vs H Q E) : vs.length = 2 := by
  obtain ⟨P, m, G, rfl, _⟩ := h
  rfl
theorem c_l_draw {K : PySem.W.Frag} {P : Pl} {G H : Hp} {m : Int} {Q : VK} {E : XK} (hs : Sees P G H) (h0 : 0 < m ∧ m < 1073741824) (k : ∀ d H', 0 ≤ d → d < m → Sees P G H' → Q (.int d) H') : sp_l_draw K [.ref P.p, .int m] H Q E :=
  ⟨P, m, G, rfl, h0.1, h0.2, hs, k⟩

def sp_l_word (K : PySem.W.Frag) : Sp := fun vs H Q _ => ∃ (P : Pl) (n : Int) (G : Hp), vs = [.ref P.p, .int n] ∧ 0 ≤ n ∧ n ≤ 100 ∧ Sees P G H ∧ ∀ (l : List Nat) H', (l.length : Int) = n → (∀ c ∈ l, LD c) → Sees P G H' → Q (.str (S l)) H'
abbrev N_l_word : List Str := ["_law_pool_here", "_law_size", "_law_signs", "_law_word_here", "_law_k"]
theorem st_l_word {a0 a1 : V} : L2.start N_l_word [a0, a1] = [some a0, some a1, none, none, none] := rfl
def t_l_word (K : PySem.W.Frag) : TS :=
  (tSeq ((tAsg (tC (.str (S Z36))) (gName 2)))
    ((tSeq ((tAsg (tC (.str (S []))) (gName 3)))
    ((tSeq ((tFor ((iRng1 ((tCons (tVar 1) (tNil))))) (gName 4) ((tAsg ((tOp rAddStr (tVar 3) ((tOp rIxS (tVar 2) ((tCall (sp_l_draw K) [] E0 ((tCons (tVar 0) ((tCons (tC (.int 36)) (tNil))))))))))) (gName 3)))))
    ((tRet (tVar 3))))))))

theorem pure_l_word (K : PySem.W.Frag) (vs : List V) (H : Hp) (Q : VK) (E : XK) (h : sp_l_word K vs H Q E) : t_l_word K { nx := fun _ H' => Q .non H', rt := Q } (L2.start N_l_word vs) H := by
  obtain ⟨P, n, G, rfl, hn, hn2, hs, k⟩ := h
  rw [st_l_word]
  unfold t_l_word
  walk_at "st"
  refine loop1 (by omega) (fun i σ' H' => ∃ (x : Option V) (l : List Nat), σ' = [some (.ref P.p), some (.int n), some (.str (S Z36)), some (.str (S l)), x] ∧ l.length = i ∧ (∀ c ∈ l, LD c) ∧ Sees P G H') ⟨none, [], rfl, rfl, by simp, hs⟩ ?_ ?_
  · rintro i σ' H' hi ⟨x, l, rfl, hl, hc, hs⟩
    walk_at "st"
    refine c_l_draw hs (by omega) fun d H2 h0 h1 hs2 => ?_
    walk_at "st"
    refine wp_ixSM (by decide) h0 h1 fun c hc2 _ => ?_
    refine wp_addS (by simp; omega) ?_
    walk_at "st"
    refine ⟨_, _, rfl, by simp; omega, fun c' h => ?_, hs2⟩
    rcases List.mem_append.mp h with h | h
    · exact hc _ h
    · rw [List.mem_singleton.mp h]
      exact z36.mp hc2
  · rintro σ' H' ⟨x, l, rfl, hl, hc, hs⟩
    walk_at "st"
    exact k l _ (by omega) hc hs
theorem len_l_word (K : PySem.W.Frag) (vs : List V) (H : Hp) (Q : VK) (E : XK) (h : sp_l_word K vs H Q E) : vs.length = 2 := by
  obtain ⟨P, m, G, rfl, _⟩ := h
  rfl
theorem c_l_word {K : PySem.W.Frag} {P : Pl} {G H : Hp} {n : Int} {Q : VK} {E : XK} (hs : Sees P G H) (h0 : 0 ≤ n ∧ n ≤ 100) (k : ∀ (l : List Nat) H', (l.length : Int) = n → (∀ c ∈ l, LD c) → Sees P G H' → Q (.str (S l)) H') : sp_l_word K [.ref P.p, .int n] H Q E :=
  ⟨P, n, G, rfl, h0.1, h0.2, hs, k⟩

def sp_l_names (K : PySem.W.Frag) : Sp := fun vs H Q _ => ∃ (P : Pl) (n : Int) (G : Hp), vs = [.ref P.p, .int n] ∧ 0 ≤ n ∧ n ≤ 12 ∧ Sees P G H ∧
  ∀ (ns : List (List Nat)) (q : Addr) (G' H' : Hp), (ns.length : Int) = n → (∀ l ∈ ns, Nm l) → ns.Nodup → Same G G' → G' q = some (.lst (ns.map sv)) → Sees P G' H' → Q (.ref q) H'
abbrev N_l_names : List Str := ["_law_pool_here", "_law_many", "_law_letters", "_law_signs", "_law_way", "_law_front", "_law_back", "_law_first", "_law_names_here", "_law_k", "_law_name", "_law_j"]
theorem st_l_names {a0 a1 : V} : L2.start N_l_names [a0, a1] = [some a0, some a1, none, none, none, none, none, none, none, none, none, none] := rfl
def t_l_names (K : PySem.W.Frag) : TS :=
  (tSeq ((tAsg (tC (.str (S Z26))) (gName 2)))
    ((tSeq ((tAsg (tC (.str (S Z36))) (gName 3)))
    ((tSeq ((tAsg ((tCall (sp_l_draw K) [] E0 ((tCons (tVar 0) ((tCons (tC (.int 3)) (tNil))))))) (gName 4)))
    ((tSeq ((tAsg ((tOp rAddStr ((tOp rIxS (tVar 2) ((tCall (sp_l_draw K) [] E0 ((tCons (tVar 0) ((tCons (tC (.int 26)) (tNil))))))))) ((tCall (sp_l_word K) [] E0 ((tCons (tVar 0) ((tCons ((tCall (sp_l_draw K) [] E0 ((tCons (tVar 0) ((tCons (tC (.int 4)) (tNil))))))) (tNil))))))))) (gName 5)))
    ((tSeq ((tAsg ((tCall (sp_l_word K) [] E0 ((tCons (tVar 0) ((tCons ((tCall (sp_l_draw K) [] E0 ((tCons (tVar 0) ((tCons (tC (.int 4)) (tNil))))))) (tNil))))))) (gName 6)))
    ((tSeq ((tAsg ((tCall (sp_l_draw K) [] E0 ((tCons (tVar 0) ((tCons (tC (.int 36)) (tNil))))))) (gName 7)))
    ((tSeq ((tAsg ((tLst (tNil))) (gName 8)))
    ((tSeq ((tFor ((iRng1 ((tCons (tVar 1) (tNil))))) (gName 9) ((tSeq ((tAsg ((tOp rAddStr ((tOp rAddStr (tVar 5) ((tOp rIxS (tVar 3) ((tOp (rI (fun _ j => 0 < j) fun i j => .int (i % j)) ((tCB rInt1 ((tCons ((tOp (rI0 fun i j => .int (i + j)) (tVar 7) ((tOp (rI CMul fun i j => .int (i * j)) (tC (.int 5)) (tVar 9))))) (tNil))))) (tC (.int 36)))))))) (tVar 6))) (gName 10)))
    ((C8.tCut ((tIfS ((tTest (tOp rEq (tVar 4) (tC (.int 1))))) ((tAsg ((tOp rAddStr ((tOp rIxS (tVar 2) ((tOp (rI (fun _ j => 0 < j) fun i j => .int (i % j)) ((tCB rInt1 ((tCons ((tOp (rI0 fun i j => .int (i + j)) (tVar 7) ((tOp (rI CMul fun i j => .int (i * j)) (tC (.int 5)) (tVar 9))))) (tNil))))) (tC (.int 26)))))) ((tCall (sp_l_word K) [] E0 ((tCons (tVar 0) ((tCons ((tCall (sp_l_draw K) [] E0 ((tCons (tVar 0) ((tCons (tC (.int 8)) (tNil))))))) (tNil))))))))) (gName 10))) (tNext)))
    ((C8.tCut ((tIfS ((tTest (tOp rEq (tVar 4) (tC (.int 2))))) ((tAsg ((tOp rAddStr ((tOp rIxS (tVar 2) ((tCall (sp_l_draw K) [] E0 ((tCons (tVar 0) ((tCons (tC (.int 26)) (tNil))))))))) ((tCall (sp_l_word K) [] E0 ((tCons (tVar 0) ((tCons ((tCall (sp_l_draw K) [] E0 ((tCons (tVar 0) ((tCons (tC (.int 8)) (tNil))))))) (tNil))))))))) (gName 10))) (tNext)))
    ((tSeq ((tFor ((iRng1 ((tCons (tC (.int 13)) (tNil))))) (gName 11) ((tIfS ((tAnd ((tTest (tOp (rIn K false) (tVar 10) (tVar 8)))) ((tTest (tOp (rIn K true) ((tOp rAddStr (tC (.str (S [122]))) ((tCB rStrInt ((tCons (tVar 11) (tNil))))))) (tVar 8)))))) ((tAsg ((tOp rAddStr (tC (.str (S [122]))) ((tCB rStrInt ((tCons (tVar 11) (tNil))))))) (gName 10))) (tNext)))))
    ((tDrop ((tBM K "list" rAppend (tVar 8) ((tCons (tVar 10) (tNil)))))))))))))))))
    ((tRet (tVar 8))))))))))))))))))

theorem pure_l_names (K : PySem.W.Frag) (vs : List V) (H : Hp) (Q : VK) (E : XK) (h : sp_l_names K vs H Q E) : t_l_names K { nx := fun _ H' => Q .non H', rt := Q } (L2.start N_l_names vs) H := by
  obtain ⟨P, n, G, rfl, hn, hn2, hs, k⟩ := h
  rw [st_l_names]
  unfold t_l_names
  walk_at "st"
  refine c_l_draw hs (by omega) fun way H1 w0 w1 hs1 => ?_
  walk_at "st"
  refine c_l_draw hs1 (by omega) fun d1 H2 a0 a1 hs2 => ?_
  walk_at "st"
  refine wp_ixSM (by decide) a0 a1 fun c1 hc1 _ => ?_
  walk_at "st"
  refine c_l_draw hs2 (by omega) fun d2 H3 b0 b1 hs3 => ?_
  walk_at "st"
  refine c_l_word hs3 (by omega) fun fr H4 f0 f1 hs4 => ?_
  refine wp_addS (by simp; omega) ?_
  walk_at "st"
  refine c_l_draw hs4 (by omega) fun d3 H5 e0 e1 hs5 => ?_
  walk_at "st"
  refine c_l_word hs5 (by omega) fun bk H6 g0 g1 hs6 => ?_
  walk_at "st"
  refine c_l_draw hs6 (by omega) fun fi H7 i0 i1 hs7 => ?_
  walk_at "st"
  refine ⟨Nat.zero_le _, fun q hq => ?_⟩
  obtain ⟨hG, hqp⟩ := hs7.fresh hq
  walk_at "st"
  refine loop1 (by omega) (fun i σ' H' => ∃ (x9 x10 x11 : Option V) (ns : List (List Nat)), σ' = [some (.ref P.p), some (.int n), some (.str (S Z26)), some (.str (S Z36)), some (.int way), some (.str (S ([c1] ++ fr))), some (.str (S bk)), some (.int fi), some (.ref q), x9, x10, x11] ∧
    ns.length = i ∧ (∀ l ∈ ns, Nm l) ∧ ns.Nodup ∧ H' q = some (.lst (ns.map sv)) ∧ Sees P G H') ⟨none, none, none, [], rfl, rfl, by simp, List.nodup_nil, upd_same, hs7.set hG hqp⟩ ?_ ?_
  · rintro i σ' H' hi ⟨x9, x10, x11, ns, rfl, hl, hnm, hnd, hqq, hs⟩
    walk_at "st"
    refine wp_ixSM (by decide) (Int.emod_nonneg _ (by omega)) (show _ < 36 from Int.emod_lt_of_pos _ (by omega)) fun c2 hc2 _ => ?_
    walk_at "st"
    have hc1' : LT c1 := z26.mp hc1
    have hc2' : LD c2 := z36.mp hc2
    have lt_ld : ∀ {c}, LT c → LD c := fun h => .inl h
    have mk1 : ∀ {a : Nat} {l : List Nat}, LT a → (∀ c ∈ l, LD c) → l.length ≤ 7 → Nm ([a] ++ l) := fun {a l} h1 h2 h3 => ⟨by simp; omega, ⟨a, l, rfl, h1⟩, fun c hc => by
      rcases List.mem_append.mp hc with h | h
      · rw [List.mem_singleton.mp h]; exact .inl h1
      · exact h2 c h⟩
    refine wp_cut (fun σ' H' => ∃ (nm : List Nat), σ' = [some (.ref P.p), some (.int n), some (.str (S Z26)), some (.str (S Z36)), some (.int way), some (.str (S ([c1] ++ fr))), some (.str (S bk)), some (.int fi), some (.ref q), some (.int i), some (.str (S nm)), x11] ∧ Nm nm ∧ H' q = some (.lst (ns.map sv)) ∧ Sees P G H') ?_ ?_
    · walk_at "st"
      refine ite_dec (fun h => ?_) (fun h => ?_)
      · walk_at "st"
        refine wp_ixSM (by decide) (Int.emod_nonneg _ (by omega)) (show _ < 26 from Int.emod_lt_of_pos _ (by omega)) fun c3 hc3 _ => ?_
        walk_at "st"
        refine c_l_draw (hs.with hG hqq hqp) (by omega) fun d4 H8 j0 j1 hs8 => ?_
        walk_at "st"
        refine c_l_word hs8 (by omega) fun w4 H9 k0 k1 hs9 => ?_
        walk_at "st"
        obtain ⟨hs10, hq10⟩ := hs9.back hs hG
        exact ⟨_, rfl, mk1 (z26.mp hc3) k1 (by omega), hq10, hs10⟩
      · walk_at "st"
        refine ⟨_, rfl, ?_, hqq, hs⟩
        have e : [c1] ++ fr ++ [c2] ++ bk = [c1] ++ (fr ++ [c2] ++ bk) := by simp
        rw [e]
        refine mk1 hc1' (fun c hc => ?_) (by simp; omega)
        rcases List.mem_append.mp hc with h | h
        · rcases List.mem_append.mp h with h | h
          · exact f1 c h
          · rw [List.mem_singleton.mp h]; exact hc2'
        · exact g1 c h
    · rintro σ' H8 ⟨nm, rfl, hnm1, hq8, hs8⟩
      refine wp_cut (fun σ' H' => ∃ (nm : List Nat), σ' = [some (.ref P.p), some (.int n), some (.str (S Z26)), some (.str (S Z36)), some (.int way), some (.str (S ([c1] ++ fr))), some (.str (S bk)), some (.int fi), some (.ref q), some (.int i), some (.str (S nm)), x11] ∧ Nm nm ∧ H' q = some (.lst (ns.map sv)) ∧ Sees P G H') ?_ ?_
      · walk_at "st"
        refine ite_dec (fun h => ?_) (fun h => ?_)
        · walk_at "st"
          refine c_l_draw (hs8.with hG hq8 hqp) (by omega) fun d4 H9 j0 j1 hs9 => ?_
          walk_at "st"
          refine wp_ixSM (by decide) j0 j1 fun c3 hc3 _ => ?_
          walk_at "st"
          refine c_l_draw hs9 (by omega) fun d5 H10 k0 k1 hs10 => ?_
          walk_at "st"
          refine c_l_word hs10 (by omega) fun w4 H11 l0 l1 hs11 => ?_
          walk_at "st"
          obtain ⟨hs12, hq12⟩ := hs11.back hs8 hG
          exact ⟨_, rfl, mk1 (z26.mp hc3) l1 (by omega), hq12, hs12⟩
        · walk_at "st"
          exact ⟨_, rfl, hnm1, hq8, hs8⟩
      · rintro σ' H9 ⟨nm, rfl, hnm1, hq9, hs9⟩
        walk_at "st"
        refine loop1 (by omega) (fun j σ' H' => ∃ (x11 : Option V) (nm : List Nat), σ' = [some (.ref P.p), some (.int n), some (.str (S Z26)), some (.str (S Z36)), some (.int way), some (.str (S ([c1] ++ fr))), some (.str (S bk)), some (.int fi), some (.ref q), some (.int i), some (.str (S nm)), x11] ∧
          Nm nm ∧ (nm ∉ ns ∨ ∀ a, a < j → zn a ∈ ns) ∧ H' = H9) ⟨x11, nm, rfl, hnm1, .inr (fun a h => absurd h (by omega)), rfl⟩ ?_ ?_
        · rintro j σ' H10 hj ⟨x, nm, rfl, hnm2, hout, rfl⟩
          walk_at "st"
          refine wp_inSv (sq_of hq9) ?_
          walk_at "st"
          refine ite_dec (fun h1 => ?_) (fun h1 => ?_)
          · walk_at "st"
            refine wp_strIntS (by omega) ?_
            refine wp_addS (by have := (zn_nm (j := j) (by omega)).len; unfold zn at this; simp at this ⊢; omega) ?_
            walk_at "st"
            refine wp_notInSv (sq_of hq9) ?_
            walk_at "st"
            refine ite_ndec (fun h2 => ?_) (fun h2 => ?_)
            · walk_at "st"
              refine wp_strIntS (by omega) ?_
              refine wp_addS (by have := (zn_nm (j := j) (by omega)).len; unfold zn at this; simp at this ⊢; omega) ?_
              walk_at "st"
              exact ⟨_, zn j, rfl, zn_nm (by omega), .inl h2, rfl⟩
            · walk_at "st"
              refine ⟨_, nm, rfl, hnm2, .inr fun a ha => ?_, rfl⟩
              rcases hout with h | h
              · exact absurd h1 h
              · by_cases e : a = j
                · rw [e]; exact h2
                · exact h a (by omega)
          · walk_at "st"
            exact ⟨_, nm, rfl, hnm2, .inl h1, rfl⟩
        · rintro σ' H10 ⟨x, nm, rfl, hnm2, hout, rfl⟩
          have hnot : nm ∉ ns := by
            rcases hout with h | h
            · exact h
            · exact absurd (zn_out (ns := ns) fun a ha => h a ha) (by omega)
          walk_at "st"
          refine wp_append hq9 (by rw [List.length_map]; omega) ?_
          walk_at "st"
          refine ⟨_, _, _, ns ++ [nm], rfl, by simp; omega, fun l h => ?_, ?_, ?_, hs9.set hG hqp⟩
          · rcases List.mem_append.mp h with h | h
            · exact hnm l h
            · rw [List.mem_singleton.mp h]; exact hnm2
          · refine List.nodup_append.mpr ⟨hnd, by simp, fun a ha b hb e => ?_⟩
            rw [List.mem_singleton] at hb
            rw [hb] at e
            exact hnot (e ▸ ha)
          · rw [List.map_append]; exact upd_same
  · rintro σ' H' ⟨x9, x10, x11, ns, rfl, hl, hnm, hnd, hqq, hs⟩
    walk_at "st"
    exact k ns q (upd G q (.lst (ns.map sv))) H' (by omega) hnm hnd (Same.new hG) upd_same (hs.with hG hqq hqp)
theorem len_l_names (K : PySem.W.Frag) (vs : List V) (H : Hp) (Q : VK) (E : XK) (h : sp_l_names K vs H Q E) : vs.length = 2 := by
  obtain ⟨P, m, G, rfl, _⟩ := h
  rfl
theorem c_l_names {K : PySem.W.Frag} {P : Pl} {G H : Hp} {n : Int} {Q : VK} {E : XK} (hs : Sees P G H) (h0 : 0 ≤ n ∧ n ≤ 12)
    (k : ∀ (ns : List (List Nat)) (q : Addr) (G' H' : Hp), (ns.length : Int) = n → (∀ l ∈ ns, Nm l) → ns.Nodup → Same G G' → G' q = some (.lst (ns.map sv)) → Sees P G' H' → Q (.ref q) H') : sp_l_names K [.ref P.p, .int n] H Q E :=
  ⟨P, n, G, rfl, h0.1, h0.2, hs, k⟩

def sp_l_length (K : PySem.W.Frag) : Sp := fun vs H Q _ => ∃ (P : Pl) (m : Int) (G : Hp), vs = [.ref P.p, .int m] ∧ 3 ≤ m ∧ m ≤ 120 ∧ Sees P G H ∧ ∀ T H', 3 ≤ T → T ≤ m ∨ T ≤ 8 → Sees P G H' → Q (.int T) H'
abbrev N_l_length : List Str := ["_law_pool_here", "_law_most", "_law_way"]
theorem st_l_length {a0 a1 : V} : L2.start N_l_length [a0, a1] = [some a0, some a1, none] := rfl
def t_l_length (K : PySem.W.Frag) : TS :=
  (tSeq ((tAsg ((tCall (sp_l_draw K) [] E0 ((tCons (tVar 0) ((tCons (tC (.int 8)) (tNil))))))) (gName 2)))
    ((tSeq ((tIfS ((tTest (tOp (rI0 fun i j => .bl (decide (i < j))) (tVar 2) (tC (.int 4))))) ((tRet ((tOp (rI0 fun i j => .int (i + j)) (tC (.int 3)) ((tCall (sp_l_draw K) [] E0 ((tCons (tVar 0) ((tCons (tC (.int 6)) (tNil))))))))))) (tNext)))
    ((tSeq ((tIfS ((tTest (tOp (rI0 fun i j => .bl (decide (i < j))) (tVar 2) (tC (.int 7))))) ((tRet ((tCB rMin2 ((tCons (tVar 1) ((tCons ((tOp (rI0 fun i j => .int (i + j)) (tC (.int 9)) ((tCall (sp_l_draw K) [] E0 ((tCons (tVar 0) ((tCons (tC (.int 22)) (tNil))))))))) (tNil))))))))) (tNext)))
    ((tRet ((tCB rMax2 ((tCons (tC (.int 3)) ((tCons ((tOp (rI0 fun i j => .int (i - j)) (tVar 1) ((tCall (sp_l_draw K) [] E0 ((tCons (tVar 0) ((tCons (tVar 1) (tNil))))))))) (tNil))))))))))))))

theorem pure_l_length (K : PySem.W.Frag) (vs : List V) (H : Hp) (Q : VK) (E : XK) (h : sp_l_length K vs H Q E) : t_l_length K { nx := fun _ H' => Q .non H', rt := Q } (L2.start N_l_length vs) H := by
  obtain ⟨P, m, G, rfl, hm, hm2, hs, k⟩ := h
  rw [st_l_length]
  unfold t_l_length
  walk_at "st"
  refine c_l_draw hs (by omega) fun way H1 w0 w1 hs1 => ?_
  walk_at "st"
  refine ite_dec (fun h1 => ?_) (fun h1 => ?_)
  · walk_at "st"
    refine c_l_draw hs1 (by omega) fun d H2 d0 d1 hs2 => ?_
    walk_at "st"
    exact k _ _ (by omega) (.inr (by omega)) hs2
  · walk_at "st"
    refine ite_dec (fun h2 => ?_) (fun h2 => ?_)
    · walk_at "st"
      refine c_l_draw hs1 (by omega) fun d H2 d0 d1 hs2 => ?_
      walk_at "st"
      exact k _ _ (by split <;> omega) (.inl (by split <;> omega)) hs2
    · walk_at "st"
      refine c_l_draw hs1 (by omega) fun d H2 d0 d1 hs2 => ?_
      walk_at "st"
      exact k _ _ (by split <;> omega) (.inl (by split <;> omega)) hs2
theorem len_l_length (K : PySem.W.Frag) (vs : List V) (H : Hp) (Q : VK) (E : XK) (h : sp_l_length K vs H Q E) : vs.length = 2 := by
  obtain ⟨P, m, G, rfl, _⟩ := h
  rfl
theorem c_l_length {K : PySem.W.Frag} {P : Pl} {G H : Hp} {m : Int} {Q : VK} {E : XK} (hs : Sees P G H) (h0 : 3 ≤ m ∧ m ≤ 120) (k : ∀ T H', 3 ≤ T → T ≤ m ∨ T ≤ 8 → Sees P G H' → Q (.int T) H') : sp_l_length K [.ref P.p, .int m] H Q E :=
  ⟨P, m, G, rfl, h0.1, h0.2, hs, k⟩
def sp_l_changes (K : PySem.W.Frag) : Sp := fun vs H Q _ => ∃ (P : Pl) (G : Hp) (n : Nat) (T : Int), vs = [.ref P.p, .int n, .int T] ∧ Sees P G H ∧ n ≤ 100 ∧ 3 ≤ T ∧ T ≤ 1000 ∧ ∀ (q : Addr) (is : List Int) G' H', is.length = n → (∀ j ∈ is, -5000 ≤ j ∧ j ≤ 5000) → Same G G' → Sees P G' H' → G' q = some (.lst (is.map V.int)) → Q (.ref q) H' 
abbrev N_l_changes : List Str := ["_law_pool_here", "_law_many", "_law_length_here", "_law_way", "_law_turned", "_law_changes_here", "_law_k", "_law_step"]
theorem st_l_changes {a0 a1 a2 : V} : L2.start N_l_changes [a0, a1, a2] = [some a0, some a1, some a2, none, none, none, none, none] := rfl
def t_l_changes (K : PySem.W.Frag) : TS :=
  (tSeq ((tAsg ((tCall (sp_l_draw K) [] E0 ((tCons (tVar 0) ((tCons (tC (.int 4)) (tNil))))))) (gName 3)))
    ((tSeq ((tAsg ((tOp (rI CMul fun i j => .int (i * j)) ((tCall (sp_l_draw K) [] E0 ((tCons (tVar 0) ((tCons (tC (.int 2)) (tNil))))))) ((tCall (sp_l_draw K) [] E0 ((tCons (tVar 0) ((tCons (tVar 2) (tNil))))))))) (gName 4)))
    ((tSeq ((tAsg ((tLst (tNil))) (gName 5)))
    ((tSeq ((tFor ((iRng1 ((tCons (tVar 1) (tNil))))) (gName 6) ((tSeq ((tAsg (tC (.int 0)) (gName 7)))
    ((tSeq ((tIfS ((tOr ((tTest (tOp rEq (tVar 3) (tC (.int 1))))) ((tTest (tOp rEq (tVar 3) (tC (.int 2))))))) ((tAsg ((tOp (rI0 fun i j => .int (i - j)) ((tCall (sp_l_draw K) [] E0 ((tCons (tVar 0) ((tCons (tC (.int 5)) (tNil))))))) (tC (.int 2)))) (gName 7))) (tNext)))
    ((tSeq ((tIfS ((tTest (tOp rEq (tVar 3) (tC (.int 3))))) ((tAsg ((tOp (rI0 fun i j => .int (i - j)) ((tCall (sp_l_draw K) [] E0 ((tCons (tVar 0) ((tCons ((tOp (rI CMul fun i j => .int (i * j)) (tC (.int 2)) (tVar 2))) (tNil))))))) (tVar 2))) (gName 7))) (tNext)))
    ((tDrop ((tBM K "list" rAppend (tVar 5) ((tCons ((tOp (rI0 fun i j => .int (i + j)) (tVar 4) (tVar 7))) (tNil)))))))))))))))
    ((tRet (tVar 5))))))))))

theorem pure_l_changes (K : PySem.W.Frag) (vs : List V) (H : Hp) (Q : VK) (E : XK) (h : sp_l_changes K vs H Q E) : t_l_changes K { nx := fun _ H' => Q .non H', rt := Q } (L2.start N_l_changes vs) H := by
  obtain ⟨P, G, n, T, rfl, hs, n1, t0, t1, k⟩ := h
  rw [st_l_changes]
  unfold t_l_changes
  walk_at "st"
  refine c_l_draw hs (by omega) fun way H1 w0 w1 hs1 => ?_
  walk_at "st"
  refine c_l_draw hs1 (by omega) fun a H2 a0 a1 hs2 => ?_
  walk_at "st"
  refine c_l_draw hs2 (by omega) fun b H3 b0 b1 hs3 => ?_
  have tb : 0 ≤ a * b ∧ a * b ≤ 1000 := by
    rcases (show a = 0 ∨ a = 1 by omega) with rfl | rfl
    · omega
    · omega
  walk_at "st"
  generalize a * b = tn at tb
  walk_at "st"
  refine ⟨Nat.zero_le _, fun L hL => ?_⟩
  obtain ⟨gL, nL⟩ := hs3.fresh hL
  have nLl : L ≠ P.l := fun e => by rw [e, hs3.cell] at gL; cases gL
  walk_at "st"
  refine loop1 (by omega) (fun i σ' H' => ∃ (x y : Option V) (is : List Int) (G' : Hp), σ' = [some (.ref P.p), some (.int n), some (.int T), some (.int way), some (.int tn), some (.ref L), x, y] ∧ Same G G' ∧ Sees P G' H' ∧ G' L = some (.lst (is.map V.int)) ∧ is.length = i ∧ ∀ j ∈ is, -5000 ≤ j ∧ j ≤ 5000) ⟨_, _, [], _, rfl, Same.new gL, hs3.new hL, upd_same, rfl, by simp⟩ ?_ ?_
  · rintro i σ' H' hi ⟨x, y, is, G', rfl, g1, hs4, eL, li, bd⟩
    walk_at "st"
    refine ite_dec (fun h => ?_) (fun h => ?_)
    · walk_at "st"
      refine c_l_draw hs4 (by omega) fun e H5 e0 e1 hs5 => ?_
      walk_at "st"
      refine wp_append (hs5.sub _ _ eL) (by rw [List.length_map]; omega) ?_
      walk_at "st"
      refine ⟨_, _, is ++ [tn + (e - 2)], upd G' L (.lst ((is ++ [tn + (e - 2)]).map V.int)), rfl, Same.mut g1 gL, by rw [List.map_append]; exact hs5.putG nLl nL, upd_same, by rw [List.length_append, li, List.length_singleton], fun j hj => ?_⟩
      rcases List.mem_append.mp hj with hj | hj
      · exact bd j hj
      · rw [List.mem_singleton.mp hj]; omega
    · walk_at "st"
      refine ite_dec (fun h2 => ?_) (fun h2 => ?_)
      · walk_at "st"
        refine c_l_draw hs4 (by omega) fun e H5 e0 e1 hs5 => ?_
        walk_at "st"
        refine wp_append (hs5.sub _ _ eL) (by rw [List.length_map]; omega) ?_
        walk_at "st"
        refine ⟨_, _, is ++ [tn + (e - 2)], upd G' L (.lst ((is ++ [tn + (e - 2)]).map V.int)), rfl, Same.mut g1 gL, by rw [List.map_append]; exact hs5.putG nLl nL, upd_same, by rw [List.length_append, li, List.length_singleton], fun j hj => ?_⟩
        rcases List.mem_append.mp hj with hj | hj
        · exact bd j hj
        · rw [List.mem_singleton.mp hj]; omega
      · walk_at "st"
        refine ite_dec (fun h3 => ?_) (fun h3 => ?_)
        · walk_at "st"
          refine c_l_draw hs4 (by omega) fun e H5 e0 e1 hs5 => ?_
          walk_at "st"
          refine wp_append (hs5.sub _ _ eL) (by rw [List.length_map]; omega) ?_
          walk_at "st"
          refine ⟨_, _, is ++ [tn + (e - T)], upd G' L (.lst ((is ++ [tn + (e - T)]).map V.int)), rfl, Same.mut g1 gL, by rw [List.map_append]; exact hs5.putG nLl nL, upd_same, by rw [List.length_append, li, List.length_singleton], fun j hj => ?_⟩
          rcases List.mem_append.mp hj with hj | hj
          · exact bd j hj
          · rw [List.mem_singleton.mp hj]; omega
        · walk_at "st"
          refine wp_append (hs4.sub _ _ eL) (by rw [List.length_map]; omega) ?_
          walk_at "st"
          refine ⟨_, _, is ++ [tn + 0], upd G' L (.lst ((is ++ [tn + 0]).map V.int)), rfl, Same.mut g1 gL, by rw [List.map_append]; exact hs4.putG nLl nL, upd_same, by rw [List.length_append, li, List.length_singleton], fun j hj => ?_⟩
          rcases List.mem_append.mp hj with hj | hj
          · exact bd j hj
          · rw [List.mem_singleton.mp hj]; omega
  · rintro σ' H' ⟨x, y, is, G', rfl, g1, hs4, eL, li, bd⟩
    walk_at "st"
    exact k L is G' H' (by omega) bd g1 hs4 eL
theorem len_l_changes (K : PySem.W.Frag) (vs : List V) (H : Hp) (Q : VK) (E : XK) (h : sp_l_changes K vs H Q E) : vs.length = 3 := by
  obtain ⟨_, _, _, _, rfl, _⟩ := h
  rfl
theorem c_l_changes {K : PySem.W.Frag} {P : Pl} {G H : Hp} {n : Nat} {T : Int} {Q : VK} {E : XK} (hs : Sees P G H) (n1 : n ≤ 100) (t0 : 3 ≤ T) (t1 : T ≤ 1000) (k : ∀ (q : Addr) (is : List Int) G' H', is.length = n → (∀ j ∈ is, -5000 ≤ j ∧ j ≤ 5000) → Same G G' → Sees P G' H' → G' q = some (.lst (is.map V.int)) → Q (.ref q) H') : sp_l_changes K [.ref P.p, .int n, .int T] H Q E := ⟨P, G, n, T, rfl, hs, n1, t0, t1, k⟩
def sp_l_weight (K : PySem.W.Frag) : Sp := fun vs H Q _ => ∃ (P : Pl) (G : Hp), vs = [.ref P.p] ∧ Sees P G H ∧ ∀ (n : Int) H', 0 ≤ n → n ≤ 99 → Sees P G H' → Q (.int n) H' 
abbrev N_l_weight : List Str := ["_law_pool_here"]
theorem st_l_weight {a0 : V} : L2.start N_l_weight [a0] = [some a0] := rfl
def t_l_weight (K : PySem.W.Frag) : TS :=
  (tSeq ((tIfS ((tTest (tOp rEq ((tCall (sp_l_draw K) [] E0 ((tCons (tVar 0) ((tCons (tC (.int 3)) (tNil))))))) (tC (.int 0))))) ((tRet ((tCall (sp_l_draw K) [] E0 ((tCons (tVar 0) ((tCons (tC (.int 100)) (tNil))))))))) (tNext)))
    ((tRet ((tCall (sp_l_draw K) [] E0 ((tCons (tVar 0) ((tCons (tC (.int 4)) (tNil))))))))))

theorem pure_l_weight (K : PySem.W.Frag) (vs : List V) (H : Hp) (Q : VK) (E : XK) (h : sp_l_weight K vs H Q E) : t_l_weight K { nx := fun _ H' => Q .non H', rt := Q } (L2.start N_l_weight vs) H := by
  obtain ⟨P, G, rfl, hs, k⟩ := h
  rw [st_l_weight]
  unfold t_l_weight
  walk_at "st"
  refine c_l_draw hs (by omega) fun a H1 a0 a1 hs1 => ?_
  walk_at "st"
  refine ite_dec (fun h => ?_) (fun h => ?_)
  · walk_at "st"
    exact c_l_draw hs1 (by omega) fun d H2 d0 d1 hs2 => k d H2 d0 (by omega) hs2
  · walk_at "st"
    exact c_l_draw hs1 (by omega) fun d H2 d0 d1 hs2 => k d H2 d0 (by omega) hs2
theorem len_l_weight (K : PySem.W.Frag) (vs : List V) (H : Hp) (Q : VK) (E : XK) (h : sp_l_weight K vs H Q E) : vs.length = 1 := by
  obtain ⟨_, _, rfl, _⟩ := h
  rfl
theorem c_l_weight {K : PySem.W.Frag} {P : Pl} {G H : Hp} {Q : VK} {E : XK} (hs : Sees P G H) (k : ∀ (n : Int) H', 0 ≤ n → n ≤ 99 → Sees P G H' → Q (.int n) H') : sp_l_weight K [.ref P.p] H Q E := ⟨P, G, rfl, hs, k⟩
def sp_l_some (K : PySem.W.Frag) : Sp := fun vs H Q _ => ∃ (P : Pl) (m : Int) (G : Hp), vs = [.ref P.p, .int m] ∧ 0 ≤ m ∧ m ≤ 1000 ∧ Sees P G H ∧ ∀ n H', 0 ≤ n → n ≤ m → Sees P G H' → Q (.int n) H'
abbrev N_l_some : List Str := ["_law_pool_here", "_law_most", "_law_way"]
theorem st_l_some {a0 a1 : V} : L2.start N_l_some [a0, a1] = [some a0, some a1, none] := rfl
def t_l_some (K : PySem.W.Frag) : TS :=
  (tSeq ((tAsg ((tCall (sp_l_draw K) [] E0 ((tCons (tVar 0) ((tCons (tC (.int 4)) (tNil))))))) (gName 2)))
    ((tSeq ((tIfS ((tTest (tOp rEq (tVar 2) (tC (.int 0))))) ((tRet (tVar 1))) (tNext)))
    ((tSeq ((tIfS ((tTest (tOp rEq (tVar 2) (tC (.int 1))))) ((tRet ((tCall (sp_l_draw K) [] E0 ((tCons (tVar 0) ((tCons ((tOp (rI0 fun i j => .int (i + j)) (tVar 1) (tC (.int 1)))) (tNil))))))))) (tNext)))
    ((tRet ((tCall (sp_l_draw K) [] E0 ((tCons (tVar 0) ((tCons ((tOp (rI0 fun i j => .int (i + j)) ((tCB rMin2 ((tCons (tVar 1) ((tCons (tC (.int 2)) (tNil))))))) (tC (.int 1)))) (tNil))))))))))))))

theorem pure_l_some (K : PySem.W.Frag) (vs : List V) (H : Hp) (Q : VK) (E : XK) (h : sp_l_some K vs H Q E) : t_l_some K { nx := fun _ H' => Q .non H', rt := Q } (L2.start N_l_some vs) H := by
  obtain ⟨P, m, G, rfl, hm, hm2, hs, k⟩ := h
  rw [st_l_some]
  unfold t_l_some
  walk_at "st"
  refine c_l_draw hs (by omega) fun way H1 w0 w1 hs1 => ?_
  walk_at "st"
  refine ite_dec (fun h1 => ?_) (fun h1 => ?_)
  · walk_at "st"
    exact k _ _ hm (by omega) hs1
  · walk_at "st"
    refine ite_dec (fun h2 => ?_) (fun h2 => ?_)
    · walk_at "st"
      refine c_l_draw hs1 (by omega) fun d H2 d0 d1 hs2 => ?_
      exact k _ _ (by omega) (by omega) hs2
    · walk_at "st"
      have e : (0 : Int) < (if (2 : Int) < m then 2 else m) + 1 ∧ (if (2 : Int) < m then 2 else m) + 1 < 1073741824 ∧ (if (2 : Int) < m then 2 else m) ≤ m := by split <;> omega
      refine c_l_draw hs1 ⟨e.1, Int.lt_of_lt_of_le e.2.1 (by decide)⟩ fun d H2 d0 d1 hs2 => ?_
      exact k _ _ (by omega) (by have := e.2.2; omega) hs2
theorem len_l_some (K : PySem.W.Frag) (vs : List V) (H : Hp) (Q : VK) (E : XK) (h : sp_l_some K vs H Q E) : vs.length = 2 := by
  obtain ⟨P, m, G, rfl, _⟩ := h
  rfl
theorem c_l_some {K : PySem.W.Frag} {P : Pl} {G H : Hp} {m : Int} {Q : VK} {E : XK} (hs : Sees P G H) (h0 : 0 ≤ m ∧ m ≤ 1000) (k : ∀ n H', 0 ≤ n → n ≤ m → Sees P G H' → Q (.int n) H') : sp_l_some K [.ref P.p, .int m] H Q E :=
  ⟨P, m, G, rfl, h0.1, h0.2, hs, k⟩
def sp_l_window (K : PySem.W.Frag) : Sp := fun vs H Q _ => ∃ (P : Pl) (G : Hp) (T a c : Int) (b : Bool), vs = [.ref P.p, .int T, .int a, .int c, .bl b] ∧ Sees P G H ∧ 3 ≤ T ∧ T ≤ 1000 ∧ -20000 ≤ a ∧ a ≤ 20000 ∧ -20000 ≤ c ∧ c ≤ 20000 ∧
  (∀ p G' H', Same G G' → Sees P G' H' → G' p = some (.lst []) → Q (.ref p) H') ∧ ∀ p (x y : Int) G' H', 0 ≤ x → x < T → x ≤ y → y ≤ x + T - 3 → Same G G' → Sees P G' H' → G' p = some (.lst [.int x, .int y]) → KeepW T x y a → KeepW T x y (a + c) → Q (.ref p) H' 
abbrev N_l_window : List Str := ["_law_pool_here", "_law_length_here", "_law_start", "_law_change", "_law_straight", "_law_low", "_law_high", "_law_rest", "_law_side", "_law_room", "_law_below", "_law_above", "_law_least"]
theorem st_l_window {a0 a1 a2 a3 a4 : V} : L2.start N_l_window [a0, a1, a2, a3, a4] = [some a0, some a1, some a2, some a3, some a4, none, none, none, none, none, none, none, none] := rfl
def t_l_window (K : PySem.W.Frag) : TS :=
  (tSeq ((tAsg ((tCB rMin2 ((tCons (tC (.int 0)) ((tCons (tVar 3) (tNil))))))) (gName 5)))
    ((tSeq ((tAsg ((tCB rMax2 ((tCons (tC (.int 0)) ((tCons (tVar 3) (tNil))))))) (gName 6)))
    ((C8.tCut ((tIfS ((tOr ((tNot ((tB (tVar 4))))) ((tTest (tOp (rI0 fun i j => .bl (decide (j < i))) ((tOp (rI0 fun i j => .int (i - j)) (tVar 6) (tVar 5))) ((tOp (rI0 fun i j => .int (i - j)) (tVar 1) (tC (.int 3))))))))) ((tSeq ((tAsg ((tOp (rI (fun _ j => 0 < j) fun i j => .int (i % j)) ((tCB rInt1 ((tCons (tVar 3) (tNil))))) (tVar 1))) (gName 7)))
    ((tSeq ((tAsg ((tCall (sp_l_draw K) [] E0 ((tCons (tVar 0) ((tCons (tC (.int 2)) (tNil))))))) (gName 8)))
    ((tSeq ((tAsg (tC (.int 0)) (gName 5)))
    ((tSeq ((tAsg (tVar 7) (gName 6)))
    ((tSeq ((tIfS ((tOr ((tTest (tOp (rI0 fun i j => .bl (decide (j < i))) (tVar 7) ((tOp (rI0 fun i j => .int (i - j)) (tVar 1) (tC (.int 3))))))) ((tAnd ((tTest (tOp rEq (tVar 8) (tC (.int 1))))) ((tTest (tOp (rI0 fun i j => .bl (decide (j ≤ i))) (tVar 7) (tC (.int 3))))))))) ((tSeq ((tAsg ((tOp (rI0 fun i j => .int (i - j)) (tVar 7) (tVar 1))) (gName 5)))
    ((tAsg (tC (.int 0)) (gName 6))))) (tNext)))
    ((tIfS ((tTest (tOp (rI0 fun i j => .bl (decide (j < i))) ((tOp (rI0 fun i j => .int (i - j)) (tVar 6) (tVar 5))) ((tOp (rI0 fun i j => .int (i - j)) (tVar 1) (tC (.int 3))))))) ((tRet ((tLst (tNil))))) (tNext))))))))))))) (tNext)))
    ((tSeq ((tAsg ((tOp (rI0 fun i j => .int (i - j)) ((tOp (rI0 fun i j => .int (i - j)) (tVar 1) (tC (.int 3)))) ((tOp (rI0 fun i j => .int (i - j)) (tVar 6) (tVar 5))))) (gName 9)))
    ((tSeq ((tAsg ((tCall (sp_l_some K) [] E0 ((tCons (tVar 0) ((tCons (tVar 9) (tNil))))))) (gName 10)))
    ((tSeq ((tAsg ((tCall (sp_l_some K) [] E0 ((tCons (tVar 0) ((tCons ((tOp (rI0 fun i j => .int (i - j)) (tVar 9) (tVar 10))) (tNil))))))) (gName 11)))
    ((tSeq ((tAsg ((tOp (rI (fun _ j => 0 < j) fun i j => .int (i % j)) ((tCB rInt1 ((tCons ((tOp (rI0 fun i j => .int (i - j)) ((tOp (rI0 fun i j => .int (i + j)) (tVar 2) (tVar 5))) (tVar 10))) (tNil))))) (tVar 1))) (gName 12)))
    ((tRet ((tLst ((tCons (tVar 12) ((tCons ((tOp (rI0 fun i j => .int (i + j)) ((tOp (rI0 fun i j => .int (i - j)) ((tOp (rI0 fun i j => .int (i + j)) ((tOp (rI0 fun i j => .int (i + j)) (tVar 12) (tVar 10))) (tVar 6))) (tVar 5))) (tVar 11))) (tNil))))))))))))))))))))))

theorem pure_l_window (K : PySem.W.Frag) (vs : List V) (H : Hp) (Q : VK) (E : XK) (h : sp_l_window K vs H Q E) : t_l_window K { nx := fun _ H' => Q .non H', rt := Q } (L2.start N_l_window vs) H := by
  obtain ⟨P, G, T, a, c, b, rfl, hs, t0, t1, a0, a1, c0, c1, k0, k⟩ := h
  rw [st_l_window]
  unfold t_l_window
  walk_at "st"
  refine wp_cut (fun σ' H' => ∃ (lo hi : Int) (x y : Option V), σ' = [some (.ref P.p), some (.int T), some (.int a), some (.int c), some (.bl b), some (.int lo), some (.int hi), x, y, none, none, none, none] ∧ 0 ≤ hi - lo ∧ hi - lo ≤ T - 3 ∧ -30000 ≤ lo ∧ lo ≤ 30000 ∧ (lo ≤ 0 ∧ 0 ≤ hi ∧ ∃ e : Int, c % T = e % T ∧ lo ≤ e ∧ e ≤ hi) ∧ Sees P G H') ?_ ?_
  · have r0 : 0 ≤ c % T := Int.emod_nonneg _ (by omega)
    have r1 : c % T < T := Int.emod_lt_of_pos _ (by omega)
    have T0 : 0 < T := by omega
    have ea : c % T = (c % T) % T := (Int.emod_emod c T).symm
    have eb : c % T = (c % T - T) % T := by rw [Int.sub_emod, Int.emod_self, Int.sub_zero, Int.emod_emod, Int.emod_emod]
    walk_at "st"
    cases b
    · rw [show (!false) = true from rfl]
      walk_at "st"
      refine c_l_draw hs (by omega) fun e H1 e0 e1 hs1 => ?_
      walk_at "st"
      refine ite_dec (fun h2 => ?_) (fun h2 => ?_)
      · walk_at "st"
        refine ite_dec (fun h4 => ?_) (fun h4 => ?_)
        · walk_at "st"
          refine ⟨Nat.zero_le _, fun p hp => ?_⟩
          obtain ⟨G4, hs4, g4, e4⟩ := hs1.new' (.lst []) hp
          exact k0 p G4 _ g4 hs4 e4
        · walk_at "st"
          exact ⟨_, _, _, _, rfl, by omega, by omega, by omega, by omega, ⟨by omega, by omega, (by first | exact ⟨_, ea, by omega, by omega⟩ | exact ⟨_, eb, by omega, by omega⟩)⟩, hs1⟩
      · walk_at "st"
        refine ite_dec (fun h3 => ?_) (fun h3 => ?_)
        · walk_at "st"
          refine ite_dec (fun h5 => ?_) (fun h5 => ?_)
          · walk_at "st"
            exact ⟨_, _, _, _, rfl, by omega, by omega, by omega, by omega, ⟨by omega, by omega, (by first | exact ⟨_, ea, by omega, by omega⟩ | exact ⟨_, eb, by omega, by omega⟩)⟩, hs1⟩
          · walk_at "st"
            exact ⟨_, _, _, _, rfl, by omega, by omega, by omega, by omega, ⟨by omega, by omega, (by first | exact ⟨_, ea, by omega, by omega⟩ | exact ⟨_, eb, by omega, by omega⟩)⟩, hs1⟩
        · walk_at "st"
          exact ⟨_, _, _, _, rfl, by omega, by omega, by omega, by omega, ⟨by omega, by omega, (by first | exact ⟨_, ea, by omega, by omega⟩ | exact ⟨_, eb, by omega, by omega⟩)⟩, hs1⟩
    · rw [show (!true) = false from rfl]
      walk_at "st"
      refine ite_dec (fun h => ?_) (fun h => ?_)
      · walk_at "st"
        refine c_l_draw hs (by omega) fun e H1 e0 e1 hs1 => ?_
        walk_at "st"
        refine ite_dec (fun h2 => ?_) (fun h2 => ?_)
        · walk_at "st"
          refine ite_dec (fun h4 => ?_) (fun h4 => ?_)
          · walk_at "st"
            refine ⟨Nat.zero_le _, fun p hp => ?_⟩
            obtain ⟨G4, hs4, g4, e4⟩ := hs1.new' (.lst []) hp
            exact k0 p G4 _ g4 hs4 e4
          · walk_at "st"
            exact ⟨_, _, _, _, rfl, by omega, by omega, by omega, by omega, ⟨by omega, by omega, (by first | exact ⟨_, ea, by omega, by omega⟩ | exact ⟨_, eb, by omega, by omega⟩)⟩, hs1⟩
        · walk_at "st"
          refine ite_dec (fun h3 => ?_) (fun h3 => ?_)
          · walk_at "st"
            refine ite_dec (fun h5 => ?_) (fun h5 => ?_)
            · walk_at "st"
              exact ⟨_, _, _, _, rfl, by omega, by omega, by omega, by omega, ⟨by omega, by omega, (by first | exact ⟨_, ea, by omega, by omega⟩ | exact ⟨_, eb, by omega, by omega⟩)⟩, hs1⟩
            · walk_at "st"
              exact ⟨_, _, _, _, rfl, by omega, by omega, by omega, by omega, ⟨by omega, by omega, (by first | exact ⟨_, ea, by omega, by omega⟩ | exact ⟨_, eb, by omega, by omega⟩)⟩, hs1⟩
          · walk_at "st"
            exact ⟨_, _, _, _, rfl, by omega, by omega, by omega, by omega, ⟨by omega, by omega, (by first | exact ⟨_, ea, by omega, by omega⟩ | exact ⟨_, eb, by omega, by omega⟩)⟩, hs1⟩
      · walk_at "st"
        refine ⟨_, _, _, _, rfl, ?_, ?_, ?_, ?_, ⟨?_, ?_, c, rfl, ?_, ?_⟩, hs⟩
        all_goals first | (split <;> split <;> omega) | (split <;> omega) | omega
  · rintro σ' H' ⟨lo, hi, x, y, rfl, d0, d1, l0, l1, ⟨z0, z1, e, ee, f0, f1⟩, hs1⟩
    walk_at "st"
    refine c_l_some hs1 (by omega) fun be H2 b0 b1 hs2 => ?_
    walk_at "st"
    refine c_l_some hs2 (by omega) fun ab H3 i0 i1 hs3 => ?_
    walk_at "st"
    have m0 : 0 ≤ (a + lo - be) % T := Int.emod_nonneg _ (by omega)
    have m1 : (a + lo - be) % T < T := Int.emod_lt_of_pos _ (by omega)
    refine ⟨by simp [sizeLine_eq], fun p hp => ?_⟩
    obtain ⟨G4, hs4, g4, e4⟩ := hs3.new' (.lst [.int ((a + lo - be) % T), .int ((a + lo - be) % T + be + hi - lo + ab)]) hp
    refine k p _ _ G4 _ m0 m1 (by omega) (by omega) g4 hs4 e4 (keepW_of (d := be - lo) (by rw [show a - (a + lo - be) = be - lo by omega]) (by omega) (by omega) (by omega)) (keepW_of (d := e + (be - lo)) ?_ (by omega) (by omega) (by omega))
    rw [show a + c - (a + lo - be) = c + (be - lo) by omega]
    exact emod_add ee
theorem len_l_window (K : PySem.W.Frag) (vs : List V) (H : Hp) (Q : VK) (E : XK) (h : sp_l_window K vs H Q E) : vs.length = 5 := by
  obtain ⟨_, _, _, _, _, _, rfl, _⟩ := h
  rfl
theorem c_l_window {K : PySem.W.Frag} {P : Pl} {G H : Hp} {T a c : Int} {b : Bool} {Q : VK} {E : XK} (hs : Sees P G H) (t0 : 3 ≤ T) (t1 : T ≤ 1000) (a0 : -20000 ≤ a) (a1 : a ≤ 20000) (c0 : -20000 ≤ c) (c1 : c ≤ 20000) (k0 : ∀ p G' H', Same G G' → Sees P G' H' → G' p = some (.lst []) → Q (.ref p) H')
    (k : ∀ p (x y : Int) G' H', 0 ≤ x → x < T → x ≤ y → y ≤ x + T - 3 → Same G G' → Sees P G' H' → G' p = some (.lst [.int x, .int y]) → KeepW T x y a → KeepW T x y (a + c) → Q (.ref p) H') : sp_l_window K [.ref P.p, .int T, .int a, .int c, .bl b] H Q E := ⟨P, G, T, a, c, b, rfl, hs, t0, t1, a0, a1, c0, c1, k0, k⟩
def sp_l_span (K : PySem.W.Frag) : Sp := fun vs H Q _ => ∃ (P : Pl) (T : Int) (q B D : Addr) (ns : List (List Nat)) (bs cs : List Int) (k : Int) (b : Bool) (G : Hp), vs = [.ref P.p, .int T, .ref q, .ref B, .ref D, .int k, .bl b] ∧ OkNs T ns ∧ 2 ≤ ns.length ∧ G q = some (.lst (ns.map sv)) ∧
  G B = some (.lst (bs.map V.int)) ∧ G D = some (.lst (cs.map V.int)) ∧ bs.length = ns.length ∧ cs.length = ns.length ∧ (∀ j ∈ bs, 0 ≤ j ∧ j < T) ∧ (∀ j ∈ cs, -5000 ≤ j ∧ j ≤ 5000) ∧ 0 ≤ k ∧ k ≤ 1000 ∧ Sees P G H ∧
  (∀ p G' H', Same G G' → Sees P G' H' → G' p = some (.lst []) → Q (.ref p) H') ∧ ∀ p x G' H', IsSpK G' T ns bs cs x → Same G G' → Sees P G' H' → G' p = some (.lst [x]) → Q (.ref p) H'
abbrev N_l_span : List Str := ["_law_pool_here", "_law_length_here", "_law_names_here", "_law_before", "_law_changes_here", "_law_k", "_law_straight", "_law_many", "_law_u", "_law_v", "_law_window_here"]
theorem st_l_span {a0 a1 a2 a3 a4 a5 a6 : V} : L2.start N_l_span [a0, a1, a2, a3, a4, a5, a6] = [some a0, some a1, some a2, some a3, some a4, some a5, some a6, none, none, none, none] := rfl
def t_l_span (K : PySem.W.Frag) : TS :=
  (tSeq ((tAsg ((tCB (rLenS K) ((tCons (tVar 2) (tNil))))) (gName 7)))
    ((tSeq ((tAsg ((tCall (sp_l_draw K) [] E0 ((tCons (tVar 0) ((tCons (tVar 7) (tNil))))))) (gName 8)))
    ((tSeq ((tAsg ((tOp (rI (fun _ j => 0 < j) fun i j => .int (i % j)) ((tCB rInt1 ((tCons ((tOp (rI0 fun i j => .int (i + j)) ((tOp (rI0 fun i j => .int (i + j)) (tVar 8) (tC (.int 1)))) ((tCall (sp_l_draw K) [] E0 ((tCons (tVar 0) ((tCons ((tOp (rI0 fun i j => .int (i - j)) (tVar 7) (tC (.int 1)))) (tNil))))))))) (tNil))))) (tVar 7))) (gName 9)))
    ((C8.tCut ((tIfS ((tAnd ((tTest (tOp (rI0 fun i j => .bl (decide (i < j))) ((tOp (rI0 fun i j => .int (i + j)) (tVar 5) (tC (.int 1)))) (tVar 7)))) ((tTest (tOp (rI0 fun i j => .bl (decide (j < i))) ((tCall (sp_l_draw K) [] E0 ((tCons (tVar 0) ((tCons (tC (.int 4)) (tNil))))))) (tC (.int 0))))))) ((tSeq ((tAsg ((tOp (rI0 fun i j => .int (i + j)) (tVar 5) (tC (.int 1)))) (gName 8)))
    ((tSeq ((tAsg ((tCall (sp_l_draw K) [] E0 ((tCons (tVar 0) ((tCons ((tOp (rI0 fun i j => .int (i + j)) (tVar 5) (tC (.int 1)))) (tNil))))))) (gName 9)))
    ((tIfS ((tTest (tOp rEq ((tCall (sp_l_draw K) [] E0 ((tCons (tVar 0) ((tCons (tC (.int 2)) (tNil))))))) (tC (.int 1))))) ((tSeq ((tAsg (tVar 9) (gName 8)))
    ((tAsg ((tOp (rI0 fun i j => .int (i + j)) (tVar 5) (tC (.int 1)))) (gName 9))))) (tNext))))))) (tNext)))
    ((tSeq ((tAsg ((tCall (sp_l_window K) [] E0 ((tCons (tVar 0) ((tCons (tVar 1) ((tCons ((tOp (rI0 fun i j => .int (i - j)) ((tOp (rIxL K) (tVar 3) (tVar 9))) ((tOp (rIxL K) (tVar 3) (tVar 8))))) ((tCons ((tOp (rI0 fun i j => .int (i - j)) ((tOp (rIxL K) (tVar 4) (tVar 9))) ((tOp (rIxL K) (tVar 4) (tVar 8))))) ((tCons (tVar 6) (tNil))))))))))))) (gName 10)))
    ((tSeq ((tIfS ((tTest (tOp (rEqD K) (tVar 10) ((tLst (tNil)))))) ((tRet ((tLst (tNil))))) (tNext)))
    ((tRet ((tLst ((tCons ((tTup ((tCons ((tOp (rIxL K) (tVar 2) (tVar 8))) ((tCons ((tOp (rIxL K) (tVar 2) (tVar 9))) ((tCons ((tOp (rIxL K) (tVar 10) (tC (.int 0)))) ((tCons ((tOp (rIxL K) (tVar 10) (tC (.int 1)))) ((tCons ((tCall (sp_l_weight K) [] E0 ((tCons (tVar 0) (tNil))))) (tNil))))))))))))) (tNil))))))))))))))))))

theorem pure_l_span (K : PySem.W.Frag) (vs : List V) (H : Hp) (Q : VK) (E : XK) (h : sp_l_span K vs H Q E) : t_l_span K { nx := fun _ H' => Q .non H', rt := Q } (L2.start N_l_span vs) H := by
  obtain ⟨P, T, q, B, D, ns, bs, cs, k, b, G, rfl, ok, hl, hq, hB, hD, lb, lc, bb, bc, k0, k1, hs, kn, ky⟩ := h
  have t0 := ok.t0
  have t1 := ok.t1
  have f := ok.few
  have el : (ns.map sv).length = ns.length := List.length_map ..
  rw [st_l_span]
  unfold t_l_span
  walk_at "st"
  refine c_l_draw hs (by omega) fun u H1 u0 u1 hs1 => ?_
  walk_at "st"
  refine c_l_draw hs1 (by omega) fun d H2 d0 d1 hs2 => ?_
  walk_at "st"
  rw [el] at u1 d1 ⊢
  have v0 : 0 ≤ (u + 1 + d) % (ns.length : Int) := Int.emod_nonneg _ (by omega)
  have v1 : (u + 1 + d) % (ns.length : Int) < ns.length := Int.emod_lt_of_pos _ (by omega)
  have vne : u ≠ (u + 1 + d) % (ns.length : Int) := fun e => by
    by_cases hh : u + 1 + d < ns.length
    · rw [Int.emod_eq_of_lt (by omega) hh] at e; omega
    · have e2 : u + 1 + d = (u + 1 + d - ns.length) + ns.length := by omega
      rw [e2, Int.add_emod_right, Int.emod_eq_of_lt (by omega) (by omega)] at e
      omega
  revert v0 v1 vne
  generalize (u + 1 + d) % (ns.length : Int) = v
  intro v0 v1 vne
  refine wp_cut (fun σ' H' => ∃ (u v : Int), σ' = [some (.ref P.p), some (.int T), some (.ref q), some (.ref B), some (.ref D), some (.int k), some (.bl b), some (.int (ns.length : Nat)), some (.int u), some (.int v), none] ∧ 0 ≤ u ∧ u < ns.length ∧ 0 ≤ v ∧ v < ns.length ∧ u ≠ v ∧ Sees P G H') ?_ ?_
  · walk_at "st"
    refine ite_dec (fun h1 => ?_) (fun h1 => ?_)
    · walk_at "st"
      refine c_l_draw hs2 (by omega) fun e H3 e0 e1 hs3 => ?_
      walk_at "st"
      refine ite_dec (fun h2 => ?_) (fun h2 => ?_)
      · walk_at "st"
        refine c_l_draw hs3 (by omega) fun w H4 w0 w1 hs4 => ?_
        walk_at "st"
        refine c_l_draw hs4 (by omega) fun y H5 y0 y1 hs5 => ?_
        walk_at "st"
        refine ite_dec (fun h3 => ?_) (fun h3 => ?_)
        · walk_at "st"
          exact ⟨_, _, rfl, by omega, by omega, by omega, by omega, by omega, hs5⟩
        · walk_at "st"
          exact ⟨_, _, rfl, by omega, by omega, by omega, by omega, by omega, hs5⟩
      · walk_at "st"
        exact ⟨_, _, rfl, u0, u1, v0, v1, vne, hs3⟩
    · walk_at "st"
      exact ⟨_, _, rfl, u0, u1, v0, v1, vne, hs2⟩
  · clear vne v1 v0 u0 u1 hs1 hs2
    rintro σ' H' ⟨u, v, rfl, u0, u1, v0, v1, vne, hs3⟩
    walk_at "st"
    have lb' : (bs.map V.int).length = ns.length := by rw [List.length_map]; exact lb
    have lc' : (cs.map V.int).length = ns.length := by rw [List.length_map]; exact lc
    refine wp_ixLM (sq_of (hs3.sub _ _ hB)) v0 (by omega) fun x _ hx => ?_
    obtain ⟨bv, rfl, ebv⟩ := ixI hx
    walk_at "st"
    refine wp_ixLM (sq_of (hs3.sub _ _ hB)) u0 (by omega) fun x _ hx => ?_
    obtain ⟨bu, rfl, ebu⟩ := ixI hx
    walk_at "st"
    refine wp_ixLM (sq_of (hs3.sub _ _ hD)) v0 (by omega) fun x _ hx => ?_
    obtain ⟨cv, rfl, ecv⟩ := ixI hx
    walk_at "st"
    refine wp_ixLM (sq_of (hs3.sub _ _ hD)) u0 (by omega) fun x _ hx => ?_
    obtain ⟨cu, rfl, ecu⟩ := ixI hx
    walk_at "st"
    have b1 := bb _ (List.mem_of_getElem? ebv)
    have b2 := bb _ (List.mem_of_getElem? ebu)
    have b3 := bc _ (List.mem_of_getElem? ecv)
    have b4 := bc _ (List.mem_of_getElem? ecu)
    refine c_l_window hs3 (by omega) (by omega) (by omega) (by omega) (by omega) (by omega) (fun W G4 H4 g4 hs4 hW => ?_) (fun W x y G4 H4 x0 x1 y0 y1 g4 hs4 hW w1 w2 => ?_)
    · walk_at "st"
      refine ⟨Nat.zero_le _, fun z hz => ?_⟩
      refine wp_eqNL (ds := []) (Same.new hz _ _ (hs4.sub _ _ hW)) upd_same .nil rfl ?_
      rw [show decide (([] : List PyData) = []) = true from rfl]
      obtain ⟨G5, hs5, g5, _⟩ := hs4.new' (.lst []) hz
      walk_at "st"
      refine ⟨Nat.zero_le _, fun p hp => ?_⟩
      obtain ⟨G6, hs6, g6, e6⟩ := hs5.new' (.lst []) hp
      exact kn p G6 _ (g4.trans (g5.trans g6)) hs6 e6
    · walk_at "st"
      refine ⟨Nat.zero_le _, fun z hz => ?_⟩
      refine wp_eqNL (ds := [.int x, .int y]) (Same.new hz _ _ (hs4.sub _ _ hW)) upd_same (.cons (.int _) (.cons (.int _) .nil)) rfl ?_
      rw [show decide (([.int x, .int y] : List PyData) = []) = false from rfl]
      obtain ⟨G5, hs5, g5, _⟩ := hs4.new' (.lst []) hz
      have g45 := g4.trans g5
      walk_at "st"
      refine wp_ixLM (sq_of (hs5.sub _ _ (g45 _ _ hq))) u0 (by omega) fun n1 m1 hn1 => ?_
      walk_at "st"
      refine wp_ixLM (sq_of (hs5.sub _ _ (g45 _ _ hq))) v0 (by omega) fun n2 m2 hn2 => ?_
      have hW5 := hs5.sub _ _ (g5 _ _ hW)
      walk_at "st"
      refine c_l_weight hs5 fun w H6 w0 w1' hs6 => ?_
      walk_at "st"
      rw [List.getElem?_map] at hn1 hn2
      obtain ⟨nu, e1, rfl⟩ := Option.map_eq_some_iff.mp hn1
      obtain ⟨nv, e2, rfl⟩ := Option.map_eq_some_iff.mp hn2
      have hne : nu ≠ nv := fun e => by
        subst e
        have := nodup_ix ok.nodup e1 e2
        omega
      refine ⟨by simp [sizeLine_eq], fun p hp => ?_⟩
      have row : OkR T ns ⟨nu, nv, x, y, w⟩ := ⟨List.mem_of_getElem? e1, List.mem_of_getElem? e2, hne, x0, by show x ≤ T - 1; omega, y0, by show y ≤ x + T - 3; omega, w0, w1'⟩
      have hs7 := hs6.new (o := .tup (rowV ⟨nu, nv, x, y, w⟩)) hp
      have g7 : Same G5 (upd G5 p (.tup (rowV ⟨nu, nv, x, y, w⟩))) := Same.new (hs6.sub.free hp)
      walk_at "st"
      refine ⟨by simp [sizeLine_eq], fun L hL => ?_⟩
      obtain ⟨G8, hs8, g8, e8⟩ := hs7.new' (.lst [.ref p]) hL
      refine ky L (.ref p) G8 _ (IsSpK.mono g8 ⟨⟨nu, nv, x, y, w⟩, ⟨p, rfl, upd_same⟩, row, u.toNat, v.toNat, bu, bv, cu, cv, e1, e2, ebu, ebv, ecu, ecv, w1, w2⟩) (g45.trans (g7.trans g8)) hs8 e8
theorem len_l_span (K : PySem.W.Frag) (vs : List V) (H : Hp) (Q : VK) (E : XK) (h : sp_l_span K vs H Q E) : vs.length = 7 := by
  obtain ⟨_, _, _, _, _, _, _, _, _, _, _, rfl, _⟩ := h
  rfl
theorem c_l_span {K : PySem.W.Frag} {P : Pl} {T : Int} {q B D : Addr} {ns : List (List Nat)} {bs cs : List Int} {k : Int} {b : Bool} {G H : Hp} {Q : VK} {E : XK} (hs : Sees P G H) (ok : OkNs T ns) (hl : 2 ≤ ns.length) (hq : G q = some (.lst (ns.map sv))) (hB : G B = some (.lst (bs.map V.int))) (hD : G D = some (.lst (cs.map V.int))) (lb : bs.length = ns.length) (lc : cs.length = ns.length)
    (bb : ∀ j ∈ bs, 0 ≤ j ∧ j < T) (bc : ∀ j ∈ cs, -5000 ≤ j ∧ j ≤ 5000) (k0 : 0 ≤ k) (k1 : k ≤ 1000) (kn : ∀ p G' H', Same G G' → Sees P G' H' → G' p = some (.lst []) → Q (.ref p) H') (ky : ∀ p x G' H', IsSpK G' T ns bs cs x → Same G G' → Sees P G' H' → G' p = some (.lst [x]) → Q (.ref p) H') :
    sp_l_span K [.ref P.p, .int T, .ref q, .ref B, .ref D, .int k, .bl b] H Q E := ⟨P, T, q, B, D, ns, bs, cs, k, b, G, rfl, ok, hl, hq, hB, hD, lb, lc, bb, bc, k0, k1, hs, kn, ky⟩
def sp_l_case (K : PySem.W.Frag) : Sp := fun vs H Q _ => ∃ (P : Pl) (G : Hp) (e m : Nat) (tm : Int), vs = [.ref P.p, .int e, .int m, .int tm] ∧ Sees P G H ∧ e ≤ 12 ∧ m ≤ 24 ∧ 3 ≤ tm ∧ tm ≤ 120 ∧
  ∀ L T N S A B ns ss bs cs G' H', Case P G' L e m tm T N S A B ns ss bs cs → Same G G' → Sees P G' H' → Q (.ref L) H'
abbrev N_l_case : List Str := ["_law_pool_here", "_law_most_events", "_law_most_spans", "_law_most_length", "_law_length_here", "_law_many", "_law_names_here", "_law_before", "_law_changes_here", "_law_crooked", "_law_spans", "_law_k", "_law_straight", "_law_cut", "_law_after", "_law_name"]
theorem st_l_case {a0 a1 a2 a3 : V} : L2.start N_l_case [a0, a1, a2, a3] = [some a0, some a1, some a2, some a3, none, none, none, none, none, none, none, none, none, none, none, none] := rfl
def t_l_case (K : PySem.W.Frag) : TS :=
  (tSeq ((tAsg ((tCall (sp_l_length K) [] E0 ((tCons (tVar 0) ((tCons (tVar 3) (tNil))))))) (gName 4)))
    ((tSeq ((tAsg ((tCall (sp_l_draw K) [] E0 ((tCons (tVar 0) ((tCons ((tOp (rI0 fun i j => .int (i + j)) (tVar 1) (tC (.int 1)))) (tNil))))))) (gName 5)))
    ((tSeq ((tAsg ((tCall (sp_l_names K) [] E0 ((tCons (tVar 0) ((tCons (tVar 5) (tNil))))))) (gName 6)))
    ((tSeq ((tAsg ((tLc ((iList K (tVar 6))) ((gName 15)) (tYes) ((tCall (sp_l_draw K) [] E0 ((tCons (tVar 0) ((tCons (tVar 4) (tNil))))))) [15])) (gName 7)))
    ((tSeq ((tAsg ((tCall (sp_l_changes K) [] E0 ((tCons (tVar 0) ((tCons (tVar 5) ((tCons (tVar 4) (tNil))))))))) (gName 8)))
    ((tSeq ((tAsg ((tOp rEq ((tCall (sp_l_draw K) [] E0 ((tCons (tVar 0) ((tCons (tC (.int 4)) (tNil))))))) (tC (.int 0)))) (gName 9)))
    ((tSeq ((tAsg ((tLst (tNil))) (gName 10)))
    ((C8.tCut ((tIfS ((tTest (tOp (rI0 fun i j => .bl (decide (j < i))) (tVar 5) (tC (.int 1))))) ((tFor ((iRng1 ((tCons ((tCall (sp_l_draw K) [] E0 ((tCons (tVar 0) ((tCons ((tOp (rI0 fun i j => .int (i + j)) (tVar 2) (tC (.int 1)))) (tNil))))))) (tNil))))) (gName 11) ((tSeq ((tAsg (tC (.bl true)) (gName 12)))
    ((C8.tCut ((tIfS ((tB (tVar 9))) ((tAsg ((tOp rEq ((tCall (sp_l_draw K) [] E0 ((tCons (tVar 0) ((tCons (tC (.int 2)) (tNil))))))) (tC (.int 0)))) (gName 12))) (tNext)))
    ((tAsg ((tOp rCat (tVar 10) ((tCall (sp_l_span K) [] E0 ((tCons (tVar 0) ((tCons (tVar 4) ((tCons (tVar 6) ((tCons (tVar 7) ((tCons (tVar 8) ((tCons (tVar 11) ((tCons (tVar 12) (tNil))))))))))))))))))) (gName 10))))))))) (tNext)))
    ((tSeq ((tAsg ((tCall (sp_l_draw K) [] E0 ((tCons (tVar 0) ((tCons ((tOp (rI0 fun i j => .int (i + j)) ((tCB (rLenS K) ((tCons (tVar 10) (tNil))))) (tC (.int 1)))) (tNil))))))) (gName 13)))
    ((tSeq ((tAsg ((tOp rCat ((tSl (rSlL K) (tVar 10) (tPart (tVar 13)) tNoPart)) ((tSl (rSlL K) (tVar 10) tNoPart (tPart (tVar 13)))))) (gName 10)))
    ((tSeq ((tAsg (tLc ((iRng1 ((tCons (tVar 5) (tNil))))) ((gName 11)) (tYes) ((tOp (rI (fun _ j => 0 < j) fun i j => .int (i % j)) ((tCB rInt1 ((tCons ((tOp (rI0 fun i j => .int (i + j)) ((tOp (rIxL K) (tVar 7) (tVar 11))) ((tOp (rIxL K) (tVar 8) (tVar 11))))) (tNil))))) (tVar 4))) [11]) (gName 14)))
    ((tRet ((tLst ((tCons (tVar 4) ((tCons (tVar 6) ((tCons (tVar 10) ((tCons (tVar 7) ((tCons (tVar 14) (tNil))))))))))))))))))))))))))))))))))))

theorem pure_l_case (K : PySem.W.Frag) (vs : List V) (H : Hp) (Q : VK) (E : XK) (h : sp_l_case K vs H Q E) : t_l_case K { nx := fun _ H' => Q .non H', rt := Q } (L2.start N_l_case vs) H := by
  obtain ⟨P, G, e, m, tm, rfl, hs, e1, m1, tm0, tm1, k⟩ := h
  rw [st_l_case]
  unfold t_l_case
  walk_at "st"
  refine c_l_length hs (by omega) fun T H1 t0 t1 hs1 => ?_
  walk_at "st"
  refine c_l_draw hs1 (by omega) fun n H2 n0 n1 hs2 => ?_
  walk_at "st"
  refine c_l_names hs2 (by omega) fun ns q G3 H3 el nnm nnd sG3 hq hs3 => ?_
  have elm : (ns.map sv).length = ns.length := List.length_map ..
  obtain rfl : n = (ns.length : Nat) := el.symm
  clear hs1 hs2
  have ok : OkNs T ns := ⟨t0, by omega, by omega, nnd, nnm⟩
  walk_at "st"
  refine lcPL (by omega) hs3 (sq_of (hs3.sub _ _ hq)) (fun H' s => sq_of (s.sub _ _ hq)) (fun i acc => ∃ is : List Int, acc = is.map V.int ∧ is.length = i ∧ ∀ j ∈ is, 0 ≤ j ∧ j < T) ⟨[], rfl, rfl, by simp⟩ (fun i x acc G2 H2 R hx' s1 s2 hl hI kR => ?_) (fun B acc H4 hs' hs4 hs'' hl hI => ?_)
  · obtain ⟨l, _, rfl⟩ := List.mem_map.mp (List.mem_of_getElem? hx')
    obtain ⟨is, rfl, li, ri⟩ := hI
    rw [show wipe ([some (.ref P.p), some (.int e), some (.int m), some (.int tm), some (.int T), some (.int (ns.length : Nat)), some (.ref q), none, none, none, none, none, none, none, none, none] : L2.St) [15] = [some (.ref P.p), some (.int e), some (.int m), some (.int tm), some (.int T), some (.int (ns.length : Nat)), some (.ref q), none, none, none, none, none, none, none, none, none] from rfl]
    show gName 15 (sv l) _ _ _
    walk_at "st"
    refine ⟨rfl, ?_⟩
    walk_at "st"
    refine c_l_draw s2 (by omega) fun d H5 d0 d1 s5 => ?_
    refine kR _ _ s5 ⟨is ++ [d], by rw [List.map_append]; rfl, by simp [li], fun j hj => ?_⟩
    rcases List.mem_append.mp hj with h | h
    · exact ri j h
    · rw [List.mem_singleton.mp h]; omega
  obtain ⟨bs, rfl, lb, bb⟩ := hI
  rw [elm] at lb
  have gs := hs3.sub.free hs'
  have sG4 := Same.new (o := .lst (bs.map V.int)) gs
  have hs5 := hs4.with gs hs'' (hs3.fresh hs').2
  have hq := sG4 _ _ hq
  have hB : upd G3 B (.lst (bs.map V.int)) B = some (.lst (bs.map V.int)) := upd_same
  have sGa := sG3.trans sG4
  clear hs3 hs4 hs' hs'' gs sG4 sG3
  revert hs5 hq hB sGa
  generalize upd G3 B (.lst (bs.map V.int)) = G4
  intro hs5 hq hB sGa
  walk_at "st"
  refine c_l_changes hs5 (by omega) t0 (by omega) fun D cs G5 H5 lc bc g5 hs6 hD => ?_
  have hq := g5 _ _ hq
  have hB := g5 _ _ hB
  have sGb := sGa.trans g5
  clear sGa hs5 g5
  walk_at "st"
  refine c_l_draw hs6 (by omega) fun cr H6 cr0 cr1 hs7 => ?_
  walk_at "st"
  generalize decide (cr = 0) = crk
  refine ⟨Nat.zero_le _, fun S0 hS0 => ?_⟩
  obtain ⟨G7, hs8, g7, hS7⟩ := hs7.new' (.lst []) hS0
  have hq := g7 _ _ hq
  have hB := g7 _ _ hB
  have hD := g7 _ _ hD
  have sGc := sGb.trans g7
  clear sGb hs6 hs7 g7 hS0
  walk_at "st"
  refine wp_cut (fun σ' H' => ∃ (S : Addr) (x y : Option V) (ss : List V) (G' : Hp), σ' = [some (.ref P.p), some (.int e), some (.int m), some (.int tm), some (.int T), some (.int (ns.length : Nat)), some (.ref q), some (.ref B), some (.ref D), some (.bl crk), some (.ref S), x, y, none, none, none] ∧ ss.length ≤ m ∧ (∀ z ∈ ss, IsSpK G' T ns bs cs z) ∧ (2 ≤ ns.length ∨ ss = []) ∧ G' S = some (.lst ss) ∧ Same G7 G' ∧ Sees P G' H') ?_ ?_
  · walk_at "st"
    refine ite_dec (fun h1 => ?_) (fun h1 => ?_)
    · walk_at "st"
      refine c_l_draw hs8 (by omega) fun c H8 c0 c1 hs9 => ?_
      walk_at "st"
      refine loop1 (by omega) (fun i σ' H' => ∃ (S : Addr) (x y : Option V) (ss : List V) (G' : Hp), σ' = [some (.ref P.p), some (.int e), some (.int m), some (.int tm), some (.int T), some (.int (ns.length : Nat)), some (.ref q), some (.ref B), some (.ref D), some (.bl crk), some (.ref S), x, y, none, none, none] ∧ ss.length ≤ i ∧ (∀ z ∈ ss, IsSpK G' T ns bs cs z) ∧ G' S = some (.lst ss) ∧ Same G7 G' ∧ Sees P G' H') ⟨_, _, _, [], _, rfl, Nat.zero_le _, by simp, hS7, Same.refl _, hs9⟩ ?_ ?_
      · rintro i σ' H' hi ⟨S, x, y, ss, G', rfl, hl, hsp, hS, sg, hs10⟩
        walk_at "st"
        refine wp_cut (fun σ' H' => ∃ (b : Bool), σ' = [some (.ref P.p), some (.int e), some (.int m), some (.int tm), some (.int T), some (.int (ns.length : Nat)), some (.ref q), some (.ref B), some (.ref D), some (.bl crk), some (.ref S), some (.int i), some (.bl b), none, none, none] ∧ Sees P G' H') ?_ ?_
        · cases crk
          · walk_at "st"
            exact ⟨_, rfl, hs10⟩
          · walk_at "st"
            refine c_l_draw hs10 (by omega) fun d H11 d0 d1 hs11 => ?_
            walk_at "st"
            exact ⟨_, rfl, hs11⟩
        · rintro σ' H11 ⟨b, rfl, hs11⟩
          walk_at "st"
          refine c_l_span hs11 ok (by omega) (sg _ _ hq) (sg _ _ hB) (sg _ _ hD) lb lc bb bc (by omega) (by omega) (fun p G12 H12 g12 hs12 hp => ?_) (fun p z G12 H12 hz g12 hs12 hp => ?_)
          · walk_at "st"
            refine wp_cat (hs12.sub _ _ (g12 _ _ hS)) (hs12.sub _ _ hp) (by simp only [List.length_nil]; omega) fun r hr => ?_
            obtain ⟨G13, hs13, g13, hr13⟩ := hs12.new' (.lst (ss ++ [])) hr
            walk_at "st"
            exact ⟨r, _, _, ss, G13, rfl, by omega, fun z hz => (hsp z hz).mono (g12.trans g13), by rw [List.append_nil] at hr13; exact hr13, sg.trans (g12.trans g13), hs13⟩
          · walk_at "st"
            refine wp_cat (hs12.sub _ _ (g12 _ _ hS)) (hs12.sub _ _ hp) (by simp only [List.length_cons, List.length_nil]; omega) fun r hr => ?_
            obtain ⟨G13, hs13, g13, hr13⟩ := hs12.new' (.lst (ss ++ [z])) hr
            walk_at "st"
            refine ⟨r, _, _, ss ++ [z], G13, rfl, by simp; omega, fun y hy => ?_, hr13, sg.trans (g12.trans g13), hs13⟩
            rcases List.mem_append.mp hy with hy | hy
            · exact (hsp y hy).mono (g12.trans g13)
            · rw [List.mem_singleton.mp hy]
              exact hz.mono g13
      · rintro σ' H' ⟨S, x, y, ss, G', rfl, hl, hsp, hS, sg, hs10⟩
        walk_at "st"
        exact ⟨S, _, _, ss, G', rfl, by omega, hsp, .inl (by omega), hS, sg, hs10⟩
    · walk_at "st"
      exact ⟨S0, _, _, [], _, rfl, Nat.zero_le _, by simp, .inr rfl, hS7, Same.refl _, hs8⟩
  · rintro σ' H' ⟨S, x, y, ss, G', rfl, hl, hsp, htwo, hS, sg, hs9⟩
    have hq := sg _ _ hq
    have hB := sg _ _ hB
    have hD := sg _ _ hD
    have sGd := sGc.trans sg
    clear sGc sg hs8 hS7
    walk_at "st"
    refine c_l_draw hs9 (by omega) fun c H10 c0 c1 hs10 => ?_
    walk_at "st"
    refine wp_sliceL (sq_of (hs10.sub _ _ hS)) fun p1 hp1 => ?_
    obtain ⟨G11, hs11, g11, e11⟩ := hs10.new' (.lst (cutG ss (some c) none)) hp1
    walk_at "st"
    refine wp_sliceL (sq_of (hs11.sub _ _ (g11 _ _ hS))) fun p2 hp2 => ?_
    obtain ⟨G12, hs12, g12, e12⟩ := hs11.new' (.lst (cutG ss none (some c))) hp2
    have e11 := g12 _ _ e11
    rw [cutG_from1 c0 (by omega)] at e11
    rw [cutG_to1 c0 (by omega)] at e12
    walk_at "st"
    refine wp_cat (hs12.sub _ _ e11) (hs12.sub _ _ e12) (by rw [List.length_drop, List.length_take]; omega) fun p3 hp3 => ?_
    obtain ⟨G13, hs13, g13, e13⟩ := hs12.new' (.lst (ss.drop c.toNat ++ ss.take c.toNat)) hp3
    have gg := g11.trans (g12.trans g13)
    have hq := gg _ _ hq
    have hB := gg _ _ hB
    have hD := gg _ _ hD
    have sGe := sGd.trans gg
    have hsp2 : ∀ z ∈ ss.drop c.toNat ++ ss.take c.toNat, IsSpK G13 T ns bs cs z := fun z hz => (hsp z ((List.mem_append.mp hz).elim List.mem_of_mem_drop List.mem_of_mem_take)).mono gg
    have hl2 : (ss.drop c.toNat ++ ss.take c.toNat).length = ss.length := by rw [List.length_append, List.length_drop, List.length_take]; omega
    have htwo2 : 2 ≤ ns.length ∨ ss.drop c.toNat ++ ss.take c.toNat = [] := htwo.imp_right fun z => by rw [z]; simp
    clear hs10 hs11 hs12 g11 g12 g13 e11 e12 sGd
    revert hsp2 hl2 htwo2 e13 hs13
    generalize ss.drop c.toNat ++ ss.take c.toNat = zs
    intro hs13 e13 hsp2 hl2 htwo2
    walk_at "st"
    refine lcGR (by omega) (fun i => ((List.range i).map (aft T bs cs)).map V.int) rfl (fun i => by rw [List.length_map, List.length_map, List.length_range]; omega) (fun i H14 R R0 hi s14 k1 _ => ?_) (fun A H14 hA s14 hA2 => ?_)
    · rw [show wipe ([some (.ref P.p), some (.int e), some (.int m), some (.int tm), some (.int T), some (.int (ns.length : Nat)), some (.ref q), some (.ref B), some (.ref D), some (.bl crk), some (.ref p3), x, y, some (.int c), none, none] : L2.St) [11] = [some (.ref P.p), some (.int e), some (.int m), some (.int tm), some (.int T), some (.int (ns.length : Nat)), some (.ref q), some (.ref B), some (.ref D), some (.bl crk), some (.ref p3), none, y, some (.int c), none, none] from rfl]
      have hs14 := hs13.same s14
      walk_at "st"
      refine ⟨rfl, ?_⟩
      walk_at "st"
      refine wp_ixLM (sq_of (hs14.sub _ _ hB)) (by omega) (by rw [List.length_map]; omega) fun x1 _ hx1 => ?_
      obtain ⟨b1, rfl, eb1⟩ := ixI hx1
      walk_at "st"
      refine wp_ixLM (sq_of (hs14.sub _ _ hD)) (by omega) (by rw [List.length_map]; omega) fun x2 _ hx2 => ?_
      obtain ⟨b2, rfl, eb2⟩ := ixI hx2
      walk_at "st"
      refine k1 _ _ (Same.refl _) ?_
      rw [Int.toNat_natCast] at eb1 eb2
      rw [List.range_succ, List.map_append, List.map_append]
      show _ = _ ++ [V.int ((b1 + b2) % T)]
      rw [show (b1 + b2) % T = aft T bs cs i from by unfold aft; rw [List.getD_eq_getElem?_getD, List.getD_eq_getElem?_getD, eb1, eb2]; rfl]
      rfl
    have gA := hs13.sub.free hA
    have hs15 := (hs13.same s14).with gA hA2 (hs13.fresh hA).2
    have g15 := Same.new (o := .lst (((List.range ns.length).map (aft T bs cs)).map V.int)) gA
    walk_at "st"
    refine ⟨by simp [sizeLine_eq], fun L hL => ?_⟩
    obtain ⟨G16, hs16, g16, e16⟩ := hs15.new' (.lst [.int T, .ref q, .ref p3, .ref B, .ref A]) hL
    have g56 := g15.trans g16
    exact k L T q p3 A B ns zs bs cs G16 _ ⟨ok, by omega, by omega, t1, fun z hz => (hsp2 z hz).mono g56, htwo2, lb, lc, bb, bc, e16, g56 _ _ hq, g56 _ _ e13, g56 _ _ hB, g16 _ _ upd_same⟩ (sGe.trans g56) hs16
theorem len_l_case (K : PySem.W.Frag) (vs : List V) (H : Hp) (Q : VK) (E : XK) (h : sp_l_case K vs H Q E) : vs.length = 4 := by
  obtain ⟨_, _, _, _, _, rfl, _⟩ := h
  rfl
theorem c_l_case {K : PySem.W.Frag} {P : Pl} {G H : Hp} {e m : Int} {tm : Int} {Q : VK} {E : XK} (hs : Sees P G H) (e0 : 0 ≤ e ∧ e ≤ 12) (m0 : 0 ≤ m ∧ m ≤ 24) (tm0 : 3 ≤ tm ∧ tm ≤ 120) (k : ∀ L T N S A B ns ss bs cs G' H', Case P G' L e.toNat m.toNat tm T N S A B ns ss bs cs → Same G G' → Sees P G' H' → Q (.ref L) H') :
    sp_l_case K [.ref P.p, .int e, .int m, .int tm] H Q E := by
  obtain ⟨a, rfl⟩ : ∃ a : Nat, e = a := ⟨e.toNat, by omega⟩
  obtain ⟨b, rfl⟩ : ∃ b : Nat, m = b := ⟨m.toNat, by omega⟩
  exact ⟨P, G, a, b, tm, rfl, hs, by omega, by omega, tm0.1, tm0.2, k⟩
def sp_l_minutes (K : PySem.W.Frag) : Sp := fun vs H Q _ => ∃ (q s : Addr) (ns : List (List Nat)) (is : List Int) (f : Nat), vs = [.ref q, .ref s, .int f] ∧ SqL K H q (ns.map sv) ∧ SqL K H s (is.map V.int) ∧ ns.length ≤ is.length ∧ ns.length ≤ 1000 ∧ ns.Nodup ∧ f ≤ ns.length ∧
  ∀ D H', H D = none → Same H H' → H' D = some (.dK (mD (asg ns is) (rotG f ns))) → Q (.ref D) H'
abbrev N_l_minutes : List Str := ["_law_names_here", "_law_minutes_here", "_law_first", "_law_found", "_law_k", "_law_at"]
theorem st_l_minutes {a0 a1 a2 : V} : L2.start N_l_minutes [a0, a1, a2] = [some a0, some a1, some a2, none, none, none] := rfl
def t_l_minutes (K : PySem.W.Frag) : TS :=
  (tSeq ((tAsg (tDNewK) (gName 3)))
    ((tSeq ((tFor ((iRng1 ((tCons ((tCB (rLenS K) ((tCons (tVar 0) (tNil))))) (tNil))))) (gName 4) ((tSeq ((tAsg ((tOp (rI (fun _ j => 0 < j) fun i j => .int (i % j)) ((tCB rInt1 ((tCons ((tOp (rI0 fun i j => .int (i + j)) (tVar 4) (tVar 2))) (tNil))))) ((tCB (rLenS K) ((tCons (tVar 0) (tNil))))))) (gName 5)))
    ((tAsg ((tOp (rIxL K) (tVar 1) (tVar 5))) (gSub (tVar 3) ((tOp (rIxL K) (tVar 0) (tVar 5))) rSetD)))))))
    ((tRet (tVar 3))))))

theorem pure_l_minutes (K : PySem.W.Frag) (vs : List V) (H : Hp) (Q : VK) (E : XK) (h : sp_l_minutes K vs H Q E) : t_l_minutes K { nx := fun _ H' => Q .non H', rt := Q } (L2.start N_l_minutes vs) H := by
  obtain ⟨q, s, ns, is, f, rfl, hq, hs, hl, few, nd, hf, k⟩ := h
  have el : (ns.map sv).length = ns.length := List.length_map ..
  have er := rot_len f ns
  have nr : (rotG f ns).Nodup := (rot_perm f ns).nodup_iff.mpr nd
  rw [st_l_minutes]
  unfold t_l_minutes
  walk_at "st"
  refine wp_dnew fun D hD => ?_
  have s0 : Same H (upd H D (.dK [])) := Same.new hD
  have hq0 := Same.seq s0 hq
  walk_at "st"
  refine loop1 (by omega) (fun i σ' H' => ∃ x y, σ' = [some (.ref q), some (.ref s), some (.int f), some (.ref D), x, y] ∧ Same H H' ∧ H' D = some (.dK (mD (asg ns is) ((rotG f ns).take i)))) ⟨_, _, rfl, s0, upd_same⟩ ?_ ?_
  · rintro i σ' H' hi ⟨x, y, rfl, s1, hD1⟩
    rw [el] at hi
    have hq1 := Same.seq s1 hq
    have hs1 := Same.seq s1 hs
    have n0 : 0 < ns.length := by omega
    walk_at "st"
    have hj : (i + f) % ns.length < ns.length := Nat.mod_lt _ n0
    have e : ((i : Int) + (f : Int)) % ((ns.map sv).length : Int) = (((i + f) % ns.length : Nat) : Int) := by
      rw [el]
      exact (Int.natCast_emod (i + f) ns.length).symm
    rw [e]
    generalize hje : (i + f) % ns.length = j
    rw [hje] at hj
    obtain ⟨l, hlj⟩ : ∃ l, ns[j]? = some l := ⟨_, List.getElem?_eq_getElem hj⟩
    obtain ⟨m, hmj⟩ : ∃ m, is[j]? = some m := ⟨_, List.getElem?_eq_getElem (by omega : j < is.length)⟩
    walk_at "st"
    refine wp_ixL hs1 (at_nth (by rw [List.getElem?_map, hmj]; rfl)) ?_
    walk_at "st"
    refine wp_ixL hq1 (at_nth (by rw [List.getElem?_map, hlj]; rfl)) ?_
    have hr : (rotG f ns)[i]? = some l := by rw [rot_at hf (by omega), hje, hlj]
    refine dput_s hD1 (by unfold mD; rw [dN_len, List.length_take]; omega) ?_
    have em : V.int m = .int (asg ns is l) := by rw [asg_at nd hlj hmj]
    refine ⟨_, _, rfl, Same.mut s1 hD, ?_⟩
    rw [upd_same, em]
    unfold mD
    rw [dN_put (f := fun l => .int (asg ns is l)) (take_new nr hr), ← take_snoc hr]
  · rintro σ' H' ⟨x, y, rfl, s1, hD1⟩
    walk_at "st"
    refine k D H' hD s1 ?_
    rw [hD1, Int.toNat_natCast, el, ← er, List.take_length]
theorem len_l_minutes (K : PySem.W.Frag) (vs : List V) (H : Hp) (Q : VK) (E : XK) (h : sp_l_minutes K vs H Q E) : vs.length = 3 := by
  obtain ⟨n, m, ms, a, b, rfl, _⟩ := h
  rfl
theorem c_l_minutes {K : PySem.W.Frag} {q s : Addr} {ns : List (List Nat)} {is : List Int} {f : Int} {H : Hp} {Q : VK} {E : XK} (hq : SqL K H q (ns.map sv)) (hs : SqL K H s (is.map V.int)) (hl : ns.length ≤ is.length) (few : ns.length ≤ 1000) (nd : ns.Nodup) (f0 : 0 ≤ f) (f1 : f ≤ ns.length)
    (k : ∀ D H', H D = none → Same H H' → H' D = some (.dK (mD (asg ns is) (rotG f.toNat ns))) → Q (.ref D) H') : sp_l_minutes K [.ref q, .ref s, .int f] H Q E := by
  obtain ⟨j, rfl⟩ : ∃ j : Nat, f = j := ⟨f.toNat, by omega⟩
  exact ⟨q, s, ns, is, j, rfl, hq, hs, hl, few, nd, by omega, k⟩
theorem c_l_minutes0 {K : PySem.W.Frag} {q s : Addr} {ns : List (List Nat)} {is : List Int} {H : Hp} {Q : VK} {E : XK} (hq : SqL K H q (ns.map sv)) (hs : SqL K H s (is.map V.int)) (hl : ns.length ≤ is.length) (few : ns.length ≤ 1000) (nd : ns.Nodup)
    (k : ∀ D H', H D = none → Same H H' → H' D = some (.dK (mD (asg ns is) ns)) → Q (.ref D) H') : sp_l_minutes K [.ref q, .ref s, .int 0] H Q E :=
  c_l_minutes hq hs hl few nd (by omega) (by omega) fun D H' h1 s1 h2 => k D H' h1 s1 (by rw [h2]; show some (HO.dK (mD (asg ns is) (rotG 0 ns))) = _; rw [rot0])
def sp_l_is_int (K : PySem.W.Frag) : Sp := fun vs H Q _ => ∃ (i : Int), vs = [.int i] ∧ Q (.bl true) H
abbrev N_l_is_int : List Str := ["_law_thing"]
theorem st_l_is_int {a0 : V} : L2.start N_l_is_int [a0] = [some a0] := rfl
def t_l_is_int (K : PySem.W.Frag) : TS :=
  (tRet ((tAndV ((tCB (rIsi K) ((tCons (tVar 0) ((tCons (tC (.ty "int")) (tNil))))))) ((tNotV ((tCB (rIsi K) ((tCons (tVar 0) ((tCons (tC (.ty "bool")) (tNil))))))))))))

theorem pure_l_is_int (K : PySem.W.Frag) (vs : List V) (H : Hp) (Q : VK) (E : XK) (h : sp_l_is_int K vs H Q E) : t_l_is_int K { nx := fun _ H' => Q .non H', rt := Q } (L2.start N_l_is_int vs) H := by
  obtain ⟨i, rfl, k⟩ := h
  rw [st_l_is_int]
  unfold t_l_is_int
  walk_at "st"
  exact k
theorem len_l_is_int (K : PySem.W.Frag) (vs : List V) (H : Hp) (Q : VK) (E : XK) (h : sp_l_is_int K vs H Q E) : vs.length = 1 := by
  obtain ⟨P, rfl, _⟩ := h
  rfl
theorem c_l_is_int {K : PySem.W.Frag} {i : Int} {H : Hp} {Q : VK} {E : XK} (k : Q (.bl true) H) : sp_l_is_int K [.int i] H Q E := ⟨i, rfl, k⟩
def sp_l_same (K : PySem.W.Frag) (n : Nat) : Sp := fun vs H Q _ => ∃ (u v : V), vs = [u, v] ∧ Sm H n u v ∧ ∀ H', Same H H' → Q (.bl true) H'
theorem sp0_l_same (K : PySem.W.Frag) {vs : List V} {H : Hp} {Q : VK} {E : XK} (h : sp_l_same K 0 vs H Q E) : False := by
  obtain ⟨u, v, _, h, _⟩ := h
  exact h
theorem c_l_same {K : PySem.W.Frag} {n : Nat} {u v : V} {H : Hp} {Q : VK} {E : XK} (h : Sm H n u v) (k : ∀ H', Same H H' → Q (.bl true) H') : sp_l_same K n [u, v] H Q E := ⟨u, v, rfl, h, k⟩
abbrev N_l_same : List Str := ["_law_actual", "_law_due", "_law_key", "_law_k"]
theorem st_l_same {a0 a1 : V} : L2.start N_l_same [a0, a1] = [some a0, some a1, none, none] := rfl
def t_l_same (K : PySem.W.Frag) (n : Nat) : TS :=
  (tSeq ((tIfS ((tTest (tOp rIsN (tVar 1) (tC .non)))) ((tRet ((tOp rIsN (tVar 0) (tC .non))))) (tNext)))
    ((tSeq ((tIfS ((tB ((tCB (rIsi K) ((tCons (tVar 1) ((tCons (tC (.ty "bool")) (tNil))))))))) ((tRet ((tAndV ((tCB (rIsi K) ((tCons (tVar 0) ((tCons (tC (.ty "bool")) (tNil))))))) ((tOp rEq (tVar 0) (tVar 1))))))) (tNext)))
    ((tSeq ((tIfS ((tB ((tCB (rIsi K) ((tCons (tVar 1) ((tCons (tC (.ty "int")) (tNil))))))))) ((tRet ((tAndV ((tCall (sp_l_is_int K) [] E0 ((tCons (tVar 0) (tNil))))) ((tOp rEq (tVar 0) (tVar 1))))))) (tNext)))
    ((tSeq ((tIfS ((tB ((tCB (rIsi K) ((tCons (tVar 1) ((tCons (tC (.ty "str")) (tNil))))))))) ((tRet ((tAndV ((tCB (rIsi K) ((tCons (tVar 0) ((tCons (tC (.ty "str")) (tNil))))))) ((tOp rEq (tVar 0) (tVar 1))))))) (tNext)))
    ((tSeq ((tIfS ((tB ((tCB (rIsi K) ((tCons (tVar 1) ((tCons (tC (.ty "dict")) (tNil))))))))) ((tSeq (tNever)
    ((tSeq (tNever)
    ((tRet (tC (.bl true)))))))) (tNext)))
    ((tSeq ((tIfS ((tAnd ((tB ((tCB (rIsi K) ((tCons (tVar 1) ((tCons (tC (.ty "list")) (tNil))))))))) ((tNot ((tB ((tCB (rIsi K) ((tCons (tVar 0) ((tCons (tC (.ty "list")) (tNil))))))))))))) ((tRet (tC (.bl false)))) (tNext)))
    ((tSeq ((tIfS ((tAnd ((tB ((tCB (rIsi K) ((tCons (tVar 1) ((tCons (tC (.ty "tuple")) (tNil))))))))) ((tNot ((tB ((tCB (rIsi K) ((tCons (tVar 0) ((tCons (tC (.ty "tuple")) (tNil))))))))))))) ((tRet (tC (.bl false)))) (tNext)))
    ((tSeq ((tIfS ((tTest (tOp rNe ((tCB (rLenS K) ((tCons (tVar 0) (tNil))))) ((tCB (rLenS K) ((tCons (tVar 1) (tNil)))))))) ((tRet (tC (.bl false)))) (tNext)))
    ((tSeq ((tFor ((iRng1 ((tCons ((tCB (rLenS K) ((tCons (tVar 1) (tNil))))) (tNil))))) (gName 3) ((tIfS ((tNot ((tB ((tCall (sp_l_same K n) [] E0 ((tCons ((tOp (rIx K) (tVar 0) (tVar 3))) ((tCons ((tOp (rIx K) (tVar 1) (tVar 3))) (tNil))))))))))) ((tRet (tC (.bl false)))) (tNext)))))
    ((tRet (tC (.bl true)))))))))))))))))))))

theorem pure_l_same (K : PySem.W.Frag) (n : Nat) (vs : List V) (H : Hp) (Q : VK) (E : XK) (h : sp_l_same K (n + 1) vs H Q E) : t_l_same K n { nx := fun _ H' => Q .non H', rt := Q } (L2.start N_l_same vs) H := by
  obtain ⟨u, v, rfl, h, k⟩ := h
  rw [st_l_same]
  unfold t_l_same
  rcases h with ⟨rfl, h⟩ | ⟨a, b, xs, ys, rfl, rfl, h, hl, hk, hr⟩
  · rcases h with rfl | ⟨c, rfl⟩ | ⟨i, rfl⟩ | ⟨z, rfl⟩
    · walk_at "st"
      rw [decide_eq_true rfl]
      walk_at "st"
      exact k _ (Same.refl _)
    · walk_at "st"
      rw [decide_eq_false (by simp)]
      walk_at "st"
      rw [decide_eq_true rfl]
      exact k _ (Same.refl _)
    · walk_at "st"
      rw [decide_eq_false (by simp)]
      walk_at "st"
      refine c_l_is_int ?_
      walk_at "st"
      rw [decide_eq_true rfl]
      exact k _ (Same.refl _)
    · walk_at "st"
      rw [decide_eq_false (by simp)]
      walk_at "st"
      rw [decide_eq_true rfl]
      exact k _ (Same.refl _)
  · rcases h with ⟨ha, hb⟩ | ⟨ha, hb⟩
    · walk_at "st"
      rw [decide_eq_false (by simp)]
      walk_at "st"
      refine loop1 (by omega) (fun i σ' H' => ∃ x y, σ' = [some (.ref a), some (.ref b), x, y] ∧ Same H H') ⟨_, _, rfl, Same.refl _⟩ ?_ ?_
      · rintro i σ' H' hi ⟨x, y, rfl, s2⟩
        have hyi : i < ys.length := by omega
        have hxi : i < xs.length := by omega
        walk_at "st"
        refine wp_rixL (sq_of (s2 _ _ ha)) (at_nth (List.getElem?_eq_getElem hxi)) ?_
        walk_at "st"
        refine wp_rixL (sq_of (s2 _ _ hb)) (at_nth (List.getElem?_eq_getElem hyi)) ?_
        walk_at "st"
        refine c_l_same ((hr i _ _ (List.getElem?_eq_getElem hxi) (List.getElem?_eq_getElem hyi)).mono s2) fun H3 s3 => ?_
        walk_at "st"
        exact ⟨_, _, rfl, s2.trans s3⟩
      · rintro σ' H' ⟨x, y, rfl, s2⟩
        walk_at "st"
        exact k _ s2
    · walk_at "st"
      rw [decide_eq_false (by simp)]
      walk_at "st"
      refine loop1 (by omega) (fun i σ' H' => ∃ x y, σ' = [some (.ref a), some (.ref b), x, y] ∧ Same H H') ⟨_, _, rfl, Same.refl _⟩ ?_ ?_
      · rintro i σ' H' hi ⟨x, y, rfl, s2⟩
        have hyi : i < ys.length := by omega
        have hxi : i < xs.length := by omega
        walk_at "st"
        refine wp_rixT (st_of (s2 _ _ ha)) (at_nth (List.getElem?_eq_getElem hxi)) ?_
        walk_at "st"
        refine wp_rixT (st_of (s2 _ _ hb)) (at_nth (List.getElem?_eq_getElem hyi)) ?_
        walk_at "st"
        refine c_l_same ((hr i _ _ (List.getElem?_eq_getElem hxi) (List.getElem?_eq_getElem hyi)).mono s2) fun H3 s3 => ?_
        walk_at "st"
        exact ⟨_, _, rfl, s2.trans s3⟩
      · rintro σ' H' ⟨x, y, rfl, s2⟩
        walk_at "st"
        exact k _ s2
theorem len_l_same (K : PySem.W.Frag) (n : Nat) (vs : List V) (H : Hp) (Q : VK) (E : XK) (h : sp_l_same K n vs H Q E) : vs.length = 2 := by
  obtain ⟨u, v, rfl, _⟩ := h
  rfl
def sp_l_gone (K : PySem.W.Frag) : Sp := fun vs H Q _ => ∃ (T : Int) (p d : Addr) (r : Row) (ms : List (List Nat)) (m : List Nat → Int), vs = [.int T, .ref p, .ref d] ∧ 0 < T ∧ H p = some (.tup (rowV r)) ∧ Rd H d (.dK (mD m ms)) ∧ r.u ∈ ms ∧ r.v ∈ ms ∧ Q (pas T m r) H
abbrev N_l_gone : List Str := ["_law_length_here", "_law_span_here", "_law_minutes_here", "_law_gone_here"]
theorem st_l_gone {a0 a1 a2 : V} : L2.start N_l_gone [a0, a1, a2] = [some a0, some a1, some a2, none] := rfl
def t_l_gone (K : PySem.W.Frag) : TS :=
  (tSeq ((tAsg ((tOp (rI0 fun i j => .int (i + j)) ((tOp (rIxT K) (tVar 1) (tC (.int 2)))) ((tOp (rI (fun _ j => 0 < j) fun i j => .int (i % j)) ((tCB rInt1 ((tCons ((tOp (rI0 fun i j => .int (i - j)) ((tOp (rI0 fun i j => .int (i - j)) ((tDGet (tVar 2) ((tOp (rIxT K) (tVar 1) (tC (.int 1)))))) ((tDGet (tVar 2) ((tOp (rIxT K) (tVar 1) (tC (.int 0)))))))) ((tOp (rIxT K) (tVar 1) (tC (.int 2)))))) (tNil))))) (tVar 0))))) (gName 3)))
    ((tSeq ((tIfS ((tTest (tOp (rI0 fun i j => .bl (decide (j < i))) (tVar 3) ((tOp (rIxT K) (tVar 1) (tC (.int 3))))))) ((tRet (tC .non))) (tNext)))
    ((tRet (tVar 3))))))

theorem pure_l_gone (K : PySem.W.Frag) (vs : List V) (H : Hp) (Q : VK) (E : XK) (h : sp_l_gone K vs H Q E) : t_l_gone K { nx := fun _ H' => Q .non H', rt := Q } (L2.start N_l_gone vs) H := by
  obtain ⟨T, p, d, r, ms, m, rfl, hT, hp, hd, hu, hv, k⟩ := h
  rw [st_l_gone]
  unfold t_l_gone
  unfold rowV at hp
  unfold mD at hd
  walk_at "st"
  refine dget_s hd (dN_val hv) ?_
  walk_at "st"
  refine dget_s hd (dN_val hu) ?_
  walk_at "st"
  unfold pas at k
  refine ite_dec (fun h => ?_) (fun h => ?_)
  · walk_at "st"
    rw [if_neg (by omega)] at k
    exact k
  · walk_at "st"
    rw [if_pos (by omega)] at k
    exact k
theorem len_l_gone (K : PySem.W.Frag) (vs : List V) (H : Hp) (Q : VK) (E : XK) (h : sp_l_gone K vs H Q E) : vs.length = 3 := by
  obtain ⟨_, _, _, _, _, _, rfl, _⟩ := h
  rfl
theorem c_l_gone {K : PySem.W.Frag} {T : Int} {p d : Addr} {r : Row} {ms : List (List Nat)} {m : List Nat → Int} {H : Hp} {Q : VK} {E : XK} (hT : 0 < T) (hp : H p = some (.tup (rowV r))) (hd : Rd H d (.dK (mD m ms))) (hu : r.u ∈ ms) (hv : r.v ∈ ms) (k : Q (pas T m r) H) : sp_l_gone K [.int T, .ref p, .ref d] H Q E := ⟨T, p, d, r, ms, m, rfl, hT, hp, hd, hu, hv, k⟩
def sp_l_all_gone (K : PySem.W.Frag) : Sp := fun vs H Q _ => ∃ (T : Int) (p d : Addr) (ss : List V) (rs : List Row) (ms : List (List Nat)) (m : List Nat → Int), vs = [.int T, .ref p, .ref d] ∧ 0 < T ∧ H p = some (.lst ss) ∧ Rws H ss rs ∧ ss.length ≤ 1000 ∧ H d = some (.dK (mD m ms)) ∧ (∀ r ∈ rs, r.u ∈ ms ∧ r.v ∈ ms) ∧ ∀ D H', H D = none → Same H H' → H' D = some (.lst (rs.map (pas T m))) → Q (.ref D) H'
abbrev N_l_all_gone : List Str := ["_law_length_here", "_law_spans", "_law_minutes_here", "_law_span_here"]
theorem st_l_all_gone {a0 a1 a2 : V} : L2.start N_l_all_gone [a0, a1, a2] = [some a0, some a1, some a2, none] := rfl
def t_l_all_gone (K : PySem.W.Frag) : TS :=
  (tRet ((tLc ((iList K (tVar 1))) ((gName 3)) (tYes) ((tCall (sp_l_gone K) [] E0 ((tCons (tVar 0) ((tCons (tVar 3) ((tCons (tVar 2) (tNil))))))))) [3])))

theorem pure_l_all_gone (K : PySem.W.Frag) (vs : List V) (H : Hp) (Q : VK) (E : XK) (h : sp_l_all_gone K vs H Q E) : t_l_all_gone K { nx := fun _ H' => Q .non H', rt := Q } (L2.start N_l_all_gone vs) H := by
  obtain ⟨T, p, d, ss, rs, ms, m, rfl, hT, hp, rws, few, hd, inn, k⟩ := h
  have elr := rws.len
  rw [st_l_all_gone]
  unfold t_l_all_gone
  walk_at "st"
  refine lcGL (sq_of hp) (by omega) (fun i => (rs.take i).map (pas T m)) rfl (fun i => by simp only [List.length_map, List.length_take]; omega) (fun i x H2 R R0 hi s2 k1 k0 => ?_) (fun D H2 hD s2 hD2 => ?_)
  · obtain ⟨r, er, a, rfl, ha⟩ := (rws.mono s2).at hi
    obtain ⟨ru, rv⟩ := inn r (List.mem_of_getElem? er)
    rw [show wipe ([some (.int T), some (.ref p), some (.ref d), none] : L2.St) [3] = [some (.int T), some (.ref p), some (.ref d), none] from rfl]
    walk_at "st"
    refine ⟨rfl, ?_⟩
    walk_at "st"
    refine c_l_gone hT ha (.inl (s2 _ _ hd)) ru rv ?_
    exact k1 _ _ (Same.refl _) (by rw [take_snoc er, List.map_append]; rfl)
  rw [elr, List.take_length] at hD2
  walk_at "st"
  exact k D H2 hD s2 hD2
theorem len_l_all_gone (K : PySem.W.Frag) (vs : List V) (H : Hp) (Q : VK) (E : XK) (h : sp_l_all_gone K vs H Q E) : vs.length = 3 := by
  obtain ⟨_, _, _, _, _, _, _, rfl, _⟩ := h
  rfl
theorem c_l_all_gone {K : PySem.W.Frag} {T : Int} {p d : Addr} {ss : List V} {rs : List Row} {ms : List (List Nat)} {m : List Nat → Int} {H : Hp} {Q : VK} {E : XK} (hT : 0 < T) (hp : H p = some (.lst ss)) (rws : Rws H ss rs) (few : ss.length ≤ 1000) (hd : H d = some (.dK (mD m ms))) (inn : ∀ r ∈ rs, r.u ∈ ms ∧ r.v ∈ ms) (k : ∀ D H', H D = none → Same H H' → H' D = some (.lst (rs.map (pas T m))) → Q (.ref D) H') : sp_l_all_gone K [.int T, .ref p, .ref d] H Q E := ⟨T, p, d, ss, rs, ms, m, rfl, hT, hp, rws, few, hd, inn, k⟩
def sp_l_nearer (K : PySem.W.Frag) : Sp := fun vs H Q _ => ∃ (d : Addr) (a b c : List Nat) (s : Int) (ns : List (List Nat)) (g : List Nat → List Nat → Option Int) (n : Nat), vs = [.ref d, .str (S a), .str (S b), .str (S c), .int s] ∧ Tab H d (fun x y => x ∈ ns ∧ y ∈ ns) g n ∧ n ≤ 1000 ∧ a ∈ ns ∧ b ∈ ns ∧ c ∈ ns ∧
  ∀ H', (∀ G, Same G H → G d = none → Same G H') → Tab H' d (fun x y => x ∈ ns ∧ y ∈ ns) (near g a b c s) n → Q .non H'
abbrev N_l_nearer : List Str := ["_law_rooms_here", "_law_name", "_law_there", "_law_other", "_law_slack", "_law_far"]
theorem st_l_nearer {a0 a1 a2 a3 a4 : V} : L2.start N_l_nearer [a0, a1, a2, a3, a4] = [some a0, some a1, some a2, some a3, some a4, none] := rfl
def t_l_nearer (K : PySem.W.Frag) : TS :=
  (tIfS ((tTest (tOp rNotN ((tDGet (tVar 0) ((tTup ((tCons (tVar 1) ((tCons (tVar 2) (tNil))))))))) (tC .non)))) ((tSeq ((tAsg ((tOp (rI0 fun i j => .int (i + j)) ((tDGet (tVar 0) ((tTup ((tCons (tVar 1) ((tCons (tVar 2) (tNil))))))))) (tVar 4))) (gName 5)))
    ((tIfS ((tOr ((tTest (tOp rIsN ((tDGet (tVar 0) ((tTup ((tCons (tVar 1) ((tCons (tVar 3) (tNil))))))))) (tC .non)))) ((tTest (tOp (rI0 fun i j => .bl (decide (i < j))) (tVar 5) ((tDGet (tVar 0) ((tTup ((tCons (tVar 1) ((tCons (tVar 3) (tNil)))))))))))))) ((tAsg (tVar 5) (gSub (tVar 0) ((tTup ((tCons (tVar 1) ((tCons (tVar 3) (tNil))))))) rSetD))) (tNext))))) (tNext))

theorem pure_l_nearer (K : PySem.W.Frag) (vs : List V) (H : Hp) (Q : VK) (E : XK) (h : sp_l_nearer K vs H Q E) : t_l_nearer K { nx := fun _ H' => Q .non H', rt := Q } (L2.start N_l_nearer vs) H := by
  obtain ⟨d, a, b, c, s, ns, g, n, rfl, tb, hn, ha, hb, hc, k⟩ := h
  rw [st_l_nearer]
  unfold t_l_nearer
  walk_at "st"
  refine ⟨by simp [sizeLine_eq], fun p hp => ?_⟩
  have s1 := Same.new (o := .tup [sv a, sv b]) hp
  refine tab_get (tb.mono s1) ⟨ha, hb⟩ upd_same ?_
  have tb := tb.mono s1
  revert s1 tb
  generalize upd H p (.tup [sv a, sv b]) = H1
  intro s1 tb
  walk_at "st"
  refine wp_notN ?_
  cases hg : g a b with
  | none =>
    rw [show (!decide (oV none = V.non)) = false from rfl]
    walk_at "st"
    rw [near_non hg] at k
    exact k H1 (fun G sG _ => sG.trans s1) tb
  | some v =>
    rw [show (!decide (oV (some v) = V.non)) = true from rfl]
    walk_at "st"
    refine ⟨by simp [sizeLine_eq], fun p2 hp2 => ?_⟩
    have s2 := Same.new (o := .tup [sv a, sv b]) hp2
    refine tab_get (tb.mono s2) ⟨ha, hb⟩ upd_same ?_
    have tb := tb.mono s2
    have s2 := s1.trans s2
    revert s2 tb
    generalize upd H1 p2 (.tup [sv a, sv b]) = H2
    intro tb s2
    rw [hg, show oV (some v) = V.int v from rfl]
    walk_at "st"
    refine ⟨by simp [sizeLine_eq], fun p3 hp3 => ?_⟩
    have s3 := Same.new (o := .tup [sv a, sv c]) hp3
    refine tab_get (tb.mono s3) ⟨ha, hc⟩ upd_same ?_
    have tb := tb.mono s3
    have s3 := s2.trans s3
    revert s3 tb
    generalize upd H2 p3 (.tup [sv a, sv c]) = H3
    intro tb s3
    have put : ∀ {H4 : Hp}, Same H H4 → Tab H4 d (fun x y => x ∈ ns ∧ y ∈ ns) g n → near g a b c s = up2 g a c (some (v + s)) → tAsg (tVar 5) (gSub (tVar 0) (tTup (tCons (tVar 1) (tCons (tVar 3) tNil))) rSetD) { nx := fun _ H' => Q .non H', rt := Q } [some (.ref d), some (.str (S a)), some (.str (S b)), some (.str (S c)), some (.int s), some (.int (v + s))] H4 := fun {H4} s4 tb4 e => by
      walk_at "st"
      refine ⟨by simp [sizeLine_eq], fun p5 hp5 => ?_⟩
      have s5 := Same.new (o := .tup [sv a, sv c]) hp5
      refine tab_put (i := some (v + s)) (tb4.mono s5) upd_same hn fun o _ t2 => ?_
      have t2 := t2 ⟨ha, hc⟩
      rw [e] at k
      exact k _ (fun G sG gd => Same.mut (sG.trans (s4.trans s5)) gd) t2
    cases hw : g a c with
    | none =>
      walk_at "st"
      exact put s3 tb (near_new hg hw)
    | some w =>
      walk_at "st"
      rw [show decide (oV (some w) = V.non) = false from rfl]
      walk_at "st"
      refine ⟨by simp [sizeLine_eq], fun p4 hp4 => ?_⟩
      have s4 := Same.new (o := .tup [sv a, sv c]) hp4
      refine tab_get (tb.mono s4) ⟨ha, hc⟩ upd_same ?_
      have tb := tb.mono s4
      have s4 := s3.trans s4
      revert s4 tb
      generalize upd H3 p4 (.tup [sv a, sv c]) = H4
      intro tb s4
      rw [hw, show oV (some w) = V.int w from rfl]
      walk_at "st"
      refine ite_dec (fun lt => ?_) (fun lt => ?_)
      · exact put s4 tb (near_low hg hw lt)
      · walk_at "st"
        rw [near_hi hg hw lt] at k
        exact k H4 (fun G sG _ => sG.trans s4) tb
theorem len_l_nearer (K : PySem.W.Frag) (vs : List V) (H : Hp) (Q : VK) (E : XK) (h : sp_l_nearer K vs H Q E) : vs.length = 5 := by
  obtain ⟨_, _, _, _, _, _, _, _, rfl, _⟩ := h
  rfl
theorem c_l_nearer {K : PySem.W.Frag} {d : Addr} {a b c : List Nat} {s : Int} {ns : List (List Nat)} {g : List Nat → List Nat → Option Int} {n : Nat} {H : Hp} {Q : VK} {E : XK} (tb : Tab H d (fun x y => x ∈ ns ∧ y ∈ ns) g n) (hn : n ≤ 1000) (ha : a ∈ ns) (hb : b ∈ ns) (hc : c ∈ ns)
    (k : ∀ H', (∀ G, Same G H → G d = none → Same G H') → Tab H' d (fun x y => x ∈ ns ∧ y ∈ ns) (near g a b c s) n → Q .non H') : sp_l_nearer K [.ref d, .str (S a), .str (S b), .str (S c), .int s] H Q E := ⟨d, a, b, c, s, ns, g, n, rfl, tb, hn, ha, hb, hc, k⟩
/-- 0 from each event to itself, nothing else -/
def g00 : List Nat → List Nat → Option Int := fun x y => if x = y then some 0 else none
theorem snd00 {as : List Ar} {ns : List (List Nat)} {R : List Nat → List Nat → Option Int} (l : Lst as ns R) : Snd ns R g00 := fun a ha b hb v h => by
  unfold g00 at h
  split at h
  · rename_i e
    cases h
    rw [← e, l.self ha]
    exact ⟨0, rfl, Int.le_refl _⟩
  · cases h
theorem prg00 {as : List Ar} {ns : List (List Nat)} : Prg as ns g00 0 := fun a ha ks P G F s k b hk t => by
  obtain rfl : k = 0 := by omega
  cases t
  exact ⟨0, if_pos rfl, by rw [s.f0]; exact Int.le_refl _⟩
def sp_l_rooms (K : PySem.W.Frag) : Sp := fun vs H Q _ => ∃ (q p e : Addr) (T : Int) (ns : List (List Nat)) (ss : List V) (rs : List Row) (m : List Nat → Int) (R : List Nat → List Nat → Option Int), vs = [.ref q, .ref p, .ref e] ∧ H q = some (.lst (ns.map sv)) ∧ H p = some (.lst ss) ∧ Rws H ss rs ∧ H e = some (.lst ((gvs T m rs).map V.int)) ∧ (∀ r ∈ rs, r.u ∈ ns ∧ r.v ∈ ns) ∧ ns.Nodup ∧ ns.length ≤ 12 ∧ rs.length ≤ 24 ∧ Lst (slA T m rs) ns R ∧
  ∀ d H', Same H H' → H d = none → Tab H' d (fun x y => x ∈ ns ∧ y ∈ ns) R 300 → Q (.ref d) H'
abbrev N_l_rooms : List Str := ["_law_names_here", "_law_spans", "_law_gone_here", "_law_rooms_here", "_law_name", "_law_other", "_law_again", "_law_number", "_law_span_here"]
theorem st_l_rooms {a0 a1 a2 : V} : L2.start N_l_rooms [a0, a1, a2] = [some a0, some a1, some a2, none, none, none, none, none, none] := rfl
def t_l_rooms (K : PySem.W.Frag) : TS :=
  (tSeq ((tAsg (tDNewT) (gName 3)))
    ((tSeq ((tFor ((iList K (tVar 0))) (gName 4) ((tSeq ((tFor ((iList K (tVar 0))) (gName 5) ((tAsg (tC .non) (gSub (tVar 3) ((tTup ((tCons (tVar 4) ((tCons (tVar 5) (tNil))))))) rSetD)))))
    ((tAsg (tC (.int 0)) (gSub (tVar 3) ((tTup ((tCons (tVar 4) ((tCons (tVar 4) (tNil))))))) rSetD)))))))
    ((tSeq ((tFor ((iList K (tVar 0))) (gName 6) ((tFor ((iRng1 ((tCons ((tCB (rLenS K) ((tCons (tVar 1) (tNil))))) (tNil))))) (gName 7) ((tSeq ((tAsg ((tOp (rIxL K) (tVar 1) (tVar 7))) (gName 8)))
    ((tFor ((iList K (tVar 0))) (gName 4) ((tSeq ((tDrop ((tCall (sp_l_nearer K) [] E0 ((tCons (tVar 3) ((tCons (tVar 4) ((tCons ((tOp (rIxT K) (tVar 8) (tC (.int 0)))) ((tCons ((tOp (rIxT K) (tVar 8) (tC (.int 1)))) ((tCons ((tOp (rI0 fun i j => .int (i - j)) ((tOp (rIxT K) (tVar 8) (tC (.int 3)))) ((tOp (rIxL K) (tVar 2) (tVar 7))))) (tNil)))))))))))))))
    ((tDrop ((tCall (sp_l_nearer K) [] E0 ((tCons (tVar 3) ((tCons (tVar 4) ((tCons ((tOp (rIxT K) (tVar 8) (tC (.int 1)))) ((tCons ((tOp (rIxT K) (tVar 8) (tC (.int 0)))) ((tCons ((tOp (rI0 fun i j => .int (i - j)) ((tOp (rIxL K) (tVar 2) (tVar 7))) ((tOp (rIxT K) (tVar 8) (tC (.int 2)))))) (tNil)))))))))))))))))))))))))
    ((tRet (tVar 3))))))))

theorem pure_l_rooms (K : PySem.W.Frag) (vs : List V) (H : Hp) (Q : VK) (E : XK) (h : sp_l_rooms K vs H Q E) : t_l_rooms K { nx := fun _ H' => Q .non H', rt := Q } (L2.start N_l_rooms vs) H := by
  obtain ⟨q, p, e, T, ns, ss, rs, m, R, rfl, hq, hp, rws, he, hin, nd, l12, l24, ls, k⟩ := h
  have elr := rws.len
  have lg : (gvs T m rs).length = rs.length := List.length_map ..
  have hinA : ∀ x ∈ slA T m rs, x.u ∈ ns ∧ x.v ∈ ns := fun x hx => by
    obtain ⟨i, _, hx⟩ := arL_mem.mp hx
    unfold ar2 at hx
    split at hx
    · cases hx
    · rename_i r er
      have := hin r (List.mem_of_getElem? er)
      simp only [List.mem_cons, List.not_mem_nil, or_false] at hx
      rcases hx with rfl | rfl
      · exact this
      · exact ⟨this.2, this.1⟩
  rw [st_l_rooms]
  unfold t_l_rooms
  walk_at "st"
  refine wp_dnewT fun d hd => ?_
  have s1 := Same.new (o := .dT []) hd
  walk_at "st"
  refine loopL (sq_of (s1 _ _ hq)) (fun i σ' H' => ∃ (x y : Option V), σ' = [some (.ref q), some (.ref p), some (.ref e), some (.ref d), x, y, none, none, none] ∧ Same H H' ∧ Tab H' d (fun x y => x ∈ ns.take i ∧ y ∈ ns) g00 (i * 20)) ⟨_, _, rfl, s1, (Tab.nil (g := g00) upd_same).weak (fun a b h => by simp at h) (Nat.le_refl _)⟩ ?_ ?_ ?_
  · rintro i σ' H' _ ⟨x, y, rfl, s2, _⟩
    exact sq_of (s2 _ _ hq)
  · rintro i v σ' H' hv ⟨x, y, rfl, s2, tb⟩
    have hi := (List.getElem?_eq_some_iff.mp hv).1
    rw [List.length_map] at hi
    rw [List.getElem?_map] at hv
    obtain ⟨a, ea, rfl⟩ := Option.map_eq_some_iff.mp hv
    have na := take_new nd ea
    have ma := List.mem_of_getElem? ea
    walk_at "st"
    refine loopL (sq_of (s2 _ _ hq)) (fun j σ' H' => ∃ (y : Option V), σ' = [some (.ref q), some (.ref p), some (.ref e), some (.ref d), some (.str (S a)), y, none, none, none] ∧ Same H H' ∧ Tab H' d (fun x y => (x ∈ ns.take i ∧ y ∈ ns) ∨ (x = a ∧ y ∈ ns.take j)) (fun x y => if x = a then none else g00 x y) (i * 20 + j)) ⟨_, rfl, s2, tb.weak (fun x y h => ?_) (by omega)⟩ ?_ ?_ ?_
    · rcases h with h | h
      · exact ⟨h, (if_neg (fun c => na (by rw [← c]; exact h.1))).symm⟩
      · simp at h
    · rintro j σ' H' _ ⟨y, rfl, s3, _⟩
      exact sq_of (s3 _ _ hq)
    · rintro j v σ' H' hv ⟨y, rfl, s3, tb⟩
      have hj := (List.getElem?_eq_some_iff.mp hv).1
      rw [List.length_map] at hj
      rw [List.getElem?_map] at hv
      obtain ⟨b, eb, rfl⟩ := Option.map_eq_some_iff.mp hv
      walk_at "st"
      refine ⟨by simp [sizeLine_eq], fun t ht => ?_⟩
      have s4 := Same.new (o := .tup [sv a, sv b]) ht
      refine tab_put (i := none) (tb.mono s4) upd_same (by omega) fun o t2 _ => ?_
      refine ⟨_, rfl, Same.mut (s3.trans s4) hd, t2.weak (fun x y h => ?_) (by omega)⟩
      rw [take_snoc eb] at h
      have e2 : up2 (fun x y => if x = a then none else g00 x y) a b none x y = if x = a then none else g00 x y := by
        by_cases c : x = a ∧ y = b
        · rw [c.1, c.2, up2_eq, if_pos rfl]
        · exact up2_ne c
      rcases h with h | ⟨h1, h2⟩
      · exact ⟨.inl (.inl h), e2⟩
      · rcases List.mem_append.mp h2 with h2 | h2
        · exact ⟨.inl (.inr ⟨h1, h2⟩), e2⟩
        · exact ⟨.inr ⟨h1, List.mem_singleton.mp h2⟩, e2⟩
    · rintro σ' H' ⟨y, rfl, s3, tb⟩
      rw [List.length_map, List.take_length] at tb
      walk_at "st"
      refine ⟨by simp [sizeLine_eq], fun t ht => ?_⟩
      have s4 := Same.new (o := .tup [sv a, sv a]) ht
      refine tab_put (i := some 0) (tb.mono s4) upd_same (by omega) fun o t2 _ => ?_
      refine ⟨_, _, rfl, Same.mut (s3.trans s4) hd, t2.weak (fun x y h => ?_) (by omega)⟩
      rw [take_snoc ea] at h
      obtain ⟨h1, h2⟩ := h
      rcases List.mem_append.mp h1 with h1 | h1
      · refine ⟨.inl (.inl ⟨h1, h2⟩), ?_⟩
        have ne : x ≠ a := fun c => na (c ▸ h1)
        rw [up2_ne fun c => ne c.1, if_neg ne]
      · obtain rfl := List.mem_singleton.mp h1
        refine ⟨.inl (.inr ⟨rfl, h2⟩), ?_⟩
        by_cases c : y = x
        · rw [c, up2_eq]; exact (if_pos rfl).symm
        · rw [up2_ne fun z => c z.2, if_pos rfl]; exact (if_neg (Ne.symm c)).symm
  · rintro σ' H' ⟨x, y, rfl, s2, tb⟩
    rw [List.length_map, List.take_length] at tb
    walk_at "st"
    refine loopL (sq_of (s2 _ _ hq)) (fun j σ' H' => ∃ (x w z v : Option V) (g : List Nat → List Nat → Option Int), σ' = [some (.ref q), some (.ref p), some (.ref e), some (.ref d), x, y, w, z, v] ∧ Same H H' ∧ Tab H' d (fun x y => x ∈ ns ∧ y ∈ ns) g 300 ∧ Snd ns R g ∧ Prg (slA T m rs) ns g j) ⟨_, _, _, _, _, rfl, s2, tb.weak (fun _ _ h => ⟨h, rfl⟩) (by omega), snd00 ls, prg00⟩ ?_ ?_ ?_
    · rintro i σ' H' _ ⟨x, w, z, v, g, rfl, s3, _⟩
      exact sq_of (s3 _ _ hq)
    · rintro j v0 σ' H' hv ⟨x, w, z, v, gs, rfl, s3, tb, sn, pr⟩
      have hq3 := s3 _ _ hq
      have hp3 := s3 _ _ hp
      walk_at "st"
      refine loop1 (by omega) (fun i σ' H' => ∃ (x z v : Option V) (g : List Nat → List Nat → Option Int), σ' = [some (.ref q), some (.ref p), some (.ref e), some (.ref d), x, y, some v0, z, v] ∧ Same H H' ∧ Tab H' d (fun x y => x ∈ ns ∧ y ∈ ns) g 300 ∧ Snd ns R g ∧ Mon gs g ∧ ∀ a ∈ ns, ∀ x ∈ arL rs (fwd T m rs) (bwd T m rs) i, Rlx gs g a x) ⟨_, _, _, _, rfl, s3, tb, sn, Mon.refl _, fun _ _ _ h => (nomatch h)⟩ ?_ ?_
      · rintro i σ' H' hi ⟨x, z, v, g, rfl, s4, tb, sn, mo, rl⟩
        obtain ⟨r, er⟩ : ∃ r, rs[i]? = some r := ⟨_, List.getElem?_eq_getElem (by omega : i < rs.length)⟩
        obtain ⟨ap, eap, hap⟩ := row_at rws er
        obtain ⟨ru, rv⟩ := hin r (List.mem_of_getElem? er)
        have hp4 := s4 _ _ hp
        walk_at "st"
        refine wp_ixL (sq_of hp4) (at_nth eap) ?_
        have hq4 := s4 _ _ hq
        walk_at "st"
        have e1 : (fwd T m rs).getD i 0 = r.hi - gv T m r := by rw [List.getD_eq_getElem?_getD, List.getElem?_map, er]; rfl
        have e2 : (bwd T m rs).getD i 0 = gv T m r - r.lo := by rw [List.getD_eq_getElem?_getD, List.getElem?_map, er]; rfl
        have eA : ar2 rs (fwd T m rs) (bwd T m rs) i = [⟨r.u, r.v, r.hi - gv T m r, ((i : Nat), 1)⟩, ⟨r.v, r.u, gv T m r - r.lo, ((i : Nat), -1)⟩] := by
          unfold ar2
          rw [er, e1, e2]
        have inA : ∀ x ∈ ar2 rs (fwd T m rs) (bwd T m rs) i, x ∈ slA T m rs := fun x hx => arL_mem.mpr ⟨i, by omega, hx⟩
        rw [eA] at inA
        have eg : ((gvs T m rs).map V.int)[((i : Nat) : Int).toNat]? = some (.int (gv T m r)) := by rw [Int.toNat_natCast, List.getElem?_map]; unfold gvs; rw [List.getElem?_map, er]; rfl
        refine loopL (sq_of hq4) (fun t σ' H' => ∃ (x : Option V) (g : List Nat → List Nat → Option Int), σ' = [some (.ref q), some (.ref p), some (.ref e), some (.ref d), x, y, some v0, some (.int (i : Nat)), some (.ref ap)] ∧ Same H H' ∧ Tab H' d (fun x y => x ∈ ns ∧ y ∈ ns) g 300 ∧ Snd ns R g ∧ Mon gs g ∧ (∀ a ∈ ns, ∀ x ∈ arL rs (fwd T m rs) (bwd T m rs) i, Rlx gs g a x) ∧ ∀ a ∈ ns.take t, ∀ x ∈ ar2 rs (fwd T m rs) (bwd T m rs) i, Rlx gs g a x) ⟨_, _, rfl, s4, tb, sn, mo, rl, fun a h => by simp at h⟩ ?_ ?_ ?_
        · rintro t σ' H' _ ⟨x, g, rfl, s5, _⟩
          exact sq_of (s5 _ _ hq)
        · rintro t v1 σ' H' hv1 ⟨x, g, rfl, s5, tb, sn, mo, rl, rt⟩
          rw [List.getElem?_map] at hv1
          obtain ⟨a, ea, rfl⟩ := Option.map_eq_some_iff.mp hv1
          have ma := List.mem_of_getElem? ea
          have ha5 : H' ap = some (.tup [sv r.u, sv r.v, .int r.lo, .int r.hi, .int r.w]) := s5 _ _ hap
          have he5 := s5 _ _ he
          walk_at "st"
          refine wp_ixV (sq_of he5) (by omega) eg ?_
          walk_at "st"
          refine c_l_nearer tb (by omega) ma ru rv fun H6 f6 tb6 => ?_
          have s6 := f6 _ s5 hd
          have sn6 := sn.near ls ma (inA ⟨r.u, r.v, r.hi - gv T m r, ((i : Nat), 1)⟩ (by simp)) ru
          have m6 : Mon g (near g a r.u r.v (r.hi - gv T m r)) := .near
          have r6 : Rlx gs (near g a r.u r.v (r.hi - gv T m r)) a ⟨r.u, r.v, r.hi - gv T m r, ((i : Nat), 1)⟩ := .new mo
          have ha6 : H6 ap = some (.tup [sv r.u, sv r.v, .int r.lo, .int r.hi, .int r.w]) := s6 _ _ hap
          have he6 := s6 _ _ he
          revert tb6 sn6 m6 r6
          generalize near g a r.u r.v (r.hi - gv T m r) = g6
          intro tb6 sn6 m6 r6
          walk_at "st"
          refine wp_ixV (sq_of he6) (by omega) eg ?_
          walk_at "st"
          refine c_l_nearer tb6 (by omega) ma rv ru fun H7 f7 tb7 => ?_
          have s7 := f7 _ s6 hd
          have sn7 := sn6.near ls ma (inA ⟨r.v, r.u, gv T m r - r.lo, ((i : Nat), -1)⟩ (by simp)) rv
          have m7 : Mon g6 (near g6 a r.v r.u (gv T m r - r.lo)) := .near
          have r7 : Rlx gs (near g6 a r.v r.u (gv T m r - r.lo)) a ⟨r.v, r.u, gv T m r - r.lo, ((i : Nat), -1)⟩ := .new (mo.trans m6)
          have m57 := m6.trans m7
          walk_at "st"
          refine ⟨_, _, rfl, s7, tb7, sn7, mo.trans m57, fun b hb x hx => (rl b hb x hx).mon m57, fun b hb x hx => ?_⟩
          rw [take_snoc ea] at hb
          rcases List.mem_append.mp hb with hb | hb
          · exact (rt b hb x hx).mon m57
          · rw [List.mem_singleton.mp hb]
            rw [eA] at hx
            simp only [List.mem_cons, List.not_mem_nil, or_false] at hx
            rcases hx with rfl | rfl
            · exact r6.mon m7
            · exact r7
        · rintro σ' H' ⟨x, g, rfl, s5, tb, sn, mo, rl, rt⟩
          rw [List.length_map, List.take_length] at rt
          refine ⟨_, _, _, _, rfl, s5, tb, sn, mo, fun a ha x hx => ?_⟩
          rcases List.mem_append.mp (show x ∈ arL rs (fwd T m rs) (bwd T m rs) i ++ ar2 rs (fwd T m rs) (bwd T m rs) i from hx) with hx | hx
          · exact rl a ha x hx
          · exact rt a ha x hx
      · rintro σ' H' ⟨x, z, v, g, rfl, s4, tb, sn, mo, rl⟩
        rw [Int.toNat_natCast, elr] at rl
        exact ⟨_, _, _, _, _, rfl, s4, tb, sn, pr.next mo rl⟩
    · rintro σ' H' ⟨x, w, z, v, g, rfl, s3, tb, sn, pr⟩
      rw [List.length_map] at pr
      walk_at "st"
      refine k d H' s3 hd (tb.weak (fun a b h => ⟨h, ?_⟩) (Nat.le_refl _))
      exact tab_done ls (fun x hx => (hinA x hx).2) sn pr a h.1 b h.2
theorem len_l_rooms (K : PySem.W.Frag) (vs : List V) (H : Hp) (Q : VK) (E : XK) (h : sp_l_rooms K vs H Q E) : vs.length = 3 := by
  obtain ⟨_, _, _, _, _, _, _, _, _, rfl, _⟩ := h
  rfl
theorem c_l_rooms {K : PySem.W.Frag} {q p e : Addr} {T : Int} {ns : List (List Nat)} {ss : List V} {rs : List Row} {m : List Nat → Int} {R : List Nat → List Nat → Option Int} {H : Hp} {Q : VK} {E : XK} (hq : H q = some (.lst (ns.map sv))) (hp : H p = some (.lst ss)) (rws : Rws H ss rs) (he : H e = some (.lst ((gvs T m rs).map V.int))) (hin : ∀ r ∈ rs, r.u ∈ ns ∧ r.v ∈ ns) (nd : ns.Nodup) (l12 : ns.length ≤ 12) (l24 : rs.length ≤ 24) (ls : Lst (slA T m rs) ns R)
    (k : ∀ d H', Same H H' → H d = none → Tab H' d (fun x y => x ∈ ns ∧ y ∈ ns) R 300 → Q (.ref d) H') : sp_l_rooms K [.ref q, .ref p, .ref e] H Q E := ⟨q, p, e, T, ns, ss, rs, m, R, rfl, hq, hp, rws, he, hin, nd, l12, l24, ls, k⟩
theorem mod_in {x y z T : Int} : (x % T - y % T - z) % T = (x - y - z) % T := by
  rw [Int.emod_def x T, Int.emod_def y T, show x - T * (x / T) - (y - T * (y / T)) - z = (x - y - z) + T * (y / T - x / T) by rw [Int.mul_sub]; omega, Int.add_mul_emod_self_left]
theorem kp_bef {T : Int} {ns : List (List Nat)} {bs cs : List Int} {r : Row} (nd : ns.Nodup) (h : KpR T ns bs cs r) : isK T (asg ns bs) r = true := by
  obtain ⟨i, j, a, b, c, d, e1, e2, e3, e4, _, _, e7, _⟩ := h
  unfold isK
  rw [asg_at nd e1 e3, asg_at nd e2 e4]
  have e7 : (b - a - r.lo) % T ≤ r.hi - r.lo := e7
  exact decide_eq_true (by omega)
theorem kp_aft {T : Int} {ns : List (List Nat)} {bs cs : List Int} {r : Row} (nd : ns.Nodup) (h : KpR T ns bs cs r) : isK T (asg ns ((List.range ns.length).map (aft T bs cs))) r = true := by
  obtain ⟨i, j, a, b, c, d, e1, e2, e3, e4, e5, e6, _, e8⟩ := h
  have li := (List.getElem?_eq_some_iff.mp e1).1
  have lj := (List.getElem?_eq_some_iff.mp e2).1
  have f1 : ((List.range ns.length).map (aft T bs cs))[i]? = some ((a + c) % T) := by
    rw [List.getElem?_map, List.getElem?_range li]
    show some ((bs.getD i 0 + cs.getD i 0) % T) = _
    rw [List.getD_eq_getElem?_getD, List.getD_eq_getElem?_getD, e3, e5]
    rfl
  have f2 : ((List.range ns.length).map (aft T bs cs))[j]? = some ((b + d) % T) := by
    rw [List.getElem?_map, List.getElem?_range lj]
    show some ((bs.getD j 0 + cs.getD j 0) % T) = _
    rw [List.getD_eq_getElem?_getD, List.getD_eq_getElem?_getD, e4, e6]
    rfl
  unfold isK
  rw [asg_at nd e1 f1, asg_at nd e2 f2, mod_in]
  have e8 : ((b - a) + (d - c) - r.lo) % T ≤ r.hi - r.lo := e8
  rw [show b - a + (d - c) - r.lo = b + d - (a + c) - r.lo by omega] at e8
  exact decide_eq_true (by omega)
theorem kp_rows {G : Hp} {T : Int} {ns : List (List Nat)} {bs cs : List Int} {ss : List V} {rs : List Row} (rws : Rws G ss rs) (h : ∀ x ∈ ss, IsSpK G T ns bs cs x) : ∀ r ∈ rs, KpR T ns bs cs r := fun r hr => by
  obtain ⟨i, hi⟩ := List.mem_iff_getElem?.mp hr
  have li := (List.getElem?_eq_some_iff.mp hi).1
  obtain ⟨x, ex⟩ : ∃ x, ss[i]? = some x := ⟨_, List.getElem?_eq_getElem (by rw [rws.len]; exact li)⟩
  obtain ⟨r2, e2, ir⟩ := rws.at ex
  rw [hi] at e2
  cases e2
  obtain ⟨r3, ir3, _, kp⟩ := h x (List.mem_of_getElem? ex)
  rw [ir.inj ir3]
  exact kp
theorem kept_all2 {T T' : Int} {ns ms : List (List Nat)} {rs : List Row} {m : List Nat → Int} (ec : cKept T ns rs T' ms m = none) : ∀ r ∈ rs, isK T m r = true := by
  unfold cKept at ec
  split at ec
  · cases ec
  · obtain ⟨h1, h2⟩ := Option.or_eq_none_iff.mp ec
    obtain ⟨_, h3⟩ := Option.or_eq_none_iff.mp h2
    exact brk_all h3
def sp_law (K : PySem.W.Frag) : Sp := fun vs H Q _ => ∃ (a : Addr) (ns : List Int), vs = [.ref a] ∧ SqL K H a (ns.map V.int) ∧ ns.length ≤ 63 ∧ ∀ H', Q (.bl true) H' 
abbrev N_law : List Str := ["_law_script", "_law_pool_here", "_law_case_here", "_law_length_here", "_law_names_here", "_law_spans", "_law_before", "_law_island", "_law_rooms_here", "_law_first", "_law_second"]
theorem st_law {a0 : V} : L2.start N_law [a0] = [some a0, none, none, none, none, none, none, none, none, none, none] := rfl
def t_law (K : PySem.W.Frag) : TS :=
  (tSeq ((tAsg ((tCall (sp_l_pool K) [] E0 ((tCons (tVar 0) (tNil))))) (gName 1)))
    ((tSeq ((tAsg ((tCall (sp_l_case K) [] E0 ((tCons (tVar 1) ((tCons (tC (.int 6)) ((tCons (tC (.int 10)) ((tCons (tC (.int 60)) (tNil))))))))))) (gName 2)))
    ((tSeq ((tAsg ((tOp (rIxL K) (tVar 2) (tC (.int 0)))) (gName 3)))
    ((tSeq ((tAsg ((tOp (rIxL K) (tVar 2) (tC (.int 1)))) (gName 4)))
    ((tSeq ((tAsg ((tOp (rIxL K) (tVar 2) (tC (.int 2)))) (gName 5)))
    ((tSeq ((tAsg ((tCall (sp_l_minutes K) [] E0 ((tCons (tVar 4) ((tCons ((tOp (rIxL K) (tVar 2) (tC (.int 3)))) ((tCons ((tCall (sp_l_draw K) [] E0 ((tCons (tVar 1) ((tCons ((tCB rMax2 ((tCons (tC (.int 1)) ((tCons ((tCB (rLenS K) ((tCons (tVar 4) (tNil))))) (tNil))))))) (tNil))))))) (tNil))))))))) (gName 6)))
    ((tSeq ((tAsg ((tMake (C_Island K) (sp_Island_init K) [] E0 ((tCons ((tMake (C_Net K) (sp_Net_init K) [] E0 ((tCons (tVar 3) ((tCons ((tCB (rListS K) ((tCons (tVar 4) (tNil))))) ((tCons ((tCB (rListS K) ((tCons (tVar 5) (tNil))))) (tNil))))))))) ((tCons ((tMake (C_Times K) (sp_Times_init K) [] E0 ((tCons (tVar 3) ((tCons ((tCB rDictOf ((tCons (tVar 6) (tNil))))) (tNil))))))) (tNil))))))) (gName 7)))
    ((tSeq ((tAsg ((tCall (sp_l_rooms K) [] E0 ((tCons (tVar 4) ((tCons (tVar 5) ((tCons ((tCall (sp_l_all_gone K) [] E0 ((tCons (tVar 3) ((tCons (tVar 5) ((tCons (tVar 6) (tNil))))))))) (tNil))))))))) (gName 8)))
    ((tSeq ((tFor ((iList K (tVar 4))) (gName 9) ((tFor ((iList K (tVar 4))) (gName 10) ((tIfS ((tNot ((tB ((tCall (sp_l_same K 3) [] E0 ((tCons ((tMeth (C_Island K) "room" (sp_Island_room K) [] E0 (tVar 7) ((tCons (tVar 9) ((tCons (tVar 10) (tNil))))))) ((tCons ((tDGet (tVar 8) ((tTup ((tCons (tVar 9) ((tCons (tVar 10) (tNil))))))))) (tNil))))))))))) ((tRet (tC (.bl false)))) (tNext)))))))
    ((tRet (tC (.bl true)))))))))))))))))))))

theorem pure_law (K : PySem.W.Frag) (vs : List V) (H : Hp) (Q : VK) (E : XK) (h : sp_law K vs H Q E) : t_law K { nx := fun _ H' => Q .non H', rt := Q } (L2.start N_law vs) H := by
  obtain ⟨z0, cs, rfl, hx, hn, kq⟩ := h
  rw [st_law]
  unfold t_law
  walk_at "st"
  refine c_l_pool hx hn fun P G0 H0 _ hs0 => ?_
  walk_at "st"
  refine c_l_case hs0 (by omega) (by omega) (by omega) fun C T N SP B A ns ss bs cs G2 H2 cc g2 hs2 => ?_
  have fs : ss.length ≤ 24 := by have := cc.ms; omega
  have ok := cc.ok
  have t0 := ok.t0
  have t1 := ok.t1
  have f12 := ok.few
  have hT : 0 < T := by omega
  have hC2 := hs2.sub _ _ cc.hL
  obtain ⟨rs, rws2⟩ := rws_ex fun x hx => (cc.sp x hx).sp
  have okr := rws2.all ok.nm fun x hx => (cc.sp x hx).sp
  have elr := rws2.len
  have hin : ∀ r ∈ rs, r.u ∈ ns ∧ r.v ∈ ns := fun r hr => ⟨(okr r hr).1.u, (okr r hr).1.v⟩
  have bnd : ∀ r ∈ rs, 0 ≤ r.lo ∧ r.hi ≤ r.lo + T - 3 := fun r hr => ⟨(okr r hr).1.l0, (okr r hr).1.h1⟩
  have ar : ∀ r ∈ rs, AscR r := fun r hr => (okr r hr).2
  have an : ∀ l ∈ ns, Asc l := fun l hl => nm_asc (ok.nm l hl)
  have kp2 := kp_rows rws2 cc.sp
  have kpb : ∀ r ∈ rs, isK T (asg ns bs) r = true := fun r hr => kp_bef ok.nodup (kp2 r hr)
  have la : ((List.range ns.length).map (aft T bs cs)).length = ns.length := by rw [List.length_map, List.length_range]
  have aft0 : ∀ i ∈ (List.range ns.length).map (aft T bs cs), 0 ≤ i ∧ i ≤ T - 1 := fun i hi => by
    obtain ⟨j, _, rfl⟩ := List.mem_map.mp hi
    unfold aft
    have := Int.emod_nonneg (bs.getD j 0 + cs.getD j 0) (show T ≠ 0 by omega)
    have := Int.emod_lt_of_pos (bs.getD j 0 + cs.getD j 0) (show 0 < T by omega)
    omega
  have bef0 : ∀ i ∈ bs, 0 ≤ i ∧ i ≤ T - 1 := fun i hi => ⟨(cc.bb i hi).1, by have := (cc.bb i hi).2; omega⟩
  have lb := cc.lb
  have okt : ∀ {is : List Int} (d : Nat), is.length = ns.length → (∀ i ∈ is, 0 ≤ i ∧ i ≤ T - 1) → OkTm T (rotG d ns) (asg ns is) := fun {is} d li h =>
    have pm := rot_perm d ns
    ⟨t0, t1, by rw [rot_len]; omega, fun l h => ok.nm l (pm.mem_iff.mp h), fun l hl => (h _ (asg_mem (pm.mem_iff.mp hl) (by omega))).1, fun l hl => (h _ (asg_mem (pm.mem_iff.mp hl) (by omega))).2⟩
  have hcN := cc.hN
  have hcS := cc.hS
  have hcB := cc.hB
  have hcA := cc.hA
  have hcC := cc.hL
  revert hcA la aft0
  generalize (List.range ns.length).map (aft T bs cs) = as
  intro la aft0 hcA
  clear cc kp2
  walk_at "st"
  refine c_l_draw hs2 (by rw [List.length_map]; omega) fun dr H3 d0 d1 hs3 => ?_
  rw [List.length_map] at d1
  walk_at "st"
  refine c_l_minutes (sq_of (hs3.sub _ _ hcN)) (sq_of (hs3.sub _ _ hcB)) (by omega) (by omega) ok.nodup d0 (by omega) fun D H4 fD s4 hD => ?_
  have pm := rot_perm dr.toNat ns
  have okb := okt dr.toNat lb bef0
  have inm : ∀ l ∈ ns, l ∈ rotG dr.toNat ns := fun l hl => pm.mem_iff.mpr hl
  have ec : cKept T ns rs T (rotG dr.toNat ns) (asg ns bs) = none := by
    unfold cKept
    rw [if_neg (by simp), cFold_none (f := cIn (rotG dr.toNat ns)) (fun l hl => if_pos (inm l hl)), cFold_none (f := cIn ns) (fun l hl => if_pos (pm.mem_iff.mp hl)), brk_none kpb]
    rfl
  have hs4 := (hs3.same s4).with (hs3.sub.free fD) hD (hs3.fresh fD).2
  have g4 : Same G2 (upd G2 D (.dK (mD (asg ns bs) (rotG dr.toNat ns)))) := Same.new (hs3.sub.free fD)
  have eD : upd G2 D (.dK (mD (asg ns bs) (rotG dr.toNat ns))) D = some (.dK (mD (asg ns bs) (rotG dr.toNat ns))) := upd_same
  revert hs4 g4 eD
  generalize upd G2 D (.dK (mD (asg ns bs) (rotG dr.toNat ns))) = G4
  intro hs4 g4 eD
  have mlen : (rotG dr.toNat ns).length = ns.length := rot_len _ _
  have mnd : (rotG dr.toNat ns).Nodup := pm.nodup_iff.mpr ok.nodup
  have mb : ∀ l ∈ ns, 0 ≤ asg ns bs l ∧ asg ns bs l < T := fun l hl => ⟨okb.m0 l (inm l hl), by have := okb.m1 l (inm l hl); omega⟩
  revert okb inm ec eD mlen mnd mb
  generalize asg ns bs = m
  generalize rotG dr.toNat ns = ms
  intro okb inm ec eD mlen mnd mb
  have hC4 := hs4.sub _ _ (g4 _ _ hcC)
  clear hs0 hs2 hs3 hC2 pm kpb
  walk_at "st"
  refine wp_listL (sq_of (hs4.sub _ _ (g4 _ _ hcN))) fun e he => ?_
  obtain ⟨G5, hs5, g5, e5⟩ := hs4.new' (.lst (ns.map sv)) he
  have g25 := g4.trans g5
  have hC5 := hs5.sub _ _ (g25 _ _ hcC)
  walk_at "st"
  refine wp_listL (sq_of (hs5.sub _ _ (g25 _ _ hcS))) fun f hf => ?_
  obtain ⟨G6, hs6, g6, e6⟩ := hs5.new' (.lst ss) hf
  have g26 := g25.trans g6
  have rws6 := rws2.mono g26
  walk_at "st"
  refine c_Net hs6 (hs6.sub _ _ (g6 _ _ e5)) (hs6.sub _ _ e6) ok ⟨fs, fun x hx => by
    obtain ⟨i, hi⟩ := List.mem_iff_getElem?.mp hx
    obtain ⟨r, er, ir⟩ := (rws6.mono hs6.sub).at hi
    exact ⟨r, ir, (okr r (List.mem_of_getElem? er)).1⟩⟩ fun n G7 H7 g7 s7 _ hnet hs7 => ?_
  have g27 := g26.trans g7
  have g47 := (g5.trans g6).trans g7
  have eD7 := g47 _ _ eD
  have hC7 := hs7.sub _ _ (g27 _ _ hcC)
  clear hs4 hs5 hs6 hC4 hC5
  walk_at "st"
  refine wp_dictOf (.inl (hs7.sub _ _ eD7)) fun d2 hd2 => ?_
  obtain ⟨G8, hs8, g8, e8⟩ := hs7.new' (.dK (mD m ms)) hd2
  walk_at "st"
  refine c_TimesG hs8.sub (hs8.sub _ _ e8) okb fun t G9 H9 v1 v2 v3 kp it => ?_
  have hs9 := hs8.grow v1 v2 v3 kp
  have g79 := g8.trans v1
  have net9 := hnet.mono g79
  have rws9 := rws2.mono (g27.trans g79)
  clear hs7 hs8
  walk_at "st"
  refine c_Island (net9.mono hs9.sub) (it.mono hs9.sub) (rws9.mono hs9.sub) hin bnd (by omega) f12 ok.nodup hT t1 ec fun b ts Ws H10 s10 il _ => ?_
  have g4A := g47.trans (g79.trans (hs9.sub.trans s10))
  have g2A := g4.trans g4A
  have hC := g2A _ _ hcC
  have hN := g2A _ _ hcN
  have hS := g2A _ _ hcS
  have hD := g4A _ _ eD
  have rwsA := rws2.mono g2A
  obtain ⟨R, ls⟩ := Lst.ex (as := slA T m rs) (ns := ns) (fun x hx => (slA_ok hin bnd (kept_all2 ec) hT t1 x hx).1) (fun x hx => (slA_ok hin bnd (kept_all2 ec) hT t1 x hx).2) f12
  clear hs9 v1 v2 v3 kp g8 g79 it net9 rws9 hnet hC7 g47 g26 g25 g4A g2A hcN hcS hcB hcA hcC eD eD7
  walk_at "st"
  refine c_l_all_gone hT hS rwsA (by omega) hD (fun r hr => ⟨inm _ (hin r hr).1, inm _ (hin r hr).2⟩) fun gg H11 fgg s11 hgg => ?_
  rw [pas_gvs (kept_all2 ec)] at hgg
  walk_at "st"
  refine c_l_rooms (s11 _ _ hN) (s11 _ _ hS) (rwsA.mono s11) hgg hin ok.nodup f12 (by omega) ls fun d H12 s12 fd tb => ?_
  have s02 := s11.trans s12
  have hN12 := s02 _ _ hN
  have il12 := il.mono s02
  walk_at "st"
  refine loopL (sq_of hN12) (fun _ σ' H' => ∃ (x y : Option V), σ' = [some (.ref z0), some (.ref P.p), some (.ref C), some (.int T), some (.ref N), some (.ref SP), some (.ref D), some (.ref b), some (.ref d), x, y] ∧ Same H12 H') ⟨_, _, rfl, Same.refl _⟩ ?_ ?_ ?_
  · rintro i σ' H' _ ⟨x, y, rfl, s1⟩
    exact sq_of (s1 _ _ hN12)
  · rintro i v σ' H' hv ⟨x, y, rfl, s1⟩
    rw [List.getElem?_map] at hv
    obtain ⟨l, hl, rfl⟩ := Option.map_eq_some_iff.mp hv
    have ml := List.mem_of_getElem? hl
    walk_at "st"
    refine loopL (sq_of (s1 _ _ hN12)) (fun _ σ' H' => ∃ (y : Option V), σ' = [some (.ref z0), some (.ref P.p), some (.ref C), some (.int T), some (.ref N), some (.ref SP), some (.ref D), some (.ref b), some (.ref d), some (.str (S l)), y] ∧ Same H12 H') ⟨_, rfl, s1⟩ ?_ ?_ ?_
    · rintro j σ' H' _ ⟨y, rfl, s2⟩
      exact sq_of (s2 _ _ hN12)
    · rintro j v σ' H' hv ⟨y, rfl, s2⟩
      rw [List.getElem?_map] at hv
      obtain ⟨k, hk, rfl⟩ := Option.map_eq_some_iff.mp hv
      have mk := List.mem_of_getElem? hk
      obtain ⟨dx, Rg, Q0, fo, ba, ro, la, us, M, L, e1, _⟩ := (il12.mono s2).ex
      walk_at "st"
      refine met_at e1 rfl ?_
      walk_at "st"
      refine c_Island_room (il12.mono s2) ls ml mk fun H3 s3 => ?_
      have s3 := s2.trans s3
      walk_at "st"
      refine ⟨by simp [sizeLine_eq], fun p hp => ?_⟩
      have s4 := s3.trans (Same.new (o := .tup [sv l, sv k]) hp)
      refine tab_get (tb.mono s4) ⟨ml, mk⟩ upd_same ?_
      walk_at "st"
      have sm : ∀ {H : Hp} {o : Option Int}, Sm H 3 (oV o) (oV o) := fun {H o} => by
        cases o
        · exact sm_non
        · exact sm_int
      refine c_l_same sm fun H5 s5 => ?_
      walk_at "st"
      exact ⟨_, rfl, s4.trans s5⟩
    · rintro σ' H' ⟨y, rfl, s2⟩
      exact ⟨_, _, rfl, s2⟩
  · rintro σ' H' ⟨x, y, rfl, s1⟩
    walk_at "st"
    exact kq H'
theorem len_law (K : PySem.W.Frag) (vs : List V) (H : Hp) (Q : VK) (E : XK) (h : sp_law K vs H Q E) : vs.length = 1 := by
  obtain ⟨_, _, rfl, _⟩ := h
  rfl
structure Txt (K : PySem.W.Frag) (mg : Str → Option Value) : Prop where
  f_len : mg "len" = none
  f_max : mg "max" = none
  f_dict : mg "dict" = none
  f_list : mg "list" = none
  cls_Net : Cls K (C_Net K)
  na_Net__round_length : NoAttr K (C_Net K) "_round_length"
  na_Net__events : NoAttr K (C_Net K) "_events"
  na_Net__spans : NoAttr K (C_Net K) "_spans"
  g_Net : mg "Net" = some (.ref (C_Net K))
  rd_Net : ClX.CRead K (C_Net K) (.type "type")
  cv_Net_EVENTS : ∃ u, ClX.CVal K (C_Net K) (.type "type") "EVENTS" (.int 12) u
  f_enumerate : mg "enumerate" = none
  cv_Net_SPANS : ∃ u, ClX.CVal K (C_Net K) (.type "type") "SPANS" (.int 24) u
  cv_Net_LONGEST : ∃ u, ClX.CVal K (C_Net K) (.type "type") "LONGEST" (.int 120) u
  cv_Net_SHORTEST : ∃ u, ClX.CVal K (C_Net K) (.type "type") "SHORTEST" (.int 3) u
  c_LONGEST_NAME : ∃ u, mg "LONGEST_NAME" = some u ∧ RelV (.int 8) u
  c_LETTERS : ∃ u, mg "LETTERS" = some u ∧ RelV (.str (S Z26)) u
  c_DIGITS : ∃ u, mg "DIGITS" = some u ∧ RelV (.str (S Z10)) u
  f_all : mg "all" = none
  cv_Net_HEAVIEST : ∃ u, ClX.CVal K (C_Net K) (.type "type") "HEAVIEST" (.int 99) u
  cls_Island : Cls K (C_Island K)
  na_Island__net : NoAttr K (C_Island K) "_net"
  na_Island__times : NoAttr K (C_Island K) "_times"
  cls_Base : Cls K (C_Base K)
  na_Island__rings : NoAttr K (C_Island K) "_rings"
  na_Island__rounds : NoAttr K (C_Island K) "_rounds"
  f_zip : mg "zip" = none
  na_Island__forward : NoAttr K (C_Island K) "_forward"
  na_Island__backward : NoAttr K (C_Island K) "_backward"
  na_Island__rooms : NoAttr K (C_Island K) "_rooms"
  na_Island__last : NoAttr K (C_Island K) "_last"
  f_iter : mg "iter" = none
  g_BrokenSpan : mg "BrokenSpan" = some (.ref (C_BrokenSpan K))
  ox_BrokenSpan : OexC K (C_BrokenSpan K)
  na_BrokenSpan_number : NoAttr K (C_BrokenSpan K) "number"
  cls_Times : Cls K (C_Times K)
  g_BadNumber : mg "BadNumber" = some (.ref (C_BadNumber K))
  ox_BadNumber : OexC K (C_BadNumber K)
  na_BadNumber_number : NoAttr K (C_BadNumber K) "number"
  g_WrongNames : mg "WrongNames" = some (.ref (C_WrongNames K))
  ox_WrongNames : OexC K (C_WrongNames K)
  na_WrongNames_name : NoAttr K (C_WrongNames K) "name"
  na_Times__round_length : NoAttr K (C_Times K) "_round_length"
  na_Times__minutes : NoAttr K (C_Times K) "_minutes"
  na_Base__net : NoAttr K (C_Base K) "_net"
  na_Base__tree : NoAttr K (C_Base K) "_tree"
  f_range : mg "range" = none
  na_Base__closing : NoAttr K (C_Base K) "_closing"
  na_Base__arcs : NoAttr K (C_Base K) "_arcs"
  na_Base__rings : NoAttr K (C_Base K) "_rings"
  f_sum : mg "sum" = none
  f_int : mg "int" = none
  f_str : mg "str" = none
  f_min : mg "min" = none
  f_bool : mg "bool" = none
  f_isinstance : mg "isinstance" = none
  f_tuple : mg "tuple" = none
  g_MinuteError : mg "MinuteError" = some (.ref (C_MinuteError K))
  xf : XFacts K exs
  g_Base : mg "Base" = some (.ref (C_Base K))
  g_Island : mg "Island" = some (.ref (C_Island K))
  g_Times : mg "Times" = some (.ref (C_Times K))
section
variable {P : Program} {w : World} {K : PySem.W.Frag} {mg : Str → Option Value} {base : Heap}
theorem sc_check_range : FnScope N_check_range ["number", "low", "high"] (defScope s_check_range) := ⟨rfl, rfl, rfl, by decide +kernel, rfl, by decide +kernel, by decide +kernel⟩
theorem ok_check_range {f : Addr} {fd : FuncData} (F : FunD K "check_range" "check_range" (defArgs s_check_range) (defBody s_check_range) (defScope s_check_range) [] [] f fd) (T : Txt K mg) : FnOk P w K mg base CX0 1 f fd ["number", "low", "high"] (sp_check_range K) := by
  refine F.ok sc_check_range (len_check_range K) (fun cdv A outer s H vs Q E hr h => ⟨t_check_range K, PSs.nox ?_, pure_check_range K vs H Q E h⟩)
  exact (pss_one (ps_if (pt_not (pt_chain op_le op_le (pv 1) (pv 0) (pv 2))) (pss_one ps_never) pss_nil))
theorem sc_check_round_length : FnScope N_check_round_length ["round_length"] (defScope s_check_round_length) := ⟨rfl, rfl, rfl, by decide +kernel, rfl, by decide +kernel, by decide +kernel⟩
theorem ok_check_round_length {f : Addr} {fd : FuncData} (F : FunD K "check_round_length" "check_round_length" (defArgs s_check_round_length) (defBody s_check_round_length) (defScope s_check_round_length) [] [] f fd) (T : Txt K mg) (G_check_range : C8.Cal P w K mg base (1) "check_range" (sp_check_range K) []) : FnOk P w K mg base CX0 2 f fd ["round_length"] (sp_check_round_length K) := by
  refine F.ok sc_check_round_length (len_check_round_length K) (fun cdv A outer s H vs Q E hr h => ⟨t_check_round_length K, PSs.nox ?_, pure_check_round_length K vs H Q E h⟩)
  exact (pss_one (ps_expr (C8.pe_c G_check_range hr (by omega) (by rfl) (pa_cons (pv 0) (pa_cons (pe_cint (by rfl) T.g_Net T.rd_Net T.cv_Net_SHORTEST) (pa_cons (pe_cint (by rfl) T.g_Net T.rd_Net T.cv_Net_LONGEST) pa_nil))))))
theorem sc_check_count : FnScope N_check_count ["count", "limit"] (defScope s_check_count) := ⟨rfl, rfl, rfl, by decide +kernel, rfl, by decide +kernel, by decide +kernel⟩
theorem ok_check_count {f : Addr} {fd : FuncData} (F : FunD K "check_count" "check_count" (defArgs s_check_count) (defBody s_check_count) (defScope s_check_count) [] [] f fd) (T : Txt K mg) : FnOk P w K mg base CX0 1 f fd ["count", "limit"] (sp_check_count K) := by
  refine F.ok sc_check_count (len_check_count K) (fun cdv A outer s H vs Q E hr h => ⟨t_check_count K, PSs.nox ?_, pure_check_count K vs H Q E h⟩)
  exact (pss_one (ps_if (pt_cmpR op_gt (pv 0) (pv 1) (nomark _)) (pss_one ps_never) pss_nil))
theorem sc_is_name : FnScope N_is_name ["text"] (defScope s_is_name) := ⟨rfl, rfl, rfl, by decide +kernel, rfl, by decide +kernel, by decide +kernel⟩
theorem ok_is_name {f : Addr} {fd : FuncData} (F : FunD K "is_name" "is_name" (defArgs s_is_name) (defBody s_is_name) (defScope s_is_name) [] [] f fd) (T : Txt K mg) : FnOk P w K mg base CX0 1 f fd ["text"] (sp_is_name K) := by
  refine F.ok sc_is_name (len_is_name K) (fun cdv A outer s H vs Q E hr h => ⟨t_is_name K, PSs.nox ?_, pure_is_name K vs H Q E h⟩)
  exact (pss_cons (ps_if (pt_not (pt_chain op_le op_le pe_int (pe_callB callLenStr (by rfl) T.f_len (by decide +kernel) (pa_cons (pv 0) pa_nil)) (C8.pe_gc (by rfl) T.c_LONGEST_NAME))) (pss_one (ps_ret pe_bl)) pss_nil)
    (pss_one (ps_ret (pe_and (pe_cmpR op_inS (pe_ix ix_str (pv 0) pe_int (fun _ _ => rfl)) (C8.pe_gc (by rfl) T.c_LETTERS) (by rfl)) (pe_one (pe_callB (cr_all rfl) (by rfl) T.f_all (by decide +kernel) (pa_cons (pe_lc (own := [("sign", 1)]) rfl sc_is_name.nd (pi_str (pv 0)) (blkOk_by (N := N_is_name) (sc := defScope s_is_name) (by decide +kernel)) (fun _ _ _ _ _ => (pg_name (i := 1) sc_is_name.nd rfl (Or.inl rfl))) (fun _ _ _ _ _ => pts_nil) (fun _ _ _ _ _ => (pe_or (pe_cmpR op_inS (pv 1) (C8.pe_gc (by rfl) T.c_LETTERS) (by rfl)) (pe_one (pe_cmpR op_inS (pv 1) (C8.pe_gc (by rfl) T.c_DIGITS) (by rfl)))))) pa_nil)))))))
theorem sc_check_name : FnScope N_check_name ["text"] (defScope s_check_name) := ⟨rfl, rfl, rfl, by decide +kernel, rfl, by decide +kernel, by decide +kernel⟩
theorem ok_check_name {f : Addr} {fd : FuncData} (F : FunD K "check_name" "check_name" (defArgs s_check_name) (defBody s_check_name) (defScope s_check_name) [] [] f fd) (T : Txt K mg) (G_is_name : C8.Cal P w K mg base (1) "is_name" (sp_is_name K) []) : FnOk P w K mg base CX0 2 f fd ["text"] (sp_check_name K) := by
  refine F.ok sc_check_name (len_check_name K) (fun cdv A outer s H vs Q E hr h => ⟨t_check_name K, PSs.nox ?_, pure_check_name K vs H Q E h⟩)
  exact (pss_one (ps_if (pt_not (pt_val (C8.pe_c G_is_name hr (by omega) (by rfl) (pa_cons (pv 0) pa_nil)))) (pss_one ps_never) pss_nil))
theorem sc_check_event : FnScope N_check_event ["name", "before"] (defScope s_check_event) := ⟨rfl, rfl, rfl, by decide +kernel, rfl, by decide +kernel, by decide +kernel⟩
theorem ok_check_event {f : Addr} {fd : FuncData} (F : FunD K "check_event" "check_event" (defArgs s_check_event) (defBody s_check_event) (defScope s_check_event) [] [] f fd) (T : Txt K mg) (G_check_name : C8.Cal P w K mg base (2) "check_name" (sp_check_name K) []) : FnOk P w K mg base CX0 3 f fd ["name", "before"] (sp_check_event K) := by
  refine F.ok sc_check_event (len_check_event K) (fun cdv A outer s H vs Q E hr h => ⟨t_check_event K, PSs.nox ?_, pure_check_event K vs H Q E h⟩)
  exact (pss_cons (ps_expr (C8.pe_c G_check_name hr (by omega) (by rfl) (pa_cons (pv 0) pa_nil)))
    (pss_one (ps_if (pt_cmpR op_in_seq (pv 0) (pv 1) (by rfl)) (pss_one ps_never) pss_nil)))
theorem sc_Net_contains : FnScope N_Net_contains ["self", "name"] (defScope s_Net_contains) := ⟨rfl, rfl, rfl, by decide +kernel, rfl, by decide +kernel, by decide +kernel⟩
theorem ok_Net_contains {f : Addr} {fd : FuncData} (F : FunD K "__contains__" "Net.__contains__" (defArgs s_Net_contains) (defBody s_Net_contains) (defScope s_Net_contains) [] [] f fd) (T : Txt K mg) : FnOk P w K mg base CX0 1 f fd ["self", "name"] (sp_Net_contains K) := by
  refine F.ok sc_Net_contains (len_Net_contains K) (fun cdv A outer s H vs Q E hr h => ⟨t_Net_contains K, PSs.nox ?_, pure_Net_contains K vs H Q E h⟩)
  exact (pss_one (ps_ret (pe_cmpR op_in_seq (pv 1) (pe_fldC T.cls_Net T.na_Net__events (pv 0)) (by rfl))))
theorem sc_check_known : FnScope N_check_known ["names", "known"] (defScope s_check_known) := ⟨rfl, rfl, rfl, by decide +kernel, rfl, by decide +kernel, by decide +kernel⟩
theorem ok_check_known {f : Addr} {fd : FuncData} (F : FunD K "check_known" "check_known" (defArgs s_check_known) (defBody s_check_known) (defScope s_check_known) [] [] f fd) (T : Txt K mg) (G_Net_contains : Spc P w K mg base 1 (C_Net K) "__contains__" (sp_Net_contains K)) : FnOk P w K mg base CX0 2 f fd ["names", "known"] (sp_check_known K) := by
  refine F.ok sc_check_known (len_check_known K) (fun cdv A outer s H vs Q E hr h => ⟨t_check_known K, PSs.nox ?_, pure_check_known K vs H Q E h⟩)
  exact (pss_one (ps_for PassesOwn.never rfl (pi_list (pv 0)) (pg_name (i := 2) sc_check_known.nd rfl (Or.inl rfl)) (pss_one (ps_if (pt_cmpR (op_notInY (u1 hr) G_Net_contains (hr.mono (by omega))) (pv 2) (pv 1) (by rfl)) (pss_one ps_never) pss_nil))))
theorem sc_check_span : FnScope N_check_span ["round_length", "events", "span"] (defScope s_check_span) := ⟨rfl, rfl, rfl, by decide +kernel, rfl, by decide +kernel, by decide +kernel⟩
theorem ok_check_span {f : Addr} {fd : FuncData} (F : FunD K "check_span" "check_span" (defArgs s_check_span) (defBody s_check_span) (defScope s_check_span) [] [] f fd) (T : Txt K mg) (G_check_range : C8.Cal P w K mg base (1) "check_range" (sp_check_range K) []) (G_check_known : C8.Cal P w K mg base (2) "check_known" (sp_check_known K) []) : FnOk P w K mg base CX0 3 f fd ["round_length", "events", "span"] (sp_check_span K) := by
  refine F.ok sc_check_span (len_check_span K) (fun cdv A outer s H vs Q E hr h => ⟨t_check_span K, PSs.nox ?_, pure_check_span K vs H Q E h⟩)
  exact (pss_cons (ps_asg (pv 2) (pg_tup rfl (pgs_cons (pg_name (i := 3) sc_check_span.nd rfl (Or.inl rfl)) (pgs_cons (pg_name (i := 4) sc_check_span.nd rfl (Or.inl rfl)) (pgs_cons (pg_name (i := 5) sc_check_span.nd rfl (Or.inl rfl)) (pgs_cons (pg_name (i := 6) sc_check_span.nd rfl (Or.inl rfl)) (pgs_cons (pg_name (i := 7) sc_check_span.nd rfl (Or.inl rfl)) pgs_nil)))))))
    (pss_cons (ps_expr (C8.pe_c G_check_known hr (by omega) (by rfl) (pa_cons (pe_lst (pa_cons (pv 3) (pa_cons (pv 4) pa_nil))) (pa_cons (pv 1) pa_nil))))
    (pss_cons (ps_if (pt_cmpR op_eq (pv 3) (pv 4) (nomark _)) (pss_one ps_never) pss_nil)
    (pss_cons (ps_expr (C8.pe_c G_check_range hr (by omega) (by rfl) (pa_cons (pv 5) (pa_cons pe_int (pa_cons (pe_op op_sub (pv 0) pe_int) pa_nil)))))
    (pss_cons (ps_expr (C8.pe_c G_check_range hr (by omega) (by rfl) (pa_cons (pv 6) (pa_cons (pv 5) (pa_cons (pe_op op_sub (pe_op op_add (pv 5) (pv 0)) pe_int) pa_nil)))))
    (pss_one (ps_expr (C8.pe_c G_check_range hr (by omega) (by rfl) (pa_cons (pv 7) (pa_cons pe_int (pa_cons (pe_cint (by rfl) T.g_Net T.rd_Net T.cv_Net_HEAVIEST) pa_nil)))))))))))
theorem sc_check_net : FnScope N_check_net ["round_length", "events", "spans"] (defScope s_check_net) := ⟨rfl, rfl, rfl, by decide +kernel, rfl, by decide +kernel, by decide +kernel⟩
theorem ok_check_net {f : Addr} {fd : FuncData} (F : FunD K "check_net" "check_net" (defArgs s_check_net) (defBody s_check_net) (defScope s_check_net) [] [] f fd) (T : Txt K mg) (G_check_round_length : C8.Cal P w K mg base (2) "check_round_length" (sp_check_round_length K) []) (G_check_count : C8.Cal P w K mg base (1) "check_count" (sp_check_count K) []) (G_check_event : C8.Cal P w K mg base (3) "check_event" (sp_check_event K) []) (G_check_span : C8.Cal P w K mg base (3) "check_span" (sp_check_span K) []) : FnOk P w K mg base CX0 4 f fd ["round_length", "events", "spans"] (sp_check_net K) := by
  refine F.ok sc_check_net (len_check_net K) (fun cdv A outer s H vs Q E hr h => ⟨t_check_net K, PSs.nox ?_, pure_check_net K vs H Q E h⟩)
  exact (pss_cons (ps_expr (C8.pe_c G_check_round_length hr (by omega) (by rfl) (pa_cons (pv 0) pa_nil)))
    (pss_cons (ps_expr (C8.pe_c G_check_count hr (by omega) (by rfl) (pa_cons (pe_callB callLenSeq (by rfl) T.f_len (by decide +kernel) (pa_cons (pv 1) pa_nil)) (pa_cons (pe_cint (by rfl) T.g_Net T.rd_Net T.cv_Net_EVENTS) pa_nil))))
    (pss_cons (ps_for PassesOwn.never rfl (pi_enum rfl T.f_enumerate (pa_cons (pv 1) pa_nil)) (pg_tup rfl (pgs_cons (pg_name (i := 3) sc_check_net.nd rfl (Or.inl rfl)) (pgs_cons (pg_name (i := 4) sc_check_net.nd rfl (Or.inl rfl)) pgs_nil))) (pss_one (ps_expr (C8.pe_c G_check_event hr (by omega) (by rfl) (pa_cons (pv 4) (pa_cons (pe_slice sl_list (pv 1) po_none (po_some (pv 3))) pa_nil))))))
    (pss_cons (ps_expr (C8.pe_c G_check_count hr (by omega) (by rfl) (pa_cons (pe_callB callLenSeq (by rfl) T.f_len (by decide +kernel) (pa_cons (pv 2) pa_nil)) (pa_cons (pe_cint (by rfl) T.g_Net T.rd_Net T.cv_Net_SPANS) pa_nil))))
    (pss_one (ps_for PassesOwn.never rfl (pi_list (pv 2)) (pg_name (i := 5) sc_check_net.nd rfl (Or.inl rfl)) (pss_one (ps_expr (C8.pe_c G_check_span hr (by omega) (by rfl) (pa_cons (pv 0) (pa_cons (pv 1) (pa_cons (pv 5) pa_nil))))))))))))
theorem sc_Net_init : FnScope N_Net_init ["self", "round_length", "events", "spans"] (defScope s_Net_init) := ⟨rfl, rfl, rfl, by decide +kernel, rfl, by decide +kernel, by decide +kernel⟩
theorem ok_Net_init {f : Addr} {fd : FuncData} (F : FunD K "__init__" "Net.__init__" (defArgs s_Net_init) (defBody s_Net_init) (defScope s_Net_init) [] [] f fd) (T : Txt K mg) (G_check_net : C8.Cal P w K mg base (4) "check_net" (sp_check_net K) []) : FnOk P w K mg base CX0 5 f fd ["self", "round_length", "events", "spans"] (sp_Net_init K) := by
  refine F.ok sc_Net_init (len_Net_init K) (fun cdv A outer s H vs Q E hr h => ⟨t_Net_init K, PSs.nox ?_, pure_Net_init K vs H Q E h⟩)
  exact (pss_cons (ps_expr (C8.pe_c G_check_net hr (by omega) (by rfl) (pa_cons (pv 1) (pa_cons (pv 2) (pa_cons (pv 3) pa_nil)))))
    (pss_cons (ps_fldC T.cls_Net T.na_Net__round_length (pv 0) (pv 1))
    (pss_cons (ps_fldC T.cls_Net T.na_Net__events (pv 0) (pe_callTy callListOf (by rfl) T.f_list (by decide +kernel) (pa_cons (pv 2) pa_nil)))
    (pss_one (ps_fldC T.cls_Net T.na_Net__spans (pv 0) (pe_callTy callListOf (by rfl) T.f_list (by decide +kernel) (pa_cons (pv 3) pa_nil)))))))
theorem sc_Net_round_length : FnScope N_Net_round_length ["self"] (defScope s_Net_round_length) := ⟨rfl, rfl, rfl, by decide +kernel, rfl, by decide +kernel, by decide +kernel⟩
theorem ok_Net_round_length {f : Addr} {fd : FuncData} (F : FunD K "round_length" "Net.round_length" (defArgs s_Net_round_length) (defBody s_Net_round_length) (defScope s_Net_round_length) [] [] f fd) (T : Txt K mg) : FnOk P w K mg base CX0 1 f fd ["self"] (sp_Net_round_length K) := by
  refine F.ok sc_Net_round_length (len_Net_round_length K) (fun cdv A outer s H vs Q E hr h => ⟨t_Net_round_length K, PSs.nox ?_, pure_Net_round_length K vs H Q E h⟩)
  exact (pss_one (ps_ret (pe_fldC T.cls_Net T.na_Net__round_length (pv 0))))
theorem sc_Net_spans : FnScope N_Net_spans ["self"] (defScope s_Net_spans) := ⟨rfl, rfl, rfl, by decide +kernel, rfl, by decide +kernel, by decide +kernel⟩
theorem ok_Net_spans {f : Addr} {fd : FuncData} (F : FunD K "spans" "Net.spans" (defArgs s_Net_spans) (defBody s_Net_spans) (defScope s_Net_spans) [] [] f fd) (T : Txt K mg) : FnOk P w K mg base CX0 1 f fd ["self"] (sp_Net_spans K) := by
  refine F.ok sc_Net_spans (len_Net_spans K) (fun cdv A outer s H vs Q E hr h => ⟨t_Net_spans K, PSs.nox ?_, pure_Net_spans K vs H Q E h⟩)
  exact (pss_one (ps_ret (pe_callTy callListOf (by rfl) T.f_list (by decide +kernel) (pa_cons (pe_fldC T.cls_Net T.na_Net__spans (pv 0)) pa_nil))))
theorem sc_Times_round_length : FnScope N_Times_round_length ["self"] (defScope s_Times_round_length) := ⟨rfl, rfl, rfl, by decide +kernel, rfl, by decide +kernel, by decide +kernel⟩
theorem ok_Times_round_length {f : Addr} {fd : FuncData} (F : FunD K "round_length" "Times.round_length" (defArgs s_Times_round_length) (defBody s_Times_round_length) (defScope s_Times_round_length) [] [] f fd) (T : Txt K mg) : FnOk P w K mg base CX0 1 f fd ["self"] (sp_Times_round_length K) := by
  refine F.ok sc_Times_round_length (len_Times_round_length K) (fun cdv A outer s H vs Q E hr h => ⟨t_Times_round_length K, PSs.nox ?_, pure_Times_round_length K vs H Q E h⟩)
  exact (pss_one (ps_ret (pe_fldC T.cls_Times T.na_Times__round_length (pv 0))))
theorem sc_Times_contains : FnScope N_Times_contains ["self", "name"] (defScope s_Times_contains) := ⟨rfl, rfl, rfl, by decide +kernel, rfl, by decide +kernel, by decide +kernel⟩
theorem ok_Times_contains {f : Addr} {fd : FuncData} (F : FunD K "__contains__" "Times.__contains__" (defArgs s_Times_contains) (defBody s_Times_contains) (defScope s_Times_contains) [] [] f fd) (T : Txt K mg) : FnOk P w K mg base CX0 1 f fd ["self", "name"] (sp_Times_contains K) := by
  refine F.ok sc_Times_contains (len_Times_contains K) (fun cdv A outer s H vs Q E hr h => ⟨t_Times_contains K, PSs.nox ?_, pure_Times_contains K vs H Q E h⟩)
  exact (pss_one (ps_ret (pe_cmp (pc_din (u1 hr) (pv 1) (pe_fldC T.cls_Times T.na_Times__minutes (pv 0))))))
theorem sc_check_names : FnScope N_check_names ["net", "times"] (defScope s_check_names) := ⟨rfl, rfl, rfl, by decide +kernel, rfl, by decide +kernel, by decide +kernel⟩
theorem ok_check_names {f : Addr} {fd : FuncData} (F : FunD K "check_names" "check_names" (defArgs s_check_names) (defBody s_check_names) (defScope s_check_names) [] [] f fd) (T : Txt K mg) (GX_BadNumber : XMk P w K mg base 1 "BadNumber" (C_BadNumber K) (spX (C_BadNumber K) ["number"])) (GX_WrongNames : XMk P w K mg base 1 "WrongNames" (C_WrongNames K) (spX (C_WrongNames K) ["name"])) (G_Net_round_length : Prp P w K mg base 1 (C_Net K) "round_length" (sp_Net_round_length K)) (GI_Net_iter : ItrN P w K mg base 1 (C_Net K) (spYoung K (C_Net K) "_events")) (G_Net_contains : Spc P w K mg base 1 (C_Net K) "__contains__" (sp_Net_contains K)) (G_Times_round_length : Prp P w K mg base 1 (C_Times K) "round_length" (sp_Times_round_length K)) (GI_Times_iter : ItrN P w K mg base 1 (C_Times K) (spYoungK (C_Times K) "_minutes")) (G_Times_contains : Spc P w K mg base 1 (C_Times K) "__contains__" (sp_Times_contains K)) : FnOk P w K mg base (L2.CX P w) 3 f fd ["net", "times"] (sp_check_names K) := by
  refine F.ok sc_check_names (len_check_names K) (fun cdv A outer s H vs Q E hr h => ⟨t_check_names K E, ?_, pure_check_names K vs H Q E h⟩)
  exact (pss_cons (ps_if (pt_cmpR op_ne (pe_prp T.cls_Times G_Times_round_length hr (by omega) (pv 1)) (pe_prp T.cls_Net G_Net_round_length hr (by omega) (pv 0)) (nomark _)) (pss_one (ps_rs GX_BadNumber hr (by omega) rfl tkOf (by rfl) (pa_cons (pe_prp T.cls_Times G_Times_round_length hr (by omega) (pv 1)) pa_nil))) pss_nil)
    (pss_cons (ps_for poOf rfl (pi_ownL GI_Net_iter hr (by omega) (pv 0)) (pg_name (i := 2) sc_check_names.nd rfl (Or.inl rfl)) (pss_one (ps_if (pt_cmpR (op_notInOwn G_Times_contains (hr.mono (by omega))) (pv 2) (pv 1) (by rfl)) (pss_one (ps_rs GX_WrongNames hr (by omega) rfl tkOf (by rfl) (pa_cons (pv 2) pa_nil))) pss_nil)))
    (pss_one (ps_lockX tkOf fun E1 t1 => (ps_for poOf rfl (pi_ownK GI_Times_iter hr (by omega) (pv 1)) (pg_name (i := 2) sc_check_names.nd rfl (Or.inl rfl)) (pss_one (ps_if (pt_cmpR (op_notInOwn G_Net_contains (hr.mono (by omega))) (pv 2) (pv 0) (by rfl)) (pss_one (ps_rs GX_WrongNames hr (by omega) rfl t1 (by rfl) (pa_cons (pv 2) pa_nil))) pss_nil)))))))
theorem sc_Times_getitem : FnScope N_Times_getitem ["self", "name"] (defScope s_Times_getitem) := ⟨rfl, rfl, rfl, by decide +kernel, rfl, by decide +kernel, by decide +kernel⟩
theorem ok_Times_getitem {f : Addr} {fd : FuncData} (F : FunD K "__getitem__" "Times.__getitem__" (defArgs s_Times_getitem) (defBody s_Times_getitem) (defScope s_Times_getitem) [] [] f fd) (T : Txt K mg) (G_check_known : C8.Cal P w K mg base (2) "check_known" (sp_check_known K) []) : FnOk P w K mg base CX0 3 f fd ["self", "name"] (sp_Times_getitem K) := by
  refine F.ok sc_Times_getitem (len_Times_getitem K) (fun cdv A outer s H vs Q E hr h => ⟨t_Times_getitem K, PSs.nox ?_, pure_Times_getitem K vs H Q E h⟩)
  exact (pss_cons (ps_expr (C8.pe_c G_check_known hr (by omega) (by rfl) (pa_cons (pe_lst (pa_cons (pv 1) pa_nil)) (pa_cons (pe_fldC T.cls_Times T.na_Times__minutes (pv 0)) pa_nil))))
    (pss_one (ps_ret (pe_dget (u1 hr) (pe_fldC T.cls_Times T.na_Times__minutes (pv 0)) (pv 1) (fun _ _ => rfl)))))
theorem sc_on_span : FnScope N_on_span ["times", "span"] (defScope s_on_span) := ⟨rfl, rfl, rfl, by decide +kernel, rfl, by decide +kernel, by decide +kernel⟩
theorem ok_on_span {f : Addr} {fd : FuncData} (F : FunD K "on_span" "on_span" (defArgs s_on_span) (defBody s_on_span) (defScope s_on_span) [] [] f fd) (T : Txt K mg) (G_Times_round_length : Prp P w K mg base 1 (C_Times K) "round_length" (sp_Times_round_length K)) (G_Times_getitem : SpcG P w K mg base 3 (C_Times K) (sp_Times_getitem K)) : FnOk P w K mg base CX0 5 f fd ["times", "span"] (sp_on_span K) := by
  refine F.ok sc_on_span (len_on_span K) (fun cdv A outer s H vs Q E hr h => ⟨t_on_span K, PSs.nox ?_, pure_on_span K vs H Q E h⟩)
  exact (pss_cons (ps_asg (pv 1) (pg_tup rfl (pgs_cons (pg_name (i := 2) sc_on_span.nd rfl (Or.inl rfl)) (pgs_cons (pg_name (i := 3) sc_on_span.nd rfl (Or.inl rfl)) (pgs_cons (pg_name (i := 4) sc_on_span.nd rfl (Or.inl rfl)) (pgs_cons (pg_name (i := 5) sc_on_span.nd rfl (Or.inl rfl)) (pgs_cons (pg_name (i := 6) sc_on_span.nd rfl (Or.inl rfl)) pgs_nil)))))))
    (pss_cons (ps_set (i := 7) sc_on_span.nd rfl (Or.inl rfl) (pe_op op_add (pv 4) (pe_op op_mod (pe_op op_sub (pe_op op_sub (pe_subOwn G_Times_getitem hr (by omega) (pv 0) (pv 3) (fun _ _ => rfl)) (pe_subOwn G_Times_getitem hr (by omega) (pv 0) (pv 2) (fun _ _ => rfl))) (pv 4)) (pe_prp T.cls_Times G_Times_round_length hr (by omega) (pv 0)))))
    (pss_one (ps_ret (pe_ifExp (pt_cmpR op_le (pv 7) (pv 5) (nomark _)) (pv 7) pe_non)))))
theorem sc_on_all_spans : FnScope N_on_all_spans ["net", "times"] (defScope s_on_all_spans) := ⟨rfl, rfl, rfl, by decide +kernel, rfl, by decide +kernel, by decide +kernel⟩
theorem ok_on_all_spans {f : Addr} {fd : FuncData} (F : FunD K "on_all_spans" "on_all_spans" (defArgs s_on_all_spans) (defBody s_on_all_spans) (defScope s_on_all_spans) [] [] f fd) (T : Txt K mg) (G_Net_spans : Prp P w K mg base 1 (C_Net K) "spans" (sp_Net_spans K)) (G_check_names : CalX P w K mg base (3) "check_names" (sp_check_names K) []) (G_on_span : C8.Cal P w K mg base (5) "on_span" (sp_on_span K) []) : FnOk P w K mg base (L2.CX P w) 6 f fd ["net", "times"] (sp_on_all_spans K) := by
  refine F.ok sc_on_all_spans (len_on_all_spans K) (fun cdv A outer s H vs Q E hr h => ⟨t_on_all_spans K E, ?_, pure_on_all_spans K vs H Q E h⟩)
  exact (pss_cons (ps_expr (pe_cX G_check_names hr (by omega) (by rfl) pxOf (pa_cons (pv 0) (pa_cons (pv 1) pa_nil))))
    (pss_one (ps_ret (pe_lc (own := [("span", 2)]) rfl sc_on_all_spans.nd (pi_list (pe_prp T.cls_Net G_Net_spans hr (by omega) (pv 0))) (blkOk_by (N := N_on_all_spans) (sc := defScope s_on_all_spans) (by decide +kernel)) (fun _ _ _ _ _ => (pg_name (i := 2) sc_on_all_spans.nd rfl (Or.inl rfl))) (fun _ _ _ _ _ => pts_nil) (fun _ _ _ _ _ => (C8.pe_c G_on_span hr (by omega) (by rfl) (pa_cons (pv 1) (pa_cons (pv 2) pa_nil))))))))
theorem sc_kept_minutes : FnScope N_kept_minutes ["net", "times"] (defScope s_kept_minutes) := ⟨rfl, rfl, rfl, by decide +kernel, rfl, by decide +kernel, by decide +kernel⟩
theorem ok_kept_minutes {f : Addr} {fd : FuncData} (F : FunD K "kept_minutes" "kept_minutes" (defArgs s_kept_minutes) (defBody s_kept_minutes) (defScope s_kept_minutes) [] [] f fd) (T : Txt K mg) (GX_BrokenSpan : XMk P w K mg base 1 "BrokenSpan" (C_BrokenSpan K) (spX (C_BrokenSpan K) ["number"])) (G_on_all_spans : CalX P w K mg base (6) "on_all_spans" (sp_on_all_spans K) []) : FnOk P w K mg base (L2.CX P w) 7 f fd ["net", "times"] (sp_kept_minutes K) := by
  refine F.ok sc_kept_minutes (len_kept_minutes K) (fun cdv A outer s H vs Q E hr h => ⟨t_kept_minutes K E, ?_, pure_kept_minutes K vs H Q E h⟩)
  exact (pss_cons (ps_set (i := 2) sc_kept_minutes.nd rfl (Or.inl rfl) (pe_cX G_on_all_spans hr (by omega) (by rfl) pxOf (pa_cons (pv 0) (pa_cons (pv 1) pa_nil))))
    (pss_cons (ps_if (pt_cmpR op_in_seq pe_non (pv 2) (by rfl)) (pss_one (ps_rs GX_BrokenSpan hr (by omega) rfl tkOf (by rfl) (pa_cons (pe_bm PySem.F.plainAttrs_list PySem.F.slot_list_index PySem.F.type_list_index mt_index (pv 2) (pa_cons pe_non pa_nil)) pa_nil))) pss_nil)
    (pss_one (ps_ret (pv 2)))))
theorem sc_arcs_of : FnScope N_arcs_of ["net", "forward", "backward"] (defScope s_arcs_of) := ⟨rfl, rfl, rfl, by decide +kernel, rfl, by decide +kernel, by decide +kernel⟩
theorem ok_arcs_of {f : Addr} {fd : FuncData} (F : FunD K "arcs_of" "arcs_of" (defArgs s_arcs_of) (defBody s_arcs_of) (defScope s_arcs_of) [] [] f fd) (T : Txt K mg) (G_Net_spans : Prp P w K mg base 1 (C_Net K) "spans" (sp_Net_spans K)) : FnOk P w K mg base CX0 3 f fd ["net", "forward", "backward"] (sp_arcs_of K) := by
  refine F.ok sc_arcs_of (len_arcs_of K) (fun cdv A outer s H vs Q E hr h => ⟨t_arcs_of K, PSs.nox ?_, pure_arcs_of K vs H Q E h⟩)
  exact (pss_cons (ps_set (i := 3) sc_arcs_of.nd rfl (Or.inl rfl) (pe_lst pa_nil))
    (pss_cons (ps_for PassesOwn.never rfl (pi_enum rfl T.f_enumerate (pa_cons (pe_prp T.cls_Net G_Net_spans hr (by omega) (pv 0)) pa_nil)) (pg_tup rfl (pgs_cons (pg_name (i := 4) sc_arcs_of.nd rfl (Or.inl rfl)) (pgs_cons (pg_name (i := 5) sc_arcs_of.nd rfl (Or.inl rfl)) pgs_nil))) (pss_cons (ps_asg (pe_slice sl_tupA (pv 5) po_none (po_some pe_int)) (pg_tup rfl (pgs_cons (pg_name (i := 6) sc_arcs_of.nd rfl (Or.inl rfl)) (pgs_cons (pg_name (i := 7) sc_arcs_of.nd rfl (Or.inl rfl)) pgs_nil))))
    (pss_cons (ps_expr (pe_bm PySem.F.plainAttrs_list PySem.F.slot_list_append PySem.F.type_list_append mt_append (pv 3) (pa_cons (pe_tup (pa_cons (pv 6) (pa_cons (pv 7) (pa_cons (pe_ix ix_list (pv 1) (pv 4) (fun _ _ => rfl)) (pa_cons (pe_tup (pa_cons (pv 4) (pa_cons pe_int pa_nil))) pa_nil))))) pa_nil)))
    (pss_one (ps_expr (pe_bm PySem.F.plainAttrs_list PySem.F.slot_list_append PySem.F.type_list_append mt_append (pv 3) (pa_cons (pe_tup (pa_cons (pv 7) (pa_cons (pv 6) (pa_cons (pe_ix ix_list (pv 2) (pv 4) (fun _ _ => rfl)) (pa_cons (pe_tup (pa_cons (pv 4) (pa_cons (pe_un un_neg pe_int) pa_nil))) pa_nil))))) pa_nil)))))))
    (pss_one (ps_ret (pv 3)))))
theorem sc_walk_along : FnScope N_walk_along ["last", "begin", "end"] (defScope s_walk_along) := ⟨rfl, rfl, rfl, by decide +kernel, rfl, by decide +kernel, by decide +kernel⟩
theorem ok_walk_along {f : Addr} {fd : FuncData} (F : FunD K "walk_along" "walk_along" (defArgs s_walk_along) (defBody s_walk_along) (defScope s_walk_along) [] [] f fd) (T : Txt K mg) : FnOk P w K mg base CX0 1 f fd ["last", "begin", "end"] (sp_walk_along K) := by
  refine F.ok sc_walk_along (len_walk_along K) (fun cdv A outer s H vs Q E hr h => ⟨t_walk_along K, PSs.nox ?_, pure_walk_along K vs H Q E h⟩)
  exact (pss_cons (ps_set (i := 3) sc_walk_along.nd rfl (Or.inl rfl) (pe_lst pa_nil))
    (pss_cons (ps_set (i := 4) sc_walk_along.nd rfl (Or.inl rfl) (pv 2))
    (pss_cons (ps_while PassesOwn.never (pt_cmpR op_ne (pv 4) (pv 1) (nomark _)) (pss_cons (ps_if (pt_cmp (pc_dnotin (u1 hr) (pv 4) (pv 0))) (pss_one (ps_ret pe_non)) pss_nil)
    (pss_cons (ps_asg (pe_dget (u1 hr) (pv 0) (pv 4) (fun _ _ => rfl)) (pg_tup rfl (pgs_cons (pg_name (i := 4) sc_walk_along.nd rfl (Or.inl rfl)) (pgs_cons (pg_name (i := 5) sc_walk_along.nd rfl (Or.inl rfl)) pgs_nil))))
    (pss_one (ps_expr (pe_bm PySem.F.plainAttrs_list PySem.F.slot_list_append PySem.F.type_list_append mt_append (pv 3) (pa_cons (pv 5) pa_nil)))))))
    (pss_one (ps_ret (pe_revL (pv 3)))))))
theorem sc_least_walks : FnScope N_least_walks ["arcs", "first"] (defScope s_least_walks) := ⟨rfl, rfl, rfl, by decide +kernel, rfl, by decide +kernel, by decide +kernel⟩
theorem ok_least_walks {f : Addr} {fd : FuncData} (F : FunD K "least_walks" "least_walks" (defArgs s_least_walks) (defBody s_least_walks) (defScope s_least_walks) [] [] f fd) (T : Txt K mg) (G_walk_along : C8.Cal P w K mg base (1) "walk_along" (sp_walk_along K) []) : FnOk P w K mg base CX0 2 f fd ["arcs", "first"] (sp_least_walks K) := by
  refine F.ok sc_least_walks (len_least_walks K) (fun cdv A outer s H vs Q E hr h => ⟨t_least_walks K, PSs.nox ?_, pure_least_walks K vs H Q E h⟩)
  exact (pss_cons (ps_set (i := 2) sc_least_walks.nd rfl (Or.inl rfl) (pe_disp (pps_cons (pv 1) pe_int pps_nil) rfl rfl (by simp) (by decide)))
    (pss_cons (ps_set (i := 3) sc_least_walks.nd rfl (Or.inl rfl) pe_dnewK)
    (pss_cons (ps_set (i := 4) sc_least_walks.nd rfl (Or.inl rfl) pe_bl)
    (pss_cons (ps_while PassesOwn.never (pt_val (pv 4)) (pss_cons (ps_set (i := 4) sc_least_walks.nd rfl (Or.inl rfl) pe_bl)
    (pss_one (ps_for PassesOwn.never rfl (pi_list (pv 0)) (pg_tup rfl (pgs_cons (pg_name (i := 5) sc_least_walks.nd rfl (Or.inl rfl)) (pgs_cons (pg_name (i := 6) sc_least_walks.nd rfl (Or.inl rfl)) (pgs_cons (pg_name (i := 7) sc_least_walks.nd rfl (Or.inl rfl)) (pgs_cons (pg_name (i := 8) sc_least_walks.nd rfl (Or.inl rfl)) pgs_nil))))) (pss_one (ps_if (PW.pt (pw_and (pt_cmp (pc_din (u1 hr) (pv 5) (pv 2))) (pw_and1 (PW.pt (pw_or (pt_cmp (pc_dnotin (u1 hr) (pv 6) (pv 2))) (pw_or1 (pt_cmpR op_lt (pe_op op_add (pe_dget (u1 hr) (pv 2) (pv 5) (fun _ _ => rfl)) (pv 7)) (pe_dget (u1 hr) (pv 2) (pv 6) (fun _ _ => rfl)) (nomark _)))))))) (pss_cons (ps_set (i := 9) sc_least_walks.nd rfl (Or.inl rfl) (C8.pe_c G_walk_along hr (by omega) (by rfl) (pa_cons (pv 3) (pa_cons (pv 6) (pa_cons (pv 5) pa_nil)))))
    (pss_cons (ps_if (pt_cmpR op_notN1 (pv 9) pe_non (nomark _)) (pss_one (ps_ret (pe_tup (pa_cons (pv 2) (pa_cons (pv 3) (pa_cons (pe_lst (StX.pa_star (pv 9) (pa_cons (pv 8) pa_nil))) pa_nil)))))) pss_nil)
    (pss_cons (ps_asg (pe_op op_add (pe_dget (u1 hr) (pv 2) (pv 5) (fun _ _ => rfl)) (pv 7)) (pg_sub (pv 2) (pv 6) (set_dict (u1 hr))))
    (pss_cons (ps_asg (pe_tup (pa_cons (pv 5) (pa_cons (pv 8) pa_nil))) (pg_sub (pv 3) (pv 6) (set_dict (u1 hr))))
    (pss_one (ps_set (i := 4) sc_least_walks.nd rfl (Or.inl rfl) pe_bl)))))) pss_nil))))))
    (pss_one (ps_ret (pe_tup (pa_cons (pv 2) (pa_cons (pv 3) (pa_cons pe_non pa_nil))))))))))
theorem sc_joined : FnScope N_joined ["leaders", "first", "second"] (defScope s_joined) := ⟨rfl, rfl, rfl, by decide +kernel, rfl, by decide +kernel, by decide +kernel⟩
theorem ok_joined {f : Addr} {fd : FuncData} (F : FunD K "joined" "joined" (defArgs s_joined) (defBody s_joined) (defScope s_joined) [] [] f fd) (T : Txt K mg) : FnOk P w K mg base CX0 1 f fd ["leaders", "first", "second"] (sp_joined K) := by
  refine F.ok sc_joined (len_joined K) (fun cdv A outer s H vs Q E hr h => ⟨t_joined K, PSs.nox ?_, pure_joined K vs H Q E h⟩)
  exact (pss_cons (ps_asg (pe_tup (pa_cons (pe_dget (u1 hr) (pv 0) (pv 1) (fun _ _ => rfl)) (pa_cons (pe_dget (u1 hr) (pv 0) (pv 2) (fun _ _ => rfl)) pa_nil))) (pg_tup rfl (pgs_cons (pg_name (i := 3) sc_joined.nd rfl (Or.inr rfl)) (pgs_cons (pg_name (i := 4) sc_joined.nd rfl (Or.inr rfl)) pgs_nil))))
    (pss_one (ps_ret (pe_lock (pe_dc (own := [("name", 5)]) rfl sc_joined.nd (pi_keys (pv 0)) (blkOk_by (N := N_joined) (sc := defScope s_joined) (by decide +kernel)) (fun _ _ _ _ _ => (pg_name (i := 5) sc_joined.nd rfl (Or.inl rfl))) (fun _ _ _ _ _ => pts_nil) (fun _ _ _ _ _ => (pv 5)) (fun _ _ _ _ _ => (pe_ifExp (pt_cmpR op_eq (pe_dget (u1 hr) (pv 0) (pv 5) (fun _ _ => rfl)) (pv 4) (nomark _)) (pv 3) (pe_dget (u1 hr) (pv 0) (pv 5) (fun _ _ => rfl)))))))))
theorem sc_tree_of : FnScope N_tree_of ["net"] (defScope s_tree_of) := ⟨rfl, rfl, rfl, by decide +kernel, rfl, by decide +kernel, by decide +kernel⟩
theorem ok_tree_of {f : Addr} {fd : FuncData} (F : FunD K "tree_of" "tree_of" (defArgs s_tree_of) (defBody s_tree_of) (defScope s_tree_of) [] [] f fd) (T : Txt K mg) (G_joined : C8.Cal P w K mg base (1) "joined" (sp_joined K) []) (G_Net_spans : Prp P w K mg base 1 (C_Net K) "spans" (sp_Net_spans K)) (GI_Net_iter : ItrN P w K mg base 1 (C_Net K) (spYoung K (C_Net K) "_events")) : FnOk P w K mg base CX0 3 f fd ["net"] (sp_tree_of K) := by
  refine F.ok sc_tree_of (len_tree_of K) (fun cdv A outer s H vs Q E hr h => ⟨t_tree_of K, PSs.nox ?_, pure_tree_of K vs H Q E h⟩)
  exact (pss_cons (ps_setDc (j := 1) (mine := [("name", 7)]) rfl sc_tree_of.nd rfl rfl (swap_dc rfl rfl rfl (by decide +kernel)) (pi_ownL GI_Net_iter hr (by omega) (pv 0)) (blkOk_by (N := N_tree_of) (sc := defScope s_tree_of) (by decide +kernel)) (fun _ _ _ _ _ => (pg_name (i := 7) sc_tree_of.nd rfl (Or.inl rfl))) (fun _ _ _ _ _ => pts_nil) (fun _ _ _ _ _ => (pv 7)) (fun _ _ _ _ _ => (pv 7)))
    (pss_cons (ps_set (i := 2) sc_tree_of.nd rfl (Or.inl rfl) (pe_lst pa_nil))
    (pss_cons (ps_for PassesOwn.never rfl (pi_enum rfl T.f_enumerate (pa_cons (pe_prp T.cls_Net G_Net_spans hr (by omega) (pv 0)) pa_nil)) (pg_tup rfl (pgs_cons (pg_name (i := 3) sc_tree_of.nd rfl (Or.inl rfl)) (pgs_cons (pg_name (i := 4) sc_tree_of.nd rfl (Or.inl rfl)) pgs_nil))) (pss_cons (ps_asg (pe_slice sl_tupA (pv 4) po_none (po_some pe_int)) (pg_tup rfl (pgs_cons (pg_name (i := 5) sc_tree_of.nd rfl (Or.inl rfl)) (pgs_cons (pg_name (i := 6) sc_tree_of.nd rfl (Or.inl rfl)) pgs_nil))))
    (pss_one (ps_if (pt_cmpR op_ne (pe_dget (u1 hr) (pv 1) (pv 5) (fun _ _ => rfl)) (pe_dget (u1 hr) (pv 1) (pv 6) (fun _ _ => rfl)) (nomark _)) (pss_cons (ps_expr (pe_bm PySem.F.plainAttrs_list PySem.F.slot_list_append PySem.F.type_list_append mt_append (pv 2) (pa_cons (pv 3) pa_nil)))
    (pss_one (ps_set (i := 1) sc_tree_of.nd rfl (Or.inl rfl) (C8.pe_c G_joined hr (by omega) (by rfl) (pa_cons (pv 1) (pa_cons (pv 5) (pa_cons (pv 6) pa_nil))))))) pss_nil))))
    (pss_one (ps_ret (pv 2))))))
theorem sc_Netcheck_number : FnScope N_Netcheck_number ["self", "number"] (defScope s_Netcheck_number) := ⟨rfl, rfl, rfl, by decide +kernel, rfl, by decide +kernel, by decide +kernel⟩
theorem ok_Netcheck_number {f : Addr} {fd : FuncData} (F : FunD K "_check_number" "Net._check_number" (defArgs s_Netcheck_number) (defBody s_Netcheck_number) (defScope s_Netcheck_number) [] [] f fd) (T : Txt K mg) : FnOk P w K mg base CX0 1 f fd ["self", "number"] (sp_Netcheck_number K) := by
  refine F.ok sc_Netcheck_number (len_Netcheck_number K) (fun cdv A outer s H vs Q E hr h => ⟨t_Netcheck_number K, PSs.nox ?_, pure_Netcheck_number K vs H Q E h⟩)
  exact (pss_one (ps_if (pt_not (pt_chain op_le op_lt pe_int (pv 1) (pe_callB callLenSeq (by rfl) T.f_len (by decide +kernel) (pa_cons (pe_fldC T.cls_Net T.na_Net__spans (pv 0)) pa_nil)))) (pss_one ps_never) pss_nil))
theorem sc_Net_span : FnScope N_Net_span ["self", "number"] (defScope s_Net_span) := ⟨rfl, rfl, rfl, by decide +kernel, rfl, by decide +kernel, by decide +kernel⟩
theorem ok_Net_span {f : Addr} {fd : FuncData} (F : FunD K "span" "Net.span" (defArgs s_Net_span) (defBody s_Net_span) (defScope s_Net_span) [] [] f fd) (T : Txt K mg) (G_Netcheck_number : C8.Met P w K mg base 1 (C_Net K) "_check_number" (sp_Netcheck_number K) []) : FnOk P w K mg base CX0 2 f fd ["self", "number"] (sp_Net_span K) := by
  refine F.ok sc_Net_span (len_Net_span K) (fun cdv A outer s H vs Q E hr h => ⟨t_Net_span K, PSs.nox ?_, pure_Net_span K vs H Q E h⟩)
  exact (pss_cons (ps_expr (C8.pe_mt G_Netcheck_number hr (by omega) (pv 0) (pa_cons (pv 1) pa_nil)))
    (pss_one (ps_ret (pe_ix ix_list (pe_fldC T.cls_Net T.na_Net__spans (pv 0)) (pv 1) (fun _ _ => rfl)))))
theorem sc_Base_path : FnScope N_Base_path ["self", "first", "second"] (defScope s_Base_path) := ⟨rfl, rfl, rfl, by decide +kernel, rfl, by decide +kernel, by decide +kernel⟩
theorem ok_Base_path {f : Addr} {fd : FuncData} (F : FunD K "path" "Base.path" (defArgs s_Base_path) (defBody s_Base_path) (defScope s_Base_path) [] [] f fd) (T : Txt K mg) (G_check_known : C8.Cal P w K mg base (2) "check_known" (sp_check_known K) []) (G_walk_along : C8.Cal P w K mg base (1) "walk_along" (sp_walk_along K) []) (G_least_walks : C8.Cal P w K mg base (2) "least_walks" (sp_least_walks K) []) : FnOk P w K mg base CX0 3 f fd ["self", "first", "second"] (sp_Base_path K) := by
  refine F.ok sc_Base_path (len_Base_path K) (fun cdv A outer s H vs Q E hr h => ⟨t_Base_path K, PSs.nox ?_, pure_Base_path K vs H Q E h⟩)
  exact (pss_cons (ps_expr (C8.pe_c G_check_known hr (by omega) (by rfl) (pa_cons (pe_lst (pa_cons (pv 1) (pa_cons (pv 2) pa_nil))) (pa_cons (pe_fldC T.cls_Base T.na_Base__net (pv 0)) pa_nil))))
    (pss_cons (ps_set (i := 3) sc_Base_path.nd rfl (Or.inl rfl) (pe_ix ix_tup (C8.pe_c G_least_walks hr (by omega) (by rfl) (pa_cons (pe_fldC T.cls_Base T.na_Base__arcs (pv 0)) (pa_cons (pv 1) pa_nil))) pe_int (fun _ _ => rfl)))
    (pss_one (ps_ret (C8.pe_c G_walk_along hr (by omega) (by rfl) (pa_cons (pv 3) (pa_cons (pv 1) (pa_cons (pv 2) pa_nil))))))))
theorem sc_Basebase_ring : FnScope N_Basebase_ring ["self", "number"] (defScope s_Basebase_ring) := ⟨rfl, rfl, rfl, by decide +kernel, rfl, by decide +kernel, by decide +kernel⟩
theorem ok_Basebase_ring {f : Addr} {fd : FuncData} (F : FunD K "_base_ring" "Base._base_ring" (defArgs s_Basebase_ring) (defBody s_Basebase_ring) (defScope s_Basebase_ring) [] [] f fd) (T : Txt K mg) (G_Net_span : C8.Met P w K mg base 2 (C_Net K) "span" (sp_Net_span K) []) (G_Base_path : C8.Met P w K mg base 3 (C_Base K) "path" (sp_Base_path K) []) : FnOk P w K mg base CX0 4 f fd ["self", "number"] (sp_Basebase_ring K) := by
  refine F.ok sc_Basebase_ring (len_Basebase_ring K) (fun cdv A outer s H vs Q E hr h => ⟨t_Basebase_ring K, PSs.nox ?_, pure_Basebase_ring K vs H Q E h⟩)
  exact (pss_cons (ps_asg (pe_slice sl_tupA (C8.pe_mt G_Net_span hr (by omega) (pe_fldC T.cls_Base T.na_Base__net (pv 0)) (pa_cons (pv 1) pa_nil)) po_none (po_some pe_int)) (pg_tup rfl (pgs_cons (pg_name (i := 2) sc_Basebase_ring.nd rfl (Or.inl rfl)) (pgs_cons (pg_name (i := 3) sc_Basebase_ring.nd rfl (Or.inl rfl)) pgs_nil))))
    (pss_one (ps_ret (pe_op op_cat (pe_lst (pa_cons (pe_tup (pa_cons (pv 1) (pa_cons pe_int pa_nil))) pa_nil)) (C8.pe_mt G_Base_path hr (by omega) (pv 0) (pa_cons (pv 3) (pa_cons (pv 2) pa_nil)))))))
theorem sc_Base_init : FnScope N_Base_init ["self", "net"] (defScope s_Base_init) := ⟨rfl, rfl, rfl, by decide +kernel, rfl, by decide +kernel, by decide +kernel⟩
theorem ok_Base_init {f : Addr} {fd : FuncData} (F : FunD K "__init__" "Base.__init__" (defArgs s_Base_init) (defBody s_Base_init) (defScope s_Base_init) [] [] f fd) (T : Txt K mg) (G_Net_spans : Prp P w K mg base 1 (C_Net K) "spans" (sp_Net_spans K)) (G_arcs_of : C8.Cal P w K mg base (3) "arcs_of" (sp_arcs_of K) []) (G_tree_of : C8.Cal P w K mg base (3) "tree_of" (sp_tree_of K) []) (G_Basebase_ring : C8.Met P w K mg base 4 (C_Base K) "_base_ring" (sp_Basebase_ring K) []) : FnOk P w K mg base CX0 5 f fd ["self", "net"] (sp_Base_init K) := by
  refine F.ok sc_Base_init (len_Base_init K) (fun cdv A outer s H vs Q E hr h => ⟨t_Base_init K, PSs.nox ?_, pure_Base_init K vs H Q E h⟩)
  exact (pss_cons (ps_set (i := 2) sc_Base_init.nd rfl (Or.inl rfl) (pe_callB callLenSeq (by rfl) T.f_len (by decide +kernel) (pa_cons (pe_prp T.cls_Net G_Net_spans hr (by omega) (pv 1)) pa_nil)))
    (pss_cons (ps_fldC T.cls_Base T.na_Base__net (pv 0) (pv 1))
    (pss_cons (ps_fldC T.cls_Base T.na_Base__tree (pv 0) (C8.pe_c G_tree_of hr (by omega) (by rfl) (pa_cons (pv 1) pa_nil)))
    (pss_cons (ps_fldC T.cls_Base T.na_Base__closing (pv 0) (pe_lc (own := [("number", 4)]) rfl sc_Base_init.nd (pi_range1 rfl T.f_range (pa_cons (pv 2) pa_nil)) (blkOk_by (N := N_Base_init) (sc := defScope s_Base_init) (by decide +kernel)) (fun _ _ _ _ _ => (pg_name (i := 4) sc_Base_init.nd rfl (Or.inl rfl))) (fun _ _ _ _ _ => (pts_one (pt_cmpR op_notIn_seq (pv 4) (pe_fldC T.cls_Base T.na_Base__tree (pv 0)) (by rfl)))) (fun _ _ _ _ _ => (pv 4))))
    (pss_cons (ps_set (i := 3) sc_Base_init.nd rfl (Or.inl rfl) (C8.pe_c G_arcs_of hr (by omega) (by rfl) (pa_cons (pv 1) (pa_cons (pe_op op_rep (pe_lst (pa_cons pe_int pa_nil)) (pv 2)) (pa_cons (pe_op op_rep (pe_lst (pa_cons pe_int pa_nil)) (pv 2)) pa_nil)))))
    (pss_cons (ps_fldC T.cls_Base T.na_Base__arcs (pv 0) (pe_lc (own := [("arc", 5)]) rfl sc_Base_init.nd (pi_list (pv 3)) (blkOk_by (N := N_Base_init) (sc := defScope s_Base_init) (by decide +kernel)) (fun _ _ _ _ _ => (pg_name (i := 5) sc_Base_init.nd rfl (Or.inl rfl))) (fun _ _ _ _ _ => (pts_one (pt_cmpR op_in_seq (pe_ix ix_tup (pe_ix ix_tup (pv 5) pe_int (fun _ _ => rfl)) pe_int (fun _ _ => rfl)) (pe_fldC T.cls_Base T.na_Base__tree (pv 0)) (by rfl)))) (fun _ _ _ _ _ => (pv 5))))
    (pss_one (ps_fldC T.cls_Base T.na_Base__rings (pv 0) (pe_lc (own := [("number", 4)]) rfl sc_Base_init.nd (pi_list (pe_fldC T.cls_Base T.na_Base__closing (pv 0))) (blkOk_by (N := N_Base_init) (sc := defScope s_Base_init) (by decide +kernel)) (fun _ _ _ _ _ => (pg_name (i := 4) sc_Base_init.nd rfl (Or.inl rfl))) (fun _ _ _ _ _ => pts_nil) (fun _ _ _ _ _ => (C8.pe_mt G_Basebase_ring hr (by omega) (pv 0) (pa_cons (pv 4) pa_nil))))))))))))
theorem sc_Base_rings : FnScope N_Base_rings ["self"] (defScope s_Base_rings) := ⟨rfl, rfl, rfl, by decide +kernel, rfl, by decide +kernel, by decide +kernel⟩
theorem ok_Base_rings {f : Addr} {fd : FuncData} (F : FunD K "rings" "Base.rings" (defArgs s_Base_rings) (defBody s_Base_rings) (defScope s_Base_rings) [] [] f fd) (T : Txt K mg) : FnOk P w K mg base CX0 1 f fd ["self"] (sp_Base_rings K) := by
  refine F.ok sc_Base_rings (len_Base_rings K) (fun cdv A outer s H vs Q E hr h => ⟨t_Base_rings K, PSs.nox ?_, pure_Base_rings K vs H Q E h⟩)
  exact (pss_one (ps_ret (pe_lc (own := [("ring", 1)]) rfl sc_Base_rings.nd (pi_list (pe_fldC T.cls_Base T.na_Base__rings (pv 0))) (blkOk_by (N := N_Base_rings) (sc := defScope s_Base_rings) (by decide +kernel)) (fun _ _ _ _ _ => (pg_name (i := 1) sc_Base_rings.nd rfl (Or.inl rfl))) (fun _ _ _ _ _ => pts_nil) (fun _ _ _ _ _ => (pe_callTy callListOf (by rfl) T.f_list (by decide +kernel) (pa_cons (pv 1) pa_nil))))))
theorem sc_sum_over : FnScope N_sum_over ["walk", "forward", "backward"] (defScope s_sum_over) := ⟨rfl, rfl, rfl, by decide +kernel, rfl, by decide +kernel, by decide +kernel⟩
theorem ok_sum_over {f : Addr} {fd : FuncData} (F : FunD K "sum_over" "sum_over" (defArgs s_sum_over) (defBody s_sum_over) (defScope s_sum_over) [] [] f fd) (T : Txt K mg) : FnOk P w K mg base CX0 1 f fd ["walk", "forward", "backward"] (sp_sum_over K) := by
  refine F.ok sc_sum_over (len_sum_over K) (fun cdv A outer s H vs Q E hr h => ⟨t_sum_over K, PSs.nox ?_, pure_sum_over K vs H Q E h⟩)
  exact (pss_one (ps_ret (pe_callB (cr_sum rfl) (by rfl) T.f_sum (by decide +kernel) (pa_cons (pe_lc (own := [("number", 3), ("direction", 4)]) rfl sc_sum_over.nd (pi_list (pv 0)) (blkOk_by (N := N_sum_over) (sc := defScope s_sum_over) (by decide +kernel)) (fun _ _ _ _ _ => (pg_tup rfl (pgs_cons (pg_name (i := 3) sc_sum_over.nd rfl (Or.inl rfl)) (pgs_cons (pg_name (i := 4) sc_sum_over.nd rfl (Or.inl rfl)) pgs_nil)))) (fun _ _ _ _ _ => pts_nil) (fun _ _ _ _ _ => (pe_ifExp (pt_cmpR op_eq (pv 4) pe_int (nomark _)) (pe_ix ix_list (pv 1) (pv 3) (fun _ _ => rfl)) (pe_ix ix_list (pv 2) (pv 3) (fun _ _ => rfl))))) pa_nil))))
theorem sc_turn_of : FnScope N_turn_of ["walk", "minutes"] (defScope s_turn_of) := ⟨rfl, rfl, rfl, by decide +kernel, rfl, by decide +kernel, by decide +kernel⟩
theorem ok_turn_of {f : Addr} {fd : FuncData} (F : FunD K "turn_of" "turn_of" (defArgs s_turn_of) (defBody s_turn_of) (defScope s_turn_of) [] [] f fd) (T : Txt K mg) (G_sum_over : C8.Cal P w K mg base (1) "sum_over" (sp_sum_over K) []) : FnOk P w K mg base CX0 2 f fd ["walk", "minutes"] (sp_turn_of K) := by
  refine F.ok sc_turn_of (len_turn_of K) (fun cdv A outer s H vs Q E hr h => ⟨t_turn_of K, PSs.nox ?_, pure_turn_of K vs H Q E h⟩)
  exact (pss_one (ps_ret (C8.pe_c G_sum_over hr (by omega) (by rfl) (pa_cons (pv 0) (pa_cons (pv 1) (pa_cons (pe_lc (own := [("passing", 2)]) rfl sc_turn_of.nd (pi_list (pv 1)) (blkOk_by (N := N_turn_of) (sc := defScope s_turn_of) (by decide +kernel)) (fun _ _ _ _ _ => (pg_name (i := 2) sc_turn_of.nd rfl (Or.inl rfl))) (fun _ _ _ _ _ => pts_nil) (fun _ _ _ _ _ => (pe_un un_neg (pv 2)))) pa_nil))))))
theorem sc_rounds_on : FnScope N_rounds_on ["rings", "minutes", "round_length"] (defScope s_rounds_on) := ⟨rfl, rfl, rfl, by decide +kernel, rfl, by decide +kernel, by decide +kernel⟩
theorem ok_rounds_on {f : Addr} {fd : FuncData} (F : FunD K "rounds_on" "rounds_on" (defArgs s_rounds_on) (defBody s_rounds_on) (defScope s_rounds_on) [] [] f fd) (T : Txt K mg) (G_turn_of : C8.Cal P w K mg base (2) "turn_of" (sp_turn_of K) []) : FnOk P w K mg base CX0 3 f fd ["rings", "minutes", "round_length"] (sp_rounds_on K) := by
  refine F.ok sc_rounds_on (len_rounds_on K) (fun cdv A outer s H vs Q E hr h => ⟨t_rounds_on K, PSs.nox ?_, pure_rounds_on K vs H Q E h⟩)
  exact (pss_one (ps_ret (pe_lc (own := [("ring", 3)]) rfl sc_rounds_on.nd (pi_list (pv 0)) (blkOk_by (N := N_rounds_on) (sc := defScope s_rounds_on) (by decide +kernel)) (fun _ _ _ _ _ => (pg_name (i := 3) sc_rounds_on.nd rfl (Or.inl rfl))) (fun _ _ _ _ _ => pts_nil) (fun _ _ _ _ _ => (pe_op op_fdiv (C8.pe_c G_turn_of hr (by omega) (by rfl) (pa_cons (pv 3) (pa_cons (pv 1) pa_nil))) (pv 2))))))
theorem sc_Island_init : FnScope N_Island_init ["self", "net", "times"] (defScope s_Island_init) := ⟨rfl, rfl, rfl, by decide +kernel, rfl, by decide +kernel, by decide +kernel⟩
theorem ok_Island_init {f : Addr} {fd : FuncData} (F : FunD K "__init__" "Island.__init__" (defArgs s_Island_init) (defBody s_Island_init) (defScope s_Island_init) [] [] f fd) (T : Txt K mg) (G_Net_round_length : Prp P w K mg base 1 (C_Net K) "round_length" (sp_Net_round_length K)) (G_Net_spans : Prp P w K mg base 1 (C_Net K) "spans" (sp_Net_spans K)) (GI_Net_iter : ItrN P w K mg base 1 (C_Net K) (spYoung K (C_Net K) "_events")) (G_kept_minutes : CalX P w K mg base (7) "kept_minutes" (sp_kept_minutes K) []) (G_arcs_of : C8.Cal P w K mg base (3) "arcs_of" (sp_arcs_of K) []) (G_least_walks : C8.Cal P w K mg base (2) "least_walks" (sp_least_walks K) []) (G_Base_init : C8.Mak P w K mg base 5 "Base" (C_Base K) (sp_Base_init K) []) (G_Base_rings : Prp P w K mg base 1 (C_Base K) "rings" (sp_Base_rings K)) (G_rounds_on : C8.Cal P w K mg base (3) "rounds_on" (sp_rounds_on K) []) : FnOk P w K mg base CX0 8 f fd ["self", "net", "times"] (sp_Island_init K) := by
  refine F.ok sc_Island_init (len_Island_init K) (fun cdv A outer s H vs Q E hr h => ⟨t_Island_init K, PSs.nox ?_, pure_Island_init K vs H Q E h⟩)
  exact (pss_cons (ps_set (i := 3) sc_Island_init.nd rfl (Or.inl rfl) (pe_cX G_kept_minutes hr (by omega) (by rfl) passL (pa_cons (pv 1) (pa_cons (pv 2) pa_nil))))
    (pss_cons (ps_fldC T.cls_Island T.na_Island__net (pv 0) (pv 1))
    (pss_cons (ps_fldC T.cls_Island T.na_Island__times (pv 0) (pv 2))
    (pss_cons (ps_fldC T.cls_Island T.na_Island__rings (pv 0) (pe_prp T.cls_Base G_Base_rings hr (by omega) (C8.pe_mk G_Base_init hr (by omega) (by rfl) (pa_cons (pv 1) pa_nil))))
    (pss_cons (ps_fldC T.cls_Island T.na_Island__rounds (pv 0) (C8.pe_c G_rounds_on hr (by omega) (by rfl) (pa_cons (pe_fldC T.cls_Island T.na_Island__rings (pv 0)) (pa_cons (pv 3) (pa_cons (pe_prp T.cls_Net G_Net_round_length hr (by omega) (pv 1)) pa_nil)))))
    (pss_cons (ps_fldC T.cls_Island T.na_Island__forward (pv 0) (pe_lc (own := [("span", 6), ("passing", 7)]) rfl sc_Island_init.nd (pi_zip rfl T.f_zip (pa_cons (pe_prp T.cls_Net G_Net_spans hr (by omega) (pv 1)) (pa_cons (pv 3) pa_nil))) (blkOk_by (N := N_Island_init) (sc := defScope s_Island_init) (by decide +kernel)) (fun _ _ _ _ _ => (pg_tup rfl (pgs_cons (pg_name (i := 6) sc_Island_init.nd rfl (Or.inl rfl)) (pgs_cons (pg_name (i := 7) sc_Island_init.nd rfl (Or.inl rfl)) pgs_nil)))) (fun _ _ _ _ _ => pts_nil) (fun _ _ _ _ _ => (pe_op op_sub (pe_ix ix_tup (pv 6) pe_int (fun _ _ => rfl)) (pv 7)))))
    (pss_cons (ps_fldC T.cls_Island T.na_Island__backward (pv 0) (pe_lc (own := [("span", 6), ("passing", 7)]) rfl sc_Island_init.nd (pi_zip rfl T.f_zip (pa_cons (pe_prp T.cls_Net G_Net_spans hr (by omega) (pv 1)) (pa_cons (pv 3) pa_nil))) (blkOk_by (N := N_Island_init) (sc := defScope s_Island_init) (by decide +kernel)) (fun _ _ _ _ _ => (pg_tup rfl (pgs_cons (pg_name (i := 6) sc_Island_init.nd rfl (Or.inl rfl)) (pgs_cons (pg_name (i := 7) sc_Island_init.nd rfl (Or.inl rfl)) pgs_nil)))) (fun _ _ _ _ _ => pts_nil) (fun _ _ _ _ _ => (pe_op op_sub (pv 7) (pe_ix ix_tup (pv 6) pe_int (fun _ _ => rfl))))))
    (pss_cons (ps_set (i := 4) sc_Island_init.nd rfl (Or.inr rfl) (C8.pe_c G_arcs_of hr (by omega) (by rfl) (pa_cons (pv 1) (pa_cons (pe_fldC T.cls_Island T.na_Island__forward (pv 0)) (pa_cons (pe_fldC T.cls_Island T.na_Island__backward (pv 0)) pa_nil)))))
    (pss_cons (ps_set (i := 5) sc_Island_init.nd rfl (Or.inr rfl) (pe_dc (own := [("name", 8)]) rfl sc_Island_init.nd (pi_ownL GI_Net_iter hr (by omega) (pv 1)) (blkOk_by (N := N_Island_init) (sc := defScope s_Island_init) (by decide +kernel)) (fun _ _ _ _ _ => (pg_name (i := 8) sc_Island_init.nd rfl (Or.inl rfl))) (fun _ _ _ _ _ => pts_nil) (fun _ _ _ _ _ => (pv 8)) (fun _ _ _ _ _ => (C8.pe_c G_least_walks hr (by omega) (by rfl) (pa_cons (pv 4) (pa_cons (pv 8) pa_nil))))))
    (pss_cons (ps_fldC T.cls_Island T.na_Island__rooms (pv 0) (pe_lock (pe_dc (own := [("name", 8)]) rfl sc_Island_init.nd (pi_keys (pv 5)) (blkOk_by (N := N_Island_init) (sc := defScope s_Island_init) (by decide +kernel)) (fun _ _ _ _ _ => (pg_name (i := 8) sc_Island_init.nd rfl (Or.inl rfl))) (fun _ _ _ _ _ => pts_nil) (fun _ _ _ _ _ => (pv 8)) (fun _ _ _ _ _ => (pe_ix ix_tup (pe_dget (u1 hr) (pv 5) (pv 8) (fun _ _ => rfl)) pe_int (fun _ _ => rfl))))))
    (pss_one (ps_fldC T.cls_Island T.na_Island__last (pv 0) (pe_lock (pe_dc (own := [("name", 8)]) rfl sc_Island_init.nd (pi_keys (pv 5)) (blkOk_by (N := N_Island_init) (sc := defScope s_Island_init) (by decide +kernel)) (fun _ _ _ _ _ => (pg_name (i := 8) sc_Island_init.nd rfl (Or.inl rfl))) (fun _ _ _ _ _ => pts_nil) (fun _ _ _ _ _ => (pv 8)) (fun _ _ _ _ _ => (pe_ix ix_tup (pe_dget (u1 hr) (pv 5) (pv 8) (fun _ _ => rfl)) pe_int (fun _ _ => rfl)))))))))))))))))
theorem sc_Island_room : FnScope N_Island_room ["self", "first", "second"] (defScope s_Island_room) := ⟨rfl, rfl, rfl, by decide +kernel, rfl, by decide +kernel, by decide +kernel⟩
theorem ok_Island_room {f : Addr} {fd : FuncData} (F : FunD K "room" "Island.room" (defArgs s_Island_room) (defBody s_Island_room) (defScope s_Island_room) [] [] f fd) (T : Txt K mg) (G_check_known : C8.Cal P w K mg base (2) "check_known" (sp_check_known K) []) : FnOk P w K mg base CX0 3 f fd ["self", "first", "second"] (sp_Island_room K) := by
  refine F.ok sc_Island_room (len_Island_room K) (fun cdv A outer s H vs Q E hr h => ⟨t_Island_room K, PSs.nox ?_, pure_Island_room K vs H Q E h⟩)
  exact (pss_cons (ps_expr (C8.pe_c G_check_known hr (by omega) (by rfl) (pa_cons (pe_lst (pa_cons (pv 1) (pa_cons (pv 2) pa_nil))) (pa_cons (pe_fldC T.cls_Island T.na_Island__net (pv 0)) pa_nil))))
    (pss_one (ps_ret (pe_dget1 (u1 hr) (pe_dget (u1 hr) (pe_fldC T.cls_Island T.na_Island__rooms (pv 0)) (pv 1) (fun _ _ => rfl)) (pv 2) ⟨rfl, by rfl, rfl, rfl⟩))))
theorem sc_Times_init : FnScope N_Times_init ["self", "round_length", "minutes"] (defScope s_Times_init) := ⟨rfl, rfl, rfl, by decide +kernel, rfl, by decide +kernel, by decide +kernel⟩
theorem ok_Times_init {f : Addr} {fd : FuncData} (F : FunD K "__init__" "Times.__init__" (defArgs s_Times_init) (defBody s_Times_init) (defScope s_Times_init) [] [] f fd) (T : Txt K mg) (G_check_name : C8.Cal P w K mg base (2) "check_name" (sp_check_name K) []) (G_check_range : C8.Cal P w K mg base (1) "check_range" (sp_check_range K) []) (G_check_round_length : C8.Cal P w K mg base (2) "check_round_length" (sp_check_round_length K) []) : FnOk P w K mg base CX0 3 f fd ["self", "round_length", "minutes"] (sp_Times_init K) := by
  refine F.ok sc_Times_init (len_Times_init K) (fun cdv A outer s H vs Q E hr h => ⟨t_Times_init K, PSs.nox ?_, pure_Times_init K vs H Q E h⟩)
  exact (pss_cons (ps_expr (C8.pe_c G_check_round_length hr (by omega) (by rfl) (pa_cons (pv 1) pa_nil)))
    (pss_cons (ps_lock (ps_for PassesOwn.never rfl (pi_items (pv 2)) (pg_tup rfl (pgs_cons (pg_name (i := 3) sc_Times_init.nd rfl (Or.inl rfl)) (pgs_cons (pg_name (i := 4) sc_Times_init.nd rfl (Or.inl rfl)) pgs_nil))) (pss_cons (ps_expr (C8.pe_c G_check_name hr (by omega) (by rfl) (pa_cons (pv 3) pa_nil)))
    (pss_one (ps_expr (C8.pe_c G_check_range hr (by omega) (by rfl) (pa_cons (pv 4) (pa_cons pe_int (pa_cons (pe_op op_sub (pv 1) pe_int) pa_nil)))))))))
    (pss_cons (ps_fldC T.cls_Times T.na_Times__round_length (pv 0) (pv 1))
    (pss_one (ps_fldC T.cls_Times T.na_Times__minutes (pv 0) (pe_callTy callDictOf (by rfl) T.f_dict (by decide +kernel) (pa_cons (pv 2) pa_nil)))))))
theorem sc_l_pool : FnScope N_l_pool ["_law_script"] (defScope s_l_pool) := ⟨rfl, rfl, rfl, by decide +kernel, rfl, by decide +kernel, by decide +kernel⟩
theorem ok_l_pool {f : Addr} {fd : FuncData} (F : FunD K "_law_pool" "_law_pool" (defArgs s_l_pool) (defBody s_l_pool) (defScope s_l_pool) [] [] f fd) (T : Txt K mg) : FnOk P w K mg base CX0 1 f fd ["_law_script"] (sp_l_pool K) := by
  refine F.ok sc_l_pool (len_l_pool K) (fun cdv A outer s H vs Q E hr h => ⟨t_l_pool K, PSs.nox ?_, pure_l_pool K vs H Q E h⟩)
  exact (pss_cons (ps_setLc (i := 1) (own := [("_law_cell", 3)]) rfl sc_l_pool.nd rfl rfl (sw_true rfl rfl rfl (by decide +kernel)) (pi_list (pv 0)) (blkOk_by (N := N_l_pool) (sc := defScope s_l_pool) (by decide +kernel)) (fun _ _ _ _ _ => (pg_name (i := 3) sc_l_pool.nd rfl (Or.inl rfl))) (fun _ _ _ _ _ => pts_nil) (fun _ _ _ _ _ => (pe_callTy callInt1 (by rfl) T.f_int (by decide +kernel) (pa_cons (pv 3) pa_nil))))
    (pss_cons (ps_set (i := 2) sc_l_pool.nd rfl (Or.inl rfl) pe_int)
    (pss_cons (ps_if (PW.pt (pw_and (pt_cmpR op_gt (pe_callB callLenSeq (by rfl) T.f_len (by decide +kernel) (pa_cons (pv 1) pa_nil)) pe_int (nomark _)) (pw_and1 (pt_cmpR op_ge (pe_ix ix_list (pv 1) pe_int (fun _ _ => rfl)) (pe_op op_pow pe_int pe_int) (nomark _))))) (pss_one (ps_set (i := 2) sc_l_pool.nd rfl (Or.inl rfl) (pe_ix ix_list (pv 1) pe_int (fun _ _ => rfl)))) pss_nil)
    (pss_one (ps_ret (pe_lst (pa_cons (pv 2) (pa_cons pe_int (pa_cons (pv 1) pa_nil)))))))))
theorem sc_l_draw : FnScope N_l_draw ["_law_pool_here", "_law_many"] (defScope s_l_draw) := ⟨rfl, rfl, rfl, by decide +kernel, rfl, by decide +kernel, by decide +kernel⟩
theorem ok_l_draw {f : Addr} {fd : FuncData} (F : FunD K "_law_draw" "_law_draw" (defArgs s_l_draw) (defBody s_l_draw) (defScope s_l_draw) [] [] f fd) (T : Txt K mg) : FnOk P w K mg base CX0 1 f fd ["_law_pool_here", "_law_many"] (sp_l_draw K) := by
  refine F.ok sc_l_draw (len_l_draw K) (fun cdv A outer s H vs Q E hr h => ⟨t_l_draw K, PSs.nox ?_, pure_l_draw K vs H Q E h⟩)
  exact (pss_cons (ps_if (pt_cmpR op_gt (pe_ix ix_list (pv 0) pe_int (fun _ _ => rfl)) pe_int (nomark _)) (pss_cons (ps_set (i := 2) sc_l_draw.nd rfl (Or.inl rfl) (pe_op op_mod (pe_callTy callInt1 (by rfl) T.f_int (by decide +kernel) (pa_cons (pe_ix ix_list (pv 0) pe_int (fun _ _ => rfl)) pa_nil)) (pv 1)))
    (pss_cons (ps_asg (pe_op op_fdiv (pe_ix ix_list (pv 0) pe_int (fun _ _ => rfl)) (pv 1)) (pg_sub (pv 0) pe_int set_list))
    (pss_one (ps_ret (pv 2))))) pss_nil)
    (pss_cons (ps_asg (pe_op op_add (pe_ix ix_list (pv 0) pe_int (fun _ _ => rfl)) pe_int) (pg_sub (pv 0) pe_int set_list))
    (pss_cons (ps_set (i := 3) sc_l_draw.nd rfl (Or.inl rfl) (pe_ix ix_list (pv 0) pe_int (fun _ _ => rfl)))
    (pss_cons (ps_set (i := 4) sc_l_draw.nd rfl (Or.inl rfl) pe_int)
    (pss_cons (ps_set (i := 5) sc_l_draw.nd rfl (Or.inl rfl) pe_int)
    (pss_cons (ps_if (pt_cmpR op_gt (pe_callB callLenSeq (by rfl) T.f_len (by decide +kernel) (pa_cons (pv 3) pa_nil)) pe_int (nomark _)) (pss_cons (ps_set (i := 4) sc_l_draw.nd rfl (Or.inl rfl) (pe_ix ix_list (pv 3) (pe_op op_mod (pe_callTy callInt1 (by rfl) T.f_int (by decide +kernel) (pa_cons (pe_ix ix_list (pv 0) pe_int (fun _ _ => rfl)) pa_nil)) (pe_callB callLenSeq (by rfl) T.f_len (by decide +kernel) (pa_cons (pv 3) pa_nil))) (fun _ _ => rfl)))
    (pss_one (ps_set (i := 5) sc_l_draw.nd rfl (Or.inl rfl) (pe_ix ix_list (pv 3) pe_int (fun _ _ => rfl))))) pss_nil)
    (pss_cons (ps_set (i := 6) sc_l_draw.nd rfl (Or.inl rfl) (pe_op op_mod (pe_callTy callInt1 (by rfl) T.f_int (by decide +kernel) (pa_cons (pe_op op_add (pe_op op_add (pe_op op_add (pe_op op_mul (pv 4) pe_int) (pe_op op_mul (pv 5) pe_int)) (pe_op op_mul (pe_ix ix_list (pv 0) pe_int (fun _ _ => rfl)) pe_int)) pe_int) pa_nil)) pe_int))
    (pss_cons (ps_set (i := 6) sc_l_draw.nd rfl (Or.inl rfl) (pe_op op_mod (pe_callTy callInt1 (by rfl) T.f_int (by decide +kernel) (pa_cons (pe_op op_add (pe_op op_add (pe_op op_mul (pv 6) (pv 6)) (pe_op op_mul (pv 6) pe_int)) (pe_op op_mul (pe_ix ix_list (pv 0) pe_int (fun _ _ => rfl)) pe_int)) pa_nil)) pe_int))
    (pss_one (ps_ret (pe_op op_mod (pe_callTy callInt1 (by rfl) T.f_int (by decide +kernel) (pa_cons (pe_op op_fdiv (pv 6) pe_int) pa_nil)) (pv 1))))))))))))
theorem sc_l_word : FnScope N_l_word ["_law_pool_here", "_law_size"] (defScope s_l_word) := ⟨rfl, rfl, rfl, by decide +kernel, rfl, by decide +kernel, by decide +kernel⟩
theorem ok_l_word {f : Addr} {fd : FuncData} (F : FunD K "_law_word" "_law_word" (defArgs s_l_word) (defBody s_l_word) (defScope s_l_word) [] [] f fd) (T : Txt K mg) (G_l_draw : C8.Cal P w K mg base (1) "_law_draw" (sp_l_draw K) []) : FnOk P w K mg base CX0 2 f fd ["_law_pool_here", "_law_size"] (sp_l_word K) := by
  refine F.ok sc_l_word (len_l_word K) (fun cdv A outer s H vs Q E hr h => ⟨t_l_word K, PSs.nox ?_, pure_l_word K vs H Q E h⟩)
  exact (pss_cons (ps_set (i := 2) sc_l_word.nd rfl (Or.inl rfl) (pe_strS (by decide +kernel)))
    (pss_cons (ps_set (i := 3) sc_l_word.nd rfl (Or.inl rfl) (pe_strS (by decide +kernel)))
    (pss_cons (ps_for PassesOwn.never rfl (pi_range1 rfl T.f_range (pa_cons (pv 1) pa_nil)) (pg_name (i := 4) sc_l_word.nd rfl (Or.inl rfl)) (pss_one (ps_set (i := 3) sc_l_word.nd rfl (Or.inl rfl) (pe_op opAddStr (pv 3) (pe_ix ix_str (pv 2) (C8.pe_c G_l_draw hr (by omega) (by rfl) (pa_cons (pv 0) (pa_cons pe_int pa_nil))) (fun _ _ => rfl))))))
    (pss_one (ps_ret (pv 3))))))
theorem sc_l_names : FnScope N_l_names ["_law_pool_here", "_law_many"] (defScope s_l_names) := ⟨rfl, rfl, rfl, by decide +kernel, rfl, by decide +kernel, by decide +kernel⟩
theorem ok_l_names {f : Addr} {fd : FuncData} (F : FunD K "_law_names" "_law_names" (defArgs s_l_names) (defBody s_l_names) (defScope s_l_names) [] [] f fd) (T : Txt K mg) (G_l_draw : C8.Cal P w K mg base (1) "_law_draw" (sp_l_draw K) []) (G_l_word : C8.Cal P w K mg base (2) "_law_word" (sp_l_word K) []) : FnOk P w K mg base CX0 3 f fd ["_law_pool_here", "_law_many"] (sp_l_names K) := by
  refine F.ok sc_l_names (len_l_names K) (fun cdv A outer s H vs Q E hr h => ⟨t_l_names K, PSs.nox ?_, pure_l_names K vs H Q E h⟩)
  exact (pss_cons (ps_set (i := 2) sc_l_names.nd rfl (Or.inl rfl) (pe_strS (by decide +kernel)))
    (pss_cons (ps_set (i := 3) sc_l_names.nd rfl (Or.inl rfl) (pe_strS (by decide +kernel)))
    (pss_cons (ps_set (i := 4) sc_l_names.nd rfl (Or.inl rfl) (C8.pe_c G_l_draw hr (by omega) (by rfl) (pa_cons (pv 0) (pa_cons pe_int pa_nil))))
    (pss_cons (ps_set (i := 5) sc_l_names.nd rfl (Or.inl rfl) (pe_op opAddStr (pe_ix ix_str (pv 2) (C8.pe_c G_l_draw hr (by omega) (by rfl) (pa_cons (pv 0) (pa_cons pe_int pa_nil))) (fun _ _ => rfl)) (C8.pe_c G_l_word hr (by omega) (by rfl) (pa_cons (pv 0) (pa_cons (C8.pe_c G_l_draw hr (by omega) (by rfl) (pa_cons (pv 0) (pa_cons pe_int pa_nil))) pa_nil)))))
    (pss_cons (ps_set (i := 6) sc_l_names.nd rfl (Or.inl rfl) (C8.pe_c G_l_word hr (by omega) (by rfl) (pa_cons (pv 0) (pa_cons (C8.pe_c G_l_draw hr (by omega) (by rfl) (pa_cons (pv 0) (pa_cons pe_int pa_nil))) pa_nil))))
    (pss_cons (ps_set (i := 7) sc_l_names.nd rfl (Or.inl rfl) (C8.pe_c G_l_draw hr (by omega) (by rfl) (pa_cons (pv 0) (pa_cons pe_int pa_nil))))
    (pss_cons (ps_set (i := 8) sc_l_names.nd rfl (Or.inl rfl) (pe_lst pa_nil))
    (pss_cons (ps_for PassesOwn.never rfl (pi_range1 rfl T.f_range (pa_cons (pv 1) pa_nil)) (pg_name (i := 9) sc_l_names.nd rfl (Or.inl rfl)) (pss_cons (ps_set (i := 10) sc_l_names.nd rfl (Or.inl rfl) (pe_op opAddStr (pe_op opAddStr (pv 5) (pe_ix ix_str (pv 3) (pe_op op_mod (pe_callTy callInt1 (by rfl) T.f_int (by decide +kernel) (pa_cons (pe_op op_add (pv 7) (pe_op op_mul pe_int (pv 9))) pa_nil)) pe_int) (fun _ _ => rfl))) (pv 6)))
    (C8.pss_cut (ps_if (pt_cmpR op_eq (pv 4) pe_int (nomark _)) (pss_one (ps_set (i := 10) sc_l_names.nd rfl (Or.inl rfl) (pe_op opAddStr (pe_ix ix_str (pv 2) (pe_op op_mod (pe_callTy callInt1 (by rfl) T.f_int (by decide +kernel) (pa_cons (pe_op op_add (pv 7) (pe_op op_mul pe_int (pv 9))) pa_nil)) pe_int) (fun _ _ => rfl)) (C8.pe_c G_l_word hr (by omega) (by rfl) (pa_cons (pv 0) (pa_cons (C8.pe_c G_l_draw hr (by omega) (by rfl) (pa_cons (pv 0) (pa_cons pe_int pa_nil))) pa_nil)))))) pss_nil)
    (C8.pss_cut (ps_if (pt_cmpR op_eq (pv 4) pe_int (nomark _)) (pss_one (ps_set (i := 10) sc_l_names.nd rfl (Or.inl rfl) (pe_op opAddStr (pe_ix ix_str (pv 2) (C8.pe_c G_l_draw hr (by omega) (by rfl) (pa_cons (pv 0) (pa_cons pe_int pa_nil))) (fun _ _ => rfl)) (C8.pe_c G_l_word hr (by omega) (by rfl) (pa_cons (pv 0) (pa_cons (C8.pe_c G_l_draw hr (by omega) (by rfl) (pa_cons (pv 0) (pa_cons pe_int pa_nil))) pa_nil)))))) pss_nil)
    (pss_cons (ps_for PassesOwn.never rfl (pi_range1 rfl T.f_range (pa_cons pe_int pa_nil)) (pg_name (i := 11) sc_l_names.nd rfl (Or.inl rfl)) (pss_one (ps_if (PW.pt (pw_and (pt_cmpR op_in_seq (pv 10) (pv 8) (by rfl)) (pw_and1 (pt_cmpR op_notIn_seq (pe_op opAddStr (pe_strS (by decide +kernel)) (pe_callTy callStrInt (by rfl) T.f_str (by decide +kernel) (pa_cons (pv 11) pa_nil))) (pv 8) (by rfl))))) (pss_one (ps_set (i := 10) sc_l_names.nd rfl (Or.inl rfl) (pe_op opAddStr (pe_strS (by decide +kernel)) (pe_callTy callStrInt (by rfl) T.f_str (by decide +kernel) (pa_cons (pv 11) pa_nil))))) pss_nil)))
    (pss_one (ps_expr (pe_bm PySem.F.plainAttrs_list PySem.F.slot_list_append PySem.F.type_list_append mt_append (pv 8) (pa_cons (pv 10) pa_nil)))))))))
    (pss_one (ps_ret (pv 8)))))))))))
theorem sc_l_length : FnScope N_l_length ["_law_pool_here", "_law_most"] (defScope s_l_length) := ⟨rfl, rfl, rfl, by decide +kernel, rfl, by decide +kernel, by decide +kernel⟩
theorem ok_l_length {f : Addr} {fd : FuncData} (F : FunD K "_law_length" "_law_length" (defArgs s_l_length) (defBody s_l_length) (defScope s_l_length) [] [] f fd) (T : Txt K mg) (G_l_draw : C8.Cal P w K mg base (1) "_law_draw" (sp_l_draw K) []) : FnOk P w K mg base CX0 2 f fd ["_law_pool_here", "_law_most"] (sp_l_length K) := by
  refine F.ok sc_l_length (len_l_length K) (fun cdv A outer s H vs Q E hr h => ⟨t_l_length K, PSs.nox ?_, pure_l_length K vs H Q E h⟩)
  exact (pss_cons (ps_set (i := 2) sc_l_length.nd rfl (Or.inl rfl) (C8.pe_c G_l_draw hr (by omega) (by rfl) (pa_cons (pv 0) (pa_cons pe_int pa_nil))))
    (pss_cons (ps_if (pt_cmpR op_lt (pv 2) pe_int (nomark _)) (pss_one (ps_ret (pe_op op_add pe_int (C8.pe_c G_l_draw hr (by omega) (by rfl) (pa_cons (pv 0) (pa_cons pe_int pa_nil)))))) pss_nil)
    (pss_cons (ps_if (pt_cmpR op_lt (pv 2) pe_int (nomark _)) (pss_one (ps_ret (pe_callB (callMin2 rfl) (by rfl) T.f_min (by decide +kernel) (pa_cons (pv 1) (pa_cons (pe_op op_add pe_int (C8.pe_c G_l_draw hr (by omega) (by rfl) (pa_cons (pv 0) (pa_cons pe_int pa_nil)))) pa_nil))))) pss_nil)
    (pss_one (ps_ret (pe_callB (callMax2 rfl) (by rfl) T.f_max (by decide +kernel) (pa_cons pe_int (pa_cons (pe_op op_sub (pv 1) (C8.pe_c G_l_draw hr (by omega) (by rfl) (pa_cons (pv 0) (pa_cons (pv 1) pa_nil)))) pa_nil))))))))
theorem sc_l_changes : FnScope N_l_changes ["_law_pool_here", "_law_many", "_law_length_here"] (defScope s_l_changes) := ⟨rfl, rfl, rfl, by decide +kernel, rfl, by decide +kernel, by decide +kernel⟩
theorem ok_l_changes {f : Addr} {fd : FuncData} (F : FunD K "_law_changes" "_law_changes" (defArgs s_l_changes) (defBody s_l_changes) (defScope s_l_changes) [] [] f fd) (T : Txt K mg) (G_l_draw : C8.Cal P w K mg base (1) "_law_draw" (sp_l_draw K) []) : FnOk P w K mg base CX0 2 f fd ["_law_pool_here", "_law_many", "_law_length_here"] (sp_l_changes K) := by
  refine F.ok sc_l_changes (len_l_changes K) (fun cdv A outer s H vs Q E hr h => ⟨t_l_changes K, PSs.nox ?_, pure_l_changes K vs H Q E h⟩)
  exact (pss_cons (ps_set (i := 3) sc_l_changes.nd rfl (Or.inl rfl) (C8.pe_c G_l_draw hr (by omega) (by rfl) (pa_cons (pv 0) (pa_cons pe_int pa_nil))))
    (pss_cons (ps_set (i := 4) sc_l_changes.nd rfl (Or.inl rfl) (pe_op op_mul (C8.pe_c G_l_draw hr (by omega) (by rfl) (pa_cons (pv 0) (pa_cons pe_int pa_nil))) (C8.pe_c G_l_draw hr (by omega) (by rfl) (pa_cons (pv 0) (pa_cons (pv 2) pa_nil)))))
    (pss_cons (ps_set (i := 5) sc_l_changes.nd rfl (Or.inl rfl) (pe_lst pa_nil))
    (pss_cons (ps_for PassesOwn.never rfl (pi_range1 rfl T.f_range (pa_cons (pv 1) pa_nil)) (pg_name (i := 6) sc_l_changes.nd rfl (Or.inl rfl)) (pss_cons (ps_set (i := 7) sc_l_changes.nd rfl (Or.inl rfl) pe_int)
    (pss_cons (ps_if (PW.pt (pw_or (pt_cmpR op_eq (pv 3) pe_int (nomark _)) (pw_or1 (pt_cmpR op_eq (pv 3) pe_int (nomark _))))) (pss_one (ps_set (i := 7) sc_l_changes.nd rfl (Or.inl rfl) (pe_op op_sub (C8.pe_c G_l_draw hr (by omega) (by rfl) (pa_cons (pv 0) (pa_cons pe_int pa_nil))) pe_int))) pss_nil)
    (pss_cons (ps_if (pt_cmpR op_eq (pv 3) pe_int (nomark _)) (pss_one (ps_set (i := 7) sc_l_changes.nd rfl (Or.inl rfl) (pe_op op_sub (C8.pe_c G_l_draw hr (by omega) (by rfl) (pa_cons (pv 0) (pa_cons (pe_op op_mul pe_int (pv 2)) pa_nil))) (pv 2)))) pss_nil)
    (pss_one (ps_expr (pe_bm PySem.F.plainAttrs_list PySem.F.slot_list_append PySem.F.type_list_append mt_append (pv 5) (pa_cons (pe_op op_add (pv 4) (pv 7)) pa_nil))))))))
    (pss_one (ps_ret (pv 5)))))))
theorem sc_l_weight : FnScope N_l_weight ["_law_pool_here"] (defScope s_l_weight) := ⟨rfl, rfl, rfl, by decide +kernel, rfl, by decide +kernel, by decide +kernel⟩
theorem ok_l_weight {f : Addr} {fd : FuncData} (F : FunD K "_law_weight" "_law_weight" (defArgs s_l_weight) (defBody s_l_weight) (defScope s_l_weight) [] [] f fd) (T : Txt K mg) (G_l_draw : C8.Cal P w K mg base (1) "_law_draw" (sp_l_draw K) []) : FnOk P w K mg base CX0 2 f fd ["_law_pool_here"] (sp_l_weight K) := by
  refine F.ok sc_l_weight (len_l_weight K) (fun cdv A outer s H vs Q E hr h => ⟨t_l_weight K, PSs.nox ?_, pure_l_weight K vs H Q E h⟩)
  exact (pss_cons (ps_if (pt_cmpR op_eq (C8.pe_c G_l_draw hr (by omega) (by rfl) (pa_cons (pv 0) (pa_cons pe_int pa_nil))) pe_int (nomark _)) (pss_one (ps_ret (C8.pe_c G_l_draw hr (by omega) (by rfl) (pa_cons (pv 0) (pa_cons pe_int pa_nil))))) pss_nil)
    (pss_one (ps_ret (C8.pe_c G_l_draw hr (by omega) (by rfl) (pa_cons (pv 0) (pa_cons pe_int pa_nil))))))
theorem sc_l_some : FnScope N_l_some ["_law_pool_here", "_law_most"] (defScope s_l_some) := ⟨rfl, rfl, rfl, by decide +kernel, rfl, by decide +kernel, by decide +kernel⟩
theorem ok_l_some {f : Addr} {fd : FuncData} (F : FunD K "_law_some" "_law_some" (defArgs s_l_some) (defBody s_l_some) (defScope s_l_some) [] [] f fd) (T : Txt K mg) (G_l_draw : C8.Cal P w K mg base (1) "_law_draw" (sp_l_draw K) []) : FnOk P w K mg base CX0 2 f fd ["_law_pool_here", "_law_most"] (sp_l_some K) := by
  refine F.ok sc_l_some (len_l_some K) (fun cdv A outer s H vs Q E hr h => ⟨t_l_some K, PSs.nox ?_, pure_l_some K vs H Q E h⟩)
  exact (pss_cons (ps_set (i := 2) sc_l_some.nd rfl (Or.inl rfl) (C8.pe_c G_l_draw hr (by omega) (by rfl) (pa_cons (pv 0) (pa_cons pe_int pa_nil))))
    (pss_cons (ps_if (pt_cmpR op_eq (pv 2) pe_int (nomark _)) (pss_one (ps_ret (pv 1))) pss_nil)
    (pss_cons (ps_if (pt_cmpR op_eq (pv 2) pe_int (nomark _)) (pss_one (ps_ret (C8.pe_c G_l_draw hr (by omega) (by rfl) (pa_cons (pv 0) (pa_cons (pe_op op_add (pv 1) pe_int) pa_nil))))) pss_nil)
    (pss_one (ps_ret (C8.pe_c G_l_draw hr (by omega) (by rfl) (pa_cons (pv 0) (pa_cons (pe_op op_add (pe_callB (callMin2 rfl) (by rfl) T.f_min (by decide +kernel) (pa_cons (pv 1) (pa_cons pe_int pa_nil))) pe_int) pa_nil))))))))
theorem sc_l_window : FnScope N_l_window ["_law_pool_here", "_law_length_here", "_law_start", "_law_change", "_law_straight"] (defScope s_l_window) := ⟨rfl, rfl, rfl, by decide +kernel, rfl, by decide +kernel, by decide +kernel⟩
theorem ok_l_window {f : Addr} {fd : FuncData} (F : FunD K "_law_window" "_law_window" (defArgs s_l_window) (defBody s_l_window) (defScope s_l_window) [] [] f fd) (T : Txt K mg) (G_l_draw : C8.Cal P w K mg base (1) "_law_draw" (sp_l_draw K) []) (G_l_some : C8.Cal P w K mg base (2) "_law_some" (sp_l_some K) []) : FnOk P w K mg base CX0 3 f fd ["_law_pool_here", "_law_length_here", "_law_start", "_law_change", "_law_straight"] (sp_l_window K) := by
  refine F.ok sc_l_window (len_l_window K) (fun cdv A outer s H vs Q E hr h => ⟨t_l_window K, PSs.nox ?_, pure_l_window K vs H Q E h⟩)
  exact (pss_cons (ps_set (i := 5) sc_l_window.nd rfl (Or.inl rfl) (pe_callB (callMin2 rfl) (by rfl) T.f_min (by decide +kernel) (pa_cons pe_int (pa_cons (pv 3) pa_nil))))
    (pss_cons (ps_set (i := 6) sc_l_window.nd rfl (Or.inl rfl) (pe_callB (callMax2 rfl) (by rfl) T.f_max (by decide +kernel) (pa_cons pe_int (pa_cons (pv 3) pa_nil))))
    (C8.pss_cut (ps_if (PW.pt (pw_or (pt_not (pt_val (pv 4))) (pw_or1 (pt_cmpR op_gt (pe_op op_sub (pv 6) (pv 5)) (pe_op op_sub (pv 1) pe_int) (nomark _))))) (pss_cons (ps_set (i := 7) sc_l_window.nd rfl (Or.inl rfl) (pe_op op_mod (pe_callTy callInt1 (by rfl) T.f_int (by decide +kernel) (pa_cons (pv 3) pa_nil)) (pv 1)))
    (pss_cons (ps_set (i := 8) sc_l_window.nd rfl (Or.inl rfl) (C8.pe_c G_l_draw hr (by omega) (by rfl) (pa_cons (pv 0) (pa_cons pe_int pa_nil))))
    (pss_cons (ps_set (i := 5) sc_l_window.nd rfl (Or.inl rfl) pe_int)
    (pss_cons (ps_set (i := 6) sc_l_window.nd rfl (Or.inl rfl) (pv 7))
    (pss_cons (ps_if (PW.pt (pw_or (pt_cmpR op_gt (pv 7) (pe_op op_sub (pv 1) pe_int) (nomark _)) (pw_or1 (PW.pt (pw_and (pt_cmpR op_eq (pv 8) pe_int (nomark _)) (pw_and1 (pt_cmpR op_ge (pv 7) pe_int (nomark _)))))))) (pss_cons (ps_set (i := 5) sc_l_window.nd rfl (Or.inl rfl) (pe_op op_sub (pv 7) (pv 1)))
    (pss_one (ps_set (i := 6) sc_l_window.nd rfl (Or.inl rfl) pe_int))) pss_nil)
    (pss_one (ps_if (pt_cmpR op_gt (pe_op op_sub (pv 6) (pv 5)) (pe_op op_sub (pv 1) pe_int) (nomark _)) (pss_one (ps_ret (pe_lst pa_nil))) pss_nil))))))) pss_nil)
    (pss_cons (ps_set (i := 9) sc_l_window.nd rfl (Or.inl rfl) (pe_op op_sub (pe_op op_sub (pv 1) pe_int) (pe_op op_sub (pv 6) (pv 5))))
    (pss_cons (ps_set (i := 10) sc_l_window.nd rfl (Or.inl rfl) (C8.pe_c G_l_some hr (by omega) (by rfl) (pa_cons (pv 0) (pa_cons (pv 9) pa_nil))))
    (pss_cons (ps_set (i := 11) sc_l_window.nd rfl (Or.inl rfl) (C8.pe_c G_l_some hr (by omega) (by rfl) (pa_cons (pv 0) (pa_cons (pe_op op_sub (pv 9) (pv 10)) pa_nil))))
    (pss_cons (ps_set (i := 12) sc_l_window.nd rfl (Or.inl rfl) (pe_op op_mod (pe_callTy callInt1 (by rfl) T.f_int (by decide +kernel) (pa_cons (pe_op op_sub (pe_op op_add (pv 2) (pv 5)) (pv 10)) pa_nil)) (pv 1)))
    (pss_one (ps_ret (pe_lst (pa_cons (pv 12) (pa_cons (pe_op op_add (pe_op op_sub (pe_op op_add (pe_op op_add (pv 12) (pv 10)) (pv 6)) (pv 5)) (pv 11)) pa_nil))))))))))))
theorem sc_l_span : FnScope N_l_span ["_law_pool_here", "_law_length_here", "_law_names_here", "_law_before", "_law_changes_here", "_law_k", "_law_straight"] (defScope s_l_span) := ⟨rfl, rfl, rfl, by decide +kernel, rfl, by decide +kernel, by decide +kernel⟩
theorem ok_l_span {f : Addr} {fd : FuncData} (F : FunD K "_law_span" "_law_span" (defArgs s_l_span) (defBody s_l_span) (defScope s_l_span) [] [] f fd) (T : Txt K mg) (G_l_draw : C8.Cal P w K mg base (1) "_law_draw" (sp_l_draw K) []) (G_l_weight : C8.Cal P w K mg base (2) "_law_weight" (sp_l_weight K) []) (G_l_window : C8.Cal P w K mg base (3) "_law_window" (sp_l_window K) []) : FnOk P w K mg base CX0 4 f fd ["_law_pool_here", "_law_length_here", "_law_names_here", "_law_before", "_law_changes_here", "_law_k", "_law_straight"] (sp_l_span K) := by
  refine F.ok sc_l_span (len_l_span K) (fun cdv A outer s H vs Q E hr h => ⟨t_l_span K, PSs.nox ?_, pure_l_span K vs H Q E h⟩)
  exact (pss_cons (ps_set (i := 7) sc_l_span.nd rfl (Or.inl rfl) (pe_callB callLenSeq (by rfl) T.f_len (by decide +kernel) (pa_cons (pv 2) pa_nil)))
    (pss_cons (ps_set (i := 8) sc_l_span.nd rfl (Or.inl rfl) (C8.pe_c G_l_draw hr (by omega) (by rfl) (pa_cons (pv 0) (pa_cons (pv 7) pa_nil))))
    (pss_cons (ps_set (i := 9) sc_l_span.nd rfl (Or.inl rfl) (pe_op op_mod (pe_callTy callInt1 (by rfl) T.f_int (by decide +kernel) (pa_cons (pe_op op_add (pe_op op_add (pv 8) pe_int) (C8.pe_c G_l_draw hr (by omega) (by rfl) (pa_cons (pv 0) (pa_cons (pe_op op_sub (pv 7) pe_int) pa_nil)))) pa_nil)) (pv 7)))
    (C8.pss_cut (ps_if (PW.pt (pw_and (pt_cmpR op_lt (pe_op op_add (pv 5) pe_int) (pv 7) (nomark _)) (pw_and1 (pt_cmpR op_gt (C8.pe_c G_l_draw hr (by omega) (by rfl) (pa_cons (pv 0) (pa_cons pe_int pa_nil))) pe_int (nomark _))))) (pss_cons (ps_set (i := 8) sc_l_span.nd rfl (Or.inl rfl) (pe_op op_add (pv 5) pe_int))
    (pss_cons (ps_set (i := 9) sc_l_span.nd rfl (Or.inl rfl) (C8.pe_c G_l_draw hr (by omega) (by rfl) (pa_cons (pv 0) (pa_cons (pe_op op_add (pv 5) pe_int) pa_nil))))
    (pss_one (ps_if (pt_cmpR op_eq (C8.pe_c G_l_draw hr (by omega) (by rfl) (pa_cons (pv 0) (pa_cons pe_int pa_nil))) pe_int (nomark _)) (pss_cons (ps_set (i := 8) sc_l_span.nd rfl (Or.inl rfl) (pv 9))
    (pss_one (ps_set (i := 9) sc_l_span.nd rfl (Or.inl rfl) (pe_op op_add (pv 5) pe_int)))) pss_nil)))) pss_nil)
    (pss_cons (ps_set (i := 10) sc_l_span.nd rfl (Or.inl rfl) (C8.pe_c G_l_window hr (by omega) (by rfl) (pa_cons (pv 0) (pa_cons (pv 1) (pa_cons (pe_op op_sub (pe_ix ix_list (pv 3) (pv 9) (fun _ _ => rfl)) (pe_ix ix_list (pv 3) (pv 8) (fun _ _ => rfl))) (pa_cons (pe_op op_sub (pe_ix ix_list (pv 4) (pv 9) (fun _ _ => rfl)) (pe_ix ix_list (pv 4) (pv 8) (fun _ _ => rfl))) (pa_cons (pv 6) pa_nil)))))))
    (pss_cons (ps_if (pt_cmpR (op_eqD hr.units) (pv 10) (pe_lst pa_nil) (nomark _)) (pss_one (ps_ret (pe_lst pa_nil))) pss_nil)
    (pss_one (ps_ret (pe_lst (pa_cons (pe_tup (pa_cons (pe_ix ix_list (pv 2) (pv 8) (fun _ _ => rfl)) (pa_cons (pe_ix ix_list (pv 2) (pv 9) (fun _ _ => rfl)) (pa_cons (pe_ix ix_list (pv 10) pe_int (fun _ _ => rfl)) (pa_cons (pe_ix ix_list (pv 10) pe_int (fun _ _ => rfl)) (pa_cons (C8.pe_c G_l_weight hr (by omega) (by rfl) (pa_cons (pv 0) pa_nil)) pa_nil)))))) pa_nil))))))))))
theorem sc_l_case : FnScope N_l_case ["_law_pool_here", "_law_most_events", "_law_most_spans", "_law_most_length"] (defScope s_l_case) := ⟨rfl, rfl, rfl, by decide +kernel, rfl, by decide +kernel, by decide +kernel⟩
theorem ok_l_case {f : Addr} {fd : FuncData} (F : FunD K "_law_case" "_law_case" (defArgs s_l_case) (defBody s_l_case) (defScope s_l_case) [] [] f fd) (T : Txt K mg) (G_l_draw : C8.Cal P w K mg base (1) "_law_draw" (sp_l_draw K) []) (G_l_names : C8.Cal P w K mg base (3) "_law_names" (sp_l_names K) []) (G_l_length : C8.Cal P w K mg base (2) "_law_length" (sp_l_length K) []) (G_l_changes : C8.Cal P w K mg base (2) "_law_changes" (sp_l_changes K) []) (G_l_span : C8.Cal P w K mg base (4) "_law_span" (sp_l_span K) []) : FnOk P w K mg base CX0 5 f fd ["_law_pool_here", "_law_most_events", "_law_most_spans", "_law_most_length"] (sp_l_case K) := by
  refine F.ok sc_l_case (len_l_case K) (fun cdv A outer s H vs Q E hr h => ⟨t_l_case K, PSs.nox ?_, pure_l_case K vs H Q E h⟩)
  exact (pss_cons (ps_set (i := 4) sc_l_case.nd rfl (Or.inr rfl) (C8.pe_c G_l_length hr (by omega) (by rfl) (pa_cons (pv 0) (pa_cons (pv 3) pa_nil))))
    (pss_cons (ps_set (i := 5) sc_l_case.nd rfl (Or.inl rfl) (C8.pe_c G_l_draw hr (by omega) (by rfl) (pa_cons (pv 0) (pa_cons (pe_op op_add (pv 1) pe_int) pa_nil))))
    (pss_cons (ps_set (i := 6) sc_l_case.nd rfl (Or.inl rfl) (C8.pe_c G_l_names hr (by omega) (by rfl) (pa_cons (pv 0) (pa_cons (pv 5) pa_nil))))
    (pss_cons (ps_set (i := 7) sc_l_case.nd rfl (Or.inr rfl) (pe_lc (own := [("_law_name", 15)]) rfl sc_l_case.nd (pi_list (pv 6)) (blkOk_by (N := N_l_case) (sc := defScope s_l_case) (by decide +kernel)) (fun _ _ _ _ _ => (pg_name (i := 15) sc_l_case.nd rfl (Or.inl rfl))) (fun _ _ _ _ _ => pts_nil) (fun _ _ _ _ _ => (C8.pe_c G_l_draw hr (by omega) (by rfl) (pa_cons (pv 0) (pa_cons (pv 4) pa_nil))))))
    (pss_cons (ps_set (i := 8) sc_l_case.nd rfl (Or.inr rfl) (C8.pe_c G_l_changes hr (by omega) (by rfl) (pa_cons (pv 0) (pa_cons (pv 5) (pa_cons (pv 4) pa_nil)))))
    (pss_cons (ps_set (i := 9) sc_l_case.nd rfl (Or.inl rfl) (pe_cmpR op_eq (C8.pe_c G_l_draw hr (by omega) (by rfl) (pa_cons (pv 0) (pa_cons pe_int pa_nil))) pe_int (nomark _)))
    (pss_cons (ps_set (i := 10) sc_l_case.nd rfl (Or.inl rfl) (pe_lst pa_nil))
    (C8.pss_cut (ps_if (pt_cmpR op_gt (pv 5) pe_int (nomark _)) (pss_one (ps_for PassesOwn.never rfl (pi_range1 rfl T.f_range (pa_cons (C8.pe_c G_l_draw hr (by omega) (by rfl) (pa_cons (pv 0) (pa_cons (pe_op op_add (pv 2) pe_int) pa_nil))) pa_nil)) (pg_name (i := 11) sc_l_case.nd rfl (Or.inl rfl)) (pss_cons (ps_set (i := 12) sc_l_case.nd rfl (Or.inl rfl) pe_bl)
    (C8.pss_cut (ps_if (pt_val (pv 9)) (pss_one (ps_set (i := 12) sc_l_case.nd rfl (Or.inl rfl) (pe_cmpR op_eq (C8.pe_c G_l_draw hr (by omega) (by rfl) (pa_cons (pv 0) (pa_cons pe_int pa_nil))) pe_int (nomark _)))) pss_nil)
    (pss_one (ps_set (i := 10) sc_l_case.nd rfl (Or.inl rfl) (pe_op op_cat (pv 10) (C8.pe_c G_l_span hr (by omega) (by rfl) (pa_cons (pv 0) (pa_cons (pv 4) (pa_cons (pv 6) (pa_cons (pv 7) (pa_cons (pv 8) (pa_cons (pv 11) (pa_cons (pv 12) pa_nil))))))))))))))) pss_nil)
    (pss_cons (ps_set (i := 13) sc_l_case.nd rfl (Or.inl rfl) (C8.pe_c G_l_draw hr (by omega) (by rfl) (pa_cons (pv 0) (pa_cons (pe_op op_add (pe_callB callLenSeq (by rfl) T.f_len (by decide +kernel) (pa_cons (pv 10) pa_nil)) pe_int) pa_nil))))
    (pss_cons (ps_set (i := 10) sc_l_case.nd rfl (Or.inl rfl) (pe_op op_cat (pe_slice sl_list (pv 10) (po_some (pv 13)) po_none) (pe_slice sl_list (pv 10) po_none (po_some (pv 13)))))
    (pss_cons (ps_setLc (i := 14) (own := [("_law_k", 11)]) rfl sc_l_case.nd rfl rfl (sw_true rfl rfl rfl (by decide +kernel)) (pi_range1 rfl T.f_range (pa_cons (pv 5) pa_nil)) (blkOk_by (N := N_l_case) (sc := defScope s_l_case) (by decide +kernel)) (fun _ _ _ _ _ => (pg_name (i := 11) sc_l_case.nd rfl (Or.inl rfl))) (fun _ _ _ _ _ => pts_nil) (fun _ _ _ _ _ => (pe_op op_mod (pe_callTy callInt1 (by rfl) T.f_int (by decide +kernel) (pa_cons (pe_op op_add (pe_ix ix_list (pv 7) (pv 11) (fun _ _ => rfl)) (pe_ix ix_list (pv 8) (pv 11) (fun _ _ => rfl))) pa_nil)) (pv 4))))
    (pss_one (ps_ret (pe_lst (pa_cons (pv 4) (pa_cons (pv 6) (pa_cons (pv 10) (pa_cons (pv 7) (pa_cons (pv 14) pa_nil)))))))))))))))))))
theorem sc_l_minutes : FnScope N_l_minutes ["_law_names_here", "_law_minutes_here", "_law_first"] (defScope s_l_minutes) := ⟨rfl, rfl, rfl, by decide +kernel, rfl, by decide +kernel, by decide +kernel⟩
theorem ok_l_minutes {f : Addr} {fd : FuncData} (F : FunD K "_law_minutes" "_law_minutes" (defArgs s_l_minutes) (defBody s_l_minutes) (defScope s_l_minutes) [] [] f fd) (T : Txt K mg) : FnOk P w K mg base CX0 1 f fd ["_law_names_here", "_law_minutes_here", "_law_first"] (sp_l_minutes K) := by
  refine F.ok sc_l_minutes (len_l_minutes K) (fun cdv A outer s H vs Q E hr h => ⟨t_l_minutes K, PSs.nox ?_, pure_l_minutes K vs H Q E h⟩)
  exact (pss_cons (ps_set (i := 3) sc_l_minutes.nd rfl (Or.inl rfl) pe_dnewK)
    (pss_cons (ps_for PassesOwn.never rfl (pi_range1 rfl T.f_range (pa_cons (pe_callB callLenSeq (by rfl) T.f_len (by decide +kernel) (pa_cons (pv 0) pa_nil)) pa_nil)) (pg_name (i := 4) sc_l_minutes.nd rfl (Or.inl rfl)) (pss_cons (ps_set (i := 5) sc_l_minutes.nd rfl (Or.inl rfl) (pe_op op_mod (pe_callTy callInt1 (by rfl) T.f_int (by decide +kernel) (pa_cons (pe_op op_add (pv 4) (pv 2)) pa_nil)) (pe_callB callLenSeq (by rfl) T.f_len (by decide +kernel) (pa_cons (pv 0) pa_nil))))
    (pss_one (ps_asg (pe_ix ix_list (pv 1) (pv 5) (fun _ _ => rfl)) (pg_sub (pv 3) (pe_ix ix_list (pv 0) (pv 5) (fun _ _ => rfl)) (set_dict (u1 hr)))))))
    (pss_one (ps_ret (pv 3)))))
theorem sc_l_is_int : FnScope N_l_is_int ["_law_thing"] (defScope s_l_is_int) := ⟨rfl, rfl, rfl, by decide +kernel, rfl, by decide +kernel, by decide +kernel⟩
theorem ok_l_is_int {f : Addr} {fd : FuncData} (F : FunD K "_law_is_int" "_law_is_int" (defArgs s_l_is_int) (defBody s_l_is_int) (defScope s_l_is_int) [] [] f fd) (T : Txt K mg) : FnOk P w K mg base CX0 1 f fd ["_law_thing"] (sp_l_is_int K) := by
  refine F.ok sc_l_is_int (len_l_is_int K) (fun cdv A outer s H vs Q E hr h => ⟨t_l_is_int K, PSs.nox ?_, pure_l_is_int K vs H Q E h⟩)
  exact (pss_one (ps_ret (pe_and (pe_callB call_isi (by rfl) T.f_isinstance (by decide +kernel) (pa_cons (pv 0) (pa_cons (pe_bltn (v := .ty "int") (by rfl) T.f_int (by decide +kernel) rfl) pa_nil))) (pe_one (pe_not (pe_callB call_isi (by rfl) T.f_isinstance (by decide +kernel) (pa_cons (pv 0) (pa_cons (pe_bltn (v := .ty "bool") (by rfl) T.f_bool (by decide +kernel) rfl) pa_nil))))))))
theorem sc_l_same : FnScope N_l_same ["_law_actual", "_law_due"] (defScope s_l_same) := ⟨rfl, rfl, rfl, by decide +kernel, rfl, by decide +kernel, by decide +kernel⟩
theorem ok0_l_same {f : Addr} {fd : FuncData} (F : FunD K "_law_same" "_law_same" (defArgs s_l_same) (defBody s_l_same) (defScope s_l_same) [] [] f fd) : FnOk P w K mg base CX0 (2 + 0) f fd ["_law_actual", "_law_due"] (sp_l_same K 0) := F.ok sc_l_same (fun _ _ _ _ h => (sp0_l_same K h).elim) (fun _ _ _ _ _ _ _ _ _ h => (sp0_l_same K h).elim)
theorem ok_l_same {f : Addr} {fd : FuncData} (F : FunD K "_law_same" "_law_same" (defArgs s_l_same) (defBody s_l_same) (defScope s_l_same) [] [] f fd) (T : Txt K mg) (G_l_is_int : C8.Cal P w K mg base (1) "_law_is_int" (sp_l_is_int K) []) (n : Nat) (G_l_same : C8.Cal P w K mg base (2 + n) "_law_same" (sp_l_same K n) []) : FnOk P w K mg base CX0 ((2 + n) + 1) f fd ["_law_actual", "_law_due"] (sp_l_same K (n + 1)) := by
  refine F.ok sc_l_same (len_l_same K (n + 1)) (fun cdv A outer s H vs Q E hr h => ⟨t_l_same K n, PSs.nox ?_, pure_l_same K n vs H Q E h⟩)
  exact (pss_cons (ps_if (pt_cmpR op_isN1 (pv 1) pe_non (nomark _)) (pss_one (ps_ret (pe_cmpR op_isN1 (pv 0) pe_non (nomark _)))) pss_nil)
    (pss_cons (ps_if (pt_val (pe_callB call_isi (by rfl) T.f_isinstance (by decide +kernel) (pa_cons (pv 1) (pa_cons (pe_bltn (v := .ty "bool") (by rfl) T.f_bool (by decide +kernel) rfl) pa_nil)))) (pss_one (ps_ret (pe_and (pe_callB call_isi (by rfl) T.f_isinstance (by decide +kernel) (pa_cons (pv 0) (pa_cons (pe_bltn (v := .ty "bool") (by rfl) T.f_bool (by decide +kernel) rfl) pa_nil))) (pe_one (pe_cmpR op_eq (pv 0) (pv 1) (nomark _)))))) pss_nil)
    (pss_cons (ps_if (pt_val (pe_callB call_isi (by rfl) T.f_isinstance (by decide +kernel) (pa_cons (pv 1) (pa_cons (pe_bltn (v := .ty "int") (by rfl) T.f_int (by decide +kernel) rfl) pa_nil)))) (pss_one (ps_ret (pe_and (C8.pe_c G_l_is_int hr (by omega) (by rfl) (pa_cons (pv 0) pa_nil)) (pe_one (pe_cmpR op_eq (pv 0) (pv 1) (nomark _)))))) pss_nil)
    (pss_cons (ps_if (pt_val (pe_callB call_isi (by rfl) T.f_isinstance (by decide +kernel) (pa_cons (pv 1) (pa_cons (pe_bltn (v := .ty "str") (by rfl) T.f_str (by decide +kernel) rfl) pa_nil)))) (pss_one (ps_ret (pe_and (pe_callB call_isi (by rfl) T.f_isinstance (by decide +kernel) (pa_cons (pv 0) (pa_cons (pe_bltn (v := .ty "str") (by rfl) T.f_str (by decide +kernel) rfl) pa_nil))) (pe_one (pe_cmpR op_eq (pv 0) (pv 1) (nomark _)))))) pss_nil)
    (pss_cons (ps_if (pt_val (pe_callB call_isi (by rfl) T.f_isinstance (by decide +kernel) (pa_cons (pv 1) (pa_cons (pe_bltn (v := .ty "dict") (by rfl) T.f_dict (by decide +kernel) rfl) pa_nil)))) (pss_cons ps_never
    (pss_cons ps_never
    (pss_one (ps_ret pe_bl)))) pss_nil)
    (pss_cons (ps_if (PW.pt (pw_and (pt_val (pe_callB call_isi (by rfl) T.f_isinstance (by decide +kernel) (pa_cons (pv 1) (pa_cons (pe_bltn (v := .ty "list") (by rfl) T.f_list (by decide +kernel) rfl) pa_nil)))) (pw_and1 (pt_not (pt_val (pe_callB call_isi (by rfl) T.f_isinstance (by decide +kernel) (pa_cons (pv 0) (pa_cons (pe_bltn (v := .ty "list") (by rfl) T.f_list (by decide +kernel) rfl) pa_nil)))))))) (pss_one (ps_ret pe_bl)) pss_nil)
    (pss_cons (ps_if (PW.pt (pw_and (pt_val (pe_callB call_isi (by rfl) T.f_isinstance (by decide +kernel) (pa_cons (pv 1) (pa_cons (pe_bltn (v := .ty "tuple") (by rfl) T.f_tuple (by decide +kernel) rfl) pa_nil)))) (pw_and1 (pt_not (pt_val (pe_callB call_isi (by rfl) T.f_isinstance (by decide +kernel) (pa_cons (pv 0) (pa_cons (pe_bltn (v := .ty "tuple") (by rfl) T.f_tuple (by decide +kernel) rfl) pa_nil)))))))) (pss_one (ps_ret pe_bl)) pss_nil)
    (pss_cons (ps_if (pt_cmpR op_ne (pe_callB callLenSeq (by rfl) T.f_len (by decide +kernel) (pa_cons (pv 0) pa_nil)) (pe_callB callLenSeq (by rfl) T.f_len (by decide +kernel) (pa_cons (pv 1) pa_nil)) (nomark _)) (pss_one (ps_ret pe_bl)) pss_nil)
    (pss_cons (ps_for PassesOwn.never rfl (pi_range1 rfl T.f_range (pa_cons (pe_callB callLenSeq (by rfl) T.f_len (by decide +kernel) (pa_cons (pv 1) pa_nil)) pa_nil)) (pg_name (i := 3) sc_l_same.nd rfl (Or.inl rfl)) (pss_one (ps_if (pt_not (pt_val (C8.pe_c G_l_same hr (by omega) (by rfl) (pa_cons (pe_ix ix_seq (pv 0) (pv 3) (fun _ _ => rfl)) (pa_cons (pe_ix ix_seq (pv 1) (pv 3) (fun _ _ => rfl)) pa_nil))))) (pss_one (ps_ret pe_bl)) pss_nil)))
    (pss_one (ps_ret pe_bl)))))))))))
theorem sc_l_gone : FnScope N_l_gone ["_law_length_here", "_law_span_here", "_law_minutes_here"] (defScope s_l_gone) := ⟨rfl, rfl, rfl, by decide +kernel, rfl, by decide +kernel, by decide +kernel⟩
theorem ok_l_gone {f : Addr} {fd : FuncData} (F : FunD K "_law_gone" "_law_gone" (defArgs s_l_gone) (defBody s_l_gone) (defScope s_l_gone) [] [] f fd) (T : Txt K mg) : FnOk P w K mg base CX0 1 f fd ["_law_length_here", "_law_span_here", "_law_minutes_here"] (sp_l_gone K) := by
  refine F.ok sc_l_gone (len_l_gone K) (fun cdv A outer s H vs Q E hr h => ⟨t_l_gone K, PSs.nox ?_, pure_l_gone K vs H Q E h⟩)
  exact (pss_cons (ps_set (i := 3) sc_l_gone.nd rfl (Or.inl rfl) (pe_op op_add (pe_ix ix_tup (pv 1) pe_int (fun _ _ => rfl)) (pe_op op_mod (pe_callTy callInt1 (by rfl) T.f_int (by decide +kernel) (pa_cons (pe_op op_sub (pe_op op_sub (pe_dget (u1 hr) (pv 2) (pe_ix ix_tup (pv 1) pe_int (fun _ _ => rfl)) (fun _ _ => rfl)) (pe_dget (u1 hr) (pv 2) (pe_ix ix_tup (pv 1) pe_int (fun _ _ => rfl)) (fun _ _ => rfl))) (pe_ix ix_tup (pv 1) pe_int (fun _ _ => rfl))) pa_nil)) (pv 0))))
    (pss_cons (ps_if (pt_cmpR op_gt (pv 3) (pe_ix ix_tup (pv 1) pe_int (fun _ _ => rfl)) (nomark _)) (pss_one (ps_ret pe_non)) pss_nil)
    (pss_one (ps_ret (pv 3)))))
theorem sc_l_all_gone : FnScope N_l_all_gone ["_law_length_here", "_law_spans", "_law_minutes_here"] (defScope s_l_all_gone) := ⟨rfl, rfl, rfl, by decide +kernel, rfl, by decide +kernel, by decide +kernel⟩
theorem ok_l_all_gone {f : Addr} {fd : FuncData} (F : FunD K "_law_all_gone" "_law_all_gone" (defArgs s_l_all_gone) (defBody s_l_all_gone) (defScope s_l_all_gone) [] [] f fd) (T : Txt K mg) (G_l_gone : C8.Cal P w K mg base (1) "_law_gone" (sp_l_gone K) []) : FnOk P w K mg base CX0 2 f fd ["_law_length_here", "_law_spans", "_law_minutes_here"] (sp_l_all_gone K) := by
  refine F.ok sc_l_all_gone (len_l_all_gone K) (fun cdv A outer s H vs Q E hr h => ⟨t_l_all_gone K, PSs.nox ?_, pure_l_all_gone K vs H Q E h⟩)
  exact (pss_one (ps_ret (pe_lc (own := [("_law_span_here", 3)]) rfl sc_l_all_gone.nd (pi_list (pv 1)) (blkOk_by (N := N_l_all_gone) (sc := defScope s_l_all_gone) (by decide +kernel)) (fun _ _ _ _ _ => (pg_name (i := 3) sc_l_all_gone.nd rfl (Or.inl rfl))) (fun _ _ _ _ _ => pts_nil) (fun _ _ _ _ _ => (C8.pe_c G_l_gone hr (by omega) (by rfl) (pa_cons (pv 0) (pa_cons (pv 3) (pa_cons (pv 2) pa_nil))))))))
theorem sc_l_nearer : FnScope N_l_nearer ["_law_rooms_here", "_law_name", "_law_there", "_law_other", "_law_slack"] (defScope s_l_nearer) := ⟨rfl, rfl, rfl, by decide +kernel, rfl, by decide +kernel, by decide +kernel⟩
theorem ok_l_nearer {f : Addr} {fd : FuncData} (F : FunD K "_law_nearer" "_law_nearer" (defArgs s_l_nearer) (defBody s_l_nearer) (defScope s_l_nearer) [] [] f fd) (T : Txt K mg) : FnOk P w K mg base CX0 1 f fd ["_law_rooms_here", "_law_name", "_law_there", "_law_other", "_law_slack"] (sp_l_nearer K) := by
  refine F.ok sc_l_nearer (len_l_nearer K) (fun cdv A outer s H vs Q E hr h => ⟨t_l_nearer K, PSs.nox ?_, pure_l_nearer K vs H Q E h⟩)
  exact (pss_one (ps_if (pt_cmpR op_notN1 (pe_dget (u1 hr) (pv 0) (pe_tup (pa_cons (pv 1) (pa_cons (pv 2) pa_nil))) (fun _ _ => rfl)) pe_non (nomark _)) (pss_cons (ps_set (i := 5) sc_l_nearer.nd rfl (Or.inl rfl) (pe_op op_add (pe_dget (u1 hr) (pv 0) (pe_tup (pa_cons (pv 1) (pa_cons (pv 2) pa_nil))) (fun _ _ => rfl)) (pv 4)))
    (pss_one (ps_if (PW.pt (pw_or (pt_cmpR op_isN1 (pe_dget (u1 hr) (pv 0) (pe_tup (pa_cons (pv 1) (pa_cons (pv 3) pa_nil))) (fun _ _ => rfl)) pe_non (nomark _)) (pw_or1 (pt_cmpR op_lt (pv 5) (pe_dget (u1 hr) (pv 0) (pe_tup (pa_cons (pv 1) (pa_cons (pv 3) pa_nil))) (fun _ _ => rfl)) (nomark _))))) (pss_one (ps_asg (pv 5) (pg_sub (pv 0) (pe_tup (pa_cons (pv 1) (pa_cons (pv 3) pa_nil))) (set_dict (u1 hr))))) pss_nil))) pss_nil))
theorem sc_l_rooms : FnScope N_l_rooms ["_law_names_here", "_law_spans", "_law_gone_here"] (defScope s_l_rooms) := ⟨rfl, rfl, rfl, by decide +kernel, rfl, by decide +kernel, by decide +kernel⟩
theorem ok_l_rooms {f : Addr} {fd : FuncData} (F : FunD K "_law_rooms" "_law_rooms" (defArgs s_l_rooms) (defBody s_l_rooms) (defScope s_l_rooms) [] [] f fd) (T : Txt K mg) (G_l_nearer : C8.Cal P w K mg base (1) "_law_nearer" (sp_l_nearer K) []) : FnOk P w K mg base CX0 2 f fd ["_law_names_here", "_law_spans", "_law_gone_here"] (sp_l_rooms K) := by
  refine F.ok sc_l_rooms (len_l_rooms K) (fun cdv A outer s H vs Q E hr h => ⟨t_l_rooms K, PSs.nox ?_, pure_l_rooms K vs H Q E h⟩)
  exact (pss_cons (ps_set (i := 3) sc_l_rooms.nd rfl (Or.inl rfl) pe_dnewT)
    (pss_cons (ps_for PassesOwn.never rfl (pi_list (pv 0)) (pg_name (i := 4) sc_l_rooms.nd rfl (Or.inl rfl)) (pss_cons (ps_for PassesOwn.never rfl (pi_list (pv 0)) (pg_name (i := 5) sc_l_rooms.nd rfl (Or.inl rfl)) (pss_one (ps_asg pe_non (pg_sub (pv 3) (pe_tup (pa_cons (pv 4) (pa_cons (pv 5) pa_nil))) (set_dict (u1 hr))))))
    (pss_one (ps_asg pe_int (pg_sub (pv 3) (pe_tup (pa_cons (pv 4) (pa_cons (pv 4) pa_nil))) (set_dict (u1 hr)))))))
    (pss_cons (ps_for PassesOwn.never rfl (pi_list (pv 0)) (pg_name (i := 6) sc_l_rooms.nd rfl (Or.inl rfl)) (pss_one (ps_for PassesOwn.never rfl (pi_range1 rfl T.f_range (pa_cons (pe_callB callLenSeq (by rfl) T.f_len (by decide +kernel) (pa_cons (pv 1) pa_nil)) pa_nil)) (pg_name (i := 7) sc_l_rooms.nd rfl (Or.inl rfl)) (pss_cons (ps_set (i := 8) sc_l_rooms.nd rfl (Or.inl rfl) (pe_ix ix_list (pv 1) (pv 7) (fun _ _ => rfl)))
    (pss_one (ps_for PassesOwn.never rfl (pi_list (pv 0)) (pg_name (i := 4) sc_l_rooms.nd rfl (Or.inl rfl)) (pss_cons (ps_expr (C8.pe_c G_l_nearer hr (by omega) (by rfl) (pa_cons (pv 3) (pa_cons (pv 4) (pa_cons (pe_ix ix_tup (pv 8) pe_int (fun _ _ => rfl)) (pa_cons (pe_ix ix_tup (pv 8) pe_int (fun _ _ => rfl)) (pa_cons (pe_op op_sub (pe_ix ix_tup (pv 8) pe_int (fun _ _ => rfl)) (pe_ix ix_list (pv 2) (pv 7) (fun _ _ => rfl))) pa_nil)))))))
    (pss_one (ps_expr (C8.pe_c G_l_nearer hr (by omega) (by rfl) (pa_cons (pv 3) (pa_cons (pv 4) (pa_cons (pe_ix ix_tup (pv 8) pe_int (fun _ _ => rfl)) (pa_cons (pe_ix ix_tup (pv 8) pe_int (fun _ _ => rfl)) (pa_cons (pe_op op_sub (pe_ix ix_list (pv 2) (pv 7) (fun _ _ => rfl)) (pe_ix ix_tup (pv 8) pe_int (fun _ _ => rfl))) pa_nil)))))))))))))))
    (pss_one (ps_ret (pv 3))))))
theorem sc_law : FnScope N_law ["_law_script"] (defScope s_law) := ⟨rfl, rfl, rfl, by decide +kernel, rfl, by decide +kernel, by decide +kernel⟩
theorem ok_law {f : Addr} {fd : FuncData} (F : FunD K "law" "law" (defArgs s_law) (defBody s_law) (defScope s_law) [] [] f fd) (T : Txt K mg) (G_Net_init : C8.Mak P w K mg base 5 "Net" (C_Net K) (sp_Net_init K) []) (G_Island_init : C8.Mak P w K mg base 8 "Island" (C_Island K) (sp_Island_init K) []) (G_Island_room : C8.Met P w K mg base 3 (C_Island K) "room" (sp_Island_room K) []) (G_Times_init : C8.Mak P w K mg base 3 "Times" (C_Times K) (sp_Times_init K) []) (G_l_pool : C8.Cal P w K mg base (1) "_law_pool" (sp_l_pool K) []) (G_l_draw : C8.Cal P w K mg base (1) "_law_draw" (sp_l_draw K) []) (G_l_case : C8.Cal P w K mg base (5) "_law_case" (sp_l_case K) []) (G_l_minutes : C8.Cal P w K mg base (1) "_law_minutes" (sp_l_minutes K) []) (G_l_same : C8.Cal P w K mg base (5) "_law_same" (sp_l_same K 3) []) (G_l_all_gone : C8.Cal P w K mg base (2) "_law_all_gone" (sp_l_all_gone K) []) (G_l_rooms : C8.Cal P w K mg base (2) "_law_rooms" (sp_l_rooms K) []) : FnOk P w K mg base CX0 10 f fd ["_law_script"] (sp_law K) := by
  refine F.ok sc_law (len_law K) (fun cdv A outer s H vs Q E hr h => ⟨t_law K, PSs.nox ?_, pure_law K vs H Q E h⟩)
  exact (pss_cons (ps_set (i := 1) sc_law.nd rfl (Or.inl rfl) (C8.pe_c G_l_pool hr (by omega) (by rfl) (pa_cons (pv 0) pa_nil)))
    (pss_cons (ps_set (i := 2) sc_law.nd rfl (Or.inl rfl) (C8.pe_c G_l_case hr (by omega) (by rfl) (pa_cons (pv 1) (pa_cons pe_int (pa_cons pe_int (pa_cons pe_int pa_nil))))))
    (pss_cons (ps_set (i := 3) sc_law.nd rfl (Or.inl rfl) (pe_ix ix_list (pv 2) pe_int (fun _ _ => rfl)))
    (pss_cons (ps_set (i := 4) sc_law.nd rfl (Or.inl rfl) (pe_ix ix_list (pv 2) pe_int (fun _ _ => rfl)))
    (pss_cons (ps_set (i := 5) sc_law.nd rfl (Or.inl rfl) (pe_ix ix_list (pv 2) pe_int (fun _ _ => rfl)))
    (pss_cons (ps_set (i := 6) sc_law.nd rfl (Or.inl rfl) (C8.pe_c G_l_minutes hr (by omega) (by rfl) (pa_cons (pv 4) (pa_cons (pe_ix ix_list (pv 2) pe_int (fun _ _ => rfl)) (pa_cons (C8.pe_c G_l_draw hr (by omega) (by rfl) (pa_cons (pv 1) (pa_cons (pe_callB (callMax2 rfl) (by rfl) T.f_max (by decide +kernel) (pa_cons pe_int (pa_cons (pe_callB callLenSeq (by rfl) T.f_len (by decide +kernel) (pa_cons (pv 4) pa_nil)) pa_nil))) pa_nil))) pa_nil)))))
    (pss_cons (ps_set (i := 7) sc_law.nd rfl (Or.inl rfl) (C8.pe_mk G_Island_init hr (by omega) (by rfl) (pa_cons (C8.pe_mk G_Net_init hr (by omega) (by rfl) (pa_cons (pv 3) (pa_cons (pe_callTy callListOf (by rfl) T.f_list (by decide +kernel) (pa_cons (pv 4) pa_nil)) (pa_cons (pe_callTy callListOf (by rfl) T.f_list (by decide +kernel) (pa_cons (pv 5) pa_nil)) pa_nil)))) (pa_cons (C8.pe_mk G_Times_init hr (by omega) (by rfl) (pa_cons (pv 3) (pa_cons (pe_callTy callDictOf (by rfl) T.f_dict (by decide +kernel) (pa_cons (pv 6) pa_nil)) pa_nil))) pa_nil))))
    (pss_cons (ps_set (i := 8) sc_law.nd rfl (Or.inl rfl) (C8.pe_c G_l_rooms hr (by omega) (by rfl) (pa_cons (pv 4) (pa_cons (pv 5) (pa_cons (C8.pe_c G_l_all_gone hr (by omega) (by rfl) (pa_cons (pv 3) (pa_cons (pv 5) (pa_cons (pv 6) pa_nil)))) pa_nil)))))
    (pss_cons (ps_for PassesOwn.never rfl (pi_list (pv 4)) (pg_name (i := 9) sc_law.nd rfl (Or.inl rfl)) (pss_one (ps_for PassesOwn.never rfl (pi_list (pv 4)) (pg_name (i := 10) sc_law.nd rfl (Or.inl rfl)) (pss_one (ps_if (pt_not (pt_val (C8.pe_c G_l_same hr (by omega) (by rfl) (pa_cons (C8.pe_mt G_Island_room hr (by omega) (pv 7) (pa_cons (pv 9) (pa_cons (pv 10) pa_nil))) (pa_cons (pe_dget (u1 hr) (pv 8) (pe_tup (pa_cons (pv 9) (pa_cons (pv 10) pa_nil))) (fun _ _ => rfl)) pa_nil))))) (pss_one (ps_ret pe_bl)) pss_nil)))))
    (pss_one (ps_ret pe_bl)))))))))))
abbrev N_BadNumber_init : List Str := ["self", "number"]
theorem sc_BadNumber_init : FnScope N_BadNumber_init ["self", "number"] (defScope s_BadNumber_init) := ⟨rfl, rfl, rfl, by decide +kernel, rfl, by decide +kernel, by decide +kernel⟩
theorem ok_BadNumber_init {f : Addr} {fd : FuncData} (F : FunD K "__init__" "BadNumber.__init__" (defArgs s_BadNumber_init) (defBody s_BadNumber_init) (defScope s_BadNumber_init) [] [] f fd) (T : Txt K mg) : FnOk P w K mg base CX0 1 f fd ["self", "number"] (spX (C_BadNumber K) ["number"]) := by
  refine F.ok sc_BadNumber_init (fun vs H Q E h => len_spX h) (fun cdv A outer s H vs Q E hr h => ⟨_, PSs.nox ?_, ini1 T.ox_BadNumber T.na_BadNumber_number h⟩)
  exact (pss_one (ps_ost (pv 0) (pv 1)))
abbrev N_BrokenSpan_init : List Str := ["self", "number"]
theorem sc_BrokenSpan_init : FnScope N_BrokenSpan_init ["self", "number"] (defScope s_BrokenSpan_init) := ⟨rfl, rfl, rfl, by decide +kernel, rfl, by decide +kernel, by decide +kernel⟩
theorem ok_BrokenSpan_init {f : Addr} {fd : FuncData} (F : FunD K "__init__" "BrokenSpan.__init__" (defArgs s_BrokenSpan_init) (defBody s_BrokenSpan_init) (defScope s_BrokenSpan_init) [] [] f fd) (T : Txt K mg) : FnOk P w K mg base CX0 1 f fd ["self", "number"] (spX (C_BrokenSpan K) ["number"]) := by
  refine F.ok sc_BrokenSpan_init (fun vs H Q E h => len_spX h) (fun cdv A outer s H vs Q E hr h => ⟨_, PSs.nox ?_, ini1 T.ox_BrokenSpan T.na_BrokenSpan_number h⟩)
  exact (pss_one (ps_ost (pv 0) (pv 1)))
abbrev N_WrongNames_init : List Str := ["self", "name"]
theorem sc_WrongNames_init : FnScope N_WrongNames_init ["self", "name"] (defScope s_WrongNames_init) := ⟨rfl, rfl, rfl, by decide +kernel, rfl, by decide +kernel, by decide +kernel⟩
theorem ok_WrongNames_init {f : Addr} {fd : FuncData} (F : FunD K "__init__" "WrongNames.__init__" (defArgs s_WrongNames_init) (defBody s_WrongNames_init) (defScope s_WrongNames_init) [] [] f fd) (T : Txt K mg) : FnOk P w K mg base CX0 1 f fd ["self", "name"] (spX (C_WrongNames K) ["name"]) := by
  refine F.ok sc_WrongNames_init (fun vs H Q E h => len_spX h) (fun cdv A outer s H vs Q E hr h => ⟨_, PSs.nox ?_, ini1 T.ox_WrongNames T.na_WrongNames_name h⟩)
  exact (pss_one (ps_ost (pv 0) (pv 1)))
abbrev N_Net_iter : List Str := ["self"]
theorem sc_Net_iter : FnScope N_Net_iter ["self"] (defScope s_Net_iter) := ⟨rfl, rfl, rfl, by decide +kernel, rfl, by decide +kernel, by decide +kernel⟩
theorem okN_Net_iter {f : Addr} {fd : FuncData} (F : FunD K "__iter__" "Net.__iter__" (defArgs s_Net_iter) (defBody s_Net_iter) (defScope s_Net_iter) [] [] f fd) (T : Txt K mg) : FnN P w K mg base 1 f fd ["self"] (spYoung K (C_Net K) "_events") := by
  refine fn_young F sc_Net_iter (fun n vs H Q E h => by
    obtain ⟨a, dx, fs, l, zs, rfl, h1, h2, h3, h4⟩ := h
    rfl) (fun cdv A outer s H vs Q E hr h => ⟨tRet (tCB (ItX.rIterN K s.heap.objs.size) (tCons (tFldC (C_Net K) (tVar 0) "_events") tNil)), PSs.nox ?_, ?_⟩)
  · exact (pss_one (ps_ret (pe_callB ItX.call_iterN (by rfl) T.f_iter (by decide +kernel) (pa_cons (pe_fldC T.cls_Net T.na_Net__events (pv 0)) pa_nil))))
  · obtain ⟨a, dx, fs, l, zs, rfl, h1, h2, h3, h4⟩ := h
    exact ⟨_, rfl, a, dx, fs, _, rfl, h1, h2, l, zs, rfl, h3, h4⟩
abbrev N_Times_iter : List Str := ["self"]
theorem sc_Times_iter : FnScope N_Times_iter ["self"] (defScope s_Times_iter) := ⟨rfl, rfl, rfl, by decide +kernel, rfl, by decide +kernel, by decide +kernel⟩
theorem okN_Times_iter {f : Addr} {fd : FuncData} (F : FunD K "__iter__" "Times.__iter__" (defArgs s_Times_iter) (defBody s_Times_iter) (defScope s_Times_iter) [] [] f fd) (T : Txt K mg) : FnN P w K mg base 1 f fd ["self"] (spYoungK (C_Times K) "_minutes") := by
  refine fn_young F sc_Times_iter (fun n vs H Q E h => by
    obtain ⟨a, dx, fs, d, o, kvs, rfl, h1, h2, h3, h4⟩ := h
    rfl) (fun cdv A outer s H vs Q E hr h => ⟨tRet (tCB (rIterK s.heap.objs.size) (tCons (tFldC (C_Times K) (tVar 0) "_minutes") tNil)), PSs.nox ?_, ?_⟩)
  · exact (pss_one (ps_ret (pe_callB call_iterK (by rfl) T.f_iter (by decide +kernel) (pa_cons (pe_fldC T.cls_Times T.na_Times__minutes (pv 0)) pa_nil))))
  · obtain ⟨a, dx, fs, d, o, kvs, rfl, h1, h2, h3, h4⟩ := h
    exact ⟨_, rfl, a, dx, fs, _, rfl, h1, h2, d, o, kvs, rfl, h3, h4⟩
end
theorem facts {P : Program} {w : World} {K : PySem.W.Frag} {h : Heap} {mg : Str → Option Value} {f : Addr} (X : K.In h) (G : h.Ns mainGlobals mg) (hfa : mg ("law" : Str) = some (.ref f)) (c : SaysX bs fas fns K) :
    ∃ fd : FuncData, (∀ (s : Shared) (v : Value), BindsTo s fd ⟨[v], []⟩ [("_law_script", v)]) ∧ ∀ base : Heap, K.In base → base.Ns mainGlobals mg → FnOk P w K mg base CX0 10 f fd ["_law_script"] (sp_law K) := by
  obtain ⟨fd_check_range, F_check_range⟩ := c.def_ 0 (d := d_check_range) rfl
  have g_check_range := He.glo_ok X G (c.fact 0 (f := .glo "check_range") rfl)
  obtain ⟨fd_check_round_length, F_check_round_length⟩ := c.def_ 1 (d := d_check_round_length) rfl
  have g_check_round_length := He.glo_ok X G (c.fact 1 (f := .glo "check_round_length") rfl)
  obtain ⟨fd_check_count, F_check_count⟩ := c.def_ 2 (d := d_check_count) rfl
  have g_check_count := He.glo_ok X G (c.fact 2 (f := .glo "check_count") rfl)
  obtain ⟨fd_is_name, F_is_name⟩ := c.def_ 3 (d := d_is_name) rfl
  have g_is_name := He.glo_ok X G (c.fact 3 (f := .glo "is_name") rfl)
  obtain ⟨fd_check_name, F_check_name⟩ := c.def_ 4 (d := d_check_name) rfl
  have g_check_name := He.glo_ok X G (c.fact 4 (f := .glo "check_name") rfl)
  obtain ⟨fd_check_event, F_check_event⟩ := c.def_ 5 (d := d_check_event) rfl
  have g_check_event := He.glo_ok X G (c.fact 5 (f := .glo "check_event") rfl)
  obtain ⟨fd_Net_contains, F_Net_contains⟩ := c.def_ 6 (d := d_Net_contains) rfl
  have m_Net_contains := He.meth_ok (c.fact 6 (f := .meth "Net" "__contains__") rfl)
  obtain ⟨fd_check_known, F_check_known⟩ := c.def_ 7 (d := d_check_known) rfl
  have g_check_known := He.glo_ok X G (c.fact 7 (f := .glo "check_known") rfl)
  obtain ⟨fd_check_span, F_check_span⟩ := c.def_ 8 (d := d_check_span) rfl
  have g_check_span := He.glo_ok X G (c.fact 8 (f := .glo "check_span") rfl)
  obtain ⟨fd_check_net, F_check_net⟩ := c.def_ 9 (d := d_check_net) rfl
  have g_check_net := He.glo_ok X G (c.fact 9 (f := .glo "check_net") rfl)
  obtain ⟨fd_Net_init, F_Net_init⟩ := c.def_ 10 (d := d_Net_init) rfl
  have m_Net_init := He.mkr_ok (c.fact 10 (f := .mkr "Net") rfl)
  obtain ⟨fd_Net_round_length, F_Net_round_length⟩ := c.def_ 11 (d := d_Net_round_length) rfl
  have m_Net_round_length := bProp_ok (c.b 10 (f := bProp "Net" "round_length") rfl)
  obtain ⟨fd_Net_spans, F_Net_spans⟩ := c.def_ 12 (d := d_Net_spans) rfl
  have m_Net_spans := bProp_ok (c.b 11 (f := bProp "Net" "spans") rfl)
  obtain ⟨fd_Times_round_length, F_Times_round_length⟩ := c.def_ 13 (d := d_Times_round_length) rfl
  have m_Times_round_length := bProp_ok (c.b 12 (f := bProp "Times" "round_length") rfl)
  obtain ⟨fd_Times_contains, F_Times_contains⟩ := c.def_ 14 (d := d_Times_contains) rfl
  have m_Times_contains := He.meth_ok (c.fact 11 (f := .meth "Times" "__contains__") rfl)
  obtain ⟨fd_check_names, F_check_names⟩ := c.def_ 15 (d := d_check_names) rfl
  have g_check_names := He.glo_ok X G (c.fact 12 (f := .glo "check_names") rfl)
  obtain ⟨fd_Times_getitem, F_Times_getitem⟩ := c.def_ 16 (d := d_Times_getitem) rfl
  have m_Times_getitem := He.meth_ok (c.fact 13 (f := .meth "Times" "__getitem__") rfl)
  obtain ⟨fd_on_span, F_on_span⟩ := c.def_ 17 (d := d_on_span) rfl
  have g_on_span := He.glo_ok X G (c.fact 14 (f := .glo "on_span") rfl)
  obtain ⟨fd_on_all_spans, F_on_all_spans⟩ := c.def_ 18 (d := d_on_all_spans) rfl
  have g_on_all_spans := He.glo_ok X G (c.fact 15 (f := .glo "on_all_spans") rfl)
  obtain ⟨fd_kept_minutes, F_kept_minutes⟩ := c.def_ 19 (d := d_kept_minutes) rfl
  have g_kept_minutes := He.glo_ok X G (c.fact 16 (f := .glo "kept_minutes") rfl)
  obtain ⟨fd_arcs_of, F_arcs_of⟩ := c.def_ 20 (d := d_arcs_of) rfl
  have g_arcs_of := He.glo_ok X G (c.fact 17 (f := .glo "arcs_of") rfl)
  obtain ⟨fd_walk_along, F_walk_along⟩ := c.def_ 21 (d := d_walk_along) rfl
  have g_walk_along := He.glo_ok X G (c.fact 18 (f := .glo "walk_along") rfl)
  obtain ⟨fd_least_walks, F_least_walks⟩ := c.def_ 22 (d := d_least_walks) rfl
  have g_least_walks := He.glo_ok X G (c.fact 19 (f := .glo "least_walks") rfl)
  obtain ⟨fd_joined, F_joined⟩ := c.def_ 23 (d := d_joined) rfl
  have g_joined := He.glo_ok X G (c.fact 20 (f := .glo "joined") rfl)
  obtain ⟨fd_tree_of, F_tree_of⟩ := c.def_ 24 (d := d_tree_of) rfl
  have g_tree_of := He.glo_ok X G (c.fact 21 (f := .glo "tree_of") rfl)
  obtain ⟨fd_Netcheck_number, F_Netcheck_number⟩ := c.def_ 25 (d := d_Netcheck_number) rfl
  have m_Netcheck_number := He.meth_ok (c.fact 22 (f := .meth "Net" "_check_number") rfl)
  obtain ⟨fd_Net_span, F_Net_span⟩ := c.def_ 26 (d := d_Net_span) rfl
  have m_Net_span := He.meth_ok (c.fact 23 (f := .meth "Net" "span") rfl)
  obtain ⟨fd_Base_path, F_Base_path⟩ := c.def_ 27 (d := d_Base_path) rfl
  have m_Base_path := He.meth_ok (c.fact 24 (f := .meth "Base" "path") rfl)
  obtain ⟨fd_Basebase_ring, F_Basebase_ring⟩ := c.def_ 28 (d := d_Basebase_ring) rfl
  have m_Basebase_ring := He.meth_ok (c.fact 25 (f := .meth "Base" "_base_ring") rfl)
  obtain ⟨fd_Base_init, F_Base_init⟩ := c.def_ 29 (d := d_Base_init) rfl
  have m_Base_init := He.mkr_ok (c.fact 26 (f := .mkr "Base") rfl)
  obtain ⟨fd_Base_rings, F_Base_rings⟩ := c.def_ 30 (d := d_Base_rings) rfl
  have m_Base_rings := bProp_ok (c.b 13 (f := bProp "Base" "rings") rfl)
  obtain ⟨fd_sum_over, F_sum_over⟩ := c.def_ 31 (d := d_sum_over) rfl
  have g_sum_over := He.glo_ok X G (c.fact 27 (f := .glo "sum_over") rfl)
  obtain ⟨fd_turn_of, F_turn_of⟩ := c.def_ 32 (d := d_turn_of) rfl
  have g_turn_of := He.glo_ok X G (c.fact 28 (f := .glo "turn_of") rfl)
  obtain ⟨fd_rounds_on, F_rounds_on⟩ := c.def_ 33 (d := d_rounds_on) rfl
  have g_rounds_on := He.glo_ok X G (c.fact 29 (f := .glo "rounds_on") rfl)
  obtain ⟨fd_Island_init, F_Island_init⟩ := c.def_ 34 (d := d_Island_init) rfl
  have m_Island_init := He.mkr_ok (c.fact 30 (f := .mkr "Island") rfl)
  obtain ⟨fd_Island_room, F_Island_room⟩ := c.def_ 35 (d := d_Island_room) rfl
  have m_Island_room := He.meth_ok (c.fact 31 (f := .meth "Island" "room") rfl)
  obtain ⟨fd_Times_init, F_Times_init⟩ := c.def_ 36 (d := d_Times_init) rfl
  have m_Times_init := He.mkr_ok (c.fact 32 (f := .mkr "Times") rfl)
  obtain ⟨fd_l_pool, F_l_pool⟩ := c.def_ 37 (d := d_l_pool) rfl
  have g_l_pool := He.glo_ok X G (c.fact 33 (f := .glo "_law_pool") rfl)
  obtain ⟨fd_l_draw, F_l_draw⟩ := c.def_ 38 (d := d_l_draw) rfl
  have g_l_draw := He.glo_ok X G (c.fact 34 (f := .glo "_law_draw") rfl)
  obtain ⟨fd_l_word, F_l_word⟩ := c.def_ 39 (d := d_l_word) rfl
  have g_l_word := He.glo_ok X G (c.fact 35 (f := .glo "_law_word") rfl)
  obtain ⟨fd_l_names, F_l_names⟩ := c.def_ 40 (d := d_l_names) rfl
  have g_l_names := He.glo_ok X G (c.fact 36 (f := .glo "_law_names") rfl)
  obtain ⟨fd_l_length, F_l_length⟩ := c.def_ 41 (d := d_l_length) rfl
  have g_l_length := He.glo_ok X G (c.fact 37 (f := .glo "_law_length") rfl)
  obtain ⟨fd_l_changes, F_l_changes⟩ := c.def_ 42 (d := d_l_changes) rfl
  have g_l_changes := He.glo_ok X G (c.fact 38 (f := .glo "_law_changes") rfl)
  obtain ⟨fd_l_weight, F_l_weight⟩ := c.def_ 43 (d := d_l_weight) rfl
  have g_l_weight := He.glo_ok X G (c.fact 39 (f := .glo "_law_weight") rfl)
  obtain ⟨fd_l_some, F_l_some⟩ := c.def_ 44 (d := d_l_some) rfl
  have g_l_some := He.glo_ok X G (c.fact 40 (f := .glo "_law_some") rfl)
  obtain ⟨fd_l_window, F_l_window⟩ := c.def_ 45 (d := d_l_window) rfl
  have g_l_window := He.glo_ok X G (c.fact 41 (f := .glo "_law_window") rfl)
  obtain ⟨fd_l_span, F_l_span⟩ := c.def_ 46 (d := d_l_span) rfl
  have g_l_span := He.glo_ok X G (c.fact 42 (f := .glo "_law_span") rfl)
  obtain ⟨fd_l_case, F_l_case⟩ := c.def_ 47 (d := d_l_case) rfl
  have g_l_case := He.glo_ok X G (c.fact 43 (f := .glo "_law_case") rfl)
  obtain ⟨fd_l_minutes, F_l_minutes⟩ := c.def_ 48 (d := d_l_minutes) rfl
  have g_l_minutes := He.glo_ok X G (c.fact 44 (f := .glo "_law_minutes") rfl)
  obtain ⟨fd_l_is_int, F_l_is_int⟩ := c.def_ 49 (d := d_l_is_int) rfl
  have g_l_is_int := He.glo_ok X G (c.fact 45 (f := .glo "_law_is_int") rfl)
  obtain ⟨fd_l_same, F_l_same⟩ := c.def_ 50 (d := d_l_same) rfl
  have g_l_same := He.glo_ok X G (c.fact 46 (f := .glo "_law_same") rfl)
  obtain ⟨fd_l_gone, F_l_gone⟩ := c.def_ 51 (d := d_l_gone) rfl
  have g_l_gone := He.glo_ok X G (c.fact 47 (f := .glo "_law_gone") rfl)
  obtain ⟨fd_l_all_gone, F_l_all_gone⟩ := c.def_ 52 (d := d_l_all_gone) rfl
  have g_l_all_gone := He.glo_ok X G (c.fact 48 (f := .glo "_law_all_gone") rfl)
  obtain ⟨fd_l_nearer, F_l_nearer⟩ := c.def_ 53 (d := d_l_nearer) rfl
  have g_l_nearer := He.glo_ok X G (c.fact 49 (f := .glo "_law_nearer") rfl)
  obtain ⟨fd_l_rooms, F_l_rooms⟩ := c.def_ 54 (d := d_l_rooms) rfl
  have g_l_rooms := He.glo_ok X G (c.fact 50 (f := .glo "_law_rooms") rfl)
  obtain ⟨fd_law, F_law⟩ := c.def_ 55 (d := d_law) rfl
  have g_law := He.glo_ok X G (c.fact 51 (f := .glo "law") rfl)
  obtain ⟨fd_Net_iter, F_Net_iter⟩ := c.def_ 56 (d := d_Net_iter) rfl
  have m_Net_iter := He.meth_ok (c.fact 52 (f := .meth "Net" "__iter__") rfl)
  obtain ⟨fd_Times_iter, F_Times_iter⟩ := c.def_ 57 (d := d_Times_iter) rfl
  have m_Times_iter := He.meth_ok (c.fact 53 (f := .meth "Times" "__iter__") rfl)
  obtain ⟨fd_BadNumber_init, F_BadNumber_init⟩ := c.def_ 58 (d := d_BadNumber_init) rfl
  have m_BadNumber_init := He.meth_ok (c.fact 54 (f := .meth "BadNumber" "__init__") rfl)
  obtain ⟨fd_BrokenSpan_init, F_BrokenSpan_init⟩ := c.def_ 59 (d := d_BrokenSpan_init) rfl
  have m_BrokenSpan_init := He.meth_ok (c.fact 55 (f := .meth "BrokenSpan" "__init__") rfl)
  obtain ⟨fd_WrongNames_init, F_WrongNames_init⟩ := c.def_ 60 (d := d_WrongNames_init) rfl
  have m_WrongNames_init := He.meth_ok (c.fact 56 (f := .meth "WrongNames" "__init__") rfl)
  have t_f_len := He.free_ok X G (c.fact 57 (f := .free "len") rfl)
  have t_f_max := He.free_ok X G (c.fact 58 (f := .free "max") rfl)
  have t_f_dict := He.free_ok X G (c.fact 59 (f := .free "dict") rfl)
  have t_f_list := He.free_ok X G (c.fact 60 (f := .free "list") rfl)
  have t_cls_Net := He.cls_ok (c.fact 61 (f := .cls "Net") rfl)
  have t_na_Net__round_length := He.noat_ok (c.fact 62 (f := .noat "Net" "_round_length") rfl)
  have t_na_Net__events := He.noat_ok (c.fact 63 (f := .noat "Net" "_events") rfl)
  have t_na_Net__spans := He.noat_ok (c.fact 64 (f := .noat "Net" "_spans") rfl)
  have t_g_Net := He.glo_ok X G (c.fact 65 (f := .glo "Net") rfl)
  have t_rd_Net := bRead_ok (c.b 0 (f := bRead "Net") rfl)
  have t_cv_Net_EVENTS := bCval_ok (c.b 1 (f := bCval "Net" "EVENTS" 12) rfl)
  have t_f_enumerate := He.free_ok X G (c.fact 66 (f := .free "enumerate") rfl)
  have t_cv_Net_SPANS := bCval_ok (c.b 2 (f := bCval "Net" "SPANS" 24) rfl)
  have t_cv_Net_LONGEST := bCval_ok (c.b 3 (f := bCval "Net" "LONGEST" 120) rfl)
  have t_cv_Net_SHORTEST := bCval_ok (c.b 4 (f := bCval "Net" "SHORTEST" 3) rfl)
  have t_c_LONGEST_NAME : ∃ u, mg "LONGEST_NAME" = some u ∧ RelV (.int 8) u := (He.int_ok X G (c.fact 67 (f := .int "LONGEST_NAME" (8)) rfl)).elim fun t e => ⟨_, e, ⟨t, rfl⟩⟩
  have z_c_LETTERS : ("abcdefghijklmnopqrstuvwxyz" : Str) = S Z26 := by decide +kernel
  have t_c_LETTERS : ∃ u, mg "LETTERS" = some u ∧ RelV (.str (S Z26)) u := (He.str_ok X G (c.fact 68 (f := .str "LETTERS" "abcdefghijklmnopqrstuvwxyz") rfl)).elim fun t e => ⟨_, e, ⟨t, by rw [z_c_LETTERS]⟩⟩
  have z_c_DIGITS : ("0123456789" : Str) = S Z10 := by decide +kernel
  have t_c_DIGITS : ∃ u, mg "DIGITS" = some u ∧ RelV (.str (S Z10)) u := (He.str_ok X G (c.fact 69 (f := .str "DIGITS" "0123456789") rfl)).elim fun t e => ⟨_, e, ⟨t, by rw [z_c_DIGITS]⟩⟩
  have t_f_all := He.free_ok X G (c.fact 70 (f := .free "all") rfl)
  have t_cv_Net_HEAVIEST := bCval_ok (c.b 5 (f := bCval "Net" "HEAVIEST" 99) rfl)
  have t_cls_Island := He.cls_ok (c.fact 71 (f := .cls "Island") rfl)
  have t_na_Island__net := He.noat_ok (c.fact 72 (f := .noat "Island" "_net") rfl)
  have t_na_Island__times := He.noat_ok (c.fact 73 (f := .noat "Island" "_times") rfl)
  have t_cls_Base := He.cls_ok (c.fact 74 (f := .cls "Base") rfl)
  have t_na_Island__rings := He.noat_ok (c.fact 75 (f := .noat "Island" "_rings") rfl)
  have t_na_Island__rounds := He.noat_ok (c.fact 76 (f := .noat "Island" "_rounds") rfl)
  have t_f_zip := He.free_ok X G (c.fact 77 (f := .free "zip") rfl)
  have t_na_Island__forward := He.noat_ok (c.fact 78 (f := .noat "Island" "_forward") rfl)
  have t_na_Island__backward := He.noat_ok (c.fact 79 (f := .noat "Island" "_backward") rfl)
  have t_na_Island__rooms := He.noat_ok (c.fact 80 (f := .noat "Island" "_rooms") rfl)
  have t_na_Island__last := He.noat_ok (c.fact 81 (f := .noat "Island" "_last") rfl)
  have t_f_iter := He.free_ok X G (c.fact 82 (f := .free "iter") rfl)
  have t_g_BrokenSpan := He.glo_ok X G (c.fact 83 (f := .glo "BrokenSpan") rfl)
  have t_ox_BrokenSpan := bOex_ok (c.b 6 (f := bOex "BrokenSpan") rfl)
  have t_na_BrokenSpan_number := He.noat_ok (c.fact 84 (f := .noat "BrokenSpan" "number") rfl)
  have t_cls_Times := He.cls_ok (c.fact 85 (f := .cls "Times") rfl)
  have t_g_BadNumber := He.glo_ok X G (c.fact 86 (f := .glo "BadNumber") rfl)
  have t_ox_BadNumber := bOex_ok (c.b 7 (f := bOex "BadNumber") rfl)
  have t_na_BadNumber_number := He.noat_ok (c.fact 87 (f := .noat "BadNumber" "number") rfl)
  have t_g_WrongNames := He.glo_ok X G (c.fact 88 (f := .glo "WrongNames") rfl)
  have t_ox_WrongNames := bOex_ok (c.b 8 (f := bOex "WrongNames") rfl)
  have t_na_WrongNames_name := He.noat_ok (c.fact 89 (f := .noat "WrongNames" "name") rfl)
  have t_na_Times__round_length := He.noat_ok (c.fact 90 (f := .noat "Times" "_round_length") rfl)
  have t_na_Times__minutes := He.noat_ok (c.fact 91 (f := .noat "Times" "_minutes") rfl)
  have t_na_Base__net := He.noat_ok (c.fact 92 (f := .noat "Base" "_net") rfl)
  have t_na_Base__tree := He.noat_ok (c.fact 93 (f := .noat "Base" "_tree") rfl)
  have t_f_range := He.free_ok X G (c.fact 94 (f := .free "range") rfl)
  have t_na_Base__closing := He.noat_ok (c.fact 95 (f := .noat "Base" "_closing") rfl)
  have t_na_Base__arcs := He.noat_ok (c.fact 96 (f := .noat "Base" "_arcs") rfl)
  have t_na_Base__rings := He.noat_ok (c.fact 97 (f := .noat "Base" "_rings") rfl)
  have t_f_sum := He.free_ok X G (c.fact 98 (f := .free "sum") rfl)
  have t_f_int := He.free_ok X G (c.fact 99 (f := .free "int") rfl)
  have t_f_str := He.free_ok X G (c.fact 100 (f := .free "str") rfl)
  have t_f_min := He.free_ok X G (c.fact 101 (f := .free "min") rfl)
  have t_f_bool := He.free_ok X G (c.fact 102 (f := .free "bool") rfl)
  have t_f_isinstance := He.free_ok X G (c.fact 103 (f := .free "isinstance") rfl)
  have t_f_tuple := He.free_ok X G (c.fact 104 (f := .free "tuple") rfl)
  have t_g_MinuteError := He.glo_ok X G (c.fact 105 (f := .glo "MinuteError") rfl)
  have t_xf := bXall_ok (c.b 9 (f := bXall exs) rfl)
  have t_g_Base := He.glo_ok X G (c.fact 106 (f := .glo "Base") rfl)
  have t_g_Island := He.glo_ok X G (c.fact 107 (f := .glo "Island") rfl)
  have t_g_Times := He.glo_ok X G (c.fact 108 (f := .glo "Times") rfl)
  have T : Txt K mg := ⟨t_f_len, t_f_max, t_f_dict, t_f_list, t_cls_Net, t_na_Net__round_length, t_na_Net__events, t_na_Net__spans, t_g_Net, t_rd_Net, t_cv_Net_EVENTS, t_f_enumerate, t_cv_Net_SPANS, t_cv_Net_LONGEST, t_cv_Net_SHORTEST, t_c_LONGEST_NAME, t_c_LETTERS, t_c_DIGITS, t_f_all, t_cv_Net_HEAVIEST, t_cls_Island, t_na_Island__net, t_na_Island__times, t_cls_Base, t_na_Island__rings, t_na_Island__rounds, t_f_zip, t_na_Island__forward, t_na_Island__backward, t_na_Island__rooms, t_na_Island__last, t_f_iter, t_g_BrokenSpan, t_ox_BrokenSpan, t_na_BrokenSpan_number, t_cls_Times, t_g_BadNumber, t_ox_BadNumber, t_na_BadNumber_number, t_g_WrongNames, t_ox_WrongNames, t_na_WrongNames_name, t_na_Times__round_length, t_na_Times__minutes, t_na_Base__net, t_na_Base__tree, t_f_range, t_na_Base__closing, t_na_Base__arcs, t_na_Base__rings, t_f_sum, t_f_int, t_f_str, t_f_min, t_f_bool, t_f_isinstance, t_f_tuple, t_g_MinuteError, t_xf, t_g_Base, t_g_Island, t_g_Times⟩
  have e := hfa.symm.trans g_law
  cases e
  have b := FunD.bindsA (ps := ["_law_script"]) F_law fun _ _ _ _ _ _ us hl => match us, hl with | [_], _ => rfl
  refine ⟨fd_law, fun s v => b s [v] rfl, fun base _ _ => ?_⟩
  have GX_BadNumber : XMk P w K mg base 1 "BadNumber" (C_BadNumber K) (spX (C_BadNumber K) ["number"]) := ⟨_, fd_BadNumber_init, _, ⟨t_ox_BadNumber, m_BadNumber_init.at_, beq_iff_eq.mp m_BadNumber_init.fn⟩, ok_BadNumber_init F_BadNumber_init T, F_BadNumber_init.bindsN (ps := ["self", "number"]) (fun _ _ _ _ _ _ us hl => match us, hl with | [_, _], _ => rfl), t_g_BadNumber⟩
  have GX_BrokenSpan : XMk P w K mg base 1 "BrokenSpan" (C_BrokenSpan K) (spX (C_BrokenSpan K) ["number"]) := ⟨_, fd_BrokenSpan_init, _, ⟨t_ox_BrokenSpan, m_BrokenSpan_init.at_, beq_iff_eq.mp m_BrokenSpan_init.fn⟩, ok_BrokenSpan_init F_BrokenSpan_init T, F_BrokenSpan_init.bindsN (ps := ["self", "number"]) (fun _ _ _ _ _ _ us hl => match us, hl with | [_, _], _ => rfl), t_g_BrokenSpan⟩
  have GX_WrongNames : XMk P w K mg base 1 "WrongNames" (C_WrongNames K) (spX (C_WrongNames K) ["name"]) := ⟨_, fd_WrongNames_init, _, ⟨t_ox_WrongNames, m_WrongNames_init.at_, beq_iff_eq.mp m_WrongNames_init.fn⟩, ok_WrongNames_init F_WrongNames_init T, F_WrongNames_init.bindsN (ps := ["self", "name"]) (fun _ _ _ _ _ _ us hl => match us, hl with | [_, _], _ => rfl), t_g_WrongNames⟩
  have GI_Net_iter : ItrN P w K mg base 1 (C_Net K) (spYoung K (C_Net K) "_events") := ⟨_, fd_Net_iter, _, m_Net_iter.at_, m_Net_iter.fn, okN_Net_iter F_Net_iter T, F_Net_iter.bindsN (ps := ["self"]) (fun _ _ _ _ _ _ us hl => match us, hl with | [_], _ => rfl)⟩
  have GI_Times_iter : ItrN P w K mg base 1 (C_Times K) (spYoungK (C_Times K) "_minutes") := ⟨_, fd_Times_iter, _, m_Times_iter.at_, m_Times_iter.fn, okN_Times_iter F_Times_iter T, F_Times_iter.bindsN (ps := ["self"]) (fun _ _ _ _ _ _ us hl => match us, hl with | [_], _ => rfl)⟩
  have G_check_range : C8.Cal P w K mg base (1) "check_range" (sp_check_range K) [] := ⟨_, fd_check_range, _, [], ok_check_range F_check_range T , g_check_range, F_check_range.kp, F_check_range.bindsN (ps := ["number", "low", "high"]) (fun _ _ _ _ _ _ us hl => match us, hl with | [_, _, _], _ => rfl), .nil⟩
  have G_check_round_length : C8.Cal P w K mg base (2) "check_round_length" (sp_check_round_length K) [] := ⟨_, fd_check_round_length, _, [], ok_check_round_length F_check_round_length T G_check_range, g_check_round_length, F_check_round_length.kp, F_check_round_length.bindsN (ps := ["round_length"]) (fun _ _ _ _ _ _ us hl => match us, hl with | [_], _ => rfl), .nil⟩
  have G_check_count : C8.Cal P w K mg base (1) "check_count" (sp_check_count K) [] := ⟨_, fd_check_count, _, [], ok_check_count F_check_count T , g_check_count, F_check_count.kp, F_check_count.bindsN (ps := ["count", "limit"]) (fun _ _ _ _ _ _ us hl => match us, hl with | [_, _], _ => rfl), .nil⟩
  have G_is_name : C8.Cal P w K mg base (1) "is_name" (sp_is_name K) [] := ⟨_, fd_is_name, _, [], ok_is_name F_is_name T , g_is_name, F_is_name.kp, F_is_name.bindsN (ps := ["text"]) (fun _ _ _ _ _ _ us hl => match us, hl with | [_], _ => rfl), .nil⟩
  have G_check_name : C8.Cal P w K mg base (2) "check_name" (sp_check_name K) [] := ⟨_, fd_check_name, _, [], ok_check_name F_check_name T G_is_name, g_check_name, F_check_name.kp, F_check_name.bindsN (ps := ["text"]) (fun _ _ _ _ _ _ us hl => match us, hl with | [_], _ => rfl), .nil⟩
  have G_check_event : C8.Cal P w K mg base (3) "check_event" (sp_check_event K) [] := ⟨_, fd_check_event, _, [], ok_check_event F_check_event T G_check_name, g_check_event, F_check_event.kp, F_check_event.bindsN (ps := ["name", "before"]) (fun _ _ _ _ _ _ us hl => match us, hl with | [_, _], _ => rfl), .nil⟩
  have G_Net_contains : Spc P w K mg base 1 (C_Net K) "__contains__" (sp_Net_contains K) := ⟨_, fd_Net_contains, _, m_Net_contains.at_, m_Net_contains.fn, ok_Net_contains F_Net_contains T , F_Net_contains.bindsN (ps := ["self", "name"]) (fun _ _ _ _ _ _ us hl => match us, hl with | [_, _], _ => rfl)⟩
  have G_check_known : C8.Cal P w K mg base (2) "check_known" (sp_check_known K) [] := ⟨_, fd_check_known, _, [], ok_check_known F_check_known T G_Net_contains, g_check_known, F_check_known.kp, F_check_known.bindsN (ps := ["names", "known"]) (fun _ _ _ _ _ _ us hl => match us, hl with | [_, _], _ => rfl), .nil⟩
  have G_check_span : C8.Cal P w K mg base (3) "check_span" (sp_check_span K) [] := ⟨_, fd_check_span, _, [], ok_check_span F_check_span T G_check_range G_check_known, g_check_span, F_check_span.kp, F_check_span.bindsN (ps := ["round_length", "events", "span"]) (fun _ _ _ _ _ _ us hl => match us, hl with | [_, _, _], _ => rfl), .nil⟩
  have G_check_net : C8.Cal P w K mg base (4) "check_net" (sp_check_net K) [] := ⟨_, fd_check_net, _, [], ok_check_net F_check_net T G_check_round_length G_check_count G_check_event G_check_span, g_check_net, F_check_net.kp, F_check_net.bindsN (ps := ["round_length", "events", "spans"]) (fun _ _ _ _ _ _ us hl => match us, hl with | [_, _, _], _ => rfl), .nil⟩
  have G_Net_init : C8.Mak P w K mg base 5 "Net" (C_Net K) (sp_Net_init K) [] := ⟨_, fd_Net_init, _, [], m_Net_init, ok_Net_init F_Net_init T G_check_net, t_g_Net, F_Net_init.bindsN (ps := ["self", "round_length", "events", "spans"]) (fun _ _ _ _ _ _ us hl => match us, hl with | [_, _, _, _], _ => rfl), .nil⟩
  have G_Net_round_length : Prp P w K mg base 1 (C_Net K) "round_length" (sp_Net_round_length K) := ⟨_, _, fd_Net_round_length, _, m_Net_round_length, ok_Net_round_length F_Net_round_length T , F_Net_round_length.bindsN (ps := ["self"]) (fun _ _ _ _ _ _ us hl => match us, hl with | [_], _ => rfl)⟩
  have G_Net_spans : Prp P w K mg base 1 (C_Net K) "spans" (sp_Net_spans K) := ⟨_, _, fd_Net_spans, _, m_Net_spans, ok_Net_spans F_Net_spans T , F_Net_spans.bindsN (ps := ["self"]) (fun _ _ _ _ _ _ us hl => match us, hl with | [_], _ => rfl)⟩
  have G_Times_round_length : Prp P w K mg base 1 (C_Times K) "round_length" (sp_Times_round_length K) := ⟨_, _, fd_Times_round_length, _, m_Times_round_length, ok_Times_round_length F_Times_round_length T , F_Times_round_length.bindsN (ps := ["self"]) (fun _ _ _ _ _ _ us hl => match us, hl with | [_], _ => rfl)⟩
  have G_Times_contains : Spc P w K mg base 1 (C_Times K) "__contains__" (sp_Times_contains K) := ⟨_, fd_Times_contains, _, m_Times_contains.at_, m_Times_contains.fn, ok_Times_contains F_Times_contains T , F_Times_contains.bindsN (ps := ["self", "name"]) (fun _ _ _ _ _ _ us hl => match us, hl with | [_, _], _ => rfl)⟩
  have G_check_names : CalX P w K mg base (3) "check_names" (sp_check_names K) [] := ⟨_, fd_check_names, _, [], ok_check_names F_check_names T GX_BadNumber GX_WrongNames G_Net_round_length GI_Net_iter G_Net_contains G_Times_round_length GI_Times_iter G_Times_contains, g_check_names, F_check_names.kp, F_check_names.bindsN (ps := ["net", "times"]) (fun _ _ _ _ _ _ us hl => match us, hl with | [_, _], _ => rfl), .nil⟩
  have G_Times_getitem : SpcG P w K mg base 3 (C_Times K) (sp_Times_getitem K) := ⟨_, fd_Times_getitem, _, m_Times_getitem.at_, m_Times_getitem.fn, FunD.isIn F_Times_getitem, ok_Times_getitem F_Times_getitem T G_check_known, F_Times_getitem.bindsN (ps := ["self", "name"]) (fun _ _ _ _ _ _ us hl => match us, hl with | [_, _], _ => rfl)⟩
  have G_on_span : C8.Cal P w K mg base (5) "on_span" (sp_on_span K) [] := ⟨_, fd_on_span, _, [], ok_on_span F_on_span T G_Times_round_length G_Times_getitem, g_on_span, F_on_span.kp, F_on_span.bindsN (ps := ["times", "span"]) (fun _ _ _ _ _ _ us hl => match us, hl with | [_, _], _ => rfl), .nil⟩
  have G_on_all_spans : CalX P w K mg base (6) "on_all_spans" (sp_on_all_spans K) [] := ⟨_, fd_on_all_spans, _, [], ok_on_all_spans F_on_all_spans T G_Net_spans G_check_names G_on_span, g_on_all_spans, F_on_all_spans.kp, F_on_all_spans.bindsN (ps := ["net", "times"]) (fun _ _ _ _ _ _ us hl => match us, hl with | [_, _], _ => rfl), .nil⟩
  have G_kept_minutes : CalX P w K mg base (7) "kept_minutes" (sp_kept_minutes K) [] := ⟨_, fd_kept_minutes, _, [], ok_kept_minutes F_kept_minutes T GX_BrokenSpan G_on_all_spans, g_kept_minutes, F_kept_minutes.kp, F_kept_minutes.bindsN (ps := ["net", "times"]) (fun _ _ _ _ _ _ us hl => match us, hl with | [_, _], _ => rfl), .nil⟩
  have G_arcs_of : C8.Cal P w K mg base (3) "arcs_of" (sp_arcs_of K) [] := ⟨_, fd_arcs_of, _, [], ok_arcs_of F_arcs_of T G_Net_spans, g_arcs_of, F_arcs_of.kp, F_arcs_of.bindsN (ps := ["net", "forward", "backward"]) (fun _ _ _ _ _ _ us hl => match us, hl with | [_, _, _], _ => rfl), .nil⟩
  have G_walk_along : C8.Cal P w K mg base (1) "walk_along" (sp_walk_along K) [] := ⟨_, fd_walk_along, _, [], ok_walk_along F_walk_along T , g_walk_along, F_walk_along.kp, F_walk_along.bindsN (ps := ["last", "begin", "end"]) (fun _ _ _ _ _ _ us hl => match us, hl with | [_, _, _], _ => rfl), .nil⟩
  have G_least_walks : C8.Cal P w K mg base (2) "least_walks" (sp_least_walks K) [] := ⟨_, fd_least_walks, _, [], ok_least_walks F_least_walks T G_walk_along, g_least_walks, F_least_walks.kp, F_least_walks.bindsN (ps := ["arcs", "first"]) (fun _ _ _ _ _ _ us hl => match us, hl with | [_, _], _ => rfl), .nil⟩
  have G_joined : C8.Cal P w K mg base (1) "joined" (sp_joined K) [] := ⟨_, fd_joined, _, [], ok_joined F_joined T , g_joined, F_joined.kp, F_joined.bindsN (ps := ["leaders", "first", "second"]) (fun _ _ _ _ _ _ us hl => match us, hl with | [_, _, _], _ => rfl), .nil⟩
  have G_tree_of : C8.Cal P w K mg base (3) "tree_of" (sp_tree_of K) [] := ⟨_, fd_tree_of, _, [], ok_tree_of F_tree_of T G_joined G_Net_spans GI_Net_iter, g_tree_of, F_tree_of.kp, F_tree_of.bindsN (ps := ["net"]) (fun _ _ _ _ _ _ us hl => match us, hl with | [_], _ => rfl), .nil⟩
  have G_Netcheck_number : C8.Met P w K mg base 1 (C_Net K) "_check_number" (sp_Netcheck_number K) [] := ⟨_, fd_Netcheck_number, _, [], t_cls_Net, m_Netcheck_number, ok_Netcheck_number F_Netcheck_number T , F_Netcheck_number.bindsN (ps := ["self", "number"]) (fun _ _ _ _ _ _ us hl => match us, hl with | [_, _], _ => rfl), .nil⟩
  have G_Net_span : C8.Met P w K mg base 2 (C_Net K) "span" (sp_Net_span K) [] := ⟨_, fd_Net_span, _, [], t_cls_Net, m_Net_span, ok_Net_span F_Net_span T G_Netcheck_number, F_Net_span.bindsN (ps := ["self", "number"]) (fun _ _ _ _ _ _ us hl => match us, hl with | [_, _], _ => rfl), .nil⟩
  have G_Base_path : C8.Met P w K mg base 3 (C_Base K) "path" (sp_Base_path K) [] := ⟨_, fd_Base_path, _, [], t_cls_Base, m_Base_path, ok_Base_path F_Base_path T G_check_known G_walk_along G_least_walks, F_Base_path.bindsN (ps := ["self", "first", "second"]) (fun _ _ _ _ _ _ us hl => match us, hl with | [_, _, _], _ => rfl), .nil⟩
  have G_Basebase_ring : C8.Met P w K mg base 4 (C_Base K) "_base_ring" (sp_Basebase_ring K) [] := ⟨_, fd_Basebase_ring, _, [], t_cls_Base, m_Basebase_ring, ok_Basebase_ring F_Basebase_ring T G_Net_span G_Base_path, F_Basebase_ring.bindsN (ps := ["self", "number"]) (fun _ _ _ _ _ _ us hl => match us, hl with | [_, _], _ => rfl), .nil⟩
  have G_Base_init : C8.Mak P w K mg base 5 "Base" (C_Base K) (sp_Base_init K) [] := ⟨_, fd_Base_init, _, [], m_Base_init, ok_Base_init F_Base_init T G_Net_spans G_arcs_of G_tree_of G_Basebase_ring, t_g_Base, F_Base_init.bindsN (ps := ["self", "net"]) (fun _ _ _ _ _ _ us hl => match us, hl with | [_, _], _ => rfl), .nil⟩
  have G_Base_rings : Prp P w K mg base 1 (C_Base K) "rings" (sp_Base_rings K) := ⟨_, _, fd_Base_rings, _, m_Base_rings, ok_Base_rings F_Base_rings T , F_Base_rings.bindsN (ps := ["self"]) (fun _ _ _ _ _ _ us hl => match us, hl with | [_], _ => rfl)⟩
  have G_sum_over : C8.Cal P w K mg base (1) "sum_over" (sp_sum_over K) [] := ⟨_, fd_sum_over, _, [], ok_sum_over F_sum_over T , g_sum_over, F_sum_over.kp, F_sum_over.bindsN (ps := ["walk", "forward", "backward"]) (fun _ _ _ _ _ _ us hl => match us, hl with | [_, _, _], _ => rfl), .nil⟩
  have G_turn_of : C8.Cal P w K mg base (2) "turn_of" (sp_turn_of K) [] := ⟨_, fd_turn_of, _, [], ok_turn_of F_turn_of T G_sum_over, g_turn_of, F_turn_of.kp, F_turn_of.bindsN (ps := ["walk", "minutes"]) (fun _ _ _ _ _ _ us hl => match us, hl with | [_, _], _ => rfl), .nil⟩
  have G_rounds_on : C8.Cal P w K mg base (3) "rounds_on" (sp_rounds_on K) [] := ⟨_, fd_rounds_on, _, [], ok_rounds_on F_rounds_on T G_turn_of, g_rounds_on, F_rounds_on.kp, F_rounds_on.bindsN (ps := ["rings", "minutes", "round_length"]) (fun _ _ _ _ _ _ us hl => match us, hl with | [_, _, _], _ => rfl), .nil⟩
  have G_Island_init : C8.Mak P w K mg base 8 "Island" (C_Island K) (sp_Island_init K) [] := ⟨_, fd_Island_init, _, [], m_Island_init, ok_Island_init F_Island_init T G_Net_round_length G_Net_spans GI_Net_iter G_kept_minutes G_arcs_of G_least_walks G_Base_init G_Base_rings G_rounds_on, t_g_Island, F_Island_init.bindsN (ps := ["self", "net", "times"]) (fun _ _ _ _ _ _ us hl => match us, hl with | [_, _, _], _ => rfl), .nil⟩
  have G_Island_room : C8.Met P w K mg base 3 (C_Island K) "room" (sp_Island_room K) [] := ⟨_, fd_Island_room, _, [], t_cls_Island, m_Island_room, ok_Island_room F_Island_room T G_check_known, F_Island_room.bindsN (ps := ["self", "first", "second"]) (fun _ _ _ _ _ _ us hl => match us, hl with | [_, _, _], _ => rfl), .nil⟩
  have G_Times_init : C8.Mak P w K mg base 3 "Times" (C_Times K) (sp_Times_init K) [] := ⟨_, fd_Times_init, _, [], m_Times_init, ok_Times_init F_Times_init T G_check_name G_check_range G_check_round_length, t_g_Times, F_Times_init.bindsN (ps := ["self", "round_length", "minutes"]) (fun _ _ _ _ _ _ us hl => match us, hl with | [_, _, _], _ => rfl), .nil⟩
  have G_l_pool : C8.Cal P w K mg base (1) "_law_pool" (sp_l_pool K) [] := ⟨_, fd_l_pool, _, [], ok_l_pool F_l_pool T , g_l_pool, F_l_pool.kp, F_l_pool.bindsN (ps := ["_law_script"]) (fun _ _ _ _ _ _ us hl => match us, hl with | [_], _ => rfl), .nil⟩
  have G_l_draw : C8.Cal P w K mg base (1) "_law_draw" (sp_l_draw K) [] := ⟨_, fd_l_draw, _, [], ok_l_draw F_l_draw T , g_l_draw, F_l_draw.kp, F_l_draw.bindsN (ps := ["_law_pool_here", "_law_many"]) (fun _ _ _ _ _ _ us hl => match us, hl with | [_, _], _ => rfl), .nil⟩
  have G_l_word : C8.Cal P w K mg base (2) "_law_word" (sp_l_word K) [] := ⟨_, fd_l_word, _, [], ok_l_word F_l_word T G_l_draw, g_l_word, F_l_word.kp, F_l_word.bindsN (ps := ["_law_pool_here", "_law_size"]) (fun _ _ _ _ _ _ us hl => match us, hl with | [_, _], _ => rfl), .nil⟩
  have G_l_names : C8.Cal P w K mg base (3) "_law_names" (sp_l_names K) [] := ⟨_, fd_l_names, _, [], ok_l_names F_l_names T G_l_draw G_l_word, g_l_names, F_l_names.kp, F_l_names.bindsN (ps := ["_law_pool_here", "_law_many"]) (fun _ _ _ _ _ _ us hl => match us, hl with | [_, _], _ => rfl), .nil⟩
  have G_l_length : C8.Cal P w K mg base (2) "_law_length" (sp_l_length K) [] := ⟨_, fd_l_length, _, [], ok_l_length F_l_length T G_l_draw, g_l_length, F_l_length.kp, F_l_length.bindsN (ps := ["_law_pool_here", "_law_most"]) (fun _ _ _ _ _ _ us hl => match us, hl with | [_, _], _ => rfl), .nil⟩
  have G_l_changes : C8.Cal P w K mg base (2) "_law_changes" (sp_l_changes K) [] := ⟨_, fd_l_changes, _, [], ok_l_changes F_l_changes T G_l_draw, g_l_changes, F_l_changes.kp, F_l_changes.bindsN (ps := ["_law_pool_here", "_law_many", "_law_length_here"]) (fun _ _ _ _ _ _ us hl => match us, hl with | [_, _, _], _ => rfl), .nil⟩
  have G_l_weight : C8.Cal P w K mg base (2) "_law_weight" (sp_l_weight K) [] := ⟨_, fd_l_weight, _, [], ok_l_weight F_l_weight T G_l_draw, g_l_weight, F_l_weight.kp, F_l_weight.bindsN (ps := ["_law_pool_here"]) (fun _ _ _ _ _ _ us hl => match us, hl with | [_], _ => rfl), .nil⟩
  have G_l_some : C8.Cal P w K mg base (2) "_law_some" (sp_l_some K) [] := ⟨_, fd_l_some, _, [], ok_l_some F_l_some T G_l_draw, g_l_some, F_l_some.kp, F_l_some.bindsN (ps := ["_law_pool_here", "_law_most"]) (fun _ _ _ _ _ _ us hl => match us, hl with | [_, _], _ => rfl), .nil⟩
  have G_l_window : C8.Cal P w K mg base (3) "_law_window" (sp_l_window K) [] := ⟨_, fd_l_window, _, [], ok_l_window F_l_window T G_l_draw G_l_some, g_l_window, F_l_window.kp, F_l_window.bindsN (ps := ["_law_pool_here", "_law_length_here", "_law_start", "_law_change", "_law_straight"]) (fun _ _ _ _ _ _ us hl => match us, hl with | [_, _, _, _, _], _ => rfl), .nil⟩
  have G_l_span : C8.Cal P w K mg base (4) "_law_span" (sp_l_span K) [] := ⟨_, fd_l_span, _, [], ok_l_span F_l_span T G_l_draw G_l_weight G_l_window, g_l_span, F_l_span.kp, F_l_span.bindsN (ps := ["_law_pool_here", "_law_length_here", "_law_names_here", "_law_before", "_law_changes_here", "_law_k", "_law_straight"]) (fun _ _ _ _ _ _ us hl => match us, hl with | [_, _, _, _, _, _, _], _ => rfl), .nil⟩
  have G_l_case : C8.Cal P w K mg base (5) "_law_case" (sp_l_case K) [] := ⟨_, fd_l_case, _, [], ok_l_case F_l_case T G_l_draw G_l_names G_l_length G_l_changes G_l_span, g_l_case, F_l_case.kp, F_l_case.bindsN (ps := ["_law_pool_here", "_law_most_events", "_law_most_spans", "_law_most_length"]) (fun _ _ _ _ _ _ us hl => match us, hl with | [_, _, _, _], _ => rfl), .nil⟩
  have G_l_minutes : C8.Cal P w K mg base (1) "_law_minutes" (sp_l_minutes K) [] := ⟨_, fd_l_minutes, _, [], ok_l_minutes F_l_minutes T , g_l_minutes, F_l_minutes.kp, F_l_minutes.bindsN (ps := ["_law_names_here", "_law_minutes_here", "_law_first"]) (fun _ _ _ _ _ _ us hl => match us, hl with | [_, _, _], _ => rfl), .nil⟩
  have G_l_is_int : C8.Cal P w K mg base (1) "_law_is_int" (sp_l_is_int K) [] := ⟨_, fd_l_is_int, _, [], ok_l_is_int F_l_is_int T , g_l_is_int, F_l_is_int.kp, F_l_is_int.bindsN (ps := ["_law_thing"]) (fun _ _ _ _ _ _ us hl => match us, hl with | [_], _ => rfl), .nil⟩
  have B_l_same := F_l_same.bindsN (ps := ["_law_actual", "_law_due"]) (fun _ _ _ _ _ _ us hl => match us, hl with | [_, _], _ => rfl)
  have R_l_same : ∀ n : Nat, C8.Cal P w K mg base (2 + n) "_law_same" (sp_l_same K n) [] := fun n => by
    induction n with
    | zero => exact ⟨_, fd_l_same, _, [], ok0_l_same F_l_same, g_l_same, F_l_same.kp, B_l_same, .nil⟩
    | succ n ih => exact ⟨_, fd_l_same, _, [], ok_l_same F_l_same T G_l_is_int n ih, g_l_same, F_l_same.kp, B_l_same, .nil⟩
  have G_l_same : C8.Cal P w K mg base (5) "_law_same" (sp_l_same K 3) [] := R_l_same 3
  have G_l_gone : C8.Cal P w K mg base (1) "_law_gone" (sp_l_gone K) [] := ⟨_, fd_l_gone, _, [], ok_l_gone F_l_gone T , g_l_gone, F_l_gone.kp, F_l_gone.bindsN (ps := ["_law_length_here", "_law_span_here", "_law_minutes_here"]) (fun _ _ _ _ _ _ us hl => match us, hl with | [_, _, _], _ => rfl), .nil⟩
  have G_l_all_gone : C8.Cal P w K mg base (2) "_law_all_gone" (sp_l_all_gone K) [] := ⟨_, fd_l_all_gone, _, [], ok_l_all_gone F_l_all_gone T G_l_gone, g_l_all_gone, F_l_all_gone.kp, F_l_all_gone.bindsN (ps := ["_law_length_here", "_law_spans", "_law_minutes_here"]) (fun _ _ _ _ _ _ us hl => match us, hl with | [_, _, _], _ => rfl), .nil⟩
  have G_l_nearer : C8.Cal P w K mg base (1) "_law_nearer" (sp_l_nearer K) [] := ⟨_, fd_l_nearer, _, [], ok_l_nearer F_l_nearer T , g_l_nearer, F_l_nearer.kp, F_l_nearer.bindsN (ps := ["_law_rooms_here", "_law_name", "_law_there", "_law_other", "_law_slack"]) (fun _ _ _ _ _ _ us hl => match us, hl with | [_, _, _, _, _], _ => rfl), .nil⟩
  have G_l_rooms : C8.Cal P w K mg base (2) "_law_rooms" (sp_l_rooms K) [] := ⟨_, fd_l_rooms, _, [], ok_l_rooms F_l_rooms T G_l_nearer, g_l_rooms, F_l_rooms.kp, F_l_rooms.bindsN (ps := ["_law_names_here", "_law_spans", "_law_gone_here"]) (fun _ _ _ _ _ _ us hl => match us, hl with | [_, _, _], _ => rfl), .nil⟩
  exact ok_law F_law T G_Net_init G_Island_init G_Island_room G_Times_init G_l_pool G_l_draw G_l_case G_l_minutes G_l_same G_l_all_gone G_l_rooms
end RM
open PySem PySem.W PySem.Calls PyProof.Rows
set_option maxRecDepth 100000 in
set_option maxHeartbeats 0 in
theorem PySem.Challenge.cw_roundminutes_k43_room_by_a_plain_table_holds : PySem.Challenge.rw_roundminutes_k43_room_by_a_plain_table.Holds := by
  w_on; o_law
  refine HandSHeadRun.head_any (r := OpenLaw.row PySem.Challenge.rw_roundminutes_k43_room_by_a_plain_table) (q := view RM.Rw.prog [67]) (H := RM.hk) (ob := RM.ob) (M := 8000) (loose := RM.loose)
    (d := HandSHeadRun.topDef RM.Rw.prog 67) (kwd := []) RM.ob_ok
    (by kernel_rfl) (fun s => by kernel_rfl) RM.run (by kernel_rfl) (by kernel_rfl) (by kernel_rfl) (by rfl) (by first | assumption | decide +kernel) (by decide +kernel) ⟨rfl, rfl, rfl, rfl, rfl, by decide +kernel⟩ ?hw ?hc
  case hw => w_witness2
  case hc =>
    refine L2.walk_ofE (l := PySem.Challenge.rw_roundminutes_k43_room_by_a_plain_table) (n := 63) (k := 10) (x := "_law_script") (CX := L2.CX0) rfl (by decide) (by kernel_rfl) ⟨rfl, by decide, by decide⟩ ?F (fun _ _ _ _ z => z)
    intro w mg fa h Y G hmg0
    obtain ⟨K, KX, c⟩ := Y
    have hmg : mg ("law" : PySem.Str) = some (.ref fa) := by
      have e : (HandSHeadRun.topDef RM.Rw.prog 67).name = ("law" : PySem.Str) := by kernel_rfl
      rw [← e]
      exact hmg0
    obtain ⟨fd, hb, hF⟩ := RM.facts (P := PySem.Challenge.rw_roundminutes_k43_room_by_a_plain_table.prog) (w := w) KX G hmg c
    exact ⟨K, fd, RM.sp_law K, KX, hb, fun H a ns hl _ hS => ⟨a, ns, rfl, hS, hl, fun _ => rfl⟩, hF⟩
