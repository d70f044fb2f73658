import PyProof.Rows.All
import Wide.All
import OpenK.AllK
import Wide.FinOn
import HandS.Base
import HandS.Call
import HandS.List
import HandS.Comp
import HandS.Ends
import HandS.Words
import HandS.IsInst
import HandS.Wide
import HandS.Style
import HandS.Exc
import HandS.TryOnly
import HandS.ExcOwn
import HandS.ExcInit
import HandS.ExcField
import HandS.ExcIs
import HandS.WordsList
import HandS.WordsExc
import HandS.SetFor
import HandS.Dict
import HandS.Iter
import HandS.Zip
import HandS.DictSub
import HandS.OwnEq
import HandS.Property
import HandS.ClsMeth
import HandS.TupAny
import HandS.Deep
import HandS.SortInts
import HandS.Rev
import HandS.Flow
import HandS.Text
import KE.GoesEnum
import HandS.Zip0
import HandS.WrittenGet
import HandS.TupLe
import HandS.Flt
import HandS.Small
import HandS.NamedTupSort
import HandS.TupSets
import HandS.Gcd
import KE.DataCmp
import PyProof.WalkInts
import HandS.More
import HandS.SortKw
import HandS.Conv
import KE.LtSeq
import HandS.Finally
import HandS.DictComp
import PySem.Challenge.RW_galleywork_k27_least_numbers

set_option Elab.async false
set_option linter.all false
set_option maxRecDepth 100000
/-! Wp: readings as weakest preconditions, turned into plain formulas by simp. -/
namespace Wp
open PySem L2
section
variable {σ : L2.St} {H : Hp} {Q : VK} {D : Ends}
theorem seq {t u : TS} : tSeq t u D σ H = t { D with nx := u D } σ H := rfl
theorem next : tNext D σ H = D.nx σ H := rfl
theorem asg {te : TE} {g : TG} : tAsg te g D σ H = te σ H fun x H1 => g x σ H1 D.nx := rfl
theorem gn {i : Nat} {v : V} {R : L2.St → Hp → Prop} : gName i v σ H R = R (σ.set i (some v)) H := rfl
theorem gsub {to ti : TE} {t : TSet} {v : V} {R : L2.St → Hp → Prop} : gSub to ti t v σ H R = to σ H fun o H1 => ti σ H1 fun i H2 => t o i v H2 fun H3 => R σ H3 := rfl
theorem ret {te : TE} : tRet te D σ H = te σ H D.rt := rfl
theorem drop {te : TE} : tDrop te D σ H = te σ H fun _ H1 => D.nx σ H1 := rfl
theorem ifs {c : TT} {t u : TS} : tIfS c t u D σ H = c σ H fun b H1 => if b = true then t D σ H1 else u D σ H1 := rfl
theorem brk : tBreak D σ H = D.bk σ H := rfl
theorem cont : tCont D σ H = D.ct σ H := rfl
theorem op {r : R2} {ta tb : TE} : tOp r ta tb σ H Q = ta σ H fun x H1 => tb σ H1 fun y H2 => r x y H2 Q := rfl
theorem un {r : V → Hp → VK → Prop} {ta : TE} : tUn r ta σ H Q = ta σ H fun x H1 => r x H1 Q := rfl
theorem cb {r : List V → Hp → VK → Prop} {t : TA} : tCB r t σ H Q = t σ H fun vs H1 => r vs H1 Q := rfl
theorem call {sp : Sp} {dvs : List V} {E : XK} {t : TA} : tCall sp dvs E t σ H Q = t σ H fun vs H1 => sp (vs ++ dvs) H1 Q E := rfl
theorem nil {R : List V → Hp → Prop} : tNil σ H R = R [] H := rfl
theorem cons {ta : TE} {tr : TA} {R : List V → Hp → Prop} : tCons ta tr σ H R = ta σ H fun x H1 => tr σ H1 fun xs H2 => R (x :: xs) H2 := rfl
theorem c {v : V} : tC v σ H Q = Q v H := rfl
theorem ifx {t : TT} {ta tb : TE} : tIf t ta tb σ H Q = t σ H fun b H1 => if b = true then ta σ H1 Q else tb σ H1 Q := rfl
theorem lst {t : TA} : tLst t σ H Q = t σ H fun xs H1 => xs.length ≤ sizeLine ∧ ∀ p, H1 p = none → Q (.ref p) (upd H1 p (.lst xs)) := rfl
theorem tup {t : TA} : tTup t σ H Q = t σ H fun xs H1 => xs.length ≤ sizeLine ∧ ∀ p, H1 p = none → Q (.ref p) (upd H1 p (.tup xs)) := rfl
theorem test {t : TE} {R : Bool → Hp → Prop} : tTest t σ H R = t σ H fun x H' => ∃ k, x = .bl k ∧ R k H' := rfl
theorem tb {t : TE} {R : Bool → Hp → Prop} : tB t σ H R = t σ H fun x H' => ∃ k, x = .bl k ∧ R k H' := rfl
theorem tnot {t : TT} {R : Bool → Hp → Prop} : tNot t σ H R = t σ H fun b H1 => R (!b) H1 := rfl
theorem tand {t u : TT} {R : Bool → Hp → Prop} : tAnd t u σ H R = t σ H fun b H1 => if b = true then u σ H1 R else R false H1 := rfl
theorem tor {t u : TT} {R : Bool → Hp → Prop} : tOr t u σ H R = t σ H fun b H1 => if b = true then R true H1 else u σ H1 R := rfl
theorem tandv {ta tb : TE} : tAndV ta tb σ H Q = ta σ H fun x H1 => ∃ b, x = .bl b ∧ if b = true then tb σ H1 Q else Q (.bl false) H1 := rfl
theorem torv {ta tb : TE} : tOrV ta tb σ H Q = ta σ H fun x H1 => ∃ b, x = .bl b ∧ if b = true then Q (.bl true) H1 else tb σ H1 Q := rfl
theorem tnotv {ta : TE} : tNotV ta σ H Q = ta σ H fun x H1 => ∃ b, x = .bl b ∧ Q (.bl (!b)) H1 := rfl
theorem chain {r r' : R2} {ta tb tc : TE} : tChain r r' ta tb tc σ H Q = ta σ H fun x H1 => tb σ H1 fun y H2 => r x y H2 fun z H3 => ∃ k, z = .bl k ∧ (if k = true then tc σ H3 fun w' H4 => r' y w' H4 Q else Q (.bl false) H3) := rfl
theorem bx {b : Bool} {R : Bool → Prop} : (∃ k, V.bl b = V.bl k ∧ R k) = R b := propext ⟨fun ⟨k, h, q⟩ => by cases h; exact q, fun q => ⟨b, rfl, q⟩⟩
theorem i0 {g : Int → Int → V} {i j : Int} : rI0 g (.int i) (.int j) H Q = Q (g i j) H := propext ⟨fun ⟨_, _, h1, h2, q⟩ => by cases h1; cases h2; exact q, fun q => ⟨i, j, rfl, rfl, q⟩⟩
theorem i1 {C : Int → Int → Prop} {g : Int → Int → V} {i j : Int} : rI C g (.int i) (.int j) H Q = (C i j ∧ Q (g i j) H) := propext ⟨fun ⟨_, _, h1, h2, c, q⟩ => by cases h1; cases h2; exact ⟨c, q⟩, fun ⟨c, q⟩ => ⟨i, j, rfl, rfl, c, q⟩⟩
theorem u1 {g : Int → V} {i : Int} : rU g (.int i) H Q = Q (g i) H := propext ⟨fun ⟨_, h1, q⟩ => by cases h1; exact q, fun q => ⟨i, rfl, q⟩⟩
theorem di {i j : Int} : decide (V.int i = V.int j) = decide (i = j) := by
  by_cases h : i = j
  · subst h; simp
  · rw [decide_eq_false h, decide_eq_false]; intro q; cases q; exact h rfl
theorem eqi {i j : Int} : rEq (.int i) (.int j) H Q = Q (.bl (decide (i = j))) H := by
  unfold rEq; rw [di]; exact propext ⟨fun q => q.2, fun q => ⟨rfl, q⟩⟩
theorem nei {i j : Int} : rNe (.int i) (.int j) H Q = Q (.bl (!decide (i = j))) H := by
  unfold rNe; rw [di]; exact propext ⟨fun q => q.2, fun q => ⟨rfl, q⟩⟩
/-! calls of built-ins -/
theorem dummy_ : True := trivial
end
/-- isinstance of a scalar and a built-in type -/
def isiF : V → String → Option Bool
  | .int _, T => kitB "int" T
  | .bl _, T => kitB "bool" T
  | .str _, T => kitB "str" T
  | .non, T => kitB "NoneType" T
  | _, _ => none
def rIsiV : List V → Hp → VK → Prop := fun xs H Q => ∃ x T b, xs = [x, .ty T] ∧ isiF x T = some b ∧ Q (.bl b) H
theorem isv {x : V} {T : String} {b : Bool} {H : Hp} {Q : VK} (h : isiF x T = some b) : rIsiV [x, .ty T] H Q = Q (.bl b) H := propext ⟨fun ⟨_, _, _, e, f, q⟩ => by
  cases e
  rw [h] at f
  cases f
  exact q, fun q => ⟨x, T, b, rfl, h, q⟩⟩
theorem isv_ii {i : Int} {H : Hp} {Q : VK} : rIsiV [.int i, .ty "int"] H Q = Q (.bl true) H := isv (by show kitB "int" "int" = some true; decide +kernel)
theorem isv_ib {i : Int} {H : Hp} {Q : VK} : rIsiV [.int i, .ty "bool"] H Q = Q (.bl false) H := isv (by show kitB "int" "bool" = some false; decide +kernel)
section
variable {X : Cx}
theorem call_isiV : CallR X (.builtin "isinstance") rIsiV := by
  intro pins s σ H xs us Q I r h
  obtain ⟨x, T, b, rfl, e, q⟩ := h
  refine call_isi pins s σ H _ us Q I r ?_
  cases x with
  | int i => exact ⟨_, _, .type "int", .type T, b, rfl, .ty T, .base (.int i), kit_ty e, q⟩
  | bl i => exact ⟨_, _, .type "bool", .type T, b, rfl, .ty T, .base (.bl i), kit_ty e, q⟩
  | str i => exact ⟨_, _, .type "str", .type T, b, rfl, .ty T, .base (.str i), kit_ty e, q⟩
  | non => exact ⟨_, _, .type "NoneType", .type T, b, rfl, .ty T, .base .non, kit_ty e, q⟩
  | ref a => cases e
  | ty a => cases e
  | flt a => cases e
  | byt a => cases e
theorem pe_gint {x : Str} {i : Int} {pos : Pos} (h : ∃ t, X.mg x = some (.int i t)) (hg : Gl X x) (hd : (x == ("__debug__" : Str)) = false := by decide) : PE X (.Name x pos) (tC (.int i)) := by
  obtain ⟨t, h⟩ := h
  exact pe_glob hg h ⟨_, rfl⟩ hd
end
/-! calls of built-ins by name -/
def rAbs : List V → Hp → VK → Prop := fun xs H Q => ∃ i, xs = [.int i] ∧ Q (.int (if i < 0 then -i else i)) H
def rMax2 : List V → Hp → VK → Prop := fun xs H Q => ∃ i j, xs = [.int i, .int j] ∧ Q (.int (if j > i then j else i)) H
def rMin2 : List V → Hp → VK → Prop := fun xs H Q => ∃ i j, xs = [.int i, .int j] ∧ Q (.int (if j < i then j else i)) H
def rInt : List V → Hp → VK → Prop := fun xs H Q => (∃ i, xs = [.int i] ∧ Q (.int i) H) ∨ ∃ k, xs = [.bl k] ∧ Q (.int (if k then 1 else 0)) H
def rLen (K : PySem.W.Frag) : List V → Hp → VK → Prop := fun xs H Q => ∃ p ys, xs = [.ref p] ∧ (SqL K H p ys ∨ SqT K H p ys) ∧ Q (.int ys.length) H
def rList (K : PySem.W.Frag) : List V → Hp → VK → Prop := fun xs H Q => ∃ p ys, xs = [.ref p] ∧ (SqL K H p ys ∨ SqT K H p ys) ∧ ∀ l, H l = none → Q (.ref l) (upd H l (.lst ys))
section
variable {X : Cx} {H : Hp} {Q : VK}
theorem c_abs : CallR X (.builtin "abs") rAbs := call_abs
theorem c_max2 (hc : X.calm = true) : CallR X (.builtin "max") rMax2 := call_max2 hc
theorem c_min2 (hc : X.calm = true) : CallR X (.builtin "min") rMin2 := call_min2 hc
theorem c_int : CallR X (.type "int") rInt := call_int1
theorem c_len : CallR X (.builtin "len") (rLen X.K) := call_len_seq
theorem c_list : CallR X (.type "list") (rList X.K) := call_list_of
theorem cabs {i : Int} : rAbs [.int i] H Q = Q (.int (if i < 0 then -i else i)) H := propext ⟨fun ⟨_, h, q⟩ => by cases h; exact q, fun q => ⟨i, rfl, q⟩⟩
theorem cmax {i j : Int} : rMax2 [.int i, .int j] H Q = Q (.int (if j > i then j else i)) H := propext ⟨fun ⟨_, _, h, q⟩ => by cases h; exact q, fun q => ⟨i, j, rfl, q⟩⟩
theorem cmin {i j : Int} : rMin2 [.int i, .int j] H Q = Q (.int (if j < i then j else i)) H := propext ⟨fun ⟨_, _, h, q⟩ => by cases h; exact q, fun q => ⟨i, j, rfl, q⟩⟩
theorem cinti {i : Int} : rInt [.int i] H Q = Q (.int i) H := by
  apply propext
  constructor
  · intro q
    rcases q with ⟨k, h, q⟩ | ⟨k, h, q⟩
    · cases h; exact q
    · cases h
  · intro q
    exact Or.inl ⟨i, rfl, q⟩
theorem cintb {b : Bool} : rInt [.bl b] H Q = Q (.int (if b then 1 else 0)) H := by
  apply propext
  constructor
  · intro q
    rcases q with ⟨k, h, q⟩ | ⟨k, h, q⟩
    · cases h
    · cases h; exact q
  · intro q
    exact Or.inr ⟨b, rfl, q⟩
end
/-- a def of the module with its promise, as others call it -/
structure Def (P : Program) (w : World) (K : PySem.W.Frag) (mg : Str → Option Value) (base : Heap) (k : Nat) (x : Str) (ps : List Str) (sp : Sp) : Prop where
  ex : ∃ f fd, FnOk P w K mg base CX0 k f fd ps sp ∧ mg x = some (.ref f) ∧ PySem.W.keepIn K (.ref f) = true ∧ Binds K fd ps []
theorem Def.call {X : Cx} {k : Nat} {x : Str} {ps : List Str} {sp : Sp} {e : Expr} {es : List Expr} {t : TA} {p pos : Pos} (G : Def X.prog X.w X.K X.mg X.base k x ps sp) (hr : Room k X.A) (hg : Gl X x)
    (ha : PA X (e :: es) t) (hdb : (x == ("__debug__" : Str)) = false := by decide) (he : starEach (e :: es) X.env = (false, eval e X.env) :: starEach es X.env := by rfl) (hpl : (backTo pos (starEach es X.env)).any (·.1) = false := by rfl) :
    PE X (.Call (.Name x p) (e :: es) [] pos) (tCall sp [] (fun _ _ _ => False) t) := by
  refine ⟨fun pins s σ H Q I h => ?_⟩
  obtain ⟨f, fd, F, hm, hk, hb⟩ := G.ex
  exact (pe_call F hr hg hm hk hb .nil (fun _ _ _ _ _ _ _ h => h.elim) ha hdb he hpl).run pins s σ H Q I h
/-! ### the laws' pool -/
def PoolC (H : Hp) (p l : Addr) (ns : List Int) (i x c e : Int) : Prop := H p = some (.lst [.ref l, .int i, .int x, .int c, .int e]) ∧ H l = some (.lst (ns.map V.int)) ∧ 0 ≤ i
def PoolAt (H : Hp) (p : Addr) : Prop := ∃ l ns i x c e, PoolC H p l ns i x c e
theorem PoolC.ne {H : Hp} {p l : Addr} {ns : List Int} {i x c e : Int} (h : PoolC H p l ns i x c e) : l ≠ p := fun z => by
  obtain ⟨h1, h2, _⟩ := h
  subst z
  rw [h1] at h2
  have h3 := HO.lst.inj (Option.some.inj h2)
  cases ns with
  | nil => cases h3
  | cons n ns => rw [List.map_cons] at h3; cases h3
/-- all but p stands as it stood -/
def But (p : Addr) (H H' : Hp) : Prop := ∀ b, b ≠ p → H' b = H b
/-- what H told, and not at p, stands -/
def Ext (p : Addr) (H H' : Hp) : Prop := ∀ b o, b ≠ p → H b = some o → H' b = some o
def spPool (K : PySem.W.Frag) : Sp := fun vs H Q _ => ∃ (a : Addr) (ns : List Int), vs = [.ref a] ∧ SqL K H a (ns.map V.int) ∧ ∀ p H', H p = none → (∀ b o, H b = some o → H' b = some o) → PoolAt H' p → Q (.ref p) H'
def spDraw : Sp := fun vs H Q _ => ∃ (p : Addr) (m : Int), vs = [.ref p, .int m] ∧ PoolAt H p ∧ 0 < m ∧ m.natAbs < 2 ^ 200 ∧ ∀ r H', 0 ≤ r → r < m → PoolAt H' p → But p H H' → Q (.int r) H'
end Wp

namespace Wp
open PySem L2
section
variable {H : Hp} {Q : VK} {l : L2.St} {v : V} {a0 : Option V} {a1 : Option V} {a2 : Option V} {a3 : Option V} {a4 : Option V} {a5 : Option V} {a6 : Option V} {a7 : Option V} {a8 : Option V} {a9 : Option V} {a10 : Option V} {a11 : Option V} {a12 : Option V} {a13 : Option V} {a14 : Option V} {a15 : Option V} {a16 : Option V} {a17 : Option V} {a18 : Option V} {a19 : Option V} {a20 : Option V} {a21 : Option V} {a22 : Option V} {a23 : Option V}
theorem v0 : tVar 0 (some v :: l) H Q = Q v H := propext ⟨fun ⟨_, h, q⟩ => by cases h; exact q, fun q => ⟨v, rfl, q⟩⟩
theorem v1 : tVar 1 (a0 :: some v :: l) H Q = Q v H := propext ⟨fun ⟨_, h, q⟩ => by cases h; exact q, fun q => ⟨v, rfl, q⟩⟩
theorem v2 : tVar 2 (a0 :: a1 :: some v :: l) H Q = Q v H := propext ⟨fun ⟨_, h, q⟩ => by cases h; exact q, fun q => ⟨v, rfl, q⟩⟩
theorem v3 : tVar 3 (a0 :: a1 :: a2 :: some v :: l) H Q = Q v H := propext ⟨fun ⟨_, h, q⟩ => by cases h; exact q, fun q => ⟨v, rfl, q⟩⟩
theorem v4 : tVar 4 (a0 :: a1 :: a2 :: a3 :: some v :: l) H Q = Q v H := propext ⟨fun ⟨_, h, q⟩ => by cases h; exact q, fun q => ⟨v, rfl, q⟩⟩
theorem v5 : tVar 5 (a0 :: a1 :: a2 :: a3 :: a4 :: some v :: l) H Q = Q v H := propext ⟨fun ⟨_, h, q⟩ => by cases h; exact q, fun q => ⟨v, rfl, q⟩⟩
theorem v6 : tVar 6 (a0 :: a1 :: a2 :: a3 :: a4 :: a5 :: some v :: l) H Q = Q v H := propext ⟨fun ⟨_, h, q⟩ => by cases h; exact q, fun q => ⟨v, rfl, q⟩⟩
theorem v7 : tVar 7 (a0 :: a1 :: a2 :: a3 :: a4 :: a5 :: a6 :: some v :: l) H Q = Q v H := propext ⟨fun ⟨_, h, q⟩ => by cases h; exact q, fun q => ⟨v, rfl, q⟩⟩
theorem v8 : tVar 8 (a0 :: a1 :: a2 :: a3 :: a4 :: a5 :: a6 :: a7 :: some v :: l) H Q = Q v H := propext ⟨fun ⟨_, h, q⟩ => by cases h; exact q, fun q => ⟨v, rfl, q⟩⟩
theorem v9 : tVar 9 (a0 :: a1 :: a2 :: a3 :: a4 :: a5 :: a6 :: a7 :: a8 :: some v :: l) H Q = Q v H := propext ⟨fun ⟨_, h, q⟩ => by cases h; exact q, fun q => ⟨v, rfl, q⟩⟩
theorem v10 : tVar 10 (a0 :: a1 :: a2 :: a3 :: a4 :: a5 :: a6 :: a7 :: a8 :: a9 :: some v :: l) H Q = Q v H := propext ⟨fun ⟨_, h, q⟩ => by cases h; exact q, fun q => ⟨v, rfl, q⟩⟩
theorem v11 : tVar 11 (a0 :: a1 :: a2 :: a3 :: a4 :: a5 :: a6 :: a7 :: a8 :: a9 :: a10 :: some v :: l) H Q = Q v H := propext ⟨fun ⟨_, h, q⟩ => by cases h; exact q, fun q => ⟨v, rfl, q⟩⟩
theorem v12 : tVar 12 (a0 :: a1 :: a2 :: a3 :: a4 :: a5 :: a6 :: a7 :: a8 :: a9 :: a10 :: a11 :: some v :: l) H Q = Q v H := propext ⟨fun ⟨_, h, q⟩ => by cases h; exact q, fun q => ⟨v, rfl, q⟩⟩
theorem v13 : tVar 13 (a0 :: a1 :: a2 :: a3 :: a4 :: a5 :: a6 :: a7 :: a8 :: a9 :: a10 :: a11 :: a12 :: some v :: l) H Q = Q v H := propext ⟨fun ⟨_, h, q⟩ => by cases h; exact q, fun q => ⟨v, rfl, q⟩⟩
theorem v14 : tVar 14 (a0 :: a1 :: a2 :: a3 :: a4 :: a5 :: a6 :: a7 :: a8 :: a9 :: a10 :: a11 :: a12 :: a13 :: some v :: l) H Q = Q v H := propext ⟨fun ⟨_, h, q⟩ => by cases h; exact q, fun q => ⟨v, rfl, q⟩⟩
theorem v15 : tVar 15 (a0 :: a1 :: a2 :: a3 :: a4 :: a5 :: a6 :: a7 :: a8 :: a9 :: a10 :: a11 :: a12 :: a13 :: a14 :: some v :: l) H Q = Q v H := propext ⟨fun ⟨_, h, q⟩ => by cases h; exact q, fun q => ⟨v, rfl, q⟩⟩
theorem v16 : tVar 16 (a0 :: a1 :: a2 :: a3 :: a4 :: a5 :: a6 :: a7 :: a8 :: a9 :: a10 :: a11 :: a12 :: a13 :: a14 :: a15 :: some v :: l) H Q = Q v H := propext ⟨fun ⟨_, h, q⟩ => by cases h; exact q, fun q => ⟨v, rfl, q⟩⟩
theorem v17 : tVar 17 (a0 :: a1 :: a2 :: a3 :: a4 :: a5 :: a6 :: a7 :: a8 :: a9 :: a10 :: a11 :: a12 :: a13 :: a14 :: a15 :: a16 :: some v :: l) H Q = Q v H := propext ⟨fun ⟨_, h, q⟩ => by cases h; exact q, fun q => ⟨v, rfl, q⟩⟩
theorem v18 : tVar 18 (a0 :: a1 :: a2 :: a3 :: a4 :: a5 :: a6 :: a7 :: a8 :: a9 :: a10 :: a11 :: a12 :: a13 :: a14 :: a15 :: a16 :: a17 :: some v :: l) H Q = Q v H := propext ⟨fun ⟨_, h, q⟩ => by cases h; exact q, fun q => ⟨v, rfl, q⟩⟩
theorem v19 : tVar 19 (a0 :: a1 :: a2 :: a3 :: a4 :: a5 :: a6 :: a7 :: a8 :: a9 :: a10 :: a11 :: a12 :: a13 :: a14 :: a15 :: a16 :: a17 :: a18 :: some v :: l) H Q = Q v H := propext ⟨fun ⟨_, h, q⟩ => by cases h; exact q, fun q => ⟨v, rfl, q⟩⟩
theorem v20 : tVar 20 (a0 :: a1 :: a2 :: a3 :: a4 :: a5 :: a6 :: a7 :: a8 :: a9 :: a10 :: a11 :: a12 :: a13 :: a14 :: a15 :: a16 :: a17 :: a18 :: a19 :: some v :: l) H Q = Q v H := propext ⟨fun ⟨_, h, q⟩ => by cases h; exact q, fun q => ⟨v, rfl, q⟩⟩
theorem v21 : tVar 21 (a0 :: a1 :: a2 :: a3 :: a4 :: a5 :: a6 :: a7 :: a8 :: a9 :: a10 :: a11 :: a12 :: a13 :: a14 :: a15 :: a16 :: a17 :: a18 :: a19 :: a20 :: some v :: l) H Q = Q v H := propext ⟨fun ⟨_, h, q⟩ => by cases h; exact q, fun q => ⟨v, rfl, q⟩⟩
theorem v22 : tVar 22 (a0 :: a1 :: a2 :: a3 :: a4 :: a5 :: a6 :: a7 :: a8 :: a9 :: a10 :: a11 :: a12 :: a13 :: a14 :: a15 :: a16 :: a17 :: a18 :: a19 :: a20 :: a21 :: some v :: l) H Q = Q v H := propext ⟨fun ⟨_, h, q⟩ => by cases h; exact q, fun q => ⟨v, rfl, q⟩⟩
theorem v23 : tVar 23 (a0 :: a1 :: a2 :: a3 :: a4 :: a5 :: a6 :: a7 :: a8 :: a9 :: a10 :: a11 :: a12 :: a13 :: a14 :: a15 :: a16 :: a17 :: a18 :: a19 :: a20 :: a21 :: a22 :: some v :: l) H Q = Q v H := propext ⟨fun ⟨_, h, q⟩ => by cases h; exact q, fun q => ⟨v, rfl, q⟩⟩
theorem s0 {α : Type} {b : α} {l : List α} {a0 : α} : List.set (a0 :: l) 0 b = b :: l := rfl
theorem s1 {α : Type} {b : α} {l : List α} {a0 : α} {a1 : α} : List.set (a0 :: a1 :: l) 1 b = a0 :: b :: l := rfl
theorem s2 {α : Type} {b : α} {l : List α} {a0 : α} {a1 : α} {a2 : α} : List.set (a0 :: a1 :: a2 :: l) 2 b = a0 :: a1 :: b :: l := rfl
theorem s3 {α : Type} {b : α} {l : List α} {a0 : α} {a1 : α} {a2 : α} {a3 : α} : List.set (a0 :: a1 :: a2 :: a3 :: l) 3 b = a0 :: a1 :: a2 :: b :: l := rfl
theorem s4 {α : Type} {b : α} {l : List α} {a0 : α} {a1 : α} {a2 : α} {a3 : α} {a4 : α} : List.set (a0 :: a1 :: a2 :: a3 :: a4 :: l) 4 b = a0 :: a1 :: a2 :: a3 :: b :: l := rfl
theorem s5 {α : Type} {b : α} {l : List α} {a0 : α} {a1 : α} {a2 : α} {a3 : α} {a4 : α} {a5 : α} : List.set (a0 :: a1 :: a2 :: a3 :: a4 :: a5 :: l) 5 b = a0 :: a1 :: a2 :: a3 :: a4 :: b :: l := rfl
theorem s6 {α : Type} {b : α} {l : List α} {a0 : α} {a1 : α} {a2 : α} {a3 : α} {a4 : α} {a5 : α} {a6 : α} : List.set (a0 :: a1 :: a2 :: a3 :: a4 :: a5 :: a6 :: l) 6 b = a0 :: a1 :: a2 :: a3 :: a4 :: a5 :: b :: l := rfl
theorem s7 {α : Type} {b : α} {l : List α} {a0 : α} {a1 : α} {a2 : α} {a3 : α} {a4 : α} {a5 : α} {a6 : α} {a7 : α} : List.set (a0 :: a1 :: a2 :: a3 :: a4 :: a5 :: a6 :: a7 :: l) 7 b = a0 :: a1 :: a2 :: a3 :: a4 :: a5 :: a6 :: b :: l := rfl
theorem s8 {α : Type} {b : α} {l : List α} {a0 : α} {a1 : α} {a2 : α} {a3 : α} {a4 : α} {a5 : α} {a6 : α} {a7 : α} {a8 : α} : List.set (a0 :: a1 :: a2 :: a3 :: a4 :: a5 :: a6 :: a7 :: a8 :: l) 8 b = a0 :: a1 :: a2 :: a3 :: a4 :: a5 :: a6 :: a7 :: b :: l := rfl
theorem s9 {α : Type} {b : α} {l : List α} {a0 : α} {a1 : α} {a2 : α} {a3 : α} {a4 : α} {a5 : α} {a6 : α} {a7 : α} {a8 : α} {a9 : α} : List.set (a0 :: a1 :: a2 :: a3 :: a4 :: a5 :: a6 :: a7 :: a8 :: a9 :: l) 9 b = a0 :: a1 :: a2 :: a3 :: a4 :: a5 :: a6 :: a7 :: a8 :: b :: l := rfl
theorem s10 {α : Type} {b : α} {l : List α} {a0 : α} {a1 : α} {a2 : α} {a3 : α} {a4 : α} {a5 : α} {a6 : α} {a7 : α} {a8 : α} {a9 : α} {a10 : α} : List.set (a0 :: a1 :: a2 :: a3 :: a4 :: a5 :: a6 :: a7 :: a8 :: a9 :: a10 :: l) 10 b = a0 :: a1 :: a2 :: a3 :: a4 :: a5 :: a6 :: a7 :: a8 :: a9 :: b :: l := rfl
theorem s11 {α : Type} {b : α} {l : List α} {a0 : α} {a1 : α} {a2 : α} {a3 : α} {a4 : α} {a5 : α} {a6 : α} {a7 : α} {a8 : α} {a9 : α} {a10 : α} {a11 : α} : List.set (a0 :: a1 :: a2 :: a3 :: a4 :: a5 :: a6 :: a7 :: a8 :: a9 :: a10 :: a11 :: l) 11 b = a0 :: a1 :: a2 :: a3 :: a4 :: a5 :: a6 :: a7 :: a8 :: a9 :: a10 :: b :: l := rfl
theorem s12 {α : Type} {b : α} {l : List α} {a0 : α} {a1 : α} {a2 : α} {a3 : α} {a4 : α} {a5 : α} {a6 : α} {a7 : α} {a8 : α} {a9 : α} {a10 : α} {a11 : α} {a12 : α} : List.set (a0 :: a1 :: a2 :: a3 :: a4 :: a5 :: a6 :: a7 :: a8 :: a9 :: a10 :: a11 :: a12 :: l) 12 b = a0 :: a1 :: a2 :: a3 :: a4 :: a5 :: a6 :: a7 :: a8 :: a9 :: a10 :: a11 :: b :: l := rfl
theorem s13 {α : Type} {b : α} {l : List α} {a0 : α} {a1 : α} {a2 : α} {a3 : α} {a4 : α} {a5 : α} {a6 : α} {a7 : α} {a8 : α} {a9 : α} {a10 : α} {a11 : α} {a12 : α} {a13 : α} : List.set (a0 :: a1 :: a2 :: a3 :: a4 :: a5 :: a6 :: a7 :: a8 :: a9 :: a10 :: a11 :: a12 :: a13 :: l) 13 b = a0 :: a1 :: a2 :: a3 :: a4 :: a5 :: a6 :: a7 :: a8 :: a9 :: a10 :: a11 :: a12 :: b :: l := rfl
theorem s14 {α : Type} {b : α} {l : List α} {a0 : α} {a1 : α} {a2 : α} {a3 : α} {a4 : α} {a5 : α} {a6 : α} {a7 : α} {a8 : α} {a9 : α} {a10 : α} {a11 : α} {a12 : α} {a13 : α} {a14 : α} : List.set (a0 :: a1 :: a2 :: a3 :: a4 :: a5 :: a6 :: a7 :: a8 :: a9 :: a10 :: a11 :: a12 :: a13 :: a14 :: l) 14 b = a0 :: a1 :: a2 :: a3 :: a4 :: a5 :: a6 :: a7 :: a8 :: a9 :: a10 :: a11 :: a12 :: a13 :: b :: l := rfl
theorem s15 {α : Type} {b : α} {l : List α} {a0 : α} {a1 : α} {a2 : α} {a3 : α} {a4 : α} {a5 : α} {a6 : α} {a7 : α} {a8 : α} {a9 : α} {a10 : α} {a11 : α} {a12 : α} {a13 : α} {a14 : α} {a15 : α} : List.set (a0 :: a1 :: a2 :: a3 :: a4 :: a5 :: a6 :: a7 :: a8 :: a9 :: a10 :: a11 :: a12 :: a13 :: a14 :: a15 :: l) 15 b = a0 :: a1 :: a2 :: a3 :: a4 :: a5 :: a6 :: a7 :: a8 :: a9 :: a10 :: a11 :: a12 :: a13 :: a14 :: b :: l := rfl
theorem s16 {α : Type} {b : α} {l : List α} {a0 : α} {a1 : α} {a2 : α} {a3 : α} {a4 : α} {a5 : α} {a6 : α} {a7 : α} {a8 : α} {a9 : α} {a10 : α} {a11 : α} {a12 : α} {a13 : α} {a14 : α} {a15 : α} {a16 : α} : List.set (a0 :: a1 :: a2 :: a3 :: a4 :: a5 :: a6 :: a7 :: a8 :: a9 :: a10 :: a11 :: a12 :: a13 :: a14 :: a15 :: a16 :: l) 16 b = a0 :: a1 :: a2 :: a3 :: a4 :: a5 :: a6 :: a7 :: a8 :: a9 :: a10 :: a11 :: a12 :: a13 :: a14 :: a15 :: b :: l := rfl
theorem s17 {α : Type} {b : α} {l : List α} {a0 : α} {a1 : α} {a2 : α} {a3 : α} {a4 : α} {a5 : α} {a6 : α} {a7 : α} {a8 : α} {a9 : α} {a10 : α} {a11 : α} {a12 : α} {a13 : α} {a14 : α} {a15 : α} {a16 : α} {a17 : α} : List.set (a0 :: a1 :: a2 :: a3 :: a4 :: a5 :: a6 :: a7 :: a8 :: a9 :: a10 :: a11 :: a12 :: a13 :: a14 :: a15 :: a16 :: a17 :: l) 17 b = a0 :: a1 :: a2 :: a3 :: a4 :: a5 :: a6 :: a7 :: a8 :: a9 :: a10 :: a11 :: a12 :: a13 :: a14 :: a15 :: a16 :: b :: l := rfl
theorem s18 {α : Type} {b : α} {l : List α} {a0 : α} {a1 : α} {a2 : α} {a3 : α} {a4 : α} {a5 : α} {a6 : α} {a7 : α} {a8 : α} {a9 : α} {a10 : α} {a11 : α} {a12 : α} {a13 : α} {a14 : α} {a15 : α} {a16 : α} {a17 : α} {a18 : α} : List.set (a0 :: a1 :: a2 :: a3 :: a4 :: a5 :: a6 :: a7 :: a8 :: a9 :: a10 :: a11 :: a12 :: a13 :: a14 :: a15 :: a16 :: a17 :: a18 :: l) 18 b = a0 :: a1 :: a2 :: a3 :: a4 :: a5 :: a6 :: a7 :: a8 :: a9 :: a10 :: a11 :: a12 :: a13 :: a14 :: a15 :: a16 :: a17 :: b :: l := rfl
theorem s19 {α : Type} {b : α} {l : List α} {a0 : α} {a1 : α} {a2 : α} {a3 : α} {a4 : α} {a5 : α} {a6 : α} {a7 : α} {a8 : α} {a9 : α} {a10 : α} {a11 : α} {a12 : α} {a13 : α} {a14 : α} {a15 : α} {a16 : α} {a17 : α} {a18 : α} {a19 : α} : List.set (a0 :: a1 :: a2 :: a3 :: a4 :: a5 :: a6 :: a7 :: a8 :: a9 :: a10 :: a11 :: a12 :: a13 :: a14 :: a15 :: a16 :: a17 :: a18 :: a19 :: l) 19 b = a0 :: a1 :: a2 :: a3 :: a4 :: a5 :: a6 :: a7 :: a8 :: a9 :: a10 :: a11 :: a12 :: a13 :: a14 :: a15 :: a16 :: a17 :: a18 :: b :: l := rfl
theorem s20 {α : Type} {b : α} {l : List α} {a0 : α} {a1 : α} {a2 : α} {a3 : α} {a4 : α} {a5 : α} {a6 : α} {a7 : α} {a8 : α} {a9 : α} {a10 : α} {a11 : α} {a12 : α} {a13 : α} {a14 : α} {a15 : α} {a16 : α} {a17 : α} {a18 : α} {a19 : α} {a20 : α} : List.set (a0 :: a1 :: a2 :: a3 :: a4 :: a5 :: a6 :: a7 :: a8 :: a9 :: a10 :: a11 :: a12 :: a13 :: a14 :: a15 :: a16 :: a17 :: a18 :: a19 :: a20 :: l) 20 b = a0 :: a1 :: a2 :: a3 :: a4 :: a5 :: a6 :: a7 :: a8 :: a9 :: a10 :: a11 :: a12 :: a13 :: a14 :: a15 :: a16 :: a17 :: a18 :: a19 :: b :: l := rfl
theorem s21 {α : Type} {b : α} {l : List α} {a0 : α} {a1 : α} {a2 : α} {a3 : α} {a4 : α} {a5 : α} {a6 : α} {a7 : α} {a8 : α} {a9 : α} {a10 : α} {a11 : α} {a12 : α} {a13 : α} {a14 : α} {a15 : α} {a16 : α} {a17 : α} {a18 : α} {a19 : α} {a20 : α} {a21 : α} : List.set (a0 :: a1 :: a2 :: a3 :: a4 :: a5 :: a6 :: a7 :: a8 :: a9 :: a10 :: a11 :: a12 :: a13 :: a14 :: a15 :: a16 :: a17 :: a18 :: a19 :: a20 :: a21 :: l) 21 b = a0 :: a1 :: a2 :: a3 :: a4 :: a5 :: a6 :: a7 :: a8 :: a9 :: a10 :: a11 :: a12 :: a13 :: a14 :: a15 :: a16 :: a17 :: a18 :: a19 :: a20 :: b :: l := rfl
theorem s22 {α : Type} {b : α} {l : List α} {a0 : α} {a1 : α} {a2 : α} {a3 : α} {a4 : α} {a5 : α} {a6 : α} {a7 : α} {a8 : α} {a9 : α} {a10 : α} {a11 : α} {a12 : α} {a13 : α} {a14 : α} {a15 : α} {a16 : α} {a17 : α} {a18 : α} {a19 : α} {a20 : α} {a21 : α} {a22 : α} : List.set (a0 :: a1 :: a2 :: a3 :: a4 :: a5 :: a6 :: a7 :: a8 :: a9 :: a10 :: a11 :: a12 :: a13 :: a14 :: a15 :: a16 :: a17 :: a18 :: a19 :: a20 :: a21 :: a22 :: l) 22 b = a0 :: a1 :: a2 :: a3 :: a4 :: a5 :: a6 :: a7 :: a8 :: a9 :: a10 :: a11 :: a12 :: a13 :: a14 :: a15 :: a16 :: a17 :: a18 :: a19 :: a20 :: a21 :: b :: l := rfl
theorem s23 {α : Type} {b : α} {l : List α} {a0 : α} {a1 : α} {a2 : α} {a3 : α} {a4 : α} {a5 : α} {a6 : α} {a7 : α} {a8 : α} {a9 : α} {a10 : α} {a11 : α} {a12 : α} {a13 : α} {a14 : α} {a15 : α} {a16 : α} {a17 : α} {a18 : α} {a19 : α} {a20 : α} {a21 : α} {a22 : α} {a23 : α} : List.set (a0 :: a1 :: a2 :: a3 :: a4 :: a5 :: a6 :: a7 :: a8 :: a9 :: a10 :: a11 :: a12 :: a13 :: a14 :: a15 :: a16 :: a17 :: a18 :: a19 :: a20 :: a21 :: a22 :: a23 :: l) 23 b = a0 :: a1 :: a2 :: a3 :: a4 :: a5 :: a6 :: a7 :: a8 :: a9 :: a10 :: a11 :: a12 :: a13 :: a14 :: a15 :: a16 :: a17 :: a18 :: a19 :: a20 :: a21 :: a22 :: b :: l := rfl
end
end Wp

namespace Wp
open PySem L2
section
variable {K : PySem.W.Frag} {H : Hp} {Q : VK} {p : Addr} {xs : List V} {i : Int} {j : Nat} {v : V}
theorem ixl (h : H p = some (.lst xs)) (hi : atI xs i = some v) (q : Q v H) : rIxL K (.ref p) (.int i) H Q := ⟨p, xs, i, v, rfl, rfl, SqL.of h, hi, q⟩
theorem ixq (h : SqL K H p xs) (hi : atI xs i = some v) (q : Q v H) : rIxL K (.ref p) (.int i) H Q := ⟨p, xs, i, v, rfl, rfl, h, hi, q⟩
theorem setl {R : Hp → Prop} (h : H p = some (.lst xs)) (hj : ixN xs.length i = some j) (q : R (upd H p (.lst (xs.set j v)))) : rSetL (.ref p) (.int i) v H R := ⟨p, xs, i, j, rfl, rfl, h, hj, q⟩
theorem lenl (h : H p = some (.lst xs)) (q : Q (.int (xs.length : Int)) H) : rLen K [V.ref p] H Q := ⟨p, xs, rfl, .inl (SqL.of h), q⟩
theorem lent (h : H p = some (.tup xs)) (q : Q (.int (xs.length : Int)) H) : rLen K [V.ref p] H Q := ⟨p, xs, rfl, .inr (SqT.of h), q⟩
theorem lens (h : SqL K H p xs) (q : Q (.int (xs.length : Int)) H) : rLen K [V.ref p] H Q := ⟨p, xs, rfl, .inl h, q⟩
theorem lists (h : SqL K H p xs) (q : ∀ l, H l = none → Q (.ref l) (upd H l (.lst xs))) : rList K [V.ref p] H Q := ⟨p, xs, rfl, .inl h, q⟩
theorem listt (h : SqT K H p xs) (q : ∀ l, H l = none → Q (.ref l) (upd H l (.lst xs))) : rList K [V.ref p] H Q := ⟨p, xs, rfl, .inr h, q⟩
theorem u_ne {a : Addr} {o u : HO} (n : p ≠ a) (h : H p = some u) : upd H a o p = some u := (upd_ne n).trans h
theorem fresh_ne {a : Addr} {u : HO} (h : H p = some u) (n : H a = none) : p ≠ a := ne_of_none h n
theorem But.refl : But p H H := fun _ _ => rfl
theorem But.upd {H' : Hp} {o : HO} (b : But p H H') : But p H (upd H' p o) := fun c n => (upd_ne n).trans (b c n)
theorem atI_map {ns : List Int} {k : Int} (h0 : 0 ≤ k) (h : k < (ns.map V.int).length) : ∃ n, atI (ns.map V.int) k = some (.int n) := by
  obtain ⟨m, rfl⟩ : ∃ m : Nat, k = (m : Int) := ⟨k.toNat, by omega⟩
  have hm : m < (ns.map V.int).length := by omega
  have hm2 : m < ns.length := by rw [List.length_map] at hm; exact hm
  refine ⟨ns[m], atI_nat ?_⟩
  rw [List.getElem?_map, List.getElem?_eq_getElem hm2]
  rfl
end
end Wp

namespace Wp
open PySem L2
def NB (i : Int) (a : Nat) : Prop := i.natAbs < 2 ^ a
theorem NB.mul {i j : Int} {a b : Nat} (h : NB i a) (h' : NB j b) : NB (i * j) (a + b) := wide_lt h h'
theorem NB.of {i : Int} {a : Nat} (h0 : 0 ≤ i) (h : i < 2 ^ a) : NB i a := by
  unfold NB
  have h2 : ((2 ^ a : Nat) : Int) = (2 : Int) ^ a := by simp
  rw [← h2] at h
  omega
theorem NB.cm {i j : Int} {a b : Nat} (h : NB i a) (h' : NB j b) (h0 : 0 < a ∧ 0 < b ∧ a + b ≤ 1000000) : CMulW i j := wide_mul h h' h0.1 h0.2.1 h0.2.2
theorem NB.mod {a m : Int} (h0 : 0 < m) (h : m < 2 ^ 64) : NB (a % m) 64 := NB.of (Int.emod_nonneg _ (by omega)) (Int.lt_trans (Int.emod_lt_of_pos _ h0) h)
theorem cmm {a b m n : Int} (h0 : 0 < m) (h : m < 2 ^ 64) (h1 : 0 < n) (h2 : n < 2 ^ 64) : CMulW (a % m) (b % n) := (NB.mod h0 h).cm (NB.mod h1 h2) (by decide)
theorem dvs {a m : Int} (h0 : 0 < m) (h : m < 2 ^ 64) : CDivW a m := wide_div h0 (NB.of (Int.le_of_lt h0) h) (by decide) (by decide)
end Wp

namespace Wp
open PySem L2
section
variable {H H' H1 : Hp} {p l : Addr} {o : HO}
theorem PoolAt.new (h : PoolAt H p) (n : H l = none) : PoolAt (upd H l o) p := by
  obtain ⟨k, ns, i, x, c, e, h1, h2, h3⟩ := h
  exact ⟨k, ns, i, x, c, e, u_ne (ne_of_none h1 n) h1, u_ne (ne_of_none h2 n) h2, h3⟩
theorem PoolAt.has (h : PoolAt H p) : ∃ o, H p = some o := by
  obtain ⟨k, ns, i, x, c, e, h1, h2, h3⟩ := h
  exact ⟨_, h1⟩
theorem PoolAt.nefresh (h : PoolAt H p) (n : H l = none) : p ≠ l := by
  obtain ⟨o, h⟩ := h.has
  exact ne_of_none h n
theorem Ext.refl : Ext p H H := fun _ _ _ h => h
theorem Ext.trans (a : Ext p H H') (b : Ext p H' H1) : Ext p H H1 := fun c o n h => b c o n (a c o n h)
theorem But.ext (a : But p H H') : Ext p H H' := fun c o n h => (a c n).trans h
theorem Ext.new (n : H l = none) : Ext p H (upd H l o) := fun c u _ h => u_ne (ne_of_none h n) h
end
end Wp

namespace Wp
open PySem L2
/-! loops -/
def LOOP (J : It) (g : TG) (b : TS) (D : Ends) (st : L2.St) (h : Hp) : Prop := ∃ W : Nat → Nat → L2.St → Hp → Prop, (∃ m, W 0 m st h) ∧ ∀ i m st h, W i m st h → (J.stop i h ∧ D.nx st h) ∨ (J.go i h ∧ ∃ N : L2.St → Hp → Prop, (∀ st' h', N st' h' → ∃ m', m' < m ∧ W (i + 1) m' st' h') ∧ ∀ x h', J.yld i h x h' → g x st h' fun st2 h2 => b { D with nx := N, ct := N, bk := D.nx } st2 h2)
def LC (J : It) (g : TG) (tt : TT) (te : TE) (vs : List Nat) (st : L2.St) (h1 : Hp) (D : Addr) (Q : VK) : Prop := ∃ W : Nat → Nat → Hp → Prop, (∃ m, W 0 m (upd h1 D (.lst []))) ∧ ∀ i m h, W i m h → (J.stop i h ∧ Q (.ref D) h) ∨ (J.go i h ∧ ∃ N : Hp → Prop, (∀ h', N h' → ∃ m', m' < m ∧ W (i + 1) m' h') ∧ ∀ x h', J.yld i h x h' → g x (wipe st vs) h' fun st2 h2 => wipe st2 vs = wipe st vs ∧ tt st2 h2 fun b h3 => if b = true then te st2 h3 fun y h4 => ∃ acc, h4 D = some (.lst acc) ∧ acc.length < sizeLine ∧ N (upd h4 D (.lst (acc ++ [y]))) else N h3)
def rR1 (vs : List V) (H : Hp) (R : It → Hp → Prop) : Prop := ∃ j : Int, vs = [.int j] ∧ -(2 ^ 62) ≤ j ∧ j < 2 ^ 62 ∧ R (Itr 0 j.toNat) H
def rR2 (vs : List V) (H : Hp) (R : It → Hp → Prop) : Prop := ∃ i j : Int, vs = [.int i, .int j] ∧ (-(2 ^ 62) ≤ i ∧ i < 2 ^ 62 ∧ -(2 ^ 62) ≤ j ∧ j < 2 ^ 62) ∧ R (Itr i (j - i).toNat) H
def rIL (K : PySem.W.Frag) (x : V) (H : Hp) (R : It → Hp → Prop) : Prop := ∃ a, x = .ref a ∧ (∃ xs, SqL K H a xs) ∧ R (Itl K a) H
def rIT (K : PySem.W.Frag) (x : V) (H : Hp) (R : It → Hp → Prop) : Prop := ∃ a, x = .ref a ∧ (∃ xs, SqT K H a xs) ∧ R (Itt K a) H
section
variable {σ : L2.St} {H : Hp} {Q : VK} {D : Ends} {K : PySem.W.Frag} {R : It → Hp → Prop} {g : TG} {tb : TS}
theorem for_ {wi : TI} : tFor wi g tb D σ H = wi σ H fun J H1 => LOOP J g tb D σ H1 := rfl
theorem lc_ {wi : TI} {tt : TT} {te : TE} {vs : List Nat} : tLc wi g tt te vs σ H Q = wi σ H fun J H1 => ∀ D, H1 D = none → LC J g tt te vs σ H1 D Q := rfl
theorem ilist {tl : TE} : iList K tl σ H R = tl σ H fun x H1 => rIL K x H1 R := rfl
theorem itup {tl : TE} : iTup K tl σ H R = tl σ H fun x H1 => rIT K x H1 R := rfl
theorem irng1 {ta : TA} : iRng1 ta σ H R = ta σ H fun vs H1 => rR1 vs H1 R := rfl
theorem irng2 {ta : TA} : iRng2 ta σ H R = ta σ H fun vs H1 => rR2 vs H1 R := rfl
theorem rr1 {n : Int} : rR1 [.int n] H R = ((-(2 ^ 62) ≤ n ∧ n < 2 ^ 62) ∧ R (Itr 0 n.toNat) H) := propext ⟨fun ⟨_, e, a, b, c⟩ => by cases e; exact ⟨⟨a, b⟩, c⟩, fun ⟨⟨a, b⟩, c⟩ => ⟨n, rfl, a, b, c⟩⟩
theorem rr2 {i n : Int} : rR2 [.int i, .int n] H R = ((-(2 ^ 62) ≤ i ∧ i < 2 ^ 62 ∧ -(2 ^ 62) ≤ n ∧ n < 2 ^ 62) ∧ R (Itr i (n - i).toNat) H) := propext ⟨fun ⟨_, _, e, a, c⟩ => by cases e; exact ⟨a, c⟩, fun ⟨a, c⟩ => ⟨i, n, rfl, a, c⟩⟩
theorem ril {a : Addr} {xs : List V} (h : H a = some (.lst xs)) (q : R (Itl K a) H) : rIL K (.ref a) H R := ⟨a, rfl, ⟨xs, SqL.of h⟩, q⟩
theorem rilq {a : Addr} {xs : List V} (h : SqL K H a xs) (q : R (Itl K a) H) : rIL K (.ref a) H R := ⟨a, rfl, ⟨xs, h⟩, q⟩
theorem rit {a : Addr} {xs : List V} (h : H a = some (.tup xs)) (q : R (Itt K a) H) : rIT K (.ref a) H R := ⟨a, rfl, ⟨xs, SqT.of h⟩, q⟩
theorem loopR {lo : Int} {n : Nat} (Pv : Nat → L2.St → Hp → Prop) (h0 : Pv 0 σ H)
    (hs : ∀ (i : Nat) σ H, i < n → Pv i σ H → g (.int (lo + i)) σ H fun σ2 H2 => tb { D with nx := Pv (i + 1), ct := Pv (i + 1), bk := D.nx } σ2 H2) (hd : ∀ σ H, Pv n σ H → D.nx σ H) : LOOP (Itr lo n) g tb D σ H := for_range Pv h0 hs hd
theorem loopL {a : Addr} (xs : List V) (Pv : Nat → L2.St → Hp → Prop) (h0 : Pv 0 σ H) (hl : ∀ i σ H, i ≤ xs.length → Pv i σ H → SqL K H a xs)
    (hs : ∀ i x σ H, xs[i]? = some x → Pv i σ H → g x σ H fun σ2 H2 => tb { D with nx := Pv (i + 1), ct := Pv (i + 1), bk := D.nx } σ2 H2) (hd : ∀ σ H, Pv xs.length σ H → D.nx σ H) : LOOP (Itl K a) g tb D σ H := for_list Pv h0 hl hs hd
theorem loopT {a : Addr} (xs : List V) (Pv : Nat → L2.St → Hp → Prop) (h0 : Pv 0 σ H) (hl : ∀ i σ H, i ≤ xs.length → Pv i σ H → SqT K H a xs)
    (hs : ∀ i x σ H, xs[i]? = some x → Pv i σ H → g x σ H fun σ2 H2 => tb { D with nx := Pv (i + 1), ct := Pv (i + 1), bk := D.nx } σ2 H2) (hd : ∀ σ H, Pv xs.length σ H → D.nx σ H) : LOOP (Itt K a) g tb D σ H := for_tup Pv h0 hl hs hd
/-- a loop over a list, turn by turn -/
def RunL (K : PySem.W.Frag) (a : Addr) (full : List V) (g : TG) (tb : TS) (D : Ends) : List V → L2.St → Hp → Prop
  | [], σ, H => SqL K H a full ∧ D.nx σ H
  | x :: r, σ, H => SqL K H a full ∧ g x σ H fun σ2 H2 => tb { D with nx := RunL K a full g tb D r, ct := RunL K a full g tb D r, bk := D.nx } σ2 H2
theorem runL {a : Addr} {xs : List V} (h : H a = some (.lst xs)) (q : RunL K a xs g tb D xs σ H) : LOOP (Itl K a) g tb D σ H := by
  refine loopL xs (fun i σ H => RunL K a xs g tb D (xs.drop i) σ H) q (fun i σ H hi p => ?_) (fun i x σ H hx p => ?_) (fun σ H p => ?_)
  · cases e : xs.drop i with
    | nil => rw [e] at p; exact p.1
    | cons y r => rw [e] at p; exact p.1
  · have hi : i < xs.length := (List.getElem?_eq_some_iff.mp hx).1
    have e : xs.drop i = x :: xs.drop (i + 1) := by
      rw [List.drop_eq_getElem_cons hi]
      rw [List.getElem?_eq_getElem hi] at hx
      rw [Option.some.inj hx]
    rw [e] at p
    exact p.2
  · rw [List.drop_length] at p
    exact p.2
def RunC (K : PySem.W.Frag) (a : Addr) (full : List V) (g : TG) (tt : TT) (te : TE) (vs : List Nat) (σ : L2.St) (D : Addr) (Q : VK) : List V → Hp → Prop
  | [], H => SqL K H a full ∧ Q (.ref D) H
  | x :: r, H => SqL K H a full ∧ g x (wipe σ vs) H fun σ2 H2 => wipe σ2 vs = wipe σ vs ∧ tt σ2 H2 fun b H3 =>
      if b = true then te σ2 H3 fun y H4 => ∃ acc, H4 D = some (.lst acc) ∧ acc.length < sizeLine ∧ RunC K a full g tt te vs σ D Q r (upd H4 D (.lst (acc ++ [y]))) else RunC K a full g tt te vs σ D Q r H3
theorem runC {a D : Addr} {xs : List V} {tt : TT} {te : TE} {vs : List Nat} (q : RunC K a xs g tt te vs σ D Q xs (upd H D (.lst []))) : LC (Itl K a) g tt te vs σ H D Q := by
  refine lc_list (xs := xs) (fun i H => RunC K a xs g tt te vs σ D Q (xs.drop i) H) q (fun i H hi p => ?_) (fun i x H hx p => ?_) (fun H p => ?_)
  · cases e : xs.drop i with
    | nil => rw [e] at p; exact p.1
    | cons y r => rw [e] at p; exact p.1
  · have hi : i < xs.length := (List.getElem?_eq_some_iff.mp hx).1
    have e : xs.drop i = x :: xs.drop (i + 1) := by
      rw [List.drop_eq_getElem_cons hi]
      rw [List.getElem?_eq_getElem hi] at hx
      rw [Option.some.inj hx]
    rw [e] at p
    exact p.2
  · rw [List.drop_length] at p
    exact p.2
theorem tyes {R : Bool → Hp → Prop} : tYes σ H R = R true H := rfl
end
section
variable {X : Cx}
theorem ixL {K : PySem.W.Frag} (h : X.K = K) : IxR X (rIxL K) := h ▸ ix_list
theorem ixT {K : PySem.W.Frag} (h : X.K = K) : IxR X (rIxT K) := h ▸ ix_tup
theorem c_lenK {K : PySem.W.Frag} (h : X.K = K) : CallR X (.builtin "len") (rLen K) := h ▸ c_len
theorem c_listK {K : PySem.W.Frag} (h : X.K = K) : CallR X (.type "list") (rList K) := h ▸ c_list
theorem pi_listK {K : PySem.W.Frag} {tg l : Expr} {tl : TE} (h : X.K = K) (hl : PE X l tl) : PI X tg l (iList K tl) := h ▸ pi_list hl
theorem pi_tupK {K : PySem.W.Frag} {tg l : Expr} {tl : TE} (h : X.K = K) (hl : PE X l tl) : PI X tg l (iTup K tl) := h ▸ pi_tup hl
end
end Wp

namespace Wp
theorem ite_t {c A B : Prop} [Decidable c] (h : c) (q : A) : if c then A else B := by rw [if_pos h]; exact q
theorem ite_f {c A B : Prop} [Decidable c] (h : ¬ c) (q : B) : if c then A else B := by rw [if_neg h]; exact q
end Wp
set_option maxHeartbeats 2000000
/-! Wp1: lists, texts, truth, is True, isinstance of objects, while, slices, methods, one comprehension of pure parts. -/
namespace Wp
open PySem L2 PyProof.Rows
theorem kb_int_int : kitB "int" "int" = some true := by decide +kernel
theorem kb_int_str : kitB "int" "str" = some false := by decide +kernel
theorem kb_int_bool : kitB "int" "bool" = some false := by decide +kernel
theorem kb_int_list : kitB "int" "list" = some false := by decide +kernel
theorem kb_int_tuple : kitB "int" "tuple" = some false := by decide +kernel
theorem kb_str_int : kitB "str" "int" = some false := by decide +kernel
theorem kb_str_str : kitB "str" "str" = some true := by decide +kernel
theorem kb_str_bool : kitB "str" "bool" = some false := by decide +kernel
theorem kb_str_list : kitB "str" "list" = some false := by decide +kernel
theorem kb_str_tuple : kitB "str" "tuple" = some false := by decide +kernel
theorem kb_bool_int : kitB "bool" "int" = some true := by decide +kernel
theorem kb_bool_str : kitB "bool" "str" = some false := by decide +kernel
theorem kb_bool_bool : kitB "bool" "bool" = some true := by decide +kernel
theorem kb_bool_list : kitB "bool" "list" = some false := by decide +kernel
theorem kb_bool_tuple : kitB "bool" "tuple" = some false := by decide +kernel
theorem kb_list_int : kitB "list" "int" = some false := by decide +kernel
theorem kb_list_str : kitB "list" "str" = some false := by decide +kernel
theorem kb_list_bool : kitB "list" "bool" = some false := by decide +kernel
theorem kb_list_list : kitB "list" "list" = some true := by decide +kernel
theorem kb_list_tuple : kitB "list" "tuple" = some false := by decide +kernel
theorem kb_tuple_int : kitB "tuple" "int" = some false := by decide +kernel
theorem kb_tuple_str : kitB "tuple" "str" = some false := by decide +kernel
theorem kb_tuple_bool : kitB "tuple" "bool" = some false := by decide +kernel
theorem kb_tuple_list : kitB "tuple" "list" = some false := by decide +kernel
theorem kb_tuple_tuple : kitB "tuple" "tuple" = some true := by decide +kernel
theorem kb_NoneType_int : kitB "NoneType" "int" = some false := by decide +kernel
theorem kb_NoneType_str : kitB "NoneType" "str" = some false := by decide +kernel
theorem kb_NoneType_bool : kitB "NoneType" "bool" = some false := by decide +kernel
theorem kb_NoneType_list : kitB "NoneType" "list" = some false := by decide +kernel
theorem kb_NoneType_tuple : kitB "NoneType" "tuple" = some false := by decide +kernel
section
variable {X : Cx} {K : PySem.W.Frag} {σ : L2.St} {H : Hp} {Q : VK} {D : Ends}
/-! + of ints and of lists; subscripts of lists and tuples -/
def rAddL : R2 := fun x y H Q => rI0 (fun i j => .int (i + j)) x y H Q ∨ rCat x y H Q
theorem op_addL : OpR X (binaryOp .Add) rAddL := op_add.or op_cat
theorem addi {i j : Int} : rAddL (.int i) (.int j) H Q = Q (.int (i + j)) H := by
  apply propext
  constructor
  · intro h
    rcases h with h | ⟨l, b, xs, zs, h, _⟩
    · rw [i0] at h; exact h
    · cases h
  · intro h
    exact Or.inl (by rw [i0]; exact h)
theorem addl {a b : Addr} {xs ys : List V} (ha : H a = some (.lst xs)) (hb : H b = some (.lst ys)) (hz : xs.length + ys.length ≤ sizeLine) (q : ∀ p, H p = none → Q (.ref p) (upd H p (.lst (xs ++ ys)))) : rAddL (.ref a) (.ref b) H Q :=
  Or.inr ⟨a, b, xs, ys, rfl, rfl, ha, hb, hz, q⟩
theorem repl {a : Addr} {xs : List V} {k : Int} (ha : H a = some (.lst xs)) (h1 : -(2 ^ 63) ≤ k ∧ k < 2 ^ 63) (hz : xs.length * k.toNat ≤ sizeLine) (q : ∀ p, H p = none → Q (.ref p) (upd H p (.lst (List.replicate k.toNat xs).flatten))) : rRep (.ref a) (.int k) H Q :=
  ⟨a, k, xs, rfl, rfl, ha, h1.1, h1.2, hz, q⟩
def rIxA (K : PySem.W.Frag) : R2 := fun x y H Q => rIxL K x y H Q ∨ rIxT K x y H Q
theorem ixA (h : X.K = K) : IxR X (rIxA K) := h ▸ ix_list.or ix_tup
theorem ixal {p : Addr} {xs : List V} {i : Int} {v : V} (h : H p = some (.lst xs)) (hi : atI xs i = some v) (q : Q v H) : rIxA K (.ref p) (.int i) H Q := Or.inl (ixl h hi q)
theorem ixaq {p : Addr} {xs : List V} {i : Int} {v : V} (h : SqL K H p xs) (hi : atI xs i = some v) (q : Q v H) : rIxA K (.ref p) (.int i) H Q := Or.inl (ixq h hi q)
theorem ixat {p : Addr} {xs : List V} {i : Int} {v : V} (h : H p = some (.tup xs)) (hi : atI xs i = some v) (q : Q v H) : rIxA K (.ref p) (.int i) H Q := Or.inr ⟨p, xs, i, v, rfl, rfl, SqT.of h, hi, q⟩
/-! texts -/
theorem ds {i j : Str} : decide (V.str i = V.str j) = decide (i = j) := by
  by_cases h : i = j
  · subst h; simp
  · rw [decide_eq_false h, decide_eq_false]; intro q; cases q; exact h rfl
theorem eqs {i j : Str} : rEq (.str i) (.str j) H Q = Q (.bl (decide (i = j))) H := by
  unfold rEq; rw [ds]; exact propext ⟨fun q => q.2, fun q => ⟨rfl, q⟩⟩
theorem nes {i j : Str} : rNe (.str i) (.str j) H Q = Q (.bl (!decide (i = j))) H := by
  unfold rNe; rw [ds]; exact propext ⟨fun q => q.2, fun q => ⟨rfl, q⟩⟩
/-! is None, is True -/
def rIsN : R2 := fun x y H Q => y = .non ∧ Q (.bl (decide (x = .non))) H
def rNotN : R2 := fun x y H Q => y = .non ∧ Q (.bl (!decide (x = .non))) H
theorem o_isN : OpR X (compareOp .Is) rIsN := op_isN
theorem o_notN : OpR X (compareOp .IsNot) rNotN := op_notN
theorem isn {x : V} : rIsN x .non H Q = Q (.bl (decide (x = .non))) H := propext ⟨fun h => h.2, fun h => ⟨rfl, h⟩⟩
theorem notn {x : V} : rNotN x .non H Q = Q (.bl (!decide (x = .non))) H := propext ⟨fun h => h.2, fun h => ⟨rfl, h⟩⟩
theorem n_i {i : Int} : (V.int i = V.non) = False := eq_false (fun z => by cases z)
theorem n_s {i : Str} : (V.str i = V.non) = False := eq_false (fun z => by cases z)
theorem n_b {i : Bool} : (V.bl i = V.non) = False := eq_false (fun z => by cases z)
theorem n_r {i : Addr} : (V.ref i = V.non) = False := eq_false (fun z => by cases z)
/-- is, the right side a truth value -/
def rIsT : R2 := fun x y H Q => ∃ b : Bool, y = .bl b ∧ Q (.bl (decide (x = .bl b))) H
theorem op_isT : OpR X (compareOp .Is) rIsT := by
  intro pins s σ H x y v u Q I rx ry h
  obtain ⟨b, rfl, q⟩ := h
  cases (show u = Value.bool b from ry)
  have fin : ∀ c : Bool, c = decide (x = .bl b) → EP X pins σ Q (.bool c) s := fun c e => ⟨.bl c, H, I, rfl, by rw [e]; exact q⟩
  have no : x ≠ .bl b → EP X pins σ Q (.bool false) s := fun h => fin _ (decide_eq_false h).symm
  cases x with
  | non => cases (show v = Value.none from rx); exact wpAny_is_other rfl (fun z => by cases z) (no (fun z => by cases z))
  | bl a =>
    cases (show v = Value.bool a from rx)
    by_cases e : a = b
    · subst e
      exact wpAny_is_self rfl (fin _ (by simp))
    · exact wpAny_is_other rfl (fun z => e (Value.bool.inj z)) (no (fun z => by cases z; exact e rfl))
  | int i => obtain ⟨t, e⟩ := (show ∃ t, v = Value.int i t from rx); cases e; exact wpAny_is_other rfl (fun z => by cases z) (no (fun z => by cases z))
  | str i => obtain ⟨t, e⟩ := (show ∃ t, v = Value.str i t from rx); cases e; exact wpAny_is_other rfl (fun z => by cases z) (no (fun z => by cases z))
  | byt i => obtain ⟨t, e⟩ := (show ∃ t, v = Value.bytes i t from rx); cases e; exact wpAny_is_other rfl (fun z => by cases z) (no (fun z => by cases z))
  | flt i => obtain ⟨t, e⟩ := (show ∃ t, v = Value.float i t from rx); cases e; exact wpAny_is_other rfl (fun z => by cases z) (no (fun z => by cases z))
  | ref a => cases (show v = Value.ref a from rx); exact wpAny_is_other rfl (fun z => by cases z) (no (fun z => by cases z))
  | ty n => cases (show v = Value.type n from rx); exact wpAny_is_other rfl (fun z => by cases z) (no (fun z => by cases z))
theorem ist {x : V} {b : Bool} : rIsT x (.bl b) H Q = Q (.bl (decide (x = .bl b))) H := propext ⟨fun ⟨_, e, h⟩ => by cases e; exact h, fun h => ⟨b, rfl, h⟩⟩
theorem t_i {i : Int} {b : Bool} : (V.int i = V.bl b) = False := eq_false (fun z => by cases z)
theorem t_s {i : Str} {b : Bool} : (V.str i = V.bl b) = False := eq_false (fun z => by cases z)
theorem t_n {b : Bool} : (V.non = V.bl b) = False := eq_false (fun z => by cases z)
theorem t_r {i : Addr} {b : Bool} : (V.ref i = V.bl b) = False := eq_false (fun z => by cases z)
theorem t_b {a b : Bool} : (V.bl a = V.bl b) = (a = b) := propext ⟨fun z => by cases z; rfl, fun z => by rw [z]⟩
theorem n_n : (V.non = V.non) = True := eq_true rfl
/-! truth -/
def tTru (K : PySem.W.Frag) (te : TE) : TT := fun σ H Q => te σ H fun x H' => ∃ k, TruV K x H' k ∧ Q k H'
def rTru (K : PySem.W.Frag) (x : V) (H : Hp) (R : Bool → Hp → Prop) : Prop := ∃ k, TruV K x H k ∧ R k H
theorem pt_tru {a : Expr} {ta : TE} (h : X.K = K) (ha : PE X a ta) (he : ∀ whole, isTrue a X.env whole = (do let v ← whole; standAt a.pos; holding [v] (truthy v)) := by intro _; rfl) : PT X a (tTru K ta) := h ▸ pt_truth ha he
theorem tru {te : TE} {R : Bool → Hp → Prop} : tTru K te σ H R = te σ H fun x H' => rTru K x H' R := rfl
theorem tru_b {b : Bool} {R : Bool → Hp → Prop} : rTru K (.bl b) H R = R b H := propext ⟨fun ⟨k, e, r⟩ => by cases (show k = b from e); exact r, fun r => ⟨b, rfl, r⟩⟩
theorem tru_l {p : Addr} {xs : List V} {R : Bool → Hp → Prop} (h : H p = some (.lst xs)) (r : R (!xs.isEmpty) H) : rTru K (.ref p) H R := ⟨_, Or.inl ⟨xs, SqL.of h, rfl⟩, r⟩
/-! isinstance -/
def rIsiW (K : PySem.W.Frag) : List V → Hp → VK → Prop := rIsi K
theorem call_isiK {K : PySem.W.Frag} (h : X.K = K) : CallR X (.builtin "isinstance") (rIsiW K) := h ▸ call_isi
theorem isi_i {i : Int} {T : String} {b : Bool} (h : kitB "int" T = some b) (q : Q (.bl b) H) : rIsiW K [.int i, .ty T] H Q := ⟨_, _, .type "int", .type T, b, rfl, .ty T, .base (.int i), kit_ty h, q⟩
theorem isi_s {i : Str} {T : String} {b : Bool} (h : kitB "str" T = some b) (q : Q (.bl b) H) : rIsiW K [.str i, .ty T] H Q := ⟨_, _, .type "str", .type T, b, rfl, .ty T, .base (.str i), kit_ty h, q⟩
theorem isi_b {i : Bool} {T : String} {b : Bool} (h : kitB "bool" T = some b) (q : Q (.bl b) H) : rIsiW K [.bl i, .ty T] H Q := ⟨_, _, .type "bool", .type T, b, rfl, .ty T, .base (.bl i), kit_ty h, q⟩
theorem isi_n {T : String} {b : Bool} (h : kitB "NoneType" T = some b) (q : Q (.bl b) H) : rIsiW K [.non, .ty T] H Q := ⟨_, _, .type "NoneType", .type T, b, rfl, .ty T, .base .non, kit_ty h, q⟩
theorem isi_l {a : Addr} {xs : List V} {T : String} {b : Bool} (e : H a = some (.lst xs)) (h : kitB "list" T = some b) (q : Q (.bl b) H) : rIsiW K [.ref a, .ty T] H Q := ⟨_, _, .type "list", .type T, b, rfl, .ty T, .base (.lst e), kit_ty h, q⟩
theorem isi_t {a : Addr} {xs : List V} {T : String} {b : Bool} (e : H a = some (.tup xs)) (h : kitB "tuple" T = some b) (q : Q (.bl b) H) : rIsiW K [.ref a, .ty T] H Q := ⟨_, _, .type "tuple", .type T, b, rfl, .ty T, .base (.tup e), kit_ty h, q⟩
/-! slices of lists -/
theorem sl {r : V → Option Int → Option Int → Hp → VK → Prop} {te : TE} {tl th : TO} : tSl r te tl th σ H Q = te σ H fun x H1 => tl σ H1 fun l H2 => th σ H2 fun u H3 => r x l u H3 Q := rfl
theorem nopart {R : Option Int → Hp → Prop} : tNoPart σ H R = R none H := rfl
def rPart (x : V) (H : Hp) (R : Option Int → Hp → Prop) : Prop := ∃ i, x = .int i ∧ R (some i) H
theorem part {t : TE} {R : Option Int → Hp → Prop} : tPart t σ H R = t σ H fun x H1 => rPart x H1 R := rfl
theorem rpart {i : Int} {R : Option Int → Hp → Prop} : rPart (.int i) H R = R (some i) H := propext ⟨fun ⟨_, e, h⟩ => by cases e; exact h, fun h => ⟨i, rfl, h⟩⟩
theorem sl_listK {K : PySem.W.Frag} (h : X.K = K) : SlR X (rSlL K) := h ▸ sl_list
theorem slq {a : Addr} {xs : List V} {lo hi : Option Int} (h : SqL K H a xs) (q : ∀ p, H p = none → Q (.ref p) (upd H p (.lst (cutV xs lo hi)))) : rSlL K (.ref a) lo hi H Q := ⟨a, xs, rfl, h, q⟩
theorem sll {a : Addr} {xs : List V} {lo hi : Option Int} (h : H a = some (.lst xs)) (q : ∀ p, H p = none → Q (.ref p) (upd H p (.lst (cutV xs lo hi)))) : rSlL K (.ref a) lo hi H Q := ⟨a, xs, rfl, SqL.of h, q⟩
/-! methods of lists -/
def rMt (K : PySem.W.Frag) (T : String) (r : V → List V → Hp → VK → Prop) (t : TA) (σ : L2.St) (x : V) (H : Hp) (Q : VK) : Prop := tyV K T x H ∧ t σ H fun xs H2 => r x xs H2 Q
theorem bm {T : String} {r : V → List V → Hp → VK → Prop} {to : TE} {t : TA} : tBM K T r to t σ H Q = to σ H fun x H1 => rMt K T r t σ x H1 Q := rfl
theorem bm0 {T : String} {r : V → List V → Hp → VK → Prop} {to : TE} : tBM0 K T r to σ H Q = to σ H fun x H1 => rMt K T r tNil σ x H1 Q := rfl
theorem mtl {a : Addr} {xs : List V} {r : V → List V → Hp → VK → Prop} {t : TA} (h : H a = some (.lst xs)) (q : t σ H fun ys H2 => r (.ref a) ys H2 Q) : rMt K "list" r t σ (.ref a) H Q := ⟨Or.inl ⟨rfl, xs, SqL.of h⟩, q⟩
theorem apd {l : Addr} {xs : List V} {y : V} (h : H l = some (.lst xs)) (hz : xs.length < sizeLine) (q : Q .non (upd H l (.lst (xs ++ [y])))) : rAppend (.ref l) [y] H Q := ⟨l, xs, y, rfl, rfl, h, hz, q⟩
theorem popd {l : Addr} {xs : List V} {y : V} (h : H l = some (.lst xs)) (hy : xs[xs.length - 1]? = some y) (q : Q y (upd H l (.lst xs.dropLast))) : rPop (.ref l) [] H Q := ⟨l, xs, y, rfl, rfl, h, hy, q⟩
section
open PySem.W
variable {o e : Expr} {es : List Expr} {to : TE} {t : TA} {name : Str} {apos cpos : Pos} {T id : String} {r : V → List V → Hp → VK → Prop}
theorem pe_bm0K {X : Cx} {K : PySem.W.Frag} (h : X.K = K) (pa : PlainAttrs T) (slot : Slot T name id) (hty : typeOf (.builtin id) = pure (.type "method_descriptor")) (hm : MtR X id r) (ho : PE X o to)
    (hbase : attributeBase o name X.env (eval o X.env) = eval o X.env := by rfl) (hline : (apos.endLine == cpos.line) = true := by rfl) : PE X (.Call (.Attribute o name apos) [] [] cpos) (tBM0 K T r to) := h ▸ pe_bm0 pa slot hty hm ho hbase hline
theorem pe_bmK {X : Cx} {K : PySem.W.Frag} (h : X.K = K) (pa : PlainAttrs T) (slot : Slot T name id) (hty : typeOf (.builtin id) = pure (.type "method_descriptor")) (hm : MtR X id r) (ho : PE X o to) (ha : PA X (e :: es) t)
    (hbase : attributeBase o name X.env (eval o X.env) = eval o X.env := by rfl)
    (hfew : ((backTo cpos (starEach (e :: es) X.env)).all (fun x => !x.1) && (backToKw cpos (keywordEach [] X.env)).all (fun x => x.1.isSome) && decide ((e :: es).length + ([] : List Keyword).length + (if ([] : List Keyword).isEmpty then 0 else 1) < 30)) = true := by rfl)
    (hline : (apos.endLine == cpos.line) = true := by rfl) (hs : starEach (e :: es) X.env = (false, eval e X.env) :: starEach es X.env := by rfl) (hplain : (backTo cpos (starEach es X.env)).any (·.1) = false := by rfl) :
    PE X (.Call (.Attribute o name apos) (e :: es) [] cpos) (tBM K T r to t) := h ▸ pe_bm pa slot hty hm ho ha hbase hfew hline hs hplain
end
/-! x op= e -/
theorem aug {i : Nat} {te : TE} {ti : TIp} : tAug i te ti D σ H = tVar i σ H fun x H0 => te σ H0 fun y H1 => ti x y H1 fun z H2 => D.nx (σ.set i (some z)) H2 := rfl
theorem ipi {f : Int → Int → Int} {i j : Int} : ipI f (.int i) (.int j) H Q = Q (.int (f i j)) H := propext ⟨fun ⟨_, _, e1, e2, h⟩ => by cases e1; cases e2; exact h, fun h => ⟨i, j, rfl, rfl, h⟩⟩
/-! while -/
theorem wh {c : TT} {b : TS} (W : Nat → L2.St → Hp → Prop) (m0 : Nat) (h0 : W m0 σ H)
    (hs : ∀ m σ H, W m σ H → c σ H fun k H1 => if k = true then ∃ N : L2.St → Hp → Prop, (∀ σ' H', N σ' H' → ∃ m', m' < m ∧ W m' σ' H') ∧ b { D with nx := N, ct := N, bk := D.nx } σ H1 else D.nx σ H1) : tWhile c b D σ H := ⟨W, ⟨m0, h0⟩, hs⟩
end
section
variable {K : PySem.W.Frag} {σ : L2.St} {H : Hp} {Q : VK} {tt : TT} {te : TE} {vs : List Nat}
/-- a comprehension whose test and element only look -/
theorem lcP {a Dl : Addr} {xs : List V} {j : Nat} (bf : V → Bool) (vf : V → V) (h : H a = some (.lst xs)) (hD : H Dl = none) (hz : xs.length ≤ 100000) (hw : ∀ x, wipe ((wipe σ vs).set j (some x)) vs = wipe σ vs)
    (ht : ∀ x, x ∈ xs → ∀ (l : List V) (R : Bool → Hp → Prop), R (bf x) (upd H Dl (.lst l)) → tt ((wipe σ vs).set j (some x)) (upd H Dl (.lst l)) R)
    (he : ∀ x, x ∈ xs → bf x = true → ∀ (l : List V) (R : VK), R (vf x) (upd H Dl (.lst l)) → te ((wipe σ vs).set j (some x)) (upd H Dl (.lst l)) R)
    (q : Q (.ref Dl) (upd H Dl (.lst ((xs.filter bf).map vf)))) : LC (Itl K a) (gName j) tt te vs σ H Dl Q := by
  have hne : a ≠ Dl := ne_of_none h hD
  refine lc_list (xs := xs) (fun i H' => H' = upd H Dl (.lst (((xs.take i).filter bf).map vf))) rfl (fun i H' hi e => by rw [e]; exact SqL.of (u_ne hne h)) (fun i x H' hx e => ?_) (fun H' e => ?_)
  · subst e
    have et : xs.take (i + 1) = xs.take i ++ [x] := by rw [List.take_succ, hx]; rfl
    refine ⟨hw x, ht x (List.mem_of_getElem? hx) _ _ ?_⟩
    cases e : bf x with
    | false =>
      show _ = _
      rw [et, List.filter_append]
      simp [e]
    | true =>
      refine he x (List.mem_of_getElem? hx) e _ _ ⟨_, upd_same, ?_, ?_⟩
      · have h1 := List.length_filter_le bf (xs.take i)
        rw [List.length_map]
        have h2 : (xs.take i).length ≤ xs.length := by rw [List.length_take]; omega
        exact Nat.lt_of_le_of_lt (Nat.le_trans h1 (Nat.le_trans h2 hz)) (by decide)
      · rw [upd_upd, et, List.filter_append, List.map_append]
        simp [e]
  · subst e
    rw [List.take_length]
    exact q
end
theorem sz_lt {n : Nat} (h : n < 100000) : n < sizeLine := Nat.lt_of_lt_of_le h (by decide)
theorem sz_le {n : Nat} (h : n ≤ 100000) : n ≤ sizeLine := Nat.le_trans h (by decide)
/-- what H told stands -/
def Ex (H H' : Hp) : Prop := ∀ b o, H b = some o → H' b = some o
theorem Ex.refl {H : Hp} : Ex H H := fun _ _ h => h
theorem Ex.trans {H H1 H2 : Hp} (a : Ex H H1) (b : Ex H1 H2) : Ex H H2 := fun x o h => b x o (a x o h)
theorem Ex.new {H H1 : Hp} {p : Addr} {o : HO} (a : Ex H H1) (n : H1 p = none) : Ex H (upd H1 p o) := fun b u h => u_ne (ne_of_none (a b u h) n) (a b u h)
theorem Ex.mut {H H1 : Hp} {p : Addr} {o : HO} (a : Ex H H1) (n : H p = none) : Ex H (upd H1 p o) := fun b u h => u_ne (ne_of_none h n) (a b u h)
theorem Ex.free {H H1 : Hp} {p : Addr} (a : Ex H H1) (n : H1 p = none) : H p = none := by
  cases e : H p with
  | none => rfl
  | some o => rw [a p o e] at n; cases n
theorem Ex.ext {p : Addr} {H H' : Hp} (a : Ex H H') : Ext p H H' := fun b o _ h => a b o h
theorem PoolAt.ex {H H' : Hp} {p : Addr} (h : PoolAt H p) (a : Ex H H') : PoolAt H' p := by
  obtain ⟨l, ns, i, x, c, e, h1, h2, h3⟩ := h
  exact ⟨l, ns, i, x, c, e, a _ _ h1, a _ _ h2, h3⟩
theorem Ext.new' {p l : Addr} {o : HO} {H H1 : Hp} (a : Ext p H H1) (n : H1 l = none) : Ext p H (upd H1 l o) := fun b u hb h => u_ne (ne_of_none (a b u hb h) n) (a b u hb h)
theorem Ext.mut {p l : Addr} {o : HO} {H H1 : Hp} (a : Ext p H H1) (n : H l = none) : Ext p H (upd H1 l o) := fun b u hb h => u_ne (ne_of_none h n) (a b u hb h)
end Wp
/-! Wp2: what the laws' common helpers promise; count of a list; odds and ends. -/
namespace Wp
open PySem L2 PyProof.Rows
section
variable {X : Cx}
/-- how often a flat thing stands in a list of flat things: some number up to the length -/
def rCntB (K : PySem.W.Frag) : V → List V → Hp → VK → Prop := fun x xs H Q => ∃ (a : Addr) (ys : List V) (y : V), x = V.ref a ∧ xs = [y] ∧ SqL K H a ys ∧ flatV y = true ∧ ys.all flatV = true ∧ ∀ n : Nat, n ≤ ys.length → Q (.int (n : Int)) H
theorem mt_countS : MtR X "list.count" (rCntB X.K) := by
  intro pins s σ H x xs v us Q I rx rxs h
  obtain ⟨a, ys, y, rfl, rfl, hs, fy, fys, q⟩ := h
  cases rx
  cases rxs with
  | cons ry rt =>
    rename_i uy ut
    cases rt
    obtain ⟨its, rv, ⟨⟨cls, dd, data, sl⟩, n, ho, hc, hdn, hd⟩, hlen⟩ := I.list hs
    simp only at hc hd
    subst hc hd
    refine call_meets PySem.F.slot_list_count ⟨_, ho, rfl⟩ PySem.F.entry_list_count (PySem.F.args_list_count_2 _ _)
      (SeqAt.list_countAt a its.toArray n dd sl uy (eqU y)) ⟨ho, fun u' hu' => mem_eqAt ry fy rv fys u' (by simpa using hu'), ?_⟩
    have hc := List.countP_le_length (p := eqU y) (l := its.toArray.toList)
    have e2 : its.toArray.toList.length = ys.length := by have := rv.length; simp; omega
    exact ⟨.int _, H, I.tok _, ⟨_, rfl⟩, q _ (by omega)⟩
theorem mt_countK {K : PySem.W.Frag} (h : X.K = K) : MtR X "list.count" (rCntB K) := h ▸ mt_countS
end
theorem cntb {K : PySem.W.Frag} {H : Hp} {Q : VK} {a : Addr} {ys : List V} {y : V} (h : H a = some (.lst ys)) (fy : flatV y = true) (fys : ys.all flatV = true) (q : ∀ n : Nat, n ≤ ys.length → Q (.int (n : Int)) H) : rCntB K (.ref a) [y] H Q := ⟨a, ys, y, rfl, rfl, SqL.of h, fy, fys, q⟩
theorem all_flat_str (cs : List Str) : (cs.map V.str).all flatV = true := by
  rw [List.all_eq_true]
  intro x hx
  obtain ⟨c, _, rfl⟩ := List.mem_map.mp hx
  rfl
theorem cutV_map {α : Type} (f : α → V) (xs : List α) (lo hi : Option Int) : ∃ ys : List α, cutV (xs.map f) lo hi = ys.map f ∧ (∀ y, y ∈ ys → y ∈ xs) ∧ ys.length ≤ xs.length := by
  refine ⟨(xs.drop (HT.sIx (xs.map f).length 0 lo)).take (HT.sIx (xs.map f).length (xs.map f).length hi - HT.sIx (xs.map f).length 0 lo), ?_, fun y h => List.mem_of_mem_drop (List.mem_of_mem_take h), ?_⟩
  · unfold cutV
    rw [List.map_take, List.map_drop]
  · rw [List.length_take, List.length_drop]
    omega
theorem rep_map {α : Type} (f : α → V) (xs : List α) (n : Nat) : (List.replicate n (xs.map f)).flatten = ((List.replicate n xs).flatten).map f := by
  rw [List.map_flatten, List.map_replicate]
theorem rep_len {α : Type} (xs : List α) (n : Nat) : (List.replicate n xs).flatten.length = n * xs.length := by
  rw [List.length_flatten, List.map_replicate, List.sum_replicate_nat]
theorem rep_mem {α : Type} {xs : List α} {n : Nat} {y : α} (h : y ∈ (List.replicate n xs).flatten) : y ∈ xs := by
  obtain ⟨l, hl, hy⟩ := List.mem_flatten.mp h
  rw [List.eq_of_mem_replicate hl] at hy
  exact hy
/-- the pool at p, its list at l -/
def PoolL (H : Hp) (p l : Addr) : Prop := ∃ ns i x c e, PoolC H p l ns i x c e
section
variable {H H' H1 : Hp} {p l b : Addr} {o : HO}
theorem PoolL.ne (h : PoolL H p l) : l ≠ p := by
  obtain ⟨ns, i, x, c, e, h⟩ := h
  exact h.ne
theorem PoolL.upd (h : PoolL H p l) (n1 : b ≠ p) (n2 : b ≠ l) : PoolL (upd H b o) p l := by
  obtain ⟨ns, i, x, c, e, h1, h2, h3⟩ := h
  exact ⟨ns, i, x, c, e, u_ne n1.symm h1, u_ne n2.symm h2, h3⟩
theorem PoolL.nep (h : PoolL H p l) (n : H b = none) : b ≠ p := by
  obtain ⟨ns, i, x, c, e, h1, h2, h3⟩ := h
  exact (ne_of_none h1 n).symm
theorem PoolL.nel (h : PoolL H p l) (n : H b = none) : b ≠ l := by
  obtain ⟨ns, i, x, c, e, h1, h2, h3⟩ := h
  exact (ne_of_none h2 n).symm
theorem PoolL.new (h : PoolL H p l) (n : H b = none) : PoolL (L2.upd H b o) p l := h.upd (h.nep n) (h.nel n)
theorem PoolL.ex (h : PoolL H p l) (a : Ex H H') : PoolL H' p l := by
  obtain ⟨ns, i, x, c, e, h1, h2, h3⟩ := h
  exact ⟨ns, i, x, c, e, a _ _ h1, a _ _ h2, h3⟩
theorem But.trans (a : But p H H1) (b : But p H1 H') : But p H H' := fun c n => (b c n).trans (a c n)
theorem But.get (a : But p H H1) (n : b ≠ p) (h : H b = some o) : H1 b = some o := (a b n).trans h
end
def spPoolL (K : PySem.W.Frag) : Sp := fun vs H Q _ => ∃ (a : Addr) (ns : List Int), vs = [.ref a] ∧ SqL K H a (ns.map V.int) ∧ ∀ p l H', H p = none → H l = none → Ex H H' → PoolL H' p l → Q (.ref p) H'
def spDrawL : Sp := fun vs H Q _ => ∃ (p : Addr) (m : Int), vs = [.ref p, .int m] ∧ ∃ l, PoolL H p l ∧ 0 < m ∧ m.natAbs < 2 ^ 200 ∧ ∀ r H', 0 ≤ r → r < m → PoolL H' p l → But p H H' → Q (.int r) H'
def spPick : Sp := fun vs H Q _ => ∃ (p a : Addr), vs = [.ref p, .ref a] ∧ ∃ (l : Addr) (xs : List V), PoolL H p l ∧ H a = some (.lst xs) ∧ a ≠ p ∧ 0 < xs.length ∧ xs.length < 2 ^ 60 ∧ ∀ (i : Nat) (x : V) (H' : Hp), xs[i]? = some x → PoolL H' p l → But p H H' → Q x H'
def spRare : Sp := fun vs H Q _ => ∃ (p : Addr) (m : Int), vs = [.ref p, .int m] ∧ ∃ l, PoolL H p l ∧ 0 < m ∧ m < 2 ^ 60 ∧ ∀ b H', PoolL H' p l → But p H H' → Q (.bl b) H'
def spFew : Sp := fun vs H Q _ => ∃ (p : Addr) (u m : Int), vs = [.ref p, .int u, .int m] ∧ ∃ l, PoolL H p l ∧ 0 ≤ u ∧ u ≤ m ∧ m < 2 ^ 60 ∧ ∀ r H', 0 ≤ r → r ≤ m → PoolL H' p l → But p H H' → Q (.int r) H'
/-- what is known of a heap on the way: the pool, what stood, a list of what stands where -/
structure SS (p l : Addr) (H0 H : Hp) (L : List (Addr × HO)) : Prop where
  pool : PoolL H p l
  ext : Ext p H0 H
  has : ∀ e, e ∈ L → e.1 ≠ p ∧ H e.1 = some e.2
section
variable {p l b a : Addr} {H0 H H' : Hp} {L : List (Addr × HO)} {o : HO}
theorem SS.first (h : PoolL H p l) : SS p l H H [] := ⟨h, Ext.refl, fun e he => by cases he⟩
theorem SS.add (S : SS p l H0 H L) (n : a ≠ p) (h : H a = some o) : SS p l H0 H ((a, o) :: L) := ⟨S.pool, S.ext, fun e he => by
  rcases List.mem_cons.mp he with rfl | he
  · exact ⟨n, h⟩
  · exact S.has e he⟩
theorem SS.new (S : SS p l H0 H L) (n : H b = none) (o : HO) : SS p l H0 (upd H b o) ((b, o) :: L) := ⟨S.pool.new n, S.ext.new' n, fun e he => by
  rcases List.mem_cons.mp he with rfl | he
  · exact ⟨S.pool.nep n, upd_same⟩
  · exact ⟨(S.has e he).1, u_ne (ne_of_none (S.has e he).2 n) (S.has e he).2⟩⟩
theorem SS.draw (S : SS p l H0 H L) (h : PoolL H' p l) (bt : But p H H') : SS p l H0 H' L := ⟨h, S.ext.trans bt.ext, fun e he => ⟨(S.has e he).1, bt.get (S.has e he).1 (S.has e he).2⟩⟩
theorem SS.step (S : SS p l H0 H L) (h : PoolL H' p l) (x : Ext p H H') : SS p l H0 H' L := ⟨h, S.ext.trans x, fun e he => ⟨(S.has e he).1, x _ _ (S.has e he).1 (S.has e he).2⟩⟩
theorem SS.at (S : SS p l H0 H L) {i : Nat} (h : L[i]? = some (a, o)) : H a = some o := (S.has _ (List.mem_of_getElem? h)).2
theorem SS.ne (S : SS p l H0 H L) {i : Nat} (h : L[i]? = some (a, o)) : a ≠ p := (S.has _ (List.mem_of_getElem? h)).1
theorem SS.less (S : SS p l H0 H L) {L' : List (Addr × HO)} (h : ∀ e, e ∈ L' → e ∈ L) : SS p l H0 H L' := ⟨S.pool, S.ext, fun e he => S.has e (h e he)⟩
end
/-- what is known of a heap on the way, without a pool -/
structure KK (H0 H : Hp) (L : List (Addr × HO)) : Prop where
  ext : Ex H0 H
  has : ∀ e, e ∈ L → H e.1 = some e.2
section
variable {b a : Addr} {H0 H H' : Hp} {L : List (Addr × HO)} {o : HO}
theorem KK.first : KK H H [] := ⟨Ex.refl, fun e he => by cases he⟩
theorem KK.add (S : KK H0 H L) (h : H a = some o) : KK H0 H ((a, o) :: L) := ⟨S.ext, fun e he => by
  rcases List.mem_cons.mp he with rfl | he
  · exact h
  · exact S.has e he⟩
theorem KK.new (S : KK H0 H L) (n : H b = none) (o : HO) : KK H0 (upd H b o) ((b, o) :: L) := ⟨S.ext.new n, fun e he => by
  rcases List.mem_cons.mp he with rfl | he
  · exact upd_same
  · exact u_ne (ne_of_none (S.has e he) n) (S.has e he)⟩
theorem KK.step (S : KK H0 H L) (x : Ex H H') : KK H0 H' L := ⟨S.ext.trans x, fun e he => x _ _ (S.has e he)⟩
theorem KK.at (S : KK H0 H L) {i : Nat} (h : L[i]? = some (a, o)) : H a = some o := S.has _ (List.mem_of_getElem? h)
theorem KK.less (S : KK H0 H L) {L' : List (Addr × HO)} (h : ∀ e, e ∈ L' → e ∈ L) : KK H0 H L' := ⟨S.ext, fun e he => S.has e (h e he)⟩
end
/-! errors made, their fields stored and read -/
def rMk (C : Addr) (sp : Sp) (vs : List V) (H1 : Hp) (Q : XK) : Prop := vs.length ≤ 1000 ∧ ∀ a, H1 a = none → sp (.ref a :: vs) (upd H1 a (exo a C none))
  (fun v H2 => v = .non ∧ ∃ (d : Addr) (fs : List (Str × V)), H2 a = some (exo a C (some d)) ∧ H2 d = some (exd d fs) ∧ H1 d = none ∧ Q (.ref C) (some d) (upd (del H2 a) d (.xd fs))) (fun _ _ _ => False)
section
variable {K : PySem.W.Frag} {σ : L2.St} {H : Hp} {Q : VK} {D : Ends}
theorem mko {C : Addr} {sp : Sp} {ta : TA} {R : XK} : tMkO C sp [] ta σ H R = ta σ H fun vs H1 => rMk C sp vs H1 R := by
  unfold tMkO rMk
  simp only [List.append_nil]
def rOst (K : PySem.W.Frag) (f : Str) (x y : V) (H2 : Hp) (R : Hp → Prop) : Prop := ∃ a C : Addr, x = .ref a ∧ OexC K C ∧ PySem.W.findIn K (.ref C) f = some none ∧
  ((H2 a = some (exo a C none) ∧ ∀ dx, H2 dx = none → dx ≠ a → R (upd (upd H2 dx (exd dx [(f, y)])) a (exo a C (some dx)))) ∨
    ∃ (dx : Addr) (fs : List (Str × V)), H2 a = some (exo a C (some dx)) ∧ H2 dx = some (exd dx fs) ∧ fs.length ≤ 900 ∧ R (upd H2 dx (exd dx ((f, y) :: fs))))
theorem ost {f : Str} {to te : TE} : tOst K f to te D σ H = te σ H fun y H1 => to σ H1 fun x H2 => rOst K f x y H2 (D.nx σ) := rfl
def rXf (a : Addr) (cls : Value) (d : Option Addr) (C : Addr) (f : Str) (x : V) (H1 : Hp) (Q : VK) : Prop := x = .ref a ∧ cls = .ref C ∧ ∃ (dd : Addr) (fs : List (Str × V)) (v : V), d = some dd ∧ H1 dd = some (.xd fs) ∧ fs.lookup f = some v ∧ Q v H1
theorem xf {a C : Addr} {cls : Value} {d : Option Addr} {f : Str} {te : TE} : tXf a cls d C f te σ H Q = te σ H fun x H1 => rXf a cls d C f x H1 Q := rfl
theorem callS {sp : Sp} {E : L2.St → XK} {t : TA} : tCallS sp E t σ H Q = t σ H fun vs H1 => sp vs H1 Q (E σ) := rfl
end
theorem ps_ostK {X : Cx} {K : PySem.W.Frag} {o e : Expr} {to te : TE} {f : Str} {p' pos : Pos} (h : X.K = K) (ho : PE X o to) (he : PE X e te) (hs : swapsWith e (some (.Attribute o f p')) pos.line X.env = pure false := by rfl) : PS X (.Assign [.Attribute o f p'] e pos) (tOst K f to te) := h ▸ ps_ost ho he hs
theorem Ext.free {p b : Addr} {H H' : Hp} (a : Ext p H H') (n : H' b = none) (h : b ≠ p) : H b = none := by
  cases e : H b with
  | none => rfl
  | some o => rw [a b o h e] at n; cases n
end Wp
set_option maxHeartbeats 4000000
/-! Wp3: isinstance of a caught error that has fields. -/
namespace Wq
open PySem PySem.W PySem.Spec PySem.Calls PyProof.Rows L2
section
variable {prog : Program} {w : World} {A : Around} {E : Value → Shared → Prop} {s : Shared} {K : Frag} {x D : Addr} {ox od : Obj}
theorem cls_of_err {Q : Option Value → Shared → Prop} (C : ExcC K D) (X : K.In s.heap) (I : InstAt s.heap x ox D (some od)) (h : Q (some (.ref D)) { s with toks := s.toks + 1 }) : wpAny (model prog w) A (getAttr? (.ref x) "__class__") Q E s := by
  have hf : findObj K D (some od) "__class__" = some (.bind (.builtin "getset_descriptor.__get__") (.builtin "object.__class__")) := findObj_data (by obtain ⟨cd, hc, _⟩ := any_some C.hd; rw [hc] <;> rfl) C.ha C.hn C.ht
  obtain ⟨hq, gs, dr, tk, os⟩ := s
  have l0 := I.type (M := model prog w)
  have l1 := looks_findIn (M := model prog w) X C.hg
  have l2 := looks_findIn (M := model prog w) X C.hk
  have l3 := looks_find (M := model prog w) X I hf
  have isB : Looks (model prog w) hq (isInstance (.ref x) (.type "BaseException")) true := l0.andThen (looks_subIn X C.hs)
  have no0 : (false && onTheHeap (Value.builtin "BaseException.__getattribute__")) = false := rfl
  have no2 : (Value.builtin "BaseException.__getattribute__" == Value.builtin "object.__getattribute__") = false := by decide +kernel
  have no1 : (onTheHeap (Value.ref D) && Value.builtin "BaseException.__getattribute__" == Value.builtin "object.__getattribute__") = false := by rw [no2] <;> rfl
  unfold getAttr? getAttrBy? getAttrBy; refine wpAny_bind (wpAny_mkText (wpAny_bind (wpAny_attempt (wpAny_holding (wpAny_bind (l0.at (wpAny_bind (l1.at ?_))))))))
  show wpAny _ _ (if (onTheHeap (Value.ref D) && Value.builtin "BaseException.__getattribute__" == Value.builtin "object.__getattribute__") = true then _ else _) _ _ _; rw [no1, if_neg Bool.false_ne_true]
  unfold getAttrByItsOwn hookBefore; refine wpAny_bind ?_; rw [if_pos (show onTheHeap (Value.ref D) = true from rfl)]; refine l2.at ?_
  refine wpAny_bind (wpAny_attempt (wpAny_holding ?_)); unfold callGetattribute; rw [no0, if_neg Bool.false_ne_true]; unfold boundAndCalled
  rw [PySem.F.excAttr_ValueError.ga.bind (.ref x)]; refine wpAny_bind (wpAny_pure ?_)
  show wpAny _ _ (call (.builtin "BaseException.__getattribute__") [.ref x, .str "__class__" tk]) _ _ _; refine wpAny_call (codeAny_call_builtin PySem.F.excAttr_ValueError.ga.plain PySem.F.entry_bexc_ga ?_)
  refine @check_slot (model prog w) _ _ ⟨hq, gs, dr, tk + 1, os⟩ "BaseException.__getattribute__" "BaseException" "__getattribute__" (.ref x) [.str "__class__" tk] [] _ (by decide +kernel) (by decide +kernel) isB (PySem.F.args_bexc_ga (.ref x) (.str "__class__" tk)) ?_
  unfold Builtin.«object.__getattribute__»; refine wpAny_bind (wpAny_of_eq (a := ((Value.ref x : Value), [Value.str "__class__" tk])) (by first | rfl | (simp only [slotArgs]; rfl)) ?_)
  refine wpAny_bind (wpAny_pure (wpAny_bind (l0.at (wpAny_bind (l3.at ?_))))); show wpAny _ _ (holding [Value.builtin "object.__class__"] (call (.builtin "getset_descriptor.__get__") [.builtin "object.__class__", .ref x, .ref D]) >>= ret) _ _ _
  refine wpAny_bind (wpAny_holding (wpAny_call (class_get (s := ⟨hq, gs, dr, tk + 1, os⟩) (ox := ox) (od := some od) X I C.hm ?_))); refine wpAny_pure ?_
  show wpAny _ _ (handedOut (.ref D)) _ _ _; rw [handedOut_of (v := .ref D) rfl]
  first | exact wpAny_pure (wpAny_pure h) | exact wpAny_pure h | exact wpAny_pure (wpAny_bind (wpAny_pure (wpAny_pure h)))
theorem kit_err (C : ExcC K D) : KitX K (.ref x) (.ref D) (fun h => InstAt h x ox D (some od)) where
  ty := fun _ _ _ I => I.type
  it := fun _ _ X _ => by
    obtain ⟨cd0, hc0, _⟩ := any_some C.hd
    unfold clsIn at hc0
    split at hc0
    · rename_i c1 d1 cd1 sl1 ho; intro A1 Q1 E1 s1 k q; unfold isType loadHead; exact wpAny_bind (wpAny_loadPart (k _ _ (X _ _ ho)) (wpAny_pure q))
    · cases hc0
  ne := fun h tp dd its n sl X htp => by
    obtain ⟨cd0, hc0, _⟩ := any_some C.hd
    refine Bool.eq_false_iff.mpr fun q => ?_
    have e : D = tp := Value.ref.inj (beq_iff_eq.mp q)
    subst e; unfold clsIn at hc0
    split at hc0
    · rename_i c1 d1 cd1 sl1 ho; have z := (X _ _ ho).symm.trans htp; cases z
    · cases hc0
  ca := fun X I k => cls_of_err C X I k
end
/-- isinstance(e, c), e the error that the suite holds, d its dict -/
def rIsF (K : PySem.W.Frag) (D a d : Addr) : List V → Hp → VK → Prop := fun xs H Q => ∃ (c : V) (cv : Value) (b : Bool) (fs : List (Str × V)), xs = [.ref a, c] ∧ H d = some (.xd fs) ∧ (∀ u, RelV c u → u = cv) ∧ PySem.W.kitOne K (.ref D) cv = some b ∧ Q (.bl b) H
theorem call_isF {X : Cx} {a D d : Addr} {oe : Obj} {pn : List (Addr × Obj)} (C : ExcC X.K D) (hz : Zc (.ref D) (some d) oe) (hf : ∃ vs, oe.data = .fields vs) : CallR (X.suite a ((a, oe) :: pn)) (.builtin "isinstance") (rIsF X.K D a d) := by
  intro pins s σ H xs us Q I r h
  obtain ⟨c, cv, b, fs, rfl, hd, hcv, e, q⟩ := h
  cases r with
  | cons rx rr =>
    cases rr with
    | cons rt rr =>
      cases rr
      cases rx
      have ec := hcv _ rt
      subst ec
      obtain ⟨hget, _⟩ := I.pin (a, oe) (List.mem_append.mpr (.inl List.mem_cons_self))
      obtain ⟨vs, hv⟩ := hf
      have hx : ObjOk X.prog X.w H s.heap d (.xd fs) := I.hok d _ hd
      obtain ⟨mA, hns, hr⟩ := hx
      obtain ⟨od, ho, hl⟩ := lookIn_ns hns
      have J : PySem.W.InstAt s.heap a oe D (some od) := ⟨hget, hz.1, by unfold PySem.W.notCls; rw [hv] <;> rfl, by rw [hz.2]; exact ho⟩
      exact PySem.W.kia_one (kit_err C) I.kIn J e (fun z => nomatch z) fun tk => ⟨.bl b, H, I.kept (t' := tk) fun _ _ z => z, rfl, q⟩
/-- the same where the class and the dict are told by the suite -/
def rIsG (K : PySem.W.Frag) (D a : Addr) (cls : Value) (d : Option Addr) : List V → Hp → VK → Prop := fun xs H Q => ∃ dd, cls = .ref D ∧ d = some dd ∧ rIsF K D a dd xs H Q
theorem call_isG {X : Cx} {K : PySem.W.Frag} {a D : Addr} {cls : Value} {d : Option Addr} {oe : Obj} {pn : List (Addr × Obj)} (hK : X.K = K) (C : ExcC K D) (hz : Zc cls d oe) (hf : ∃ vs, oe.data = .fields vs) : CallR (X.suite a ((a, oe) :: pn)) (.builtin "isinstance") (rIsG K D a cls d) := by
  subst hK
  intro pins s σ H xs us Q I r h
  obtain ⟨dd, rfl, rfl, h⟩ := h
  exact call_isF C hz hf pins s σ H xs us Q I r h
/-- a def that may raise, as others call it -/
structure DefX (P : Program) (w : World) (K : PySem.W.Frag) (mg : Str → Option Value) (base : Heap) (k : Nat) (x : Str) (ps : List Str) (sp : Sp) : Prop where
  ex : ∃ f fd, FnOk P w K mg base (L2.CX P w) k f fd ps sp ∧ mg x = some (.ref f) ∧ PySem.W.keepIn K (.ref f) = true ∧ Binds K fd ps []
theorem DefX.callS {X : Cx} {W : WX} {k : Nat} {x : Str} {ps : List Str} {sp : Sp} {e : Expr} {es : List Expr} {t : TA} {p pos : Pos} (G : DefX X.prog X.w X.K X.mg X.base k x ps sp) (hr : Room k X.A) (hg : Gl X x) (tk : Takes X W)
    (ha : PA X (e :: es) t) (hdb : (x == ("__debug__" : Str)) = false := by decide) (he : starEach (e :: es) X.env = (false, eval e X.env) :: starEach es X.env := by rfl) (hpl : (backTo pos (starEach es X.env)).any (·.1) = false := by rfl) :
    PE X (.Call (.Name x p) (e :: es) [] pos) (tCallS sp (WE W) t) := by
  refine ⟨fun pins s σ H Q I h => ?_⟩
  obtain ⟨f, fd, F, hm, hk, hb⟩ := G.ex
  exact (pe_callS F hr hg hm hk hb (fun σ => passAt tk σ) ha hdb he hpl).run pins s σ H Q I h
end Wq
/-! Wp4: own instances (made, their fields stored and read, methods), dicts with tuples as keys, sum, zip in a comprehension. -/
namespace Wp
open PySem L2
section
variable {K : PySem.W.Frag} {σ : L2.St} {H : Hp} {Q : VK} {D : Ends}
def rFld (K : PySem.W.Frag) (f : Str) (x : V) (H1 : Hp) (Q : VK) : Prop := ∃ a C dx fs v, x = .ref a ∧ H1 a = some (.ins C dx fs) ∧ Cls K C ∧ NoAttr K C f ∧ fs.lookup f = some v ∧ Q v H1
theorem fld {f : Str} {ta : TE} : tFld K ta f σ H Q = ta σ H fun x H1 => rFld K f x H1 Q := rfl
theorem rfld {f : Str} {a C dx : Addr} {fs : List (Str × V)} {v : V} (h : H a = some (.ins C dx fs)) (c : Cls K C) (n : NoAttr K C f) (l : fs.lookup f = some v) (q : Q v H) : rFld K f (.ref a) H Q := ⟨a, C, dx, fs, v, rfl, h, c, n, l, q⟩
def rSfld (K : PySem.W.Frag) (f : Str) (x y : V) (H2 : Hp) (R : Hp → Prop) : Prop := ∃ a C dx fs, x = .ref a ∧ H2 a = some (.ins C dx fs) ∧ Cls K C ∧ NoAttr K C f ∧ fs.length < 1000 ∧ R (upd H2 a (.ins C dx (putF f y fs)))
theorem sfld {f : Str} {ta tv : TE} : sFld K ta tv f D σ H = tv σ H fun y H1 => ta σ H1 fun x H2 => rSfld K f x y H2 (D.nx σ) := rfl
theorem rsfld {f : Str} {a C dx : Addr} {fs : List (Str × V)} {y : V} {R : Hp → Prop} (h : H a = some (.ins C dx fs)) (c : Cls K C) (n : NoAttr K C f) (z : fs.length < 1000) (q : R (upd H a (.ins C dx (putF f y fs)))) : rSfld K f (.ref a) y H R := ⟨a, C, dx, fs, rfl, h, c, n, z, q⟩
def rMake (C : Addr) (sp : Sp) (E : XK) (vs : List V) (H1 : Hp) (Q : VK) : Prop := ∀ x dx, H1 x = none → H1 dx = none → dx ≠ x → sp (.ref x :: vs) (upd (upd H1 dx (.own x)) x (.ins C dx [])) (fun v H2 => v = .non ∧ Q (.ref x) H2) E
theorem make {C : Addr} {sp : Sp} {E : XK} {t : TA} : tMake C sp [] E t σ H Q = t σ H fun vs H1 => rMake C sp E vs H1 Q := by
  unfold tMake rMake
  simp only [List.append_nil]
def rMeth (m : Str) (sp : Sp) (E : XK) (t : TA) (σ : L2.St) (x : V) (H1 : Hp) (Q : VK) : Prop := ∃ (a C dx : Addr) (fs : List (Str × V)), x = .ref a ∧ H1 a = some (.ins C dx fs) ∧ fs.lookup m = none ∧ t σ H1 fun vs H2 => sp (x :: vs) H2 Q E
def rMethC (C : Addr) (m : Str) (sp : Sp) (E : XK) (t : TA) (σ : L2.St) (x : V) (H1 : Hp) (Q : VK) : Prop := ∃ (a dx : Addr) (fs : List (Str × V)), x = .ref a ∧ H1 a = some (.ins C dx fs) ∧ fs.lookup m = none ∧ t σ H1 fun vs H2 => sp (x :: vs) H2 Q E
theorem meth {C : Addr} {m : Str} {sp : Sp} {E : XK} {ta : TE} {t : TA} : tMeth C m sp [] E ta t σ H Q = ta σ H fun x H1 => rMethC C m sp E t σ x H1 Q := by
  unfold tMeth rMethC
  simp only [List.append_nil]
theorem rmeth {C a dx : Addr} {m : Str} {sp : Sp} {E : XK} {t : TA} {fs : List (Str × V)} (h : H a = some (.ins C dx fs)) (n : fs.lookup m = none) (q : t σ H fun vs H2 => sp (.ref a :: vs) H2 Q E) : rMethC C m sp E t σ (.ref a) H Q := ⟨a, dx, fs, rfl, h, n, q⟩
/-! dicts -/
def rDGet (x y : V) (H2 : Hp) (Q : VK) : Prop := ∃ a v, x = .ref a ∧ DGet H2 a y (some v) ∧ Q v H2
theorem dget {td ty : TE} : tDGet td ty σ H Q = td σ H fun x H1 => ty σ H1 fun y H2 => rDGet x y H2 Q := rfl
def rDNot (y x : V) (H2 : Hp) (Q : VK) : Prop := ∃ a o, x = .ref a ∧ DGet H2 a y o ∧ Q (.bl (!o.isSome)) H2
theorem dnot {td ty : TE} : tDNotIn ty td σ H Q = ty σ H fun y H1 => td σ H1 fun x H2 => rDNot y x H2 Q := rfl
def rDIn (y x : V) (H2 : Hp) (Q : VK) : Prop := ∃ a o, x = .ref a ∧ DGet H2 a y o ∧ Q (.bl o.isSome) H2
theorem din {td ty : TE} : tDIn ty td σ H Q = ty σ H fun y H1 => td σ H1 fun x H2 => rDIn y x H2 Q := rfl
def rDPut (x y v : V) (H3 : Hp) (R : Hp → Prop) : Prop := ∃ a H4, x = .ref a ∧ DPut H3 a y v H4 ∧ R H4
theorem dput {td ty tv : TE} : sDPut td ty tv D σ H = tv σ H fun v H1 => td σ H1 fun x H2 => ty σ H2 fun y H3 => rDPut x y v H3 (D.nx σ) := rfl
theorem dnewT : tDNewT σ H Q = ∀ p, H p = none → Q (.ref p) (upd H p (.dT [])) := rfl
theorem rdgetT {a b : Addr} {kvs : List (List Key × V)} {k : List Key} {v : V} (h : H a = some (.dT kvs)) (hb : H b = some (.tup (k.map kV))) (e : valV kvs k = some v) (q : Q v H) : rDGet (.ref a) (.ref b) H Q := ⟨a, v, rfl, e ▸ DGet.t h hb, q⟩
theorem rdnotT {a b : Addr} {kvs : List (List Key × V)} {k : List Key} (h : H a = some (.dT kvs)) (hb : H b = some (.tup (k.map kV))) (q : Q (.bl (!(valV kvs k).isSome)) H) : rDNot (.ref b) (.ref a) H Q := ⟨a, _, rfl, DGet.t h hb, q⟩
theorem rdputT {a b : Addr} {kvs : List (List Key × V)} {k : List Key} {v : V} {R : Hp → Prop} (h : H a = some (.dT kvs)) (hb : H b = some (.tup (k.map kV))) (hl : kvs.length < sizeLine) (q : R (upd H a (.dT (putK kvs k v)))) : rDPut (.ref a) (.ref b) v H R := ⟨a, _, rfl, DPut.t h hb hl, q⟩
/-! sum -/
theorem rsum {a : Addr} {ns : List Int} (h : H a = some (.lst (ns.map V.int))) (q : Q (.int ns.sum) H) : rSum K [V.ref a] H Q := ⟨a, ns, rfl, SqL.of h, q⟩
/-! targets that are tuples -/
def rTup (K : PySem.W.Frag) (n : Nat) (t : TGs) (σ : L2.St) (v : V) (H : Hp) (R : L2.St → Hp → Prop) : Prop := ∃ a xs, v = .ref a ∧ SqT K H a xs ∧ xs.length = n ∧ t xs σ H R
/-! zip -/
theorem izip {ta : TA} {R : It → Hp → Prop} : iZip K ta σ H R = ta σ H fun vs H1 => ∃ a b xs ys, vs = [.ref a, .ref b] ∧ SqL K H1 a xs ∧ SqL K H1 b ys ∧ R (Itz K a b) H1 := rfl
theorem lcZ {a b Dl : Addr} {xs ys : List V} {g : TG} {tt : TT} {te : TE} {vs : List Nat} (hl : xs.length = ys.length) (Pv : Nat → Hp → Prop) (h0 : Pv 0 (upd H Dl (.lst []))) (hq : ∀ i H, Pv i H → SqL K H a xs ∧ SqL K H b ys)
    (hs : ∀ (i : Nat) (x y : V) (T : Addr) (H : Hp), xs[i]? = some x → ys[i]? = some y → Pv i H → H T = none → g (.ref T) (wipe σ vs) (upd H T (.tup [x, y])) fun σ2 H2 => wipe σ2 vs = wipe σ vs ∧ tt σ2 H2 fun c H3 =>
      if c = true then te σ2 H3 fun z H4 => ∃ acc, H4 Dl = some (.lst acc) ∧ acc.length < sizeLine ∧ Pv (i + 1) (upd H4 Dl (.lst (acc ++ [z]))) else Pv (i + 1) H3)
    (hd : ∀ H, Pv xs.length H → Q (.ref Dl) H) : LC (Itz K a b) g tt te vs σ H Dl Q := by
  refine ⟨fun i m H => m = xs.length - i ∧ i ≤ xs.length ∧ Pv i H, ⟨xs.length, rfl, Nat.zero_le _, h0⟩, ?_⟩
  rintro i m H ⟨rfl, hi, p⟩
  obtain ⟨qx, qy⟩ := hq i H p
  by_cases hlt : i < xs.length
  · have hx : xs[i]? = some xs[i] := List.getElem?_eq_getElem hlt
    have hlt2 : i < ys.length := by omega
    have hy : ys[i]? = some ys[i] := List.getElem?_eq_getElem hlt2
    refine .inr ⟨⟨xs, ys, _, _, qx, qy, hx, hy⟩, Pv (i + 1), fun H' p' => ⟨xs.length - (i + 1), by omega, rfl, hlt, p'⟩, fun v H' y => ?_⟩
    obtain ⟨T, x', y', rfl, hT, rfl, f1, f2⟩ := y
    exact hs i x' y' T H (f1 xs qx) (f2 ys qy) p hT
  · have e : i = xs.length := by omega
    subst e
    exact .inl ⟨⟨xs, ys, qx, qy, Or.inl (Nat.le_refl _)⟩, hd H p⟩
end
section
variable {X : Cx} {K : PySem.W.Frag}
theorem pe_fldK {e : Expr} {f : Str} {pos : Pos} {ta : TE} (h : X.K = K) (he : PE X e ta) (hb : attributeBase e f X.env (eval e X.env) = eval e X.env := by rfl) : PE X (.Attribute e f pos) (tFld K ta f) := h ▸ pe_fld he hb
theorem ps_fldK {o value : Expr} {f : Str} {pos pos' : Pos} {ta tv : TE} (h : X.K = K) (ha : PE X o ta) (hv : PE X value tv) (hs : swapsWith value (some (.Attribute o f pos')) pos.line X.env = pure false := by rfl) : PS X (.Assign [.Attribute o f pos'] value pos) (sFld K ta tv f) := h ▸ ps_fld ha hv hs
theorem cr_sumK (h : X.K = K) (hc : X.calm = true) : CallR X (.builtin "sum") (rSum K) := h ▸ cr_sum hc
theorem pg_tupK {es : List Expr} {k : Nat} {pos : Pos} {t : TGs} {n : Nat} (h : X.K = K) (hc : X.calm = true) (hg : PGs X es t) (hn : (assignEach es X.env).length = n := by rfl) (hst : (assignEach es X.env).findIdx? (·.1) = none := by rfl) : PG X (.Tuple es k pos) (gTup K n t) := h ▸ pg_tup hc hg hn hst
theorem pi_zipK {e e2 : Expr} {ta : TA} {p pos tpos : Pos} {elts : List Expr} {kk : Nat} (h : X.K = K) (hg : Gl X "zip") (hm : X.mg "zip" = none) (ha : PA X [e, e2] ta)
    (hs : starEach [e, e2] X.env = (false, eval e X.env) :: starEach [e2] X.env := by rfl) (hpl : (backTo pos (starEach [e2] X.env)).any (·.1) = false := by rfl) :
    PI X (.Tuple elts kk tpos) (.Call (.Name "zip" p) [e, e2] [] pos) (iZip K ta) := h ▸ pi_zip hg hm ha hs hpl
end
/-- a class with its __init__, as others make instances of it -/
structure DefC (P : Program) (w : World) (K : PySem.W.Frag) (mg : Str → Option Value) (base : Heap) (k : Nat) (x : Str) (C : Addr) (ps : List Str) (sp : Sp) : Prop where
  ex : ∃ f fd, Mk K C f ∧ FnOk P w K mg base CX0 k f fd ps sp ∧ mg x = some (.ref C) ∧ Binds K fd ps []
theorem DefC.call {X : Cx} {k : Nat} {x : Str} {C : Addr} {ps : List Str} {sp : Sp} {e : Expr} {es : List Expr} {t : TA} {p pos : Pos} (G : DefC X.prog X.w X.K X.mg X.base k x C ps sp) (hr : Room (k + 1) X.A) (hg : Gl X x)
    (ha : PA X (e :: es) t) (hdb : (x == ("__debug__" : Str)) = false := by decide) (he : starEach (e :: es) X.env = (false, eval e X.env) :: starEach es X.env := by rfl) (hpl : (backTo pos (starEach es X.env)).any (·.1) = false := by rfl) :
    PE X (.Call (.Name x p) (e :: es) [] pos) (tMake C sp [] (fun _ _ _ => False) t) := by
  refine ⟨fun pins s σ H Q I h => ?_⟩
  obtain ⟨f, fd, M, F, hm, hb⟩ := G.ex
  exact (pe_make M F hr hg hm hb .nil (fun _ _ _ _ _ _ _ h => h.elim) ha hdb he hpl).run pins s σ H Q I h
/-- a method, as others call it -/
structure DefM (P : Program) (w : World) (K : PySem.W.Frag) (mg : Str → Option Value) (base : Heap) (k : Nat) (C : Addr) (m : Str) (ps : List Str) (sp : Sp) : Prop where
  ex : ∃ f fd, Cls K C ∧ Meth K C m f ∧ FnOk P w K mg base CX0 k f fd ps sp ∧ Binds K fd ps []
theorem DefM.call0 {X : Cx} {k : Nat} {C : Addr} {m : Str} {ps : List Str} {sp : Sp} {o : Expr} {ta : TE} {apos pos : Pos} {pl : Sem Bool} (G : DefM X.prog X.w X.K X.mg X.base k C m ps sp) (hr : Room k X.A) (ho : PE X o ta)
    (ht : eval (.Call (.Attribute o m apos) [] [] pos) X.env = (do
      let ov ← eval o X.env
      standAt apos.atName
      let (f, first) ← holding [ov] (getMethod ov m pl)
      callWith pos f first (backTo pos (starEach [] X.env)) (backToKw pos (keywordEach [] X.env))) := by rfl) :
    PE X (.Call (.Attribute o m apos) [] [] pos) (tMeth C m sp [] (fun _ _ _ => False) ta tNil) := by
  refine ⟨fun pins s σ H Q I h => ?_⟩
  obtain ⟨f, fd, c, hm, F, hb⟩ := G.ex
  exact (pe_meth0 ho c hm F hr hb .nil (fun _ _ _ _ _ _ _ h => h.elim) ht).run pins s σ H Q I h
section
variable {K : PySem.W.Frag} {σ : L2.St} {H : Hp} {Q : VK} {te : TE} {vs : List Nat}
/-- a comprehension over a list of known things, its element only looks -/
theorem lcM {α : Type} {a Dl : Addr} {j : Nat} (zs : List α) (u f : α → V) (h : H a = some (.lst (zs.map u))) (hD : H Dl = none) (hz : zs.length ≤ 100000) (hw : ∀ x, wipe ((wipe σ vs).set j (some x)) vs = wipe σ vs)
    (he : ∀ z, z ∈ zs → ∀ (l : List V) (R : VK), R (f z) (upd H Dl (.lst l)) → te ((wipe σ vs).set j (some (u z))) (upd H Dl (.lst l)) R)
    (q : Q (.ref Dl) (upd H Dl (.lst (zs.map f)))) : LC (Itl K a) (gName j) tYes te vs σ H Dl Q := by
  have hne : a ≠ Dl := ne_of_none h hD
  refine lc_list (xs := zs.map u) (fun i H' => H' = upd H Dl (.lst ((zs.take i).map f))) rfl (fun i H' hi e => by rw [e]; exact SqL.of (u_ne hne h)) (fun i x H' hx e => ?_) (fun H' e => ?_)
  · subst e
    rw [List.getElem?_map] at hx
    cases e : zs[i]? with
    | none => rw [e] at hx; cases hx
    | some z =>
      rw [e] at hx
      cases hx
      have et : zs.take (i + 1) = zs.take i ++ [z] := by rw [List.take_succ, e]; rfl
      refine ⟨hw _, ?_⟩
      show te _ _ _
      refine he z (List.mem_of_getElem? e) _ _ ⟨_, upd_same, ?_, ?_⟩
      · rw [List.length_map, List.length_take]
        exact Nat.lt_of_le_of_lt (Nat.le_trans (Nat.min_le_right _ _) hz) (by decide)
      · rw [upd_upd, et, List.map_append]
        rfl
  · subst e
    rw [List.length_map, List.take_length]
    exact q
end
end Wp
/-! Wp5: own operators (+ and ==) of two instances of one class, a static method, a property, isinstance of an own class. -/
namespace Wp
open PySem L2 PyProof.Rows ClX
section
variable {X : Cx} {CX : CXT} {n : Nat} {C f : Addr} {fd : FuncData} {ps : List Str} {sp : Sp} {E : XK}
theorem back_of {pins : List (Addr × Obj)} {σ : L2.St} {Q : VK} {v : Value} {s : Shared} (h : EP X pins σ Q v s) : PySem.W.CmpBack (EP X pins σ Q) v s := by
  obtain ⟨z, H', I', rz, q⟩ := h
  have h0 : EP X pins σ Q v s := ⟨z, H', I', rz, q⟩
  cases z with
  | non => cases (show v = Value.none from rz); exact h0
  | bl a => cases (show v = Value.bool a from rz); exact h0
  | int i => obtain ⟨t, e⟩ := (show ∃ t, v = Value.int i t from rz); cases e; exact h0
  | str i => obtain ⟨t, e⟩ := (show ∃ t, v = Value.str i t from rz); cases e; exact h0
  | byt i => obtain ⟨t, e⟩ := (show ∃ t, v = Value.bytes i t from rz); cases e; exact h0
  | flt i => obtain ⟨t, e⟩ := (show ∃ t, v = Value.float i t from rz); cases e; exact h0
  | ref a => cases (show v = Value.ref a from rz); exact h0
  | ty m => cases (show v = Value.type m from rz); exact h0
/-- an own operator's def, at two instances of the class at C -/
def rOwn (C : Addr) (sp : Sp) (E : XK) : R2 := fun x y H Q => ∃ a dx fs b dy gs, x = .ref a ∧ y = .ref b ∧ H a = some (.ins C dx fs) ∧ H b = some (.ins C dy gs) ∧ sp [.ref a, .ref b] H Q E
theorem op_own {op : Operator} (F : FnOk X.prog X.w X.K X.mg X.base CX n f fd ps sp) (hc : PySem.W.selfFirst X.K C = true) (hs : PySem.W.findIn X.K (.ref C) (PySem.dunder op.info.2) = some (some (.ref f))) (hf : PySem.W.isFn X.K (.ref f) = true)
    (hb : Binds X.K fd ps []) (hx : Passes CX X E) (hr : Room n X.A) : OpR X (binaryOp op) (rOwn C sp E) := by
  intro pins s σ H x y v u Q I rx ry hq
  obtain ⟨a, dx, fs, b, dy, gs, rfl, rfl, ha, hb', hsp⟩ := hq
  cases rx
  cases ry
  obtain ⟨mA, J, _⟩ := ins_get I.hok ha
  obtain ⟨mB, J', _⟩ := ins_get I.hok hb'
  obtain ⟨od, J, _⟩ := J.look
  obtain ⟨od', J', _⟩ := J'.look
  obtain ⟨m, hF⟩ := I.fr
  refine PySem.W.binop_K hF I.ok.mod.kin J J'.type hc hs hf ?_
  have r2 : Vals [V.ref a, V.ref b] [Value.ref a, Value.ref b] := .cons rfl (.cons rfl .nil)
  exact wpAny_mono (run_fn F hr hb .nil hx I r2 (by rw [List.append_nil]; exact hsp)) (fun v s' q => back_of q) fun _ _ x => x
theorem op_ownEq (F : FnOk X.prog X.w X.K X.mg X.base CX n f fd ps sp) (hs : PySem.W.findIn X.K (.ref C) "__eq__" = some (some (.ref f))) (hf : PySem.W.isFn X.K (.ref f) = true)
    (hb : Binds X.K fd ps []) (hx : Passes CX X E) (hr : Room n X.A) : OpR X (compareOp .Eq) (rOwn C sp E) := by
  intro pins s σ H x y v u Q I rx ry hq
  obtain ⟨a, dx, fs, b, dy, gs, rfl, rfl, ha, hb', hsp⟩ := hq
  cases rx
  cases ry
  obtain ⟨mA, J, _⟩ := ins_get I.hok ha
  obtain ⟨mB, J', _⟩ := ins_get I.hok hb'
  obtain ⟨od, J, _⟩ := J.look
  obtain ⟨od', J', _⟩ := J'.look
  obtain ⟨m, hF⟩ := I.fr
  show wpAny (model X.prog X.w) X.A (richCompare .Eq (.ref a) (.ref b)) (EP X pins σ Q) X.xe s
  refine PySem.W.cmp_K (op := .Eq) (tb := .ref C) hr.units0 hF I.ok.mod.kin J J'.type (by simp [PySem.W.notFirst]) hs hf ?_
  have r2 : Vals [V.ref a, V.ref b] [Value.ref a, Value.ref b] := .cons rfl (.cons rfl .nil)
  exact wpAny_mono (run_fn F hr hb .nil hx I r2 (by rw [List.append_nil]; exact hsp)) (fun v s' q => back_of q) fun _ _ x => x
/-- C.m is a static method: its record at p, its def at f -/
structure SMet (K : PySem.W.Frag) (C : Addr) (mc : Value) (m : Str) (p f : Addr) : Prop where
  at_ : PySem.W.findCls K (.ref C) mc m = some (.get (.builtin "staticmethod.__get__") (.ref p) .none (.ref C))
  rc : ∃ rest, PySem.W.recIn K p "staticmethod" = some (.ref f :: rest)
  kp : PySem.W.keepIn K (.ref f) = true
def tStat (C : Addr) (sp : Sp) (E : XK) (ta : TE) : TE := fun σ H Q => ta σ H fun x H1 => x = .ref C ∧ sp [] H1 Q E
theorem pe_stat0 {o : Expr} {ta : TE} {m : Str} {apos pos : Pos} {mc : Value} {p : Addr} {pl : Sem Bool} (he : PE X o ta) (r : CRead X.K C mc) (c : SMet X.K C mc m p f) (F : FnOk X.prog X.w X.K X.mg X.base CX n f fd ps sp) (hr : Room n X.A) (hb : Binds X.K fd ps []) (hx : Passes CX X E)
    (ht : eval (.Call (.Attribute o m apos) [] [] pos) X.env = (do
      let ov ← eval o X.env
      standAt apos.atName
      let (f, first) ← holding [ov] (getMethod ov m pl)
      callWith pos f first (backTo pos (starEach [] X.env)) (backToKw pos (keywordEach [] X.env))) := by rfl) :
    PE X (.Call (.Attribute o m apos) [] [] pos) (tStat C sp E ta) := by
  refine ⟨fun pins s σ H Q I h => ?_⟩
  refine PySem.W.methodCall_KW (pl := pl) (thn (he.run pins s σ H _ I h) fun u s1 ⟨x, H1, I1, rx, ex, q⟩ => ?_) ht
  subst ex
  obtain rfl : u = Value.ref C := rx
  obtain ⟨rest, hp⟩ := c.rc
  refine PySem.W.method_cls I1.kIn r.ga ?_
  refine PySem.W.cls_bind I1.kIn r.rd c.at_ ?_
  refine wpAny_call (PySem.W.sm_get (s := { s1 with toks := s1.toks + 1 }) I1.kIn hp (PySem.W.handed_on rfl ?_))
  have I2 := I1.tok (s1.toks + 1)
  exact PySem.W.callWith_K0 (first := []) I2.kIn c.kp (run_fn (us := []) F hr hb .nil hx I2 .nil q)
/-- own == at an instance and anything whose type is known -/
def rOwnX (K : PySem.W.Frag) (C : Addr) (sp : Sp) (E : XK) : R2 := fun x y H Q => ∃ a dx fs t, x = .ref a ∧ H a = some (.ins C dx fs) ∧ TyX K H y t ∧ PySem.W.notFirst K C t = true ∧ sp [.ref a, y] H Q E
theorem op_ownEqX {K : PySem.W.Frag} (hK : X.K = K) (F : FnOk X.prog X.w X.K X.mg X.base CX n f fd ps sp) (hs : PySem.W.findIn X.K (.ref C) "__eq__" = some (some (.ref f))) (hf : PySem.W.isFn X.K (.ref f) = true)
    (hb : Binds X.K fd ps []) (hx : Passes CX X E) (hr : Room n X.A) : OpR X (compareOp .Eq) (rOwnX K C sp E) := by
  subst hK
  intro pins s σ H x y v u Q I rx ry hq
  obtain ⟨a, dx, fs, t, rfl, ha, ty, hn, hsp⟩ := hq
  cases rx
  obtain ⟨mA, J, _⟩ := ins_get I.hok ha
  obtain ⟨od, J, _⟩ := J.look
  obtain ⟨m, hF⟩ := I.fr
  obtain ⟨P, Z, p, _⟩ := kit_of I ry ty
  show wpAny (model X.prog X.w) X.A (richCompare .Eq (.ref a) u) (EP X pins σ Q) X.xe s
  refine PySem.W.cmp_K (op := .Eq) (tb := t) hr.units0 hF I.ok.mod.kin J (Z.ty _ _ I.kIn p) hn hs hf ?_
  have r2 : Vals [V.ref a, y] [Value.ref a, u] := .cons rfl (.cons ry .nil)
  exact wpAny_mono (run_fn F hr hb .nil hx I r2 (by rw [List.append_nil]; exact hsp)) (fun v s' q => back_of q) fun _ _ x => x
end
/-- an own operator, as others use it -/
structure DefO (P : Program) (w : World) (K : PySem.W.Frag) (mg : Str → Option Value) (base : Heap) (k : Nat) (C : Addr) (m : Str) (ps : List Str) (sp : Sp) : Prop where
  ex : ∃ f fd, FnOk P w K mg base CX0 k f fd ps sp ∧ PySem.W.selfFirst K C = true ∧ PySem.W.findIn K (.ref C) m = some (some (.ref f)) ∧ PySem.W.isFn K (.ref f) = true ∧ Binds K fd ps []
section
variable {X : Cx} {k : Nat} {C : Addr} {m : Str} {ps : List Str} {sp : Sp}
theorem DefO.bin (op : Operator) (G : DefO X.prog X.w X.K X.mg X.base k C m ps sp) (hr : Room k X.A) (hm : PySem.dunder op.info.2 = m := by rfl) : OpR X (binaryOp op) (rOwn C sp (fun _ _ _ => False)) := by
  subst hm
  obtain ⟨f, fd, F, hc, hs, hf, hb⟩ := G.ex
  exact op_own F hc hs hf hb (fun _ _ _ _ _ _ _ h => h.elim) hr
theorem DefO.eq {K : PySem.W.Frag} (hK : X.K = K) (G : DefO X.prog X.w X.K X.mg X.base k C "__eq__" ps sp) (hr : Room k X.A) : OpR X (compareOp .Eq) (rOwnX K C sp (fun _ _ _ => False)) := by
  obtain ⟨f, fd, F, hc, hs, hf, hb⟩ := G.ex
  exact op_ownEqX hK F hs hf hb (fun _ _ _ _ _ _ _ h => h.elim) hr
end
/-- a static method, as others call it -/
structure DefS (P : Program) (w : World) (K : PySem.W.Frag) (mg : Str → Option Value) (base : Heap) (k : Nat) (C : Addr) (m : Str) (sp : Sp) : Prop where
  ex : ∃ mc p f fd, CRead K C mc ∧ SMet K C mc m p f ∧ FnOk P w K mg base CX0 k f fd [] sp ∧ Binds K fd [] []
theorem DefS.call0 {X : Cx} {k : Nat} {C : Addr} {m : Str} {sp : Sp} {o : Expr} {ta : TE} {apos pos : Pos} {pl : Sem Bool} (G : DefS X.prog X.w X.K X.mg X.base k C m sp) (hr : Room k X.A) (ho : PE X o ta)
    (ht : eval (.Call (.Attribute o m apos) [] [] pos) X.env = (do
      let ov ← eval o X.env
      standAt apos.atName
      let (f, first) ← holding [ov] (getMethod ov m pl)
      callWith pos f first (backTo pos (starEach [] X.env)) (backToKw pos (keywordEach [] X.env))) := by rfl) :
    PE X (.Call (.Attribute o m apos) [] [] pos) (tStat C sp (fun _ _ _ => False) ta) := by
  obtain ⟨mc, p, f, fd, r, c, F, hb⟩ := G.ex
  exact pe_stat0 ho r c F hr hb (fun _ _ _ _ _ _ _ h => h.elim) ht
/-- a property, as others read it -/
structure DefP (P : Program) (w : World) (K : PySem.W.Frag) (mg : Str → Option Value) (base : Heap) (k : Nat) (C : Addr) (m : Str) (ps : List Str) (sp : Sp) : Prop where
  ex : ∃ p f fd, Cls K C ∧ PropOf K C m p f ∧ FnOk P w K mg base CX0 k f fd ps sp ∧ Binds K fd ps []
theorem DefP.get {X : Cx} {k : Nat} {C : Addr} {m : Str} {ps : List Str} {sp : Sp} {o : Expr} {ta : TE} {pos : Pos} (G : DefP X.prog X.w X.K X.mg X.base k C m ps sp) (hr : Room (k + 1) X.A) (ho : PE X o ta)
    (hab : attributeBase o m X.env (eval o X.env) = eval o X.env := by rfl) : PE X (.Attribute o m pos) (tProp C sp [] (fun _ _ _ => False) ta) := by
  obtain ⟨p, f, fd, c, hp, F, hb⟩ := G.ex
  exact pe_prop ho c hp F hr hb .nil (fun _ _ _ _ _ _ _ h => h.elim) hab
section
variable {σ : L2.St} {H : Hp} {Q : VK}
def rStat (C : Addr) (sp : Sp) (E : XK) (x : V) (H : Hp) (Q : VK) : Prop := x = .ref C ∧ sp [] H Q E
theorem stat {C : Addr} {sp : Sp} {E : XK} {ta : TE} : tStat C sp E ta σ H Q = ta σ H fun x H1 => rStat C sp E x H1 Q := rfl
theorem rstat {C : Addr} {sp : Sp} {E : XK} : rStat C sp E (.ref C) H Q = sp [] H Q E := propext ⟨fun q => q.2, fun q => ⟨rfl, q⟩⟩
def rProp (C : Addr) (sp : Sp) (E : XK) (x : V) (H1 : Hp) (Q : VK) : Prop := ∃ a dx fs, x = .ref a ∧ H1 a = some (.ins C dx fs) ∧ sp [.ref a] H1 Q E
theorem prop {C : Addr} {sp : Sp} {E : XK} {ta : TE} : tProp C sp [] E ta σ H Q = ta σ H fun x H1 => rProp C sp E x H1 Q := rfl
end
theorem op_eqDK {X : Cx} {K : PySem.W.Frag} (h : X.K = K) (hu : X.A.units + 64 < cLine) : OpR X (compareOp .Eq) (rEqD K) := h ▸ op_eqD hu
end Wp
/-! Pl0: the pure layer: values as data, slots as data, readings without a heap. -/
namespace Pl
open PySem L2 Wp
/-- data -/
inductive D where
  | non | bl (b : Bool) | int (i : Int) | str (s : Str) | obj (a : Addr) | ty (n : String)
  | lst (xs : List D) | tup (xs : List D) | ins (C : Addr) (fs : List (Str × D)) | dk (kvs : List (Key × D)) | dt (kvs : List (List Key × D))
theorem sqt_ex {K : PySem.W.Frag} {H H' : Hp} {a : Addr} {xs : List V} (e : Ex H H') (h : SqT K H a xs) : SqT K H' a xs := by
  rcases h with (h | ⟨o, h⟩) | h
  · exact .inl (.inl (e _ _ h))
  · exact .inl (.inr ⟨o, e _ _ h⟩)
  · exact .inr h
mutual
/-- v stands for d in the part F of the heap -/
inductive Rep (K : PySem.W.Frag) (F : Hp) : V → D → Prop
  | non : Rep K F .non .non
  | bl (b : Bool) : Rep K F (.bl b) (.bl b)
  | int (i : Int) : Rep K F (.int i) (.int i)
  | str (s : Str) : Rep K F (.str s) (.str s)
  | obj (a : Addr) : Rep K F (.ref a) (.obj a)
  | ty (n : String) : Rep K F (.ty n) (.ty n)
  | lst {a : Addr} {vs : List V} {ds : List D} : F a = some (.lst vs) → Reps K F vs ds → Rep K F (.ref a) (.lst ds)
  | tup {a : Addr} {vs : List V} {ds : List D} : SqT K F a vs → Reps K F vs ds → Rep K F (.ref a) (.tup ds)
  | ins {a C dx : Addr} {fs : List (Str × V)} {gs : List (Str × D)} : F a = some (.ins C dx fs) → RepF K F fs gs → Rep K F (.ref a) (.ins C gs)
  | dk {a : Addr} {fs : List (Key × V)} {gs : List (Key × D)} : F a = some (.dK fs) → RepK K F fs gs → Rep K F (.ref a) (.dk gs)
  | dt {a : Addr} {fs : List (List Key × V)} {gs : List (List Key × D)} : F a = some (.dT fs) → RepT K F fs gs → Rep K F (.ref a) (.dt gs)
inductive Reps (K : PySem.W.Frag) (F : Hp) : List V → List D → Prop
  | nil : Reps K F [] []
  | cons {v : V} {vs : List V} {d : D} {ds : List D} : Rep K F v d → Reps K F vs ds → Reps K F (v :: vs) (d :: ds)
inductive RepF (K : PySem.W.Frag) (F : Hp) : List (Str × V) → List (Str × D) → Prop
  | nil : RepF K F [] []
  | cons {f : Str} {v : V} {vs : List (Str × V)} {d : D} {ds : List (Str × D)} : Rep K F v d → RepF K F vs ds → RepF K F ((f, v) :: vs) ((f, d) :: ds)
inductive RepK (K : PySem.W.Frag) (F : Hp) : List (Key × V) → List (Key × D) → Prop
  | nil : RepK K F [] []
  | cons {f : Key} {v : V} {vs : List (Key × V)} {d : D} {ds : List (Key × D)} : Rep K F v d → RepK K F vs ds → RepK K F ((f, v) :: vs) ((f, d) :: ds)
inductive RepT (K : PySem.W.Frag) (F : Hp) : List (List Key × V) → List (List Key × D) → Prop
  | nil : RepT K F [] []
  | cons {f : List Key} {v : V} {vs : List (List Key × V)} {d : D} {ds : List (List Key × D)} : Rep K F v d → RepT K F vs ds → RepT K F ((f, v) :: vs) ((f, d) :: ds)
end
section
variable {K : PySem.W.Frag} {F F' : Hp}
mutual
theorem Rep.mono (e : Ex F F') : ∀ {v : V} {d : D}, Rep K F v d → Rep K F' v d
  | _, _, .non => .non
  | _, _, .bl b => .bl b
  | _, _, .int b => .int b
  | _, _, .str b => .str b
  | _, _, .obj b => .obj b
  | _, _, .ty b => .ty b
  | _, _, .lst h r => .lst (e _ _ h) (Reps.mono e r)
  | _, _, .tup h r => .tup (sqt_ex e h) (Reps.mono e r)
  | _, _, .ins h r => .ins (e _ _ h) (RepF.mono e r)
  | _, _, .dk h r => .dk (e _ _ h) (RepK.mono e r)
  | _, _, .dt h r => .dt (e _ _ h) (RepT.mono e r)
theorem Reps.mono (e : Ex F F') : ∀ {v : List V} {d : List D}, Reps K F v d → Reps K F' v d
  | _, _, .nil => .nil
  | _, _, .cons h r => .cons (Rep.mono e h) (Reps.mono e r)
theorem RepF.mono (e : Ex F F') : ∀ {v : List (Str × V)} {d : List (Str × D)}, RepF K F v d → RepF K F' v d
  | _, _, .nil => .nil
  | _, _, .cons h r => .cons (Rep.mono e h) (RepF.mono e r)
theorem RepK.mono (e : Ex F F') : ∀ {v : List (Key × V)} {d : List (Key × D)}, RepK K F v d → RepK K F' v d
  | _, _, .nil => .nil
  | _, _, .cons h r => .cons (Rep.mono e h) (RepK.mono e r)
theorem RepT.mono (e : Ex F F') : ∀ {v : List (List Key × V)} {d : List (List Key × D)}, RepT K F v d → RepT K F' v d
  | _, _, .nil => .nil
  | _, _, .cons h r => .cons (Rep.mono e h) (RepT.mono e r)
end
theorem Reps.length : ∀ {vs : List V} {ds : List D}, Reps K F vs ds → vs.length = ds.length
  | _, _, .nil => rfl
  | _, _, .cons _ r => by rw [List.length_cons, List.length_cons, Reps.length r]
theorem Reps.get : ∀ {vs : List V} {ds : List D} {i : Nat} {d : D}, Reps K F vs ds → ds[i]? = some d → ∃ v, vs[i]? = some v ∧ Rep K F v d
  | _, _, _, _, .nil, h => by simp at h
  | _, _, 0, _, .cons r _, h => by simp at h; subst h; exact ⟨_, rfl, r⟩
  | _, _, i + 1, _, .cons _ r, h => by
    obtain ⟨v, h1, h2⟩ := Reps.get (i := i) r (by simpa using h)
    exact ⟨v, by simpa using h1, h2⟩
theorem Reps.getV {vs : List V} {ds : List D} {i : Nat} {v : V} (r : Reps K F vs ds) (h : vs[i]? = some v) : ∃ d, ds[i]? = some d ∧ Rep K F v d := by
  have hi := (List.getElem?_eq_some_iff.mp h).1
  rw [r.length] at hi
  have hd : ds[i]? = some ds[i] := List.getElem?_eq_getElem hi
  obtain ⟨w, h1, h2⟩ := r.get hd
  rw [h] at h1
  cases h1
  exact ⟨_, hd, h2⟩
theorem Reps.append : ∀ {vs ws : List V} {ds es : List D}, Reps K F vs ds → Reps K F ws es → Reps K F (vs ++ ws) (ds ++ es)
  | _, _, _, _, .nil, q => q
  | _, _, _, _, .cons h r, q => .cons h (Reps.append r q)
theorem Reps.take : ∀ {vs : List V} {ds : List D} (n : Nat), Reps K F vs ds → Reps K F (vs.take n) (ds.take n)
  | _, _, 0, _ => .nil
  | _, _, _ + 1, .nil => .nil
  | _, _, n + 1, .cons h r => .cons h (Reps.take n r)
theorem Reps.drop : ∀ {vs : List V} {ds : List D} (n : Nat), Reps K F vs ds → Reps K F (vs.drop n) (ds.drop n)
  | _, _, 0, r => r
  | _, _, _ + 1, .nil => .nil
  | _, _, n + 1, .cons _ r => Reps.drop n r
theorem Reps.set {v : V} {d : D} (h : Rep K F v d) : ∀ {vs : List V} {ds : List D} (n : Nat), Reps K F vs ds → Reps K F (vs.set n v) (ds.set n d)
  | _, _, _, .nil => .nil
  | _, _, 0, .cons _ r => .cons h r
  | _, _, n + 1, .cons q r => .cons q (Reps.set h n r)
theorem Reps.reverse : ∀ {vs : List V} {ds : List D}, Reps K F vs ds → Reps K F vs.reverse ds.reverse
  | _, _, .nil => .nil
  | _, _, .cons h r => by
    rw [List.reverse_cons, List.reverse_cons]
    exact (Reps.reverse r).append (.cons h .nil)
theorem Reps.ints : ∀ {vs : List V} {ns : List Int}, Reps K F vs (ns.map D.int) → vs = ns.map V.int
  | _, [], .nil => rfl
  | _, n :: ns, .cons h r => by cases h; rw [List.map_cons, Reps.ints r]
theorem Reps.strs : ∀ {vs : List V} {ns : List Str}, Reps K F vs (ns.map D.str) → vs = ns.map V.str
  | _, [], .nil => rfl
  | _, n :: ns, .cons h r => by cases h; rw [List.map_cons, Reps.strs r]
theorem Reps.bls : ∀ {vs : List V} {ns : List Bool}, Reps K F vs (ns.map D.bl) → vs = ns.map V.bl
  | _, [], .nil => rfl
  | _, n :: ns, .cons h r => by cases h; rw [List.map_cons, Reps.bls r]
theorem Reps.ofInts : ∀ (ns : List Int), Reps K F (ns.map V.int) (ns.map D.int)
  | [] => .nil
  | n :: ns => .cons (.int n) (Reps.ofInts ns)
theorem Reps.ofStrs : ∀ (ns : List Str), Reps K F (ns.map V.str) (ns.map D.str)
  | [] => .nil
  | n :: ns => .cons (.str n) (Reps.ofStrs ns)
theorem Reps.at {vs : List V} {ds : List D} {i : Int} {d : D} (r : Reps K F vs ds) (h : atI ds i = some d) : ∃ v, atI vs i = some v ∧ Rep K F v d := by
  unfold atI at h ⊢
  rw [r.length]
  cases e : ixN ds.length i with
  | none => rw [e] at h; cases h
  | some j =>
    rw [e] at h
    obtain ⟨v, h1, h2⟩ := r.get (show ds[j]? = some d from h)
    exact ⟨v, h1, h2⟩
def cutD (xs : List D) (lo hi : Option Int) : List D := (xs.drop (HT.sIx xs.length 0 lo)).take (HT.sIx xs.length xs.length hi - HT.sIx xs.length 0 lo)
theorem Reps.cut {vs : List V} {ds : List D} (lo hi : Option Int) (r : Reps K F vs ds) : Reps K F (cutV vs lo hi) (cutD ds lo hi) := by
  unfold cutV cutD
  rw [r.length]
  exact (r.drop _).take _
theorem RepF.look : ∀ {vs : List (Str × V)} {ds : List (Str × D)} {f : Str} {d : D}, RepF K F vs ds → ds.lookup f = some d → ∃ v, vs.lookup f = some v ∧ Rep K F v d
  | _, _, _, _, .nil, h => by cases h
  | _, _, f, d, .cons (f := g) h r, q => by
    rw [List.lookup_cons] at q ⊢
    cases e : f == g with
    | true => rw [e] at q; cases q; exact ⟨_, rfl, h⟩
    | false => rw [e] at q; exact RepF.look r q
theorem RepF.no : ∀ {vs : List (Str × V)} {ds : List (Str × D)} {f : Str}, RepF K F vs ds → ds.lookup f = none → vs.lookup f = none
  | _, _, _, .nil, _ => rfl
  | _, _, f, .cons (f := g) h r, q => by
    rw [List.lookup_cons] at q ⊢
    cases e : f == g with
    | true => rw [e] at q; cases q
    | false => rw [e] at q; exact RepF.no r q
end
/-- an object that is not frozen: a list, an instance, a dict -/
inductive OD where
  | lst (ds : List D) | ins (C : Addr) (fs : List (Str × D)) | dk (kvs : List (Key × D)) | dt (kvs : List (List Key × D)) | lls (dss : List (List D)) | dkl (kvs : List (Key × D)) | dtl (kvs : List (List Key × D)) | dkm (kvs : List (Key × D)) | dtm (kvs : List (List Key × D))
/-- as data -/
def OD.fr : OD → D
  | .lst ds => .lst ds
  | .ins C fs => .ins C fs
  | .dk kvs => .dk kvs
  | .dt kvs => .dt kvs
  | .lls dss => .lst (dss.map .lst)
  | .dkl kvs => .dk kvs
  | .dtl kvs => .dt kvs
  | .dkm kvs => .dk kvs
  | .dtm kvs => .dt kvs
/-- where an object's inner lists stand -/
abbrev MR := Addr → HO → Prop
def Inn (K : PySem.W.Frag) (F : Hp) (M : MR) (bs : List Addr) (dss : List (List D)) : Prop := bs.length = dss.length ∧ ∀ (i : Nat) b ds, bs[i]? = some b → dss[i]? = some ds → ∃ ws, M b (.lst ws) ∧ Reps K F ws ds
def ObjR (K : PySem.W.Frag) (F : Hp) (M : MR) (a : Addr) : OD → HO → Prop
  | .lst ds, .lst vs => Reps K F vs ds
  | .ins C gs, .ins C' _ fs => C' = C ∧ RepF K F fs gs
  | .dk gs, .dK fs => RepK K F fs gs
  | .dt gs, .dT fs => RepT K F fs gs
  | .lls dss, .lst vs => ∃ bs : List Addr, vs = bs.map V.ref ∧ (a :: bs).Nodup ∧ Inn K F M bs dss
  | _, _ => False
theorem Inn.mono {K : PySem.W.Frag} {F F' : Hp} {M M' : MR} (e : Ex F F') {bs : List Addr} {dss : List (List D)} (m : ∀ b, b ∈ bs → ∀ o, M b o → M' b o) (h : Inn K F M bs dss) : Inn K F' M' bs dss := ⟨h.1, fun i b ds h1 h2 => by
  obtain ⟨ws, k1, k2⟩ := h.2 i b ds h1 h2
  exact ⟨ws, m b (List.mem_of_getElem? h1) _ k1, k2.mono e⟩⟩
theorem ObjR.mono {K : PySem.W.Frag} {F F' : Hp} {M M' : MR} {a : Addr} (e : Ex F F') (m : ∀ b o, M b o → M' b o) {o : OD} {h : HO} (r : ObjR K F M a o h) : ObjR K F' M' a o h := by
  cases o <;> cases h <;> first | exact r.elim | exact Reps.mono e r | exact ⟨r.1, r.2.mono e⟩ | exact RepK.mono e r | exact RepT.mono e r | exact ⟨r.choose, r.choose_spec.1, r.choose_spec.2.1, r.choose_spec.2.2.mono e fun b _ => m b⟩
theorem Reps.inn {K : PySem.W.Frag} {F : Hp} : ∀ {bs : List Addr} {dss : List (List D)}, Inn K F (fun b o => F b = some o) bs dss → Reps K F (bs.map V.ref) (dss.map .lst)
  | [], [], _ => .nil
  | b :: bs, ds :: dss, h => by
    obtain ⟨ws, k1, k2⟩ := h.2 0 b ds rfl rfl
    exact .cons (.lst k1 k2) (Reps.inn ⟨by have := h.1; simpa using this, fun i b ds h1 h2 => h.2 (i + 1) b ds (by simpa using h1) (by simpa using h2)⟩)
  | [], _ :: _, h => by cases h.1
  | _ :: _, [], h => by cases h.1
theorem ObjR.rep {K : PySem.W.Frag} {F : Hp} {M : MR} {a : Addr} {o : OD} {h : HO} (r : ObjR K F M a o h) (e : F a = some h) (m : ∀ b o, M b o → F b = some o) : Rep K F (.ref a) o.fr := by
  cases o <;> cases h <;> first | exact r.elim | exact .lst e r | exact .dk e r | exact .dt e r | (obtain ⟨rfl, r⟩ := r; exact .ins e r) | (obtain ⟨bs, rfl, _, q⟩ := r; exact .lst e (Reps.inn (q.mono Ex.refl fun b _ => m b)))
theorem ObjR.lst_ {K : PySem.W.Frag} {F : Hp} {M : MR} {a : Addr} {ds : List D} {h : HO} (r : ObjR K F M a (.lst ds) h) : ∃ vs, h = .lst vs ∧ Reps K F vs ds := by
  cases h <;> first | exact r.elim | exact ⟨_, rfl, r⟩
theorem ObjR.lls_ {K : PySem.W.Frag} {F : Hp} {M : MR} {a : Addr} {dss : List (List D)} {h : HO} (r : ObjR K F M a (.lls dss) h) : ∃ bs : List Addr, h = .lst (bs.map V.ref) ∧ (a :: bs).Nodup ∧ Inn K F M bs dss := by
  cases h <;> first | exact r.elim | (obtain ⟨bs, rfl, h⟩ := r; exact ⟨bs, rfl, h⟩)
/-- an object that is only read: a dict may be locked, and isn't frozen -/
def ObjS (K : PySem.W.Frag) (G F : Hp) (M : MR) (a : Addr) : OD → HO → Prop
  | .dk gs, h => ∃ fs, h = .dK fs ∧ RepK K F fs gs ∧ G a = none
  | .dt gs, h => ∃ fs, h = .dT fs ∧ RepT K F fs gs ∧ G a = none
  | .dkl gs, h => ∃ fs, (∃ ob, h = .frz ob (.dK fs)) ∧ RepK K F fs gs ∧ G a = none
  | .dtl gs, h => ∃ fs, (∃ ob, h = .frz ob (.dT fs)) ∧ RepT K F fs gs ∧ G a = none
  | .dkm gs, h => ∃ fs, (h = .dK fs ∨ ∃ ob, h = .frz ob (.dK fs)) ∧ RepK K F fs gs ∧ G a = none
  | .dtm gs, h => ∃ fs, (h = .dT fs ∨ ∃ ob, h = .frz ob (.dT fs)) ∧ RepT K F fs gs ∧ G a = none
  | .lst ds, h => ObjR K F M a (.lst ds) h
  | .ins C gs, h => ObjR K F M a (.ins C gs) h
  | .lls dss, h => ObjR K F M a (.lls dss) h
theorem ObjR.s {K : PySem.W.Frag} {G F : Hp} {M : MR} {a : Addr} {o : OD} {h : HO} (r : ObjR K F M a o h) (f : G a = none) : ObjS K G F M a o h := by
  cases o with
  | dk gs => cases h <;> first | exact r.elim | exact ⟨_, rfl, r, f⟩
  | dt gs => cases h <;> first | exact r.elim | exact ⟨_, rfl, r, f⟩
  | dkl gs => cases h <;> exact r.elim
  | dtl gs => cases h <;> exact r.elim
  | dkm gs => cases h <;> exact r.elim
  | dtm gs => cases h <;> exact r.elim
  | _ => exact r
theorem ObjS.mono {K : PySem.W.Frag} {G G' F F' : Hp} {M M' : MR} {a : Addr} {o : OD} {h : HO} (r : ObjS K G F M a o h) (e : Ex F F') (m : ∀ b o, M b o → M' b o) (f : G a = none → G' a = none) : ObjS K G' F' M' a o h := by
  cases o with
  | dk gs => obtain ⟨fs, z, r, q⟩ := r; exact ⟨fs, z, r.mono e, f q⟩
  | dt gs => obtain ⟨fs, z, r, q⟩ := r; exact ⟨fs, z, r.mono e, f q⟩
  | dkl gs => obtain ⟨fs, z, r, q⟩ := r; exact ⟨fs, z, r.mono e, f q⟩
  | dtl gs => obtain ⟨fs, z, r, q⟩ := r; exact ⟨fs, z, r.mono e, f q⟩
  | dkm gs => obtain ⟨fs, z, r, q⟩ := r; exact ⟨fs, z, r.mono e, f q⟩
  | dtm gs => obtain ⟨fs, z, r, q⟩ := r; exact ⟨fs, z, r.mono e, f q⟩
  | lst ds => exact ObjR.mono (o := .lst ds) e m r
  | ins C gs => exact ObjR.mono (o := .ins C gs) e m r
  | lls dss => exact ObjR.mono (o := .lls dss) e m r
theorem ObjS.lst_ {K : PySem.W.Frag} {G F : Hp} {M : MR} {a : Addr} {ds : List D} {h : HO} (r : ObjS K G F M a (.lst ds) h) : ∃ vs, h = .lst vs ∧ Reps K F vs ds := ObjR.lst_ r
theorem ObjS.lls_ {K : PySem.W.Frag} {G F : Hp} {M : MR} {a : Addr} {dss : List (List D)} {h : HO} (r : ObjS K G F M a (.lls dss) h) : ∃ bs : List Addr, h = .lst (bs.map V.ref) ∧ (a :: bs).Nodup ∧ Inn K F M bs dss := ObjR.lls_ r
/-! the pool, growth -/
def NP (P : Option (Addr × Addr)) (b : Addr) : Prop := ∀ p l, P = some (p, l) → b ≠ p
structure Gr (P : Option (Addr × Addr)) (F H F' H' : Hp) : Prop where
  f : Ex F F'
  n : ∀ b, H b ≠ none → F' b = F b
  h : ∀ b o, NP P b → H b = some o → H' b = some o
  d : ∀ b, H b ≠ none → H' b ≠ none
def PO (P : Option (Addr × Addr)) (F H : Hp) : Prop := ∀ p l, P = some (p, l) → PoolL H p l ∧ F p = none
section
variable {P : Option (Addr × Addr)} {F H F1 H1 F2 H2 : Hp} {a : Addr} {o : HO}
theorem some_ne {α : Type} {x : Option α} {y : α} (h : x = some y) : x ≠ none := by rw [h]; exact fun z => by cases z
theorem Gr.refl : Gr P F H F H := ⟨Ex.refl, fun _ _ => rfl, fun _ _ _ h => h, fun _ h => h⟩
theorem Gr.trans (g : Gr P F H F1 H1) (k : Gr P F1 H1 F2 H2) : Gr P F H F2 H2 := ⟨g.f.trans k.f, fun b h => (k.n b (g.d b h)).trans (g.n b h), fun b o n h => k.h b o n (g.h b o n h), fun b h => k.d b (g.d b h)⟩
theorem Gr.back (g : Gr P F H F1 H1) (h : H1 a = none) : H a = none := by
  cases e : H a with
  | none => rfl
  | some o => exact absurd h (g.d a (some_ne e))
theorem PoolL.ne0 {p l : Addr} (h : PoolL H p l) : H p ≠ none := by
  obtain ⟨ns, i, x, c, e, h1, _⟩ := h
  exact some_ne h1
theorem Gr.newH (n : H a = none) : Gr P F H F (upd H a o) := ⟨Ex.refl, fun _ _ => rfl, fun b u _ h => u_ne (ne_of_none h n) h, fun b h => by
  unfold upd
  split
  · exact some_ne rfl
  · exact h⟩
theorem Gr.new (e : Ex F H) (n : H a = none) : Gr P F H (upd F a o) (upd H a o) := ⟨Ex.refl.new (e.free n), fun b h => upd_ne (fun q => h (by rw [q]; exact n)), (Gr.newH (P := P) (F := F) n).h, (Gr.newH (P := P) (F := F) n).d⟩
theorem PO.new (h : PO P F H) (n : H a = none) : PO P (upd F a o) (upd H a o) := fun p l e => ⟨(h p l e).1.new n, (upd_ne (fun q => PoolL.ne0 (h p l e).1 (by rw [q]; exact n))).trans (h p l e).2⟩
theorem PO.newH (h : PO P F H) (n : H a = none) : PO P F (upd H a o) := fun p l e => ⟨(h p l e).1.new n, (h p l e).2⟩
theorem Ex.new2 (e : Ex F H) (n : H a = none) : Ex (upd F a o) (upd H a o) := fun b u h => by
  unfold upd at h ⊢
  split
  · rename_i q; rw [if_pos q] at h; exact h
  · rename_i q; rw [if_neg q] at h; exact e _ _ h
end
/-- the start of a def: its heap, what was frozen, the pool -/
structure Ct where
  H0 : Hp
  F0 : Hp
  P : Option (Addr × Addr)
  /-- the instance that is being made, its dict -/
  S : Option (Addr × Addr)
  /-- the objects that are walked meanwhile, by slot, and what is said of them -/
  Ln : Nat → Option (Addr × (HO → Prop))
  /-- where the parameters stand -/
  Pa : Nat → Option Addr
abbrev mkC (H F : Hp) (P : Option (Addr × Addr)) : Ct := ⟨H, F, P, none, fun _ => none, fun _ => none⟩
def LnOk (c : Ct) (i : Nat) (a : Addr) (h : HO) : Prop := ∃ p, c.Ln i = some (a, p) ∧ p h
/-- what a slot holds -/
inductive Sl where
  | no | fz (d : D) | own (o : OD) | bor (o : OD) | pool | slf (C : Addr) (fs : List (Str × D)) | len (o : OD)
abbrev Env := List Sl
abbrev Ow := Addr → Option Nat
/-- what slot i owns; what is not the pool; what is new -/
def oR (O : Ow) (H : Hp) (i : Nat) : MR := fun b o => O b = some i ∧ H b = some o
def np (P : Option (Addr × Addr)) (H : Hp) : MR := fun b o => NP P b ∧ H b = some o
def nw (H0 F H : Hp) : MR := fun b o => H0 b = none ∧ F b = none ∧ H b = some o
def SlR (K : PySem.W.Frag) (c : Ct) (F : Hp) (O : Ow) (H : Hp) (i : Nat) : Sl → Option V → Prop
  | .no, _ => True
  | .fz d, o => ∃ v, o = some v ∧ Rep K F v d
  | .own ds, o => ∃ a h, o = some (.ref a) ∧ O a = some i ∧ H a = some h ∧ ObjR K F (oR O H i) a ds h
  | .bor ds, o => ∃ a h, o = some (.ref a) ∧ c.H0 a = some h ∧ (NP c.P a ∧ c.Pa i = some a) ∧ ObjS K c.F0 F (np c.P c.H0) a ds h
  | .pool, o => ∃ p l, c.P = some (p, l) ∧ o = some (.ref p)
  | .len ds, o => ∃ a h, o = some (.ref a) ∧ LnOk c i a h ∧ O a = some i ∧ H a = some h ∧ ObjS K F F (oR O H i) a ds h
  | .slf C gs, o => ∃ a dx fs, c.S = some (a, dx) ∧ o = some (.ref a) ∧ O a = some i ∧ H a = some (.ins C dx fs) ∧ RepF K F fs gs
structure Sim (K : PySem.W.Frag) (c : Ct) (F : Hp) (O : Ow) (ρ : Env) (σ : L2.St) (H : Hp) : Prop where
  gr : Gr c.P c.F0 c.H0 F H
  fh : Ex F H
  po : PO c.P F H
  pd : ∀ p l, c.P = some (p, l) → c.H0 p ≠ none ∧ c.H0 l ≠ none
  ow : ∀ a i, O a = some i → c.H0 a = none ∧ F a = none ∧ H a ≠ none
  len : ρ.length = σ.length
  sl : ∀ i s o, ρ[i]? = some s → σ[i]? = some o → SlR K c F O H i s o
/-- a value on the way: data that is frozen, a list that is looked at (one's own; a parameter's), a new list, the pool -/
inductive X where
  | f (d : D) | b (o : OD) | q (o : OD) | o (o : OD) | pl
def XR (K : PySem.W.Frag) (c : Ct) (F H0 H : Hp) : X → V → Prop
  | .f d, v => Rep K F v d
  | .b ds, v => ∃ a h, v = .ref a ∧ H a = some h ∧ NP c.P a ∧ ObjS K F F (np c.P H) a ds h
  | .q ds, v => ∃ a h, v = .ref a ∧ c.H0 a = some h ∧ NP c.P a ∧ ObjS K c.F0 F (np c.P c.H0) a ds h
  | .o ds, v => ∃ a h, v = .ref a ∧ H0 a = none ∧ H a = some h ∧ F a = none ∧ ObjR K F (nw H0 F H) a ds h
  | .pl, v => ∃ p l, c.P = some (p, l) ∧ v = .ref p
/-- the same, nothing new -/
def XM (K : PySem.W.Frag) (c : Ct) (F H : Hp) : X → V → Prop
  | .o _, _ => False
  | x, v => XR K c F H H x v
/-- a new list is frozen -/
def X.n : X → X
  | .o ds => .f ds.fr
  | x => x
def XMs (K : PySem.W.Frag) (c : Ct) (F H : Hp) : List X → List V → Prop
  | [], [] => True
  | x :: xs, v :: vs => XM K c F H x v ∧ XMs K c F H xs vs
  | _, _ => False
section
variable {K : PySem.W.Frag} {c : Ct} {F H F1 H1 : Hp} {O : Ow} {ρ : Env} {σ : L2.St}
theorem Sim.own_np (S : Sim K c F O ρ σ H) {a : Addr} {i : Nat} (h : O a = some i) : NP c.P a := fun p l e q => by
  subst q
  exact (S.pd _ _ e).1 (S.ow _ _ h).1
theorem Sim.new_np (S : Sim K c F O ρ σ H) {a : Addr} (h : H a = none) : NP c.P a := fun p l e q => by
  subst q
  exact PoolL.ne0 (S.po _ _ e).1 h
theorem Sim.grow (S : Sim K c F O ρ σ H) (g : Gr c.P F H F1 H1) (fh : Ex F1 H1) (po : PO c.P F1 H1) : Sim K c F1 O ρ σ H1 := by
  refine ⟨S.gr.trans g, fh, po, S.pd, fun a i h => ?_, S.len, fun i s o hs ho => ?_⟩
  · obtain ⟨h1, h2, h3⟩ := S.ow a i h
    exact ⟨h1, (g.n a h3).trans h2, g.d a h3⟩
  · have q := S.sl i s o hs ho
    cases s with
    | no => trivial
    | fz d => obtain ⟨v, e, r⟩ := q; exact ⟨v, e, r.mono g.f⟩
    | own ds => obtain ⟨a, vs, e, h1, h2, r⟩ := q; exact ⟨a, vs, e, h1, g.h _ _ (S.own_np h1) h2, r.mono g.f fun b o z => ⟨z.1, g.h _ _ (S.own_np z.1) z.2⟩⟩
    | bor ds => obtain ⟨a, vs, e, h1, h2, r⟩ := q; exact ⟨a, vs, e, h1, h2, r.mono g.f (fun _ _ z => z) id⟩
    | len ds => obtain ⟨a, vs, e, h0, h1, h2, r⟩ := q; exact ⟨a, vs, e, h0, h1, g.h _ _ (S.own_np h1) h2, r.mono g.f (fun b o z => ⟨z.1, g.h _ _ (S.own_np z.1) z.2⟩) fun z => (g.n _ (some_ne h2)).trans z⟩
    | slf C gs => obtain ⟨a, dx, fs, e, e2, h1, h2, r⟩ := q; exact ⟨a, dx, fs, e, e2, h1, g.h _ _ (S.own_np h1) h2, r.mono g.f⟩
    | pool => exact q
theorem Sim.new (S : Sim K c F O ρ σ H) {a : Addr} {o : HO} (n : H a = none) : Sim K c (upd F a o) O ρ σ (upd H a o) := S.grow (Gr.new S.fh n) (Ex.new2 S.fh n) (S.po.new n)
theorem Sim.newH (S : Sim K c F O ρ σ H) {a : Addr} {o : HO} (n : H a = none) : Sim K c F O ρ σ (upd H a o) := S.grow (Gr.newH n) (S.fh.new n) (S.po.newH n)
theorem XM.grow {x : X} {v : V} (h : XM K c F H x v) (g : Gr c.P F H F1 H1) : XM K c F1 H1 x v := by
  cases x with
  | f d => exact Rep.mono g.f h
  | b ds => obtain ⟨a, vs, e, h1, h2, r⟩ := h; exact ⟨a, vs, e, g.h _ _ h2 h1, h2, r.mono g.f (fun b o z => ⟨z.1, g.h _ _ z.1 z.2⟩) fun z => (g.n _ (some_ne h1)).trans z⟩
  | q ds => obtain ⟨a, vs, e, h1, h2, r⟩ := h; exact ⟨a, vs, e, h1, h2, r.mono g.f (fun _ _ z => z) id⟩
  | o ds => exact h
  | pl => exact h
theorem XMs.grow : ∀ {xs : List X} {vs : List V}, XMs K c F H xs vs → Gr c.P F H F1 H1 → XMs K c F1 H1 xs vs
  | [], [], _, _ => trivial
  | _ :: _, _ :: _, h, g => ⟨h.1.grow g, XMs.grow h.2 g⟩
  | [], _ :: _, h, _ => h.elim
  | _ :: _, [], h, _ => h.elim
theorem XM.xr {x : X} {v : V} {H0 : Hp} (h : XM K c F H x v) : XR K c F H0 H x v := by
  cases x with
  | o ds => exact h.elim
  | f d => exact h
  | b ds => exact h
  | q ds => exact h
  | pl => exact h
theorem XR.back {x : X} {v : V} {H0 H2 : Hp} {F0 : Hp} (h : XR K c F H2 H x v) (g : Gr c.P F0 H0 F1 H2) : XR K c F H0 H x v := by
  cases x with
  | o ds => obtain ⟨a, vs, e, h1, h2, h3, r⟩ := h; exact ⟨a, vs, e, g.back h1, h2, h3, r.mono Ex.refl fun b o z => ⟨g.back z.1, z.2⟩⟩
  | f d => exact h
  | b ds => exact h
  | q ds => exact h
  | pl => exact h
/-- all that is new since H is frozen too -/
def addN (F H H1 : Hp) : Hp := fun b => match F b, H b with
  | some o, _ => some o
  | none, none => H1 b
  | none, some _ => none
theorem addN_ex {F H H1 : Hp} : Ex F (addN F H H1) := fun b o h => by unfold addN; rw [h]
theorem addN_old {F H H1 : Hp} {b : Addr} (h : H b ≠ none) : addN F H H1 b = F b := by
  unfold addN
  cases e : F b with
  | some o => rfl
  | none => cases e2 : H b with
    | some o => rfl
    | none => exact absurd e2 h
/-- a new list is frozen -/
theorem norm {x : X} {v : V} (S0 : Sim K c F O ρ σ H) (g : Gr c.P F H F1 H1) (S : Sim K c F1 O ρ σ H1) (r : XR K c F1 H H1 x v) : ∃ F2, Gr c.P F H F2 H1 ∧ Sim K c F2 O ρ σ H1 ∧ XM K c F2 H1 x.n v := by
  cases x with
  | f d => exact ⟨F1, g, S, r⟩
  | b ds => exact ⟨F1, g, S, r⟩
  | q ds => exact ⟨F1, g, S, r⟩
  | pl => exact ⟨F1, g, S, r⟩
  | o ds =>
    obtain ⟨a, vs, e, h1, h2, h3, r⟩ := r
    have x : Ex F1 (addN F1 H H1) := addN_ex
    have g2 : Gr c.P F H (addN F1 H H1) H1 := ⟨g.f.trans x, fun b hb => (addN_old hb).trans (g.n b hb), g.h, g.d⟩
    have f2 : Ex (addN F1 H H1) H1 := fun b u hb => by
      unfold addN at hb
      split at hb
      · rename_i q; cases hb; exact S.fh _ _ q
      · exact hb
      · cases hb
    have p2 : PO c.P (addN F1 H H1) H1 := fun p l e => ⟨(S.po p l e).1, (addN_old (PoolL.ne0 (S0.po p l e).1)).trans (S.po p l e).2⟩
    have m2 : ∀ b o, nw H F1 H1 b o → addN F1 H H1 b = some o := fun b o z => by
      unfold addN
      rw [z.2.1, z.1]
      exact z.2.2
    exact ⟨_, g2, S0.grow g2 f2 p2, by rw [e]; exact (r.mono x m2).rep (m2 a vs ⟨h1, h3, h2⟩) fun _ _ z => z⟩
end
end Pl
/-! Pl1: the judgements of the pure layer. -/
namespace Pl
open PySem L2 Wp
/-- getting and setting slots -/
def getS : Env → Nat → Sl
  | [], _ => .no
  | s :: _, 0 => s
  | _ :: r, n + 1 => getS r n
theorem getS_some : ∀ {ρ : Env} {i : Nat} {s : Sl}, getS ρ i = s → s ≠ .no → ρ[i]? = some s
  | [], _, _, h, n => absurd h.symm n
  | t :: _, 0, s, h, _ => by rw [← h]; rfl
  | _ :: r, i + 1, s, h, n => by
    have := getS_some (ρ := r) (i := i) h n
    simpa using this
def Sl.rd (s : Sl) (Q : X → Prop) : Prop := match s with
  | .fz d => Q (.f d)
  | .own ds => Q (.b ds)
  | .bor ds => Q (.q ds)
  | .pool => Q .pl
  | .no => False
  | .slf C gs => Q (.b (.ins C gs))
  | .len ds => Q (.b ds)
abbrev ME := Env → (X → Prop) → Prop
abbrev MA := Env → (List X → Prop) → Prop
abbrev MT := Env → (Bool → Prop) → Prop
structure Pd where
  nx : Env → Prop
  rt : X → Prop
  bk : Env → Prop
  ct : Env → Prop
abbrev MS := Pd → Env → Prop
section
variable (K : PySem.W.Frag)
def Post (c : Ct) (F : Hp) (O : Ow) (ρ : Env) (σ : L2.St) (H : Hp) (Q' : X → Prop) (Q : VK) : Prop := ∀ F' H' x v, Gr c.P F H F' H' → Sim K c F' O ρ σ H' → XR K c F' H H' x v → Q' x → Q v H'
def PostB (c : Ct) (F : Hp) (O : Ow) (ρ : Env) (σ : L2.St) (H : Hp) (Q' : Bool → Prop) (Q : Bool → Hp → Prop) : Prop := ∀ F' H' b, Gr c.P F H F' H' → Sim K c F' O ρ σ H' → Q' b → Q b H'
def PurE (t : TE) (m : ME) : Prop := ∀ c F O ρ σ H Q Q', Sim K c F O ρ σ H → m ρ Q' → Post K c F O ρ σ H Q' Q → t σ H Q
def PurT (t : TT) (m : MT) : Prop := ∀ c F O ρ σ H Q Q', Sim K c F O ρ σ H → m ρ Q' → PostB K c F O ρ σ H Q' Q → t σ H Q
def PurA (n : Nat) (t : TA) (m : MA) : Prop := ∀ c F O ρ σ H (Q : List V → Hp → Prop) (Q' : List X → Prop), Sim K c F O ρ σ H → m ρ Q' → (∀ F' H' xs vs, Gr c.P F H F' H' → Sim K c F' O ρ σ H' → XMs K c F' H' xs vs → xs.length = n → Q' xs → Q vs H') → t σ H Q
/-- an operator by values -/
def PurR2 (r : R2) (r' : X → X → (X → Prop) → Prop) : Prop := ∀ c F O ρ σ H Q Q' x y v w, Sim K c F O ρ σ H → XM K c F H x v → XM K c F H y w → r' x y Q' → Post K c F O ρ σ H Q' Q → r v w H Q
def PurR1 (r : V → Hp → VK → Prop) (r' : X → (X → Prop) → Prop) : Prop := ∀ c F O ρ σ H Q Q' x v, Sim K c F O ρ σ H → XM K c F H x v → r' x Q' → Post K c F O ρ σ H Q' Q → r v H Q
def PurRL (r : List V → Hp → VK → Prop) (r' : List X → (X → Prop) → Prop) : Prop := ∀ c F O ρ σ H Q Q' xs vs, Sim K c F O ρ σ H → XMs K c F H xs vs → r' xs Q' → Post K c F O ρ σ H Q' Q → r vs H Q
structure RefE (c : Ct) (F : Hp) (D' : Pd) (D : Ends) : Prop where
  nx : ∀ F' O ρ σ H, Ex F F' → Sim K c F' O ρ σ H → D'.nx ρ → D.nx σ H
  bk : ∀ F' O ρ σ H, Ex F F' → Sim K c F' O ρ σ H → D'.bk ρ → D.bk σ H
  ct : ∀ F' O ρ σ H, Ex F F' → Sim K c F' O ρ σ H → D'.ct ρ → D.ct σ H
  rt : ∀ F' H x v, Ex F F' → Gr c.P c.F0 c.H0 F' H → Ex F' H → PO c.P F' H → XR K c F' c.H0 H x v → D'.rt x → D.rt v H
def PurS (t : TS) (m : MS) : Prop := ∀ c F O ρ σ H D D', Sim K c F O ρ σ H → RefE K c F D' D → m D' ρ → t D σ H
end
section
variable {K : PySem.W.Frag} {c : Ct} {F H F1 H1 : Hp} {O : Ow} {ρ : Env} {σ : L2.St} {Q : VK} {Q' : X → Prop} {E : Ends} {E' : Pd}
theorem Post.trans (h : Post K c F O ρ σ H Q' Q) (g : Gr c.P F H F1 H1) : Post K c F1 O ρ σ H1 Q' Q := fun F' H' x v g' S r q => h F' H' x v (g.trans g') S (r.back g) q
theorem RefE.mono (h : RefE K c F E' E) (e : Ex F F1) : RefE K c F1 E' E := ⟨fun F' O ρ σ H x => h.nx F' O ρ σ H (e.trans x), fun F' O ρ σ H x => h.bk F' O ρ σ H (e.trans x), fun F' O ρ σ H x => h.ct F' O ρ σ H (e.trans x), fun F' H x v y => h.rt F' H x v (e.trans y)⟩
theorem Post.here {x : X} {v : V} (h : Post K c F O ρ σ H Q' Q) (S : Sim K c F O ρ σ H) (r : XR K c F H H x v) (q : Q' x) : Q v H := h F H x v Gr.refl S r q
/-- a new frozen object -/
theorem Post.new {d : Pl.D} {a : Addr} {o : HO} (h : Post K c F O ρ σ H Q' Q) (S : Sim K c F O ρ σ H) (n : H a = none) (r : Rep K (upd F a o) (.ref a) d) (q : Q' (.f d)) : Q (.ref a) (upd H a o) := h _ _ (.f d) _ (Gr.new S.fh n) (S.new n) r q
/-- a new list -/
theorem Post.newL {ds : List Pl.D} {a : Addr} {vs : List V} (h : Post K c F O ρ σ H Q' Q) (S : Sim K c F O ρ σ H) (n : H a = none) (r : Reps K F vs ds) (q : Q' (.o (.lst ds))) : Q (.ref a) (upd H a (.lst vs)) := h _ _ (.o (.lst ds)) _ (Gr.newH n) (S.newH n) ⟨a, _, rfl, n, upd_same, S.fh.free n, r⟩ q
end
/-! expressions -/
def mVar (i : Nat) : ME := fun ρ Q => (getS ρ i).rd Q
def mC (d : D) : ME := fun _ Q => Q (.f d)
def kOp2 (r : X → X → (X → Prop) → Prop) (x : X) (Q : X → Prop) (y : X) : Prop := r x.n y.n Q
def kOp1 (r : X → X → (X → Prop) → Prop) (mb : ME) (ρ : Env) (Q : X → Prop) (x : X) : Prop := mb ρ (kOp2 r x Q)
def mOp (r : X → X → (X → Prop) → Prop) (ma mb : ME) : ME := fun ρ Q => ma ρ (kOp1 r mb ρ Q)
def kUn (r : X → (X → Prop) → Prop) (Q : X → Prop) (x : X) : Prop := r x.n Q
def mUn (r : X → (X → Prop) → Prop) (ma : ME) : ME := fun ρ Q => ma ρ (kUn r Q)
def kTst (Q : Bool → Prop) (x : X) : Prop := ∃ b, x = .f (.bl b) ∧ Q b
def mTst (ma : ME) : MT := fun ρ Q => ma ρ (kTst Q)
def pIf (b : Bool) (A B : Prop) : Prop := if b = true then A else B
theorem pif_t {A B : Prop} : pIf true A B = A := rfl
theorem pif_f {A B : Prop} : pIf false A B = B := by unfold pIf; rw [if_neg (by decide)]
theorem pif {b : Bool} {A B : Prop} (h1 : b = true → A) (h2 : b = false → B) : pIf b A B := by
  cases b with
  | true => rw [pif_t]; exact h1 rfl
  | false => rw [pif_f]; exact h2 rfl
theorem pifd {p : Prop} [Decidable p] {A B : Prop} (h1 : p → A) (h2 : ¬ p → B) : pIf (decide p) A B := pif (fun h => h1 (of_decide_eq_true h)) (fun h => h2 (of_decide_eq_false h))
theorem pif_T {b : Bool} {A B : Prop} (h : b = true) (a : A) : pIf b A B := by rw [h]; exact a
theorem pif_F {b : Bool} {A B : Prop} (h : b = false) (a : B) : pIf b A B := by rw [h, pif_f]; exact a
theorem pifd_T {p : Prop} [Decidable p] {A B : Prop} (h : p) (a : A) : pIf (decide p) A B := pif_T (decide_eq_true h) a
theorem pifd_F {p : Prop} [Decidable p] {A B : Prop} (h : ¬ p) (a : B) : pIf (decide p) A B := pif_F (decide_eq_false h) a
theorem pif_F' {A B : Prop} (h : pIf false A B) : B := by rw [pif_f] at h; exact h
theorem pif_not {b : Bool} {A B : Prop} : pIf (!b) A B = pIf b B A := by cases b <;> rfl
def kIf (ma mb : ME) (ρ : Env) (Q : X → Prop) (b : Bool) : Prop := pIf b (ma ρ Q) (mb ρ Q)
def mIf (t : MT) (ma mb : ME) : ME := fun ρ Q => t ρ (kIf ma mb ρ Q)
def kNot (Q : Bool → Prop) (b : Bool) : Prop := Q (!b)
def mNot (t : MT) : MT := fun ρ Q => t ρ (kNot Q)
def kAnd (u : MT) (ρ : Env) (Q : Bool → Prop) (b : Bool) : Prop := pIf b (u ρ Q) (Q false)
def mAnd (t u : MT) : MT := fun ρ Q => t ρ (kAnd u ρ Q)
def kOr (u : MT) (ρ : Env) (Q : Bool → Prop) (b : Bool) : Prop := pIf b (Q true) (u ρ Q)
def mOr (t u : MT) : MT := fun ρ Q => t ρ (kOr u ρ Q)
def kAndV (mb : ME) (ρ : Env) (Q : X → Prop) (x : X) : Prop := ∃ b, x = .f (.bl b) ∧ pIf b (mb ρ Q) (Q (.f (.bl false)))
def mAndV (ma mb : ME) : ME := fun ρ Q => ma ρ (kAndV mb ρ Q)
def kOrV (mb : ME) (ρ : Env) (Q : X → Prop) (x : X) : Prop := ∃ b, x = .f (.bl b) ∧ pIf b (Q (.f (.bl true))) (mb ρ Q)
def mOrV (ma mb : ME) : ME := fun ρ Q => ma ρ (kOrV mb ρ Q)
def kNotV (Q : X → Prop) (x : X) : Prop := ∃ b, x = .f (.bl b) ∧ Q (.f (.bl (!b)))
def mNotV (ma : ME) : ME := fun ρ Q => ma ρ (kNotV Q)
def kCh3 (r' : X → X → (X → Prop) → Prop) (mc : ME) (y : X) (ρ : Env) (Q : X → Prop) (z : X) : Prop := ∃ b, z = .f (.bl b) ∧ pIf b (mc ρ (kOp2 r' y Q)) (Q (.f (.bl false)))
def kCh2 (r r' : X → X → (X → Prop) → Prop) (mc : ME) (x : X) (ρ : Env) (Q : X → Prop) (y : X) : Prop := r x.n y.n (kCh3 r' mc y ρ Q)
def kCh1 (r r' : X → X → (X → Prop) → Prop) (mb mc : ME) (ρ : Env) (Q : X → Prop) (x : X) : Prop := mb ρ (kCh2 r r' mc x ρ Q)
def mChain (r r' : X → X → (X → Prop) → Prop) (ma mb mc : ME) : ME := fun ρ Q => ma ρ (kCh1 r r' mb mc ρ Q)
def mNil : MA := fun _ Q => Q []
def kCons2 (x : X) (Q : List X → Prop) (xs : List X) : Prop := Q (x.n :: xs)
def kCons1 (mr : MA) (ρ : Env) (Q : List X → Prop) (x : X) : Prop := mr ρ (kCons2 x Q)
def mCons (ma : ME) (mr : MA) : MA := fun ρ Q => ma ρ (kCons1 mr ρ Q)
def fsOf : List X → Option (List D)
  | [] => some []
  | .f d :: r => (fsOf r).map (d :: ·)
  | _ => none
def kTup (Q : X → Prop) (xs : List X) : Prop := ∃ ds, fsOf xs = some ds ∧ Q (.f (.tup ds))
def mTup (m : MA) : ME := fun ρ Q => m ρ (kTup Q)
def kLst (Q : X → Prop) (xs : List X) : Prop := ∃ ds, fsOf xs = some ds ∧ Q (.o (.lst ds))
def mLst (m : MA) : ME := fun ρ Q => m ρ (kLst Q)
def X.p : X → X
  | .q ds => .b ds
  | x => x
def kCB (r : List X → (X → Prop) → Prop) (Q : X → Prop) (xs : List X) : Prop := r xs Q
def mCB (r : List X → (X → Prop) → Prop) (m : MA) : ME := fun ρ Q => m ρ (kCB r Q)
section
variable {K : PySem.W.Frag}
theorem e_var (i : Nat) : PurE K (tVar i) (mVar i) := by
  intro c F O ρ σ H Q Q' S hm hp
  unfold mVar at hm
  generalize e : getS ρ i = s at hm
  have hs : s ≠ .no := fun z => by subst z; exact hm
  have e1 := getS_some e hs
  have hi : i < σ.length := by rw [← S.len]; exact (List.getElem?_eq_some_iff.mp e1).1
  have e2 : σ[i]? = some σ[i] := List.getElem?_eq_getElem hi
  have q := S.sl i s _ e1 e2
  cases s with
  | no => exact absurd rfl hs
  | fz d => obtain ⟨v, e3, r⟩ := q; exact ⟨v, by rw [e2, e3], hp.here (x := .f d) S r hm⟩
  | own ds => obtain ⟨a, vs, e3, h1, h2, r⟩ := q; exact ⟨_, by rw [e2, e3], hp.here (x := .b ds) S ⟨a, vs, rfl, h2, S.own_np h1, (r.mono Ex.refl fun b o z => ⟨S.own_np z.1, z.2⟩).s (S.ow _ _ h1).2.1⟩ hm⟩
  | bor ds => obtain ⟨a, vs, e3, h1, h2, r⟩ := q; exact ⟨_, by rw [e2, e3], hp.here (x := .q ds) S ⟨a, vs, rfl, h1, h2.1, r⟩ hm⟩
  | len ds => obtain ⟨a, vs, e3, h0, h1, h2, r⟩ := q; exact ⟨_, by rw [e2, e3], hp.here (x := .b ds) S ⟨a, vs, rfl, h2, S.own_np h1, r.mono Ex.refl (fun b o z => ⟨S.own_np z.1, z.2⟩) id⟩ hm⟩
  | slf C gs => obtain ⟨a, dx, fs, e, e3, h1, h2, r⟩ := q; exact ⟨_, by rw [e2, e3], hp.here (x := .b (.ins C gs)) S ⟨a, _, rfl, h2, S.own_np h1, rfl, r⟩ hm⟩
  | pool => obtain ⟨p, l, h1, e3⟩ := q; exact ⟨_, by rw [e2, e3], hp.here (x := .pl) S ⟨p, l, h1, rfl⟩ hm⟩
theorem e_c {v : V} {d : D} (h : ∀ F, Rep K F v d) : PurE K (tC v) (mC d) := fun c F O ρ σ H Q Q' S hm hp => hp.here (x := .f d) S (h F) hm
theorem e_int {i : Int} : PurE K (tC (.int i)) (mC (.int i)) := e_c fun _ => .int i
theorem e_str {i : Str} : PurE K (tC (.str i)) (mC (.str i)) := e_c fun _ => .str i
theorem e_bl {i : Bool} : PurE K (tC (.bl i)) (mC (.bl i)) := e_c fun _ => .bl i
theorem e_non : PurE K (tC .non) (mC .non) := e_c fun _ => .non
theorem e_ty {n : String} : PurE K (tC (.ty n)) (mC (.ty n)) := e_c fun _ => .ty n
theorem e_obj {a : Addr} : PurE K (tC (.ref a)) (mC (.obj a)) := e_c fun _ => .obj a
/-- the value of a subexpression, nothing new -/
theorem PurE.mid {t : TE} {m : ME} (h : PurE K t m) {c F O ρ σ H} {Q : VK} {Q' : X → Prop} (S : Sim K c F O ρ σ H) (hm : m ρ Q') (k : ∀ F1 H1 x v, Gr c.P F H F1 H1 → Sim K c F1 O ρ σ H1 → XM K c F1 H1 x.n v → Q' x → Q v H1) : t σ H Q := by
  refine h c F O ρ σ H Q Q' S hm fun F1 H1 x v g S1 r q => ?_
  obtain ⟨F2, g2, S2, r2⟩ := norm S g S1 r
  exact k F2 H1 x v g2 S2 r2 q
theorem e_op {r : R2} {r' : X → X → (X → Prop) → Prop} {ta tb : TE} {ma mb : ME} (hr : PurR2 K r r') (ha : PurE K ta ma) (hb : PurE K tb mb) : PurE K (tOp r ta tb) (mOp r' ma mb) := by
  intro c F O ρ σ H Q Q' S hm hp
  refine ha.mid S hm fun F1 H1 x v g1 S1 r1 h1 => ?_
  refine hb.mid S1 h1 fun F2 H2 y w g2 S2 r2 h2 => ?_
  exact hr c F2 O ρ σ H2 Q Q' _ _ v w S2 (r1.grow g2) r2 h2 (hp.trans (g1.trans g2))
theorem e_un {r : V → Hp → VK → Prop} {r' : X → (X → Prop) → Prop} {ta : TE} {ma : ME} (hr : PurR1 K r r') (ha : PurE K ta ma) : PurE K (tUn r ta) (mUn r' ma) := by
  intro c F O ρ σ H Q Q' S hm hp
  refine ha.mid S hm fun F1 H1 x v g1 S1 r1 h1 => ?_
  exact hr c F1 O ρ σ H1 Q Q' _ v S1 r1 h1 (hp.trans g1)
theorem xm_bl {c F H} {b : Bool} {v : V} (h : XM K c F H (X.f (.bl b)).n v) : v = .bl b := by cases h; rfl
theorem t_test {t : TE} {m : ME} (h : PurE K t m) : PurT K (tTest t) (mTst m) := by
  intro c F O ρ σ H Q Q' S hm hp
  refine h.mid S hm fun F1 H1 x v g S1 r q => ?_
  obtain ⟨b, rfl, q⟩ := q
  exact ⟨b, xm_bl r, hp F1 H1 b g S1 q⟩
theorem t_b {t : TE} {m : ME} (h : PurE K t m) : PurT K (tB t) (mTst m) := t_test h
theorem t_not {t : TT} {m : MT} (h : PurT K t m) : PurT K (tNot t) (mNot m) := by
  intro c F O ρ σ H Q Q' S hm hp
  exact h c F O ρ σ H _ _ S hm fun F1 H1 b g S1 q => hp F1 H1 _ g S1 q
theorem PostB.trans {c F O ρ σ H F1 H1} {Q' : Bool → Prop} {Q : Bool → Hp → Prop} (h : PostB K c F O ρ σ H Q' Q) (g : Gr c.P F H F1 H1) : PostB K c F1 O ρ σ H1 Q' Q := fun F' H' b g' S q => h F' H' b (g.trans g') S q
theorem t_and {t u : TT} {m n : MT} (h : PurT K t m) (k : PurT K u n) : PurT K (tAnd t u) (mAnd m n) := by
  intro c F O ρ σ H Q Q' S hm hp
  refine h c F O ρ σ H _ _ S hm fun F1 H1 b g S1 q => ?_
  cases b with
  | true => exact k c F1 O ρ σ H1 _ _ S1 q (hp.trans g)
  | false => replace q := pif_F' q; exact hp F1 H1 _ g S1 q
theorem t_or {t u : TT} {m n : MT} (h : PurT K t m) (k : PurT K u n) : PurT K (tOr t u) (mOr m n) := by
  intro c F O ρ σ H Q Q' S hm hp
  refine h c F O ρ σ H _ _ S hm fun F1 H1 b g S1 q => ?_
  cases b with
  | false => replace q := pif_F' q; exact k c F1 O ρ σ H1 _ _ S1 q (hp.trans g)
  | true => exact hp F1 H1 _ g S1 q
theorem e_if {t : TT} {m : MT} {ta tb : TE} {ma mb : ME} (h : PurT K t m) (ha : PurE K ta ma) (hb : PurE K tb mb) : PurE K (tIf t ta tb) (mIf m ma mb) := by
  intro c F O ρ σ H Q Q' S hm hp
  refine h c F O ρ σ H _ _ S hm fun F1 H1 b g S1 q => ?_
  cases b with
  | true => exact ha c F1 O ρ σ H1 _ _ S1 q (hp.trans g)
  | false => replace q := pif_F' q; exact hb c F1 O ρ σ H1 _ _ S1 q (hp.trans g)
theorem e_and {ta tb : TE} {ma mb : ME} (ha : PurE K ta ma) (hb : PurE K tb mb) : PurE K (tAndV ta tb) (mAndV ma mb) := by
  intro c F O ρ σ H Q Q' S hm hp
  refine ha.mid S hm fun F1 H1 x v g S1 r q => ?_
  obtain ⟨b, rfl, q⟩ := q
  refine ⟨b, xm_bl r, ?_⟩
  cases b with
  | true => exact hb c F1 O ρ σ H1 _ _ S1 q (hp.trans g)
  | false => replace q := pif_F' q; exact hp F1 H1 (.f (.bl false)) _ g S1 (Rep.bl false) q
theorem e_or {ta tb : TE} {ma mb : ME} (ha : PurE K ta ma) (hb : PurE K tb mb) : PurE K (tOrV ta tb) (mOrV ma mb) := by
  intro c F O ρ σ H Q Q' S hm hp
  refine ha.mid S hm fun F1 H1 x v g S1 r q => ?_
  obtain ⟨b, rfl, q⟩ := q
  refine ⟨b, xm_bl r, ?_⟩
  cases b with
  | false => replace q := pif_F' q; exact hb c F1 O ρ σ H1 _ _ S1 q (hp.trans g)
  | true => exact hp F1 H1 (.f (.bl true)) _ g S1 (Rep.bl true) q
theorem e_not {ta : TE} {ma : ME} (ha : PurE K ta ma) : PurE K (tNotV ta) (mNotV ma) := by
  intro c F O ρ σ H Q Q' S hm hp
  refine ha.mid S hm fun F1 H1 x v g S1 r q => ?_
  obtain ⟨b, rfl, q⟩ := q
  exact ⟨b, xm_bl r, hp F1 H1 (.f (.bl _)) _ g S1 (Rep.bl _) q⟩
theorem e_chain {r r2 : R2} {r' r2' : X → X → (X → Prop) → Prop} {ta tb tc : TE} {ma mb mc : ME} (hr : PurR2 K r r') (hr2 : PurR2 K r2 r2') (ha : PurE K ta ma) (hb : PurE K tb mb) (hc : PurE K tc mc) : PurE K (tChain r r2 ta tb tc) (mChain r' r2' ma mb mc) := by
  intro c F O ρ σ H Q Q' S hm hp
  refine ha.mid S hm fun F1 H1 x v g1 S1 r1 h1 => ?_
  refine hb.mid S1 h1 fun F2 H2 y w g2 S2 r2 h2 => ?_
  have g12 := g1.trans g2
  refine hr c F2 O ρ σ H2 _ _ _ _ v w S2 (r1.grow g2) r2 h2 fun F3 H3 z u g3 S3 r3 q => ?_
  obtain ⟨b, rfl, q⟩ := q
  refine ⟨b, (show u = .bl b by cases r3; rfl), ?_⟩
  cases b with
  | true =>
    refine hc.mid S3 q fun F4 H4 s t g4 S4 r4 h4 => ?_
    exact hr2 c F4 O ρ σ H4 Q Q' _ _ w t S4 (r2.grow (g3.trans g4)) r4 h4 (hp.trans (g12.trans (g3.trans g4)))
  | false => replace q := pif_F' q; exact hp F3 H3 (.f (.bl false)) _ (g12.trans g3) S3 (Rep.bl false) q
theorem a_nil : PurA K 0 tNil mNil := fun c F O ρ σ H Q Q' S hm hp => hp F H [] [] Gr.refl S trivial rfl hm
theorem a_cons {n : Nat} {ta : TE} {tr : TA} {ma : ME} {mr : MA} (ha : PurE K ta ma) (hr : PurA K n tr mr) : PurA K (n + 1) (tCons ta tr) (mCons ma mr) := by
  intro c F O ρ σ H Q Q' S hm hp
  refine ha.mid S hm fun F1 H1 x v g1 S1 r1 h1 => ?_
  refine hr c F1 O ρ σ H1 _ _ S1 h1 fun F2 H2 xs vs g2 S2 r2 e h2 => ?_
  exact hp F2 H2 (_ :: _) (_ :: _) (g1.trans g2) S2 (show XMs K c F2 H2 (_ :: _) (_ :: _) from ⟨r1.grow g2, r2⟩) (by rw [List.length_cons, e]) h2
theorem fs_reps {c F H} : ∀ {xs : List X} {vs : List V} {ds : List D}, XMs K c F H xs vs → fsOf xs = some ds → Reps K F vs ds
  | [], [], _, _, h => by cases h; exact .nil
  | .f d :: xs, v :: vs, ds, r, h => by
    unfold fsOf at h
    cases e : fsOf xs with
    | none => rw [e] at h; cases h
    | some es => rw [e] at h; cases h; exact .cons r.1 (fs_reps r.2 e)
  | .b _ :: _, _ :: _, _, _, h => by cases h
  | .q _ :: _, _ :: _, _, _, h => by cases h
  | .o _ :: _, _ :: _, _, _, h => by cases h
  | .pl :: _, _ :: _, _, _, h => by cases h
  | [], _ :: _, _, r, _ => r.elim
  | _ :: _, [], _, r, _ => r.elim
theorem xms_len {c F H} : ∀ {xs : List X} {vs : List V}, XMs K c F H xs vs → xs.length = vs.length
  | [], [], _ => rfl
  | _ :: _, _ :: _, r => by rw [List.length_cons, List.length_cons, xms_len r.2]
  | [], _ :: _, r => r.elim
  | _ :: _, [], r => r.elim
theorem e_tup {n : Nat} {t : TA} {m : MA} (h : PurA K n t m) (hn : n ≤ sizeLine := by decide) : PurE K (tTup t) (mTup m) := by
  intro c F O ρ σ H Q Q' S hm hp
  refine h c F O ρ σ H _ _ S hm fun F1 H1 xs vs g1 S1 r1 e q => ⟨by rw [← xms_len r1, e]; exact hn, fun p np => ?_⟩
  obtain ⟨ds, h1, q⟩ := q
  exact Post.new (Post.trans hp g1) S1 np (.tup (SqT.of upd_same) ((fs_reps r1 h1).mono (Ex.refl.new (S1.fh.free np)))) q
theorem e_lst {n : Nat} {t : TA} {m : MA} (h : PurA K n t m) (hn : n ≤ sizeLine := by decide) : PurE K (tLst t) (mLst m) := by
  intro c F O ρ σ H Q Q' S hm hp
  refine h c F O ρ σ H _ _ S hm fun F1 H1 xs vs g1 S1 r1 e q => ⟨by rw [← xms_len r1, e]; exact hn, fun p np => ?_⟩
  obtain ⟨ds, h1, q⟩ := q
  exact Post.newL (Post.trans hp g1) S1 np (fs_reps r1 h1) q
theorem e_cb {n : Nat} {t : TA} {m : MA} {r : List V → Hp → VK → Prop} {r' : List X → (X → Prop) → Prop} (hr : PurRL K r r') (h : PurA K n t m) : PurE K (tCB r t) (mCB r' m) := by
  intro c F O ρ σ H Q Q' S hm hp
  refine h c F O ρ σ H _ _ S hm fun F1 H1 xs vs g1 S1 r1 e q => ?_
  exact hr c F1 O ρ σ H1 Q Q' xs vs S1 r1 q (hp.trans g1)
end
/-! contracts -/
/-- a list is looked at -/
def X.v : X → X
  | .f (.lst ds) => .b (.lst ds)
  | x => x
def viewX : List Bool → List X → List X
  | b :: bs, x :: xs => (if b = true then x.v else x) :: viewX bs xs
  | _, xs => xs
section
variable {K : PySem.W.Frag}
theorem xm_v {c F H} {x : X} {v : V} (r : XM K c F H x v) (fh : Ex F H) (po : PO c.P F H) : XM K c F H x.v v := by
  cases x with
  | f d =>
    cases d with
    | lst ds =>
      cases r with
      | lst h1 h2 => exact ⟨_, _, rfl, fh _ _ h1, (fun p l e q => by rw [q, (po p l e).2] at h1; cases h1), h2⟩
    | _ => exact r
  | _ => exact r
theorem xms_v {c F H} (fh : Ex F H) (po : PO c.P F H) : ∀ {bs : List Bool} {xs : List X} {vs : List V}, XMs K c F H xs vs → XMs K c F H (viewX bs xs) vs
  | [], _, _, r => r
  | _ :: _, [], [], r => r
  | true :: bs, x :: xs, v :: vs, r => ⟨xm_v r.1 fh po, xms_v fh po r.2⟩
  | false :: bs, x :: xs, v :: vs, r => ⟨r.1, xms_v fh po r.2⟩
  | _ :: _, [], _ :: _, r => r.elim
  | _ :: _, _ :: _, [], r => r.elim
end

/-- x is not a caller's parameter -/
def X.g : X → Bool
  | .q _ => false
  | _ => true
def kCall (bs : List Bool) (sp : List X → (X → Prop) → Prop) (Q : X → Prop) (xs : List X) : Prop := sp (viewX bs (xs.map X.p)) Q
def mCall (bs : List Bool) (sp : List X → (X → Prop) → Prop) (m : MA) : ME := fun ρ Q => m ρ (kCall bs sp Q)
def lift (K : PySem.W.Frag) (sp : List X → (X → Prop) → Prop) : Sp := fun vs H Q _ => ∃ (F : Hp) (P : Option (Addr × Addr)) (xs : List X) (Q' : X → Prop), Ex F H ∧ PO P F H ∧ XMs K (mkC H F P) F H xs vs ∧ sp xs Q' ∧
  ∀ F' H' x v, Gr P F H F' H' → Ex F' H' → PO P F' H' → x.g = true → XR K (mkC H F P) F' H H' x v → Q' x → Q v H'
section
variable {K : PySem.W.Frag}
theorem xms_p {c : Ct} {F H : Hp} (hf : ∀ a, c.H0 a ≠ none → F a = c.F0 a) (hh : ∀ a o, NP c.P a → c.H0 a = some o → H a = some o) : ∀ {xs : List X} {vs : List V}, XMs K c F H xs vs → XMs K (mkC H F c.P) F H (xs.map X.p) vs
  | [], [], _ => trivial
  | x :: xs, v :: vs, r => ⟨by
    cases x with
    | f d => exact r.1
    | b ds => exact r.1
    | q ds => obtain ⟨a, ws, e, h1, h2, q⟩ := r.1; exact ⟨a, ws, e, hh _ _ h2 h1, h2, q.mono Ex.refl (fun b o z => ⟨z.1, hh _ _ z.1 z.2⟩) fun z => (hf a (some_ne h1)).trans z⟩
    | o ds => exact r.1
    | pl => exact r.1, xms_p hf hh r.2⟩
  | [], _ :: _, r => r.elim
  | _ :: _, [], r => r.elim
theorem e_call {n : Nat} {t : TA} {m : MA} {sp : List X → (X → Prop) → Prop} {E : XK} (bs : List Bool) (h : PurA K n t m) : PurE K (tCall (lift K sp) [] E t) (mCall bs sp m) := by
  intro c F O ρ σ H Q Q' S hm hp
  refine h c F O ρ σ H _ _ S hm fun F1 H1 xs vs g1 S1 r1 e q => ?_
  refine ⟨F1, c.P, _, Q', S1.fh, S1.po, by rw [List.append_nil]; exact xms_v (c := mkC H1 F1 c.P) (bs := bs) S1.fh S1.po (xms_p S1.gr.n S1.gr.h r1), q, fun F' H' x v g fh po hg r q => ?_⟩
  refine (hp.trans g1) F' H' x v g (S1.grow g fh po) ?_ q
  cases x with
  | f d => exact r
  | b ds => exact r
  | q ds => cases hg
  | o ds => exact r
  | pl => exact r
end
/-! statements -/
def X.sl : X → Option Sl
  | .f d => some (.fz d)
  | .o ds => some (.own ds)
  | .pl => some .pool
  | _ => none
def mSeq (m n : MS) : MS := fun D ρ => m { D with nx := n D } ρ
def mNext : MS := fun D ρ => D.nx ρ
def mRet (me : ME) : MS := fun D ρ => me ρ D.rt
def mRetN : MS := fun D _ => D.rt (.f .non)
def mBrk : MS := fun D ρ => D.bk ρ
def mCnt : MS := fun D ρ => D.ct ρ
def mNev : MS := fun _ _ => False
def kAsg (i : Nat) (N : Env → Prop) (ρ : Env) (x : X) : Prop := match x with
  | .f d => N (ρ.set i (.fz d))
  | .o ds => N (ρ.set i (.own ds))
  | .pl => N (ρ.set i .pool)
  | _ => False
def mAsg (me : ME) (i : Nat) : MS := fun D ρ => me ρ (kAsg i D.nx ρ)
def kDrop (N : Env → Prop) (ρ : Env) (_ : X) : Prop := N ρ
def mDrop (me : ME) : MS := fun D ρ => me ρ (kDrop D.nx ρ)
def kIfS (m n : MS) (D : Pd) (ρ : Env) (b : Bool) : Prop := pIf b (m D ρ) (n D ρ)
def mIfS (mt : MT) (m n : MS) : MS := fun D ρ => mt ρ (kIfS m n D ρ)
/-- a list of one's own is frozen from now on -/
def Sl.fr : Sl → Sl
  | .own ds => .fz ds.fr
  | s => s
def mFr (i : Nat) (m : MS) : MS := fun D ρ => m D (ρ.set i (getS ρ i).fr)
section
variable {K : PySem.W.Frag}
theorem s_next : PurS K tNext mNext := fun c F O ρ σ H D D' S R hm => R.nx F O ρ σ H Ex.refl S hm
theorem s_brk : PurS K tBreak mBrk := fun c F O ρ σ H D D' S R hm => R.bk F O ρ σ H Ex.refl S hm
theorem s_cnt : PurS K tCont mCnt := fun c F O ρ σ H D D' S R hm => R.ct F O ρ σ H Ex.refl S hm
theorem s_nev : PurS K tNever mNev := fun c F O ρ σ H D D' S R hm => hm.elim
theorem s_seq {t u : TS} {m n : MS} (h : PurS K t m) (k : PurS K u n) : PurS K (tSeq t u) (mSeq m n) := by
  intro c F O ρ σ H D D' S R hm
  refine h c F O ρ σ H _ { D' with nx := n D' } S ⟨?_, R.bk, R.ct, R.rt⟩ hm
  intro F' O' ρ' σ' H' x S' q
  exact k c F' O' ρ' σ' H' D D' S' (R.mono x) q
theorem s_ret {te : TE} {me : ME} (h : PurE K te me) : PurS K (tRet te) (mRet me) := by
  intro c F O ρ σ H D D' S R hm
  refine h c F O ρ σ H _ _ S hm fun F' H' x v g S' r q => ?_
  exact R.rt F' H' x v g.f S'.gr S'.fh S'.po (r.back S.gr) q
theorem s_retN : PurS K tRetN mRetN := fun c F O ρ σ H D D' S R hm => R.rt F H (.f .non) .non Ex.refl S.gr S.fh S.po .non hm
theorem s_if {t : TT} {mt : MT} {a b : TS} {m n : MS} (h : PurT K t mt) (ha : PurS K a m) (hb : PurS K b n) : PurS K (tIfS t a b) (mIfS mt m n) := by
  intro c F O ρ σ H D D' S R hm
  refine h c F O ρ σ H _ _ S hm fun F1 H1 k g S1 q => ?_
  cases k with
  | true => exact ha c F1 O ρ σ H1 D D' S1 (R.mono g.f) q
  | false => replace q := pif_F' q; exact hb c F1 O ρ σ H1 D D' S1 (R.mono g.f) q
theorem s_drop {te : TE} {me : ME} (h : PurE K te me) : PurS K (tDrop te) (mDrop me) := by
  intro c F O ρ σ H D D' S R hm
  exact h c F O ρ σ H _ _ S hm fun F' H' x v g S' r q => R.nx F' O ρ σ H' g.f S' q
theorem getS_set {ρ : Env} {σ : L2.St} {i j : Nat} {s t : Sl} {v o : Option V} (h : (ρ.set i s)[j]? = some t) (k : (σ.set i v)[j]? = some o) : (j = i ∧ t = s ∧ o = v) ∨ (j ≠ i ∧ ρ[j]? = some t ∧ σ[j]? = some o) := by
  by_cases e : i = j
  · subst e
    rw [List.getElem?_set] at h k
    simp only [if_true] at h k
    split at h
    · split at k
      · cases h; cases k; exact .inl ⟨rfl, rfl, rfl⟩
      · cases k
    · cases h
  · rw [List.getElem?_set_ne e] at h k
    exact .inr ⟨fun q => e q.symm, h, k⟩
/-- a slot is given a frozen thing, the pool, or forgotten -/
theorem Sim.setF {c F O ρ σ H} (S : Sim K c F O ρ σ H) {i : Nat} {s : Sl} {v : Option V} (r : SlR K c F O H i s v) : Sim K c F O (ρ.set i s) (σ.set i v) H := by
  refine ⟨S.gr, S.fh, S.po, S.pd, S.ow, by rw [List.length_set, List.length_set, S.len], fun j t o ht ho => ?_⟩
  rcases getS_set ht ho with ⟨rfl, rfl, rfl⟩ | ⟨_, h1, h2⟩
  · exact r
  · exact S.sl j t o h1 h2
/-- a slot is given a new list: all that is new since H0 becomes its own -/
def ownN (O : Ow) (F H0 H : Hp) (i : Nat) : Ow := fun b => match H0 b, F b, H b with
  | none, none, some _ => some i
  | _, _, _ => O b
theorem ownN_or {O : Ow} {F H0 H : Hp} {i : Nat} {b : Addr} {j : Nat} (h : ownN O F H0 H i b = some j) : O b = some j ∨ (j = i ∧ H0 b = none ∧ F b = none ∧ H b ≠ none) := by
  unfold ownN at h
  split at h
  · rename_i h1 h2 h3; cases h; exact .inr ⟨rfl, h1, h2, some_ne h3⟩
  · exact .inl h
theorem ownN_new {O : Ow} {F H0 H : Hp} {i : Nat} {b : Addr} (h0 : H0 b = none) (hf : F b = none) (h : H b ≠ none) : ownN O F H0 H i b = some i := by
  unfold ownN
  rw [h0, hf]
  cases e : H b with
  | none => exact absurd e h
  | some o => rfl
theorem ownN_old {O : Ow} {F H0 H : Hp} {i : Nat} {b : Addr} (h : H0 b ≠ none) : ownN O F H0 H i b = O b := by
  unfold ownN
  cases e : H0 b with
  | none => exact absurd e h
  | some o => rfl
theorem Sim.setO {c F O ρ σ H} (S : Sim K c F O ρ σ H) {H1 : Hp} (hb : ∀ b, H1 b = none → c.H0 b = none) (hw : ∀ b j, O b = some j → H1 b ≠ none) {i : Nat} {a : Addr} {vs : HO} {ds : OD} (h0 : H1 a = none) (hf : F a = none) (ha : H a = some vs) (r : ObjR K F (nw H1 F H) a ds vs) :
    Sim K c F (ownN O F H1 H i) (ρ.set i (.own ds)) (σ.set i (some (.ref a))) H := by
  have keep : ∀ b j, O b = some j → ownN O F H1 H i b = some j := fun b j h => (ownN_old (hw b j h)).trans h
  have km : ∀ j b o, oR O H j b o → oR (ownN O F H1 H i) H j b o := fun j b o z => ⟨keep b j z.1, z.2⟩
  refine ⟨S.gr, S.fh, S.po, S.pd, fun b j h => ?_, by rw [List.length_set, List.length_set, S.len], fun j t o ht hoo => ?_⟩
  · rcases ownN_or h with h | ⟨_, h1, h2, h3⟩
    · exact S.ow b j h
    · exact ⟨hb b h1, h2, h3⟩
  · rcases getS_set ht hoo with ⟨rfl, rfl, rfl⟩ | ⟨_, h1, h2⟩
    · exact ⟨a, vs, rfl, ownN_new h0 hf (some_ne ha), ha, r.mono Ex.refl fun b o z => ⟨ownN_new z.1 z.2.1 (some_ne z.2.2), z.2.2⟩⟩
    · have q := S.sl j t o h1 h2
      cases t with
      | own es => obtain ⟨b, ws, e, k1, k2, k3⟩ := q; exact ⟨b, ws, e, keep _ _ k1, k2, k3.mono Ex.refl (km j)⟩
      | len es => obtain ⟨b, ws, e, k0, k1, k2, k3⟩ := q; exact ⟨b, ws, e, k0, keep _ _ k1, k2, k3.mono Ex.refl (km j) id⟩
      | slf C gs => obtain ⟨b, dx, fs, e, e2, k1, k2, k3⟩ := q; exact ⟨b, dx, fs, e, e2, keep _ _ k1, k2, k3⟩
      | no => exact q
      | fz d => exact q
      | bor d => exact q
      | pool => exact q
theorem s_asg {te : TE} {me : ME} {i : Nat} (h : PurE K te me) : PurS K (tAsg te (gName i)) (mAsg me i) := by
  intro c F O ρ σ H D D' S R hm
  refine h c F O ρ σ H _ _ S hm fun F' H' x v g S' r q => ?_
  cases x with
  | f d => exact R.nx _ _ _ _ _ g.f (S'.setF (s := .fz d) ⟨v, rfl, r⟩) q
  | o ds =>
    obtain ⟨a, vs, rfl, h1, h2, h3, h4⟩ := r
    exact R.nx _ _ _ _ _ g.f (S'.setO (fun b z => S.gr.back z) (fun b j z => (S.ow b j z).2.2) h1 h3 h2 h4) q
  | pl => obtain ⟨p, l, h1, rfl⟩ := r; exact R.nx _ _ _ _ _ g.f (S'.setF (s := .pool) ⟨p, l, h1, rfl⟩) q
  | b ds => exact q.elim
  | q ds => exact q.elim
/-- what slot i owns is frozen -/
def frzF (O : Ow) (F H : Hp) (i : Nat) : Hp := fun b => if O b = some i then H b else F b
theorem Sim.frz {c F O ρ σ H} (S : Sim K c F O ρ σ H) {i : Nat} {ds : OD} (h : ρ[i]? = some (.own ds)) : ∃ F', Ex F F' ∧ Sim K c F' (fun b => if O b = some i then none else O b) (ρ.set i (.fz ds.fr)) σ H := by
  have hi : i < σ.length := by rw [← S.len]; exact (List.getElem?_eq_some_iff.mp h).1
  have e2 : σ[i]? = some σ[i] := List.getElem?_eq_getElem hi
  obtain ⟨a, vs, e, h1, h2, h3⟩ := S.sl i _ _ h e2
  have x : Ex F (frzF O F H i) := fun b o hb => by
    unfold frzF
    split
    · rename_i q; rw [(S.ow b i q).2.1] at hb; cases hb
    · exact hb
  refine ⟨frzF O F H i, x, ⟨⟨S.gr.f.trans x, fun b hb => ?_, S.gr.h, S.gr.d⟩, ?_, ?_, S.pd, ?_, by rw [List.length_set, S.len], ?_⟩⟩
  · have : frzF O F H i b = F b := if_neg fun q => hb (S.ow b i q).1
    exact this.trans (S.gr.n b hb)
  · intro b u hb
    unfold frzF at hb
    split at hb
    · exact hb
    · exact S.fh _ _ hb
  · exact fun p l e => ⟨(S.po p l e).1, (show frzF O F H i p = F p from if_neg fun q => S.own_np q p l e rfl).trans (S.po p l e).2⟩
  · intro b j hb
    split at hb
    · cases hb
    · rename_i q
      obtain ⟨m1, m2, m3⟩ := S.ow b j hb
      exact ⟨m1, (show frzF O F H i b = F b from if_neg q).trans m2, m3⟩
  · intro j t o ht ho
    by_cases e0 : i = j
    · subst e0
      rw [List.getElem?_set_self (by rw [S.len]; exact hi)] at ht
      cases ht
      rw [e2] at ho
      cases ho
      have m2 : ∀ b o, oR O H i b o → frzF O F H i b = some o := fun b o z => (if_pos z.1).trans z.2
      exact ⟨_, e, (h3.mono x m2).rep (m2 a vs ⟨h1, h2⟩) fun _ _ z => z⟩
    · rw [List.getElem?_set_ne e0] at ht
      have q := S.sl j t o ht ho
      have kp : ∀ b, O b = some j → (if O b = some i then none else O b) = some j := fun b z => (if_neg (fun y => e0 (Option.some.inj (y.symm.trans z)))).trans z
      cases t with
      | own es =>
        obtain ⟨b, ws, e, k1, k2, k3⟩ := q
        exact ⟨b, ws, e, kp b k1, k2, k3.mono x fun b o z => ⟨kp b z.1, z.2⟩⟩
      | len es =>
        obtain ⟨b, ws, e, k0, k1, k2, k3⟩ := q
        exact ⟨b, ws, e, k0, kp b k1, k2, k3.mono x (fun b o z => ⟨kp b z.1, z.2⟩) fun z => (show frzF O F H i b = F b from if_neg (fun y => e0 (Option.some.inj (y.symm.trans k1)))).trans z⟩
      | slf C gs =>
        obtain ⟨b, dx, fs, e, e2, k1, k2, k3⟩ := q
        exact ⟨b, dx, fs, e, e2, kp b k1, k2, k3.mono x⟩
      | no => exact q
      | fz d => obtain ⟨v, e, r⟩ := q; exact ⟨v, e, r.mono x⟩
      | bor d => obtain ⟨b, ws, e, k1, k2, k3⟩ := q; exact ⟨b, ws, e, k1, k2, k3.mono x (fun _ _ z => z) id⟩
      | pool => exact q
theorem set_self {ρ : Env} : ∀ {i : Nat}, ρ.set i (getS ρ i) = ρ := by
  induction ρ with
  | nil => intro i; rfl
  | cons s r ih =>
    intro i
    cases i with
    | zero => rfl
    | succ i => rw [List.set_cons_succ]; exact congrArg (s :: ·) ih
theorem s_fr {t : TS} {m : MS} (i : Nat) (h : PurS K t m) : PurS K t (mFr i m) := by
  intro c F O ρ σ H D D' S R hm
  unfold mFr at hm
  cases e : getS ρ i with
  | own ds =>
    rw [e] at hm
    obtain ⟨F', x, S'⟩ := S.frz (getS_some e (fun z => by cases z))
    exact h c F' _ _ σ H D D' S' (R.mono x) hm
  | no => rw [show (getS ρ i).fr = getS ρ i by rw [e]; rfl, set_self] at hm; exact h c F O ρ σ H D D' S R hm
  | fz d => rw [show (getS ρ i).fr = getS ρ i by rw [e]; rfl, set_self] at hm; exact h c F O ρ σ H D D' S R hm
  | bor d => rw [show (getS ρ i).fr = getS ρ i by rw [e]; rfl, set_self] at hm; exact h c F O ρ σ H D D' S R hm
  | len d => rw [show (getS ρ i).fr = getS ρ i by rw [e]; rfl, set_self] at hm; exact h c F O ρ σ H D D' S R hm
  | slf C gs => rw [show (getS ρ i).fr = getS ρ i by rw [e]; rfl, set_self] at hm; exact h c F O ρ σ H D D' S R hm
  | pool => rw [show (getS ρ i).fr = getS ρ i by rw [e]; rfl, set_self] at hm; exact h c F O ρ σ H D D' S R hm
end
end Pl
/-! Pl2: walks, loops, comprehensions, own lists, defs. -/
namespace Pl
open PySem L2 Wp
/-- J gives the items ds, one after another; st: also when lists of one's own have changed -/
def IterOk (K : PySem.W.Frag) (c : Ct) (F1 H1 : Hp) (st : Bool) (ds : List D) (J : It) : Prop := ∀ F O ρ σ H, Sim K c F O ρ σ H → (if st = true then Ex F1 F else Gr c.P F1 H1 F H) → ∀ i : Nat,
  (i < ds.length → J.go i H) ∧ (ds.length ≤ i → J.stop i H) ∧ ∀ d x H', ds[i]? = some d → J.yld i H x H' → ∃ F', Gr c.P F H F' H' ∧ Sim K c F' O ρ σ H' ∧ Rep K F' x d
abbrev MI := Env → (List D → Bool → Prop) → Prop
def PurI (K : PySem.W.Frag) (wi : TI) (mi : MI) : Prop := ∀ c F O ρ σ H (R : It → Hp → Prop) (R' : List D → Bool → Prop), Sim K c F O ρ σ H → mi ρ R' → (∀ F1 H1 J ds st, Gr c.P F H F1 H1 → Sim K c F1 O ρ σ H1 → IterOk K c F1 H1 st ds J → R' ds st → R J H1) → wi σ H R
abbrev MG := D → Env → (Env → Prop) → Prop
structure PurG (K : PySem.W.Frag) (ts : List Nat) (g : TG) (mg : MG) : Prop where
  run : ∀ c F O ρ σ H v d (Q : L2.St → Hp → Prop) (Q' : Env → Prop), Sim K c F O ρ σ H → Rep K F v d → mg d ρ Q' → (∀ ρ' σ', Sim K c F O ρ' σ' H → (∀ j, j ∉ ts → σ'[j]? = σ[j]?) → σ'.length = σ.length → Q' ρ' → Q σ' H) → g v σ H Q
def PurGs (K : PySem.W.Frag) (ts : List Nat) (g : TGs) (mg : List D → Env → (Env → Prop) → Prop) : Prop := ∀ c F O ρ σ H vs ds (Q : L2.St → Hp → Prop) (Q' : Env → Prop), Sim K c F O ρ σ H → Reps K F vs ds → mg ds ρ Q' → (∀ ρ' σ', Sim K c F O ρ' σ' H → (∀ j, j ∉ ts → σ'[j]? = σ[j]?) → σ'.length = σ.length → Q' ρ' → Q σ' H) → g vs σ H Q
def mGN (i : Nat) : MG := fun d ρ Q => Q (ρ.set i (.fz d))
def mGsN : List D → Env → (Env → Prop) → Prop := fun ds ρ Q => ds = [] ∧ Q ρ
def mGsC (m : MG) (n : List D → Env → (Env → Prop) → Prop) : List D → Env → (Env → Prop) → Prop := fun ds ρ Q => ∃ d r, ds = d :: r ∧ m d ρ fun ρ' => n r ρ' Q
def mGT (n : Nat) (m : List D → Env → (Env → Prop) → Prop) : MG := fun d ρ Q => ∃ ds, d = .tup ds ∧ ds.length = n ∧ m ds ρ Q
section
variable {K : PySem.W.Frag}
theorem g_name {i : Nat} : PurG K [i] (gName i) (mGN i) := ⟨fun c F O ρ σ H v d Q Q' S r hm k => k _ _ (S.setF (s := .fz d) ⟨v, rfl, r⟩) (fun j hj => List.getElem?_set_ne (fun e => hj (by simp [e]))) (List.length_set) hm⟩
theorem gs_nil : PurGs K [] gNil mGsN := by
  intro c F O ρ σ H vs ds Q Q' S r hm k
  obtain ⟨rfl, q⟩ := hm
  cases r
  exact ⟨rfl, k _ _ S (fun _ _ => rfl) rfl q⟩
theorem gs_cons {ts us : List Nat} {g : TG} {u : TGs} {mg : MG} {mu} (h : PurG K ts g mg) (k : PurGs K us u mu) : PurGs K (ts ++ us) (gCons g u) (mGsC mg mu) := by
  intro c F O ρ σ H vs ds Q Q' S r hm kk
  obtain ⟨d, r0, rfl, q⟩ := hm
  cases r with
  | cons r1 r2 =>
    refine ⟨_, _, rfl, h.run c F O ρ σ H _ d _ _ S r1 q fun ρ' σ' S' t1 l1 q' => ?_⟩
    refine k c F O ρ' σ' H _ _ _ _ S' r2 q' fun ρ2 σ2 S2 t2 l2 q2 => ?_
    exact kk ρ2 σ2 S2 (fun j hj => (t2 j (fun z => hj (by simp [z]))).trans (t1 j (fun z => hj (by simp [z])))) (l2.trans l1) q2
theorem g_tup {ts : List Nat} {n : Nat} {t : TGs} {m} (h : PurGs K ts t m) : PurG K ts (gTup K n t) (mGT n m) := ⟨by
  intro c F O ρ σ H v d Q Q' S r hm k
  obtain ⟨ds, rfl, hn, q⟩ := hm
  cases r with
  | tup h1 h2 => exact ⟨_, _, rfl, sqt_ex S.fh h1, by rw [h2.length]; exact hn, h c F O ρ σ H _ _ _ _ S h2 q k⟩⟩
end
/-! what is walked -/
def rngD (lo : Int) (n : Nat) : List D := (List.range n).map fun i : Nat => D.int (lo + (i : Int))
def kRg1 (R : List D → Bool → Prop) (xs : List X) : Prop := ∃ n : Int, xs = [.f (.int n)] ∧ (-(2 ^ 62) ≤ n ∧ n < 2 ^ 62) ∧ R (rngD 0 n.toNat) true
def mRg1 (m : MA) : MI := fun ρ R => m ρ (kRg1 R)
def kRg2 (R : List D → Bool → Prop) (xs : List X) : Prop := ∃ i n : Int, xs = [.f (.int i), .f (.int n)] ∧ (-(2 ^ 62) ≤ i ∧ i < 2 ^ 62 ∧ -(2 ^ 62) ≤ n ∧ n < 2 ^ 62) ∧ R (rngD i (n - i).toNat) true
def mRg2 (m : MA) : MI := fun ρ R => m ρ (kRg2 R)
/-- the items of a list, and whether they stay -/
def itX (x : X) (R : List D → Bool → Prop) : Prop := match x with
  | .f (.lst ds) => R ds true
  | .q (.lst ds) => R ds true
  | .b (.lst ds) => R ds false
  | _ => False
def kIL (R : List D → Bool → Prop) (x : X) : Prop := itX x.n R
def mIL (me : ME) : MI := fun ρ R => me ρ (kIL R)
def itT (x : X) (R : List D → Bool → Prop) : Prop := match x with
  | .f (.tup ds) => R ds true
  | _ => False
/-- a list or a tuple -/
def itA (x : X) (R : List D → Bool → Prop) : Prop := match x with
  | .f (.lst ds) => R ds true
  | .q (.lst ds) => R ds true
  | .b (.lst ds) => R ds false
  | .f (.tup ds) => R ds true
  | _ => False
def kIT (R : List D → Bool → Prop) (x : X) : Prop := itT x.n R
def mIT (me : ME) : MI := fun ρ R => me ρ (kIT R)
def numbered : Nat → List D → List D
  | _, [] => []
  | n, d :: r => .tup [.int (n : Int), d] :: numbered (n + 1) r
def kEn2 (R : List D → Bool → Prop) (ds : List D) (st : Bool) : Prop := R (numbered 0 ds) st
def kEn1 (R : List D → Bool → Prop) (xs : List X) : Prop := ∃ x, xs = [x] ∧ itX x (kEn2 R)
def mEnum (m : MA) : MI := fun ρ R => m ρ (kEn1 R)
def zipD (ds es : List D) : List D := List.zipWith (fun a b => D.tup [a, b]) ds es
def kZp3 (R : List D → Bool → Prop) (ds : List D) (s : Bool) (es : List D) (t : Bool) : Prop := ds.length = es.length ∧ R (zipD ds es) (s && t)
def kZp2 (R : List D → Bool → Prop) (y : X) (ds : List D) (s : Bool) : Prop := itX y (kZp3 R ds s)
def kZp1 (R : List D → Bool → Prop) (xs : List X) : Prop := ∃ x y, xs = [x, y] ∧ itX x (kZp2 R y)
def mZip (m : MA) : MI := fun ρ R => m ρ (kZp1 R)
section
variable {K : PySem.W.Frag}
theorem numbered_length : ∀ (n : Nat) (ds : List D), (numbered n ds).length = ds.length
  | _, [] => rfl
  | n, d :: r => by rw [numbered, List.length_cons, List.length_cons, numbered_length]
theorem numbered_get : ∀ (n : Nat) (ds : List D) (i : Nat), (numbered n ds)[i]? = (ds[i]?).map fun d => .tup [.int ((n + i : Nat) : Int), d]
  | _, [], i => by simp [numbered]
  | n, d :: r, 0 => by simp [numbered]
  | n, d :: r, i + 1 => by
    rw [numbered, List.getElem?_cons_succ, List.getElem?_cons_succ, numbered_get]
    rw [show n + 1 + i = n + (i + 1) by omega]
theorem range_ok {c F1 H1} {lo : Int} {n : Nat} : IterOk K c F1 H1 true (rngD lo n) (Itr lo n) := by
  intro F O ρ σ H S _ i
  unfold rngD
  simp only [List.length_map, List.length_range]
  refine ⟨fun h => h, fun h => h, fun d x H' hd hy => ?_⟩
  obtain ⟨rfl, rfl⟩ := hy
  rw [List.getElem?_map] at hd
  cases e : (List.range n)[i]? with
  | none => rw [e] at hd; cases hd
  | some j =>
    rw [e] at hd
    cases hd
    obtain ⟨h1, h2⟩ := List.getElem?_eq_some_iff.mp e
    rw [List.getElem_range] at h2
    subst h2
    exact ⟨F, Gr.refl, S, .int _⟩
theorem i_range1 {n : Nat} {ta : TA} {m : MA} (h : PurA K n ta m) : PurI K (iRng1 ta) (mRg1 m) := by
  intro c F O ρ σ H R R' S hm k
  refine h c F O ρ σ H _ _ S hm fun F1 H1 xs vs g S1 r e q => ?_
  obtain ⟨n, rfl, ⟨b1, b2⟩, q⟩ := q
  match vs, r with
  | [v], r => cases r.1; exact ⟨n, rfl, b1, b2, k _ _ _ _ _ g S1 range_ok q⟩
theorem i_range2 {n : Nat} {ta : TA} {m : MA} (h : PurA K n ta m) : PurI K (iRng2 ta) (mRg2 m) := by
  intro c F O ρ σ H R R' S hm k
  refine h c F O ρ σ H _ _ S hm fun F1 H1 xs vs g S1 r e q => ?_
  obtain ⟨i, n, rfl, b, q⟩ := q
  match vs, r with
  | [v, w], r => cases r.1; cases r.2.1; exact ⟨i, n, rfl, b, k _ _ _ _ _ g S1 range_ok q⟩
/-- the list at a stays -/
def LstAt (K : PySem.W.Frag) (c : Ct) (F1 H1 : Hp) (st : Bool) (ds : List D) (a : Addr) : Prop := ∀ F O ρ σ H, Sim K c F O ρ σ H → (if st = true then Ex F1 F else Gr c.P F1 H1 F H) → ∃ vs, H a = some (.lst vs) ∧ Reps K F vs ds
theorem lst_of {c F O ρ σ H} {x : X} {v : V} {R : List D → Bool → Prop} (S : Sim K c F O ρ σ H) (r : XM K c F H x v) (q : itX x R) : ∃ a ds st, v = .ref a ∧ R ds st ∧ LstAt K c F H st ds a := by
  cases x with
  | f d =>
    cases d with
    | lst ds =>
      cases r with
      | lst h1 h2 => exact ⟨_, ds, true, rfl, q, fun F' O' ρ' σ' H' S' e => by
          have e : Ex F F' := by simpa using e
          exact ⟨_, S'.fh _ _ (e _ _ h1), h2.mono e⟩⟩
    | _ => exact q.elim
  | q od =>
    cases od with
    | lst ds => _
    | _ => exact q.elim
    obtain ⟨a, h, rfl, h1, h2, h3⟩ := r
    obtain ⟨vs, rfl, h4⟩ := h3.lst_
    exact ⟨a, ds, true, rfl, q, fun F' O' ρ' σ' H' S' e => ⟨vs, S'.gr.h _ _ h2 h1, h4.mono (by simpa using e)⟩⟩
  | b od =>
    cases od with
    | lst ds => _
    | _ => exact q.elim
    obtain ⟨a, h, rfl, h1, h2, h3⟩ := r
    obtain ⟨vs, rfl, h4⟩ := h3.lst_
    refine ⟨a, ds, false, rfl, q, fun F' O' ρ' σ' H' S' e => ?_⟩
    have e : Gr c.P F H F' H' := by simpa using e
    exact ⟨vs, e.h _ _ h2 h1, h4.mono e.f⟩
  | o ds => exact q.elim
  | pl => exact q.elim
theorem list_ok {c F1 H1 st ds a} (h : LstAt K c F1 H1 st ds a) : IterOk K c F1 H1 st ds (Itl K a) := by
  intro F O ρ σ H S e i
  obtain ⟨vs, h1, h2⟩ := h F O ρ σ H S e
  have hl := h2.length
  refine ⟨fun hi => ?_, fun hi => ⟨vs, SqL.of h1, by omega⟩, fun d x H' hd hy => ?_⟩
  · exact ⟨vs, vs[i]'(by omega), SqL.of h1, List.getElem?_eq_getElem (by omega)⟩
  · obtain ⟨rfl, hy⟩ := hy
    obtain ⟨v, h3, h4⟩ := h2.get hd
    have := hy vs (SqL.of h1)
    rw [h3] at this
    cases this
    exact ⟨F, Gr.refl, S, h4⟩
theorem i_list {te : TE} {me : ME} (h : PurE K te me) : PurI K (iList K te) (mIL me) := by
  intro c F O ρ σ H R R' S hm k
  refine h.mid S hm fun F1 H1 x v g S1 r q => ?_
  obtain ⟨a, ds, st, rfl, q, ha⟩ := lst_of S1 r q
  obtain ⟨vs, h1, h2⟩ := ha F1 O ρ σ H1 S1 (by cases st <;> simp [Ex.refl, Gr.refl])
  exact ⟨a, rfl, ⟨vs, SqL.of h1⟩, k _ _ _ _ _ g S1 (list_ok ha) q⟩
theorem i_tup {te : TE} {me : ME} (h : PurE K te me) : PurI K (iTup K te) (mIT me) := by
  intro c F O ρ σ H R R' S hm k
  refine h.mid S hm fun F1 H1 x v g S1 r q => ?_
  have q : itT x.n R' := q
  generalize x.n = y at r q
  cases y with
  | f d =>
    cases d with
    | tup ds =>
      cases r with
      | tup h1 h2 =>
        rename_i a vs
        refine ⟨a, rfl, ⟨vs, sqt_ex S1.fh h1⟩, k _ _ _ ds true g S1 ?_ q⟩
        intro F O ρ σ H S e i
        have e : Ex F1 F := by simpa using e
        have hl := h2.length
        have sq := sqt_ex S.fh (sqt_ex e h1)
        refine ⟨fun hi => ⟨vs, vs[i]'(by omega), sq, List.getElem?_eq_getElem (by omega)⟩, fun hi => ⟨vs, sq, by omega⟩, fun d x H' hd hy => ?_⟩
        obtain ⟨rfl, hy⟩ := hy
        obtain ⟨v, h3, h4⟩ := h2.get hd
        have := hy vs sq
        rw [h3] at this
        cases this
        exact ⟨F, Gr.refl, S, h4.mono e⟩
    | _ => exact q.elim
  | _ => exact q.elim
theorem i_enum {n : Nat} {ta : TA} {m : MA} (h : PurA K n ta m) : PurI K (iEnum K ta) (mEnum m) := by
  intro c F O ρ σ H R R' S hm k
  refine h c F O ρ σ H _ _ S hm fun F1 H1 xs vs g S1 r e q => ?_
  obtain ⟨x, rfl, q⟩ := q
  match vs, r with
  | [v], r =>
    obtain ⟨a, ds, st, rfl, q, ha⟩ := lst_of S1 r.1 q
    obtain ⟨vs, h1, h2⟩ := ha F1 O ρ σ H1 S1 (by cases st <;> simp [Ex.refl, Gr.refl])
    refine ⟨a, vs, rfl, SqL.of h1, k _ _ _ _ _ g S1 ?_ q⟩
    intro F O ρ σ H S e i
    obtain ⟨vs, h1, h2⟩ := ha F O ρ σ H S e
    have hl := h2.length
    rw [numbered_length]
    refine ⟨fun hi => ⟨vs, vs[i]'(by omega), SqL.of h1, List.getElem?_eq_getElem (by omega)⟩, fun hi => ⟨vs, SqL.of h1, by omega⟩, fun d x H' hd hy => ?_⟩
    obtain ⟨T, y, rfl, hT, rfl, hy⟩ := hy
    rw [numbered_get] at hd
    cases e1 : ds[i]? with
    | none => rw [e1] at hd; cases hd
    | some d0 =>
      rw [e1] at hd
      cases hd
      obtain ⟨v, h3, h4⟩ := h2.get e1
      have := hy vs (SqL.of h1)
      rw [h3] at this
      obtain rfl := Option.some.inj this
      refine ⟨upd F T (.tup [.int (i : Nat), v]), Gr.new S.fh hT, S.new hT, .tup (SqT.of upd_same) (.cons ?_ (.cons (h4.mono (Ex.refl.new (S.fh.free hT))) .nil))⟩
      rw [Nat.zero_add]
      exact .int _
theorem i_zip {n : Nat} {ta : TA} {m : MA} (h : PurA K n ta m) : PurI K (iZip K ta) (mZip m) := by
  intro c F O ρ σ H R R' S hm k
  refine h c F O ρ σ H _ _ S hm fun F1 H1 xs vs g S1 r e q => ?_
  obtain ⟨x, y, rfl, q⟩ := q
  match vs, r with
  | [v, w], r =>
    obtain ⟨a, ds, s, rfl, q, ha⟩ := lst_of S1 r.1 q
    obtain ⟨b, es, t, rfl, ⟨hle, q⟩, hb⟩ := lst_of S1 r.2.1 q
    obtain ⟨vs, h1, h2⟩ := ha F1 O ρ σ H1 S1 (by cases s <;> simp [Ex.refl, Gr.refl])
    obtain ⟨ws, k1, k2⟩ := hb F1 O ρ σ H1 S1 (by cases t <;> simp [Ex.refl, Gr.refl])
    refine ⟨a, b, vs, ws, rfl, SqL.of h1, SqL.of k1, k _ _ _ _ _ g S1 ?_ q⟩
    intro F O ρ σ H S e i
    have ea : (if s = true then Ex F1 F else Gr c.P F1 H1 F H) := by
      cases s <;> cases t <;> simp at e ⊢ <;> first | exact e | exact e.f
    have eb : (if t = true then Ex F1 F else Gr c.P F1 H1 F H) := by
      cases s <;> cases t <;> simp at e ⊢ <;> first | exact e | exact e.f
    obtain ⟨vs, h1, h2⟩ := ha F O ρ σ H S ea
    obtain ⟨ws, k1, k2⟩ := hb F O ρ σ H S eb
    have hl := h2.length
    have kl := k2.length
    unfold zipD
    rw [List.length_zipWith, ← hle, Nat.min_self]
    refine ⟨fun hi => ⟨vs, ws, vs[i]'(by omega), ws[i]'(by omega), SqL.of h1, SqL.of k1, List.getElem?_eq_getElem (by omega), List.getElem?_eq_getElem (by omega)⟩, fun hi => ⟨vs, ws, SqL.of h1, SqL.of k1, .inl (by omega)⟩, fun d x H' hd hy => ?_⟩
    obtain ⟨T, y, z, rfl, hT, rfl, hy, hz⟩ := hy
    rw [List.getElem?_zipWith] at hd
    cases e1 : ds[i]? with
    | none => rw [e1] at hd; cases hd
    | some d0 =>
      cases e2 : es[i]? with
      | none => rw [e1, e2] at hd; cases hd
      | some d1 =>
        rw [e1, e2] at hd
        cases hd
        obtain ⟨v, h3, h4⟩ := h2.get e1
        obtain ⟨w, k3, k4⟩ := k2.get e2
        have q1 := hy vs (SqL.of h1)
        have q2 := hz ws (SqL.of k1)
        rw [h3] at q1
        rw [k3] at q2
        obtain rfl := Option.some.inj q1
        obtain rfl := Option.some.inj q2
        exact ⟨upd F T (.tup [v, w]), Gr.new S.fh hT, S.new hT, .tup (SqT.of upd_same) (.cons (h4.mono (Ex.refl.new (S.fh.free hT))) (.cons (k4.mono (Ex.refl.new (S.fh.free hT))) .nil))⟩
end
/-! loops -/
def mLoop (ds : List D) (mg : MG) (mb : MS) : MS := fun D ρ => ∃ Pv : Nat → Env → Prop, Pv 0 ρ ∧ (∀ i d ρ, ds[i]? = some d → Pv i ρ → mg d ρ fun ρ2 => mb { D with nx := Pv (i + 1), ct := Pv (i + 1), bk := D.nx } ρ2) ∧ ∀ ρ, Pv ds.length ρ → D.nx ρ
def kFor (mg : MG) (mb : MS) (D : Pd) (ρ : Env) (ds : List Pl.D) (st : Bool) : Prop := st = true ∧ mLoop ds mg mb D ρ
def mFor (mi : MI) (mg : MG) (mb : MS) : MS := fun D ρ => mi ρ (kFor mg mb D ρ)
def kWh (W : Nat → Env → Prop) (m : Nat) (mb : MS) (D : Pd) (ρ : Env) (b : Bool) : Prop := pIf b (∃ N : Env → Prop, (∀ ρ', N ρ' → ∃ m', m' < m ∧ W m' ρ') ∧ mb { D with nx := N, ct := N, bk := D.nx } ρ) (D.nx ρ)
def mWh (mt : MT) (mb : MS) : MS := fun D ρ => ∃ W : Nat → Env → Prop, (∃ m, W m ρ) ∧ ∀ m ρ, W m ρ → mt ρ (kWh W m mb D ρ)
def mComp (ds : List D) (mg : MG) (mt : MT) (me : ME) (ρ : Env) (Q : X → Prop) : Prop := ∃ Pv : Nat → List D → Prop, Pv 0 [] ∧ (∀ i d acc, ds[i]? = some d → Pv i acc → mg d ρ fun ρ2 => mt ρ2 fun b => pIf b (me ρ2 fun x => ∃ e, x.n = .f e ∧ acc.length < sizeLine ∧ Pv (i + 1) (acc ++ [e])) (Pv (i + 1) acc)) ∧ ∀ acc, Pv ds.length acc → Q (.o (.lst acc))
def wipeE (ρ : Env) : List Nat → Env
  | [] => ρ
  | v :: vs => (wipeE ρ vs).set v .no
def kLc (mg : MG) (mt : MT) (me : ME) (vs : List Nat) (ρ : Env) (Q : X → Prop) (ds : List D) (_ : Bool) : Prop := mComp ds mg mt me (wipeE ρ vs) Q
def mLc (mi : MI) (mg : MG) (mt : MT) (me : ME) (vs : List Nat) : ME := fun ρ Q => mi ρ (kLc mg mt me vs ρ Q)
def mYes : MT := fun _ Q => Q true
section
variable {K : PySem.W.Frag}
theorem t_yes : PurT K tYes mYes := fun c F O ρ σ H Q Q' S hm hp => hp F H true Gr.refl S hm
theorem s_for {wi : TI} {g : TG} {tb : TS} {mi : MI} {ts : List Nat} {mg : MG} {mb : MS} (hi : PurI K wi mi) (hg : PurG K ts g mg) (hb : PurS K tb mb) : PurS K (tFor wi g tb) (mFor mi mg mb) := by
  intro c F O ρ σ H D D' S R hm
  refine hi c F O ρ σ H _ _ S hm fun F1 H1 J ds st g1 S1 hJ q => ?_
  obtain ⟨rfl, Pv, h0, hs, hd⟩ := q
  refine ⟨fun i m σ H => m = ds.length - i ∧ i ≤ ds.length ∧ ∃ F O ρ, Ex F1 F ∧ Sim K c F O ρ σ H ∧ Pv i ρ, ⟨_, rfl, Nat.zero_le _, F1, O, ρ, Ex.refl, S1, h0⟩, ?_⟩
  rintro i m σ H ⟨rfl, hi, F2, O2, ρ2, e2, S2, p⟩
  obtain ⟨j1, j2, j3⟩ := hJ F2 O2 ρ2 σ H S2 (by simpa using e2) i
  by_cases hlt : i < ds.length
  · refine .inr ⟨j1 hlt, fun σ' H' => i + 1 ≤ ds.length ∧ ∃ F O ρ, Ex F1 F ∧ Sim K c F O ρ σ' H' ∧ Pv (i + 1) ρ, fun σ' H' n => ⟨ds.length - (i + 1), by omega, rfl, n.1, n.2⟩, fun x H' y => ?_⟩
    obtain ⟨F3, g3, S3, r3⟩ := j3 _ x H' (List.getElem?_eq_getElem hlt) y
    refine hg.run c F3 O2 ρ2 σ H' x _ _ _ S3 r3 (hs i _ ρ2 (List.getElem?_eq_getElem hlt) p) fun ρ4 σ4 S4 _ _ q => ?_
    have ef : Ex F1 F3 := e2.trans g3.f
    refine hb c F3 O2 ρ4 σ4 H' _ _ S4 ⟨?_, ?_, ?_, ?_⟩ q
    · exact fun F' O' ρ' σ' H' x S' p' => ⟨by omega, F', O', ρ', ef.trans x, S', p'⟩
    · exact fun F' O' ρ' σ' H' x S' p' => R.nx F' O' ρ' σ' H' ((g1.f.trans ef).trans x) S' p'
    · exact fun F' O' ρ' σ' H' x S' p' => ⟨by omega, F', O', ρ', ef.trans x, S', p'⟩
    · exact fun F' H' x v y => R.rt F' H' x v ((g1.f.trans ef).trans y)
  · have e : i = ds.length := by omega
    subst e
    exact .inl ⟨j2 (Nat.le_refl _), R.nx F2 O2 ρ2 σ H (g1.f.trans e2) S2 (hd ρ2 p)⟩
theorem s_while {tc : TT} {mt : MT} {tb : TS} {mb : MS} (hc : PurT K tc mt) (hb : PurS K tb mb) : PurS K (tWhile tc tb) (mWh mt mb) := by
  intro c F O ρ σ H D D' S R hm
  obtain ⟨W, ⟨m0, w0⟩, hs⟩ := hm
  refine ⟨fun m σ H => ∃ F' O ρ, Ex F F' ∧ Sim K c F' O ρ σ H ∧ W m ρ, ⟨m0, F, O, ρ, Ex.refl, S, w0⟩, ?_⟩
  rintro m σ H ⟨F1, O1, ρ1, e1, S1, w⟩
  refine hc c F1 O1 ρ1 σ H _ _ S1 (hs m ρ1 w) fun F2 H2 b g2 S2 q => ?_
  cases b with
  | false => replace q := pif_F' q; exact R.nx _ _ _ _ _ (e1.trans g2.f) S2 q
  | true =>
    obtain ⟨N, hN, q⟩ := q
    refine ⟨fun σ' H' => ∃ F' O ρ, Ex F F' ∧ Sim K c F' O ρ σ' H' ∧ N ρ, ?_, hb c F2 O1 ρ1 σ H2 _ _ S2 ⟨?_, ?_, ?_, ?_⟩ q⟩
    · rintro σ' H' ⟨F', O', ρ', e', S', n⟩
      obtain ⟨m', hm', w'⟩ := hN ρ' n
      exact ⟨m', hm', F', O', ρ', e', S', w'⟩
    · exact fun F' O' ρ' σ' H' x S' p' => ⟨F', O', ρ', (e1.trans g2.f).trans x, S', p'⟩
    · exact fun F' O' ρ' σ' H' x S' p' => R.nx F' O' ρ' σ' H' ((e1.trans g2.f).trans x) S' p'
    · exact fun F' O' ρ' σ' H' x S' p' => ⟨F', O', ρ', (e1.trans g2.f).trans x, S', p'⟩
    · exact fun F' H' x v y => R.rt F' H' x v ((e1.trans g2.f).trans y)
theorem wipe_get : ∀ {σ : L2.St} {vs : List Nat} {j : Nat}, (wipe σ vs)[j]? = if j ∈ vs then (if j < σ.length then some none else none) else σ[j]?
  | σ, [], j => by simp [wipe]
  | σ, v :: vs, j => by
    unfold wipe
    by_cases e : v = j
    · subst e
      rw [if_pos (by simp), List.getElem?_set]
      simp only [if_true]
      rw [wipe_length]
    · rw [List.getElem?_set_ne e, wipe_get]
      have hv : ¬ j = v := fun z => e z.symm
      have : (j ∈ v :: vs) = (j ∈ vs) := by simp [hv]
      simp only [this]
theorem wipe_touch {σ σ' : L2.St} {vs ts : List Nat} (h : ∀ j, j ∉ ts → σ'[j]? = σ[j]?) (hl : σ'.length = σ.length) (hs : ∀ t, t ∈ ts → t ∈ vs) : wipe σ' vs = wipe σ vs := by
  apply List.ext_getElem?
  intro j
  rw [wipe_get, wipe_get, hl]
  by_cases e : j ∈ vs
  · rw [if_pos e, if_pos e]
  · rw [if_neg e, if_neg e]
    exact h j (fun z => e (hs j z))
theorem wipe_wipe {σ : L2.St} {vs : List Nat} : wipe (wipe σ vs) vs = wipe σ vs := by
  apply List.ext_getElem?
  intro j
  rw [wipe_get, wipe_get, wipe_length]
  split <;> rfl
theorem Sim.wipe {c F O ρ σ H} (S : Sim K c F O ρ σ H) : ∀ vs : List Nat, Sim K c F O (wipeE ρ vs) (L2.wipe σ vs) H
  | [] => S
  | v :: vs => (Sim.wipe S vs).setF (s := .no) trivial
theorem wipeE_length {ρ : Env} : ∀ {vs : List Nat}, (wipeE ρ vs).length = ρ.length
  | [] => rfl
  | v :: vs => by unfold wipeE; rw [List.length_set, wipeE_length]
theorem e_lc {wi : TI} {g : TG} {tt : TT} {te : TE} {vs : List Nat} {mi : MI} {ts : List Nat} {mg : MG} {mt : MT} {me : ME} (hi : PurI K wi mi) (hg : PurG K ts g mg) (ht : PurT K tt mt) (he : PurE K te me) (hs : ∀ t, t ∈ ts → t ∈ vs) : PurE K (tLc wi g tt te vs) (mLc mi mg mt me vs) := by
  intro c F O ρ σ H Q Q' S hm hp
  refine hi c F O ρ σ H _ _ S hm fun F1 H1 J ds st g1 S1 hJ q => ?_
  obtain ⟨Pv, h0, hstep, hd⟩ := q
  intro Dl hDl
  have np := S1.new_np hDl
  refine ⟨fun i m H => m = ds.length - i ∧ i ≤ ds.length ∧ ∃ F acc us, Gr c.P F1 H1 F H ∧ Sim K c F O ρ σ H ∧ F Dl = none ∧ H Dl = some (.lst us) ∧ Reps K F us acc ∧ Pv i acc, ⟨_, rfl, Nat.zero_le _, F1, [], [], Gr.newH hDl, S1.newH hDl, S1.fh.free hDl, upd_same, .nil, h0⟩, ?_⟩
  rintro i m H ⟨rfl, hi, F2, acc, us, g2, S2, fD, hD, hr, p⟩
  have SW := S2.wipe vs
  obtain ⟨j1, j2, j3⟩ := hJ F2 O _ _ H SW (by cases st <;> simp <;> first | exact g2.f | exact g2) i
  by_cases hlt : i < ds.length
  · refine .inr ⟨j1 hlt, fun H' => i + 1 ≤ ds.length ∧ ∃ F acc us, Gr c.P F1 H1 F H' ∧ Sim K c F O ρ σ H' ∧ F Dl = none ∧ H' Dl = some (.lst us) ∧ Reps K F us acc ∧ Pv (i + 1) acc, fun H' n => ⟨ds.length - (i + 1), by omega, rfl, n.1, n.2⟩, fun x H' y => ?_⟩
    obtain ⟨F3, g3, S3, r3⟩ := j3 _ x H' (List.getElem?_eq_getElem hlt) y
    refine hg.run c F3 O _ _ H' x _ _ _ S3 r3 (hstep i _ acc (List.getElem?_eq_getElem hlt) p) fun ρ4 σ4 S4 t4 l4 q => ?_
    refine ⟨(wipe_touch t4 l4 hs).trans wipe_wipe, ?_⟩
    refine ht c F3 O ρ4 σ4 H' _ _ S4 q fun F5 H5 b g5 S5 q => ?_
    have g35 := g3.trans g5
    cases b with
    | false =>
      replace q := pif_F' q
      have gg : Gr c.P F2 H F5 H5 := g35
      exact ⟨by omega, F5, acc, us, g2.trans gg, S2.grow gg S5.fh S5.po, (gg.n _ (some_ne hD)).trans fD, gg.h _ _ np hD, hr.mono gg.f, q⟩
    | true =>
      refine he.mid S5 q fun F6 H6 z u g6 S6 r6 q => ?_
      obtain ⟨e, ee, hz, q⟩ := q
      rw [ee] at r6
      have gg : Gr c.P F2 H F6 H6 := g35.trans g6
      have S6' := S2.grow gg S6.fh S6.po
      have hD6 := gg.h _ _ np hD
      have fD6 := (gg.n _ (some_ne hD)).trans fD
      have hr6 := hr.mono gg.f
      refine ⟨us, hD6, by rw [hr6.length]; exact hz, by omega, F6, acc ++ [e], us ++ [u], ?_, ?_, fD6, upd_same, hr6.append (.cons r6 .nil), q⟩
      · have g16 := g2.trans gg
        refine ⟨g16.f, g16.n, fun b o n h => u_ne (ne_of_none h hDl) (g16.h b o n h), fun b h => ?_⟩
        unfold upd
        split
        · exact some_ne rfl
        · exact g16.d b h
      · have g16 := g2.trans gg
        have c0 : c.H0 Dl = none := S1.gr.back hDl
        refine ⟨⟨S6'.gr.f, S6'.gr.n, fun b o n h => u_ne (ne_of_none h c0) (S6'.gr.h b o n h), fun b h => ?_⟩, fun b o h => u_ne (fun z => by rw [z, fD6] at h; cases h) (S6'.fh b o h), fun p l e => ⟨(S6'.po p l e).1.upd (np p l e) (fun z => (S6'.pd p l e).2 (by rw [← z]; exact c0)), (S6'.po p l e).2⟩, S6'.pd, fun a j h => ?_, S6'.len, fun i s o a b => ?_⟩
        · unfold upd
          split
          · exact some_ne rfl
          · exact S6'.gr.d b h
        · obtain ⟨m1, m2, m3⟩ := S6'.ow a j h
          refine ⟨m1, m2, ?_⟩
          unfold upd
          split
          · exact some_ne rfl
          · exact m3
        · have q := S6'.sl i s o a b
          cases s with
          | own es =>
            obtain ⟨b, ws, e, k1, k2, k3⟩ := q
            exact ⟨b, ws, e, k1, u_ne (fun z => (S1.ow b i k1).2.2 (by rw [z]; exact hDl)) k2, k3.mono Ex.refl fun b' o' z => ⟨z.1, u_ne (fun y => (S1.ow b' i z.1).2.2 (by rw [y]; exact hDl)) z.2⟩⟩
          | len es =>
            obtain ⟨b, ws, e, k0, k1, k2, k3⟩ := q
            exact ⟨b, ws, e, k0, k1, u_ne (fun z => (S1.ow b i k1).2.2 (by rw [z]; exact hDl)) k2, k3.mono Ex.refl (fun b' o' z => ⟨z.1, u_ne (fun y => (S1.ow b' i z.1).2.2 (by rw [y]; exact hDl)) z.2⟩) id⟩
          | slf C gs =>
            obtain ⟨b, dx, fs, e, e2, k1, k2, k3⟩ := q
            exact ⟨b, dx, fs, e, e2, k1, u_ne (fun z => (S1.ow b i k1).2.2 (by rw [z]; exact hDl)) k2, k3⟩
          | no => exact q
          | fz d => exact q
          | bor d => exact q
          | pool => exact q
  · have e : i = ds.length := by omega
    subst e
    refine .inl ⟨j2 (Nat.le_refl _), ?_⟩
    exact (hp.trans g1) F2 H (.o (.lst acc)) _ g2 S2 ⟨Dl, _, rfl, hDl, hD, fD, hr⟩ (hd acc p)
end
/-! own lists changed -/
section
variable {K : PySem.W.Frag}
theorem Sim.mutG {c F O ρ σ H} (S : Sim K c F O ρ σ H) {i : Nat} {a m : Addr} {vs h' : HO} {ds : OD} (hm : O m = some i) (h1 : O a = some i) (hi : σ[i]? = some (some (.ref a))) (ha : upd H m vs a = some h') (r : ObjR K F (oR O (upd H m vs) i) a ds h') : Sim K c F O (ρ.set i (.own ds)) σ (upd H m vs) := by
  obtain ⟨k1, k2, k3⟩ := S.ow m i hm
  have np := S.own_np hm
  have dm : ∀ b, H b ≠ none → upd H m vs b ≠ none := fun b h => by
    unfold upd
    split
    · exact some_ne rfl
    · exact h
  refine ⟨⟨S.gr.f, S.gr.n, fun b o n h => u_ne (ne_of_none h k1) (S.gr.h b o n h), fun b h => dm b (S.gr.d b h)⟩, fun b o h => u_ne (fun z => by rw [z, k2] at h; cases h) (S.fh b o h), fun p l e => ⟨(S.po p l e).1.upd (np p l e) (fun z => (S.pd p l e).2 (by rw [← z]; exact k1)), (S.po p l e).2⟩, S.pd, fun b j h => ?_, by rw [List.length_set, S.len], fun j t o ht ho => ?_⟩
  · obtain ⟨m1, m2, m3⟩ := S.ow b j h
    exact ⟨m1, m2, dm b m3⟩
  · by_cases e0 : i = j
    · subst e0
      rw [hi] at ho
      cases ho
      have hl : i < ρ.length := by rw [S.len]; exact (List.getElem?_eq_some_iff.mp hi).1
      rw [List.getElem?_set_self hl] at ht
      cases ht
      exact ⟨a, h', rfl, h1, ha, r⟩
    · rw [List.getElem?_set_ne e0] at ht
      have q := S.sl j t o ht ho
      have un : ∀ b, O b = some j → b ≠ m := fun b k z => e0 (by rw [z, hm] at k; exact Option.some.inj k)
      have km : ∀ b o, oR O H j b o → oR O (upd H m vs) j b o := fun b o z => ⟨z.1, u_ne (un b z.1) z.2⟩
      cases t with
      | own es =>
        obtain ⟨b, ws, e, k1, k2, k3⟩ := q
        exact ⟨b, ws, e, k1, u_ne (un b k1) k2, k3.mono Ex.refl km⟩
      | len es =>
        obtain ⟨b, ws, e, k0, k1, k2, k3⟩ := q
        exact ⟨b, ws, e, k0, k1, u_ne (un b k1) k2, k3.mono Ex.refl km id⟩
      | slf C gs =>
        obtain ⟨b, dx, fs, e, e2, k1, k2, k3⟩ := q
        exact ⟨b, dx, fs, e, e2, k1, u_ne (un b k1) k2, k3⟩
      | no => exact q
      | fz d => exact q
      | bor d => exact q
      | pool => exact q
theorem Sim.mutO {c F O ρ σ H} (S : Sim K c F O ρ σ H) {i : Nat} {a : Addr} {vs : HO} {ds : OD} (h1 : O a = some i) (hi : σ[i]? = some (some (.ref a))) (r : ObjR K F (oR O (upd H a vs) i) a ds vs) : Sim K c F O (ρ.set i (.own ds)) σ (upd H a vs) := S.mutG h1 h1 hi upd_same r
/-- the own list of a slot -/
theorem Sim.ownO {c F O ρ σ H} (S : Sim K c F O ρ σ H) {i : Nat} {ds : OD} (h : getS ρ i = .own ds) : ∃ a vs, σ[i]? = some (some (.ref a)) ∧ O a = some i ∧ H a = some vs ∧ ObjR K F (oR O H i) a ds vs := by
  have e1 := getS_some h (fun z => by cases z)
  have hi : i < σ.length := by rw [← S.len]; exact (List.getElem?_eq_some_iff.mp e1).1
  have e2 : σ[i]? = some σ[i] := List.getElem?_eq_getElem hi
  obtain ⟨a, vs, e, h1, h2, h3⟩ := S.sl i _ _ e1 e2
  exact ⟨a, vs, by rw [e2, e], h1, h2, h3⟩
theorem Sim.own {c F O ρ σ H} (S : Sim K c F O ρ σ H) {i : Nat} {ds : List D} (h : getS ρ i = .own (.lst ds)) : ∃ a vs, σ[i]? = some (some (.ref a)) ∧ O a = some i ∧ H a = some (.lst vs) ∧ Reps K F vs ds := by
  obtain ⟨a, h, h0, h1, h2, h3⟩ := S.ownO h
  obtain ⟨vs, rfl, h3⟩ := h3.lst_
  exact ⟨a, vs, h0, h1, h2, h3⟩
theorem Sim.ownG {c F O ρ σ H F1 H1} (S : Sim K c F O ρ σ H) (g : Gr c.P F H F1 H1) {a : Addr} {i : Nat} {vs : List V} {ds : List D} (h1 : O a = some i) (h2 : H a = some (.lst vs)) (h3 : Reps K F vs ds) : H1 a = some (.lst vs) ∧ Reps K F1 vs ds := ⟨g.h _ _ (S.own_np h1) h2, h3.mono g.f⟩
def kApd (i : Nat) (ds : List D) (N : Env → Prop) (ρ : Env) (y : X) : Prop := ∃ d, y.n = .f d ∧ ds.length < sizeLine ∧ N (ρ.set i (.own (.lst (ds ++ [d]))))
def mApd (i : Nat) (me : ME) : MS := fun D ρ => ∃ ds, getS ρ i = .own (.lst ds) ∧ me ρ (kApd i ds D.nx ρ)
theorem s_apd {i : Nat} {te : TE} {me : ME} (h : PurE K te me) : PurS K (tDrop (tBM K "list" rAppend (tVar i) (tCons te tNil))) (mApd i me) := by
  intro c F O ρ σ H D D' S R hm
  obtain ⟨ds, hs, hm⟩ := hm
  obtain ⟨a, vs, h0, h1, h2, h3⟩ := S.own hs
  refine ⟨_, h0, .inl ⟨rfl, vs, SqL.of h2⟩, ?_⟩
  refine h.mid S hm fun F1 H1 x v g S1 r q => ?_
  obtain ⟨d, e, hz, q⟩ := q
  rw [e] at r
  obtain ⟨h4, h5⟩ := S.ownG g h1 h2 h3
  exact ⟨a, vs, v, rfl, rfl, h4, by rw [h5.length]; exact hz, R.nx _ _ _ _ _ g.f (S1.mutO (ds := .lst _) h1 h0 (h5.append (.cons r .nil))) q⟩
def kSet2 (i : Nat) (d : D) (ds : List D) (N : Env → Prop) (ρ : Env) (z : X) : Prop := ∃ k j, z.n = .f (.int k) ∧ ixN ds.length k = some j ∧ N (ρ.set i (.own (.lst (ds.set j d))))
def kSet1 (i : Nat) (mj : ME) (N : Env → Prop) (ρ : Env) (y : X) : Prop := ∃ d ds, y.n = .f d ∧ getS ρ i = .own (.lst ds) ∧ mj ρ (kSet2 i d ds N ρ)
def mSet (i : Nat) (mj me : ME) : MS := fun D ρ => me ρ (kSet1 i mj D.nx ρ)
theorem s_set {i : Nat} {te tj : TE} {me mj : ME} (h : PurE K te me) (hj : PurE K tj mj) : PurS K (tAsg te (gSub (tVar i) tj rSetL)) (mSet i mj me) := by
  intro c F O ρ σ H D D' S R hm
  refine h.mid S hm fun F1 H1 x v g S1 r q => ?_
  obtain ⟨d, ds, e, hs, q⟩ := q
  rw [e] at r
  obtain ⟨a, vs, h0, h1, h2, h3⟩ := S1.own hs
  refine ⟨_, h0, ?_⟩
  refine hj.mid S1 q fun F2 H2 y w g2 S2 r2 q => ?_
  obtain ⟨k, j, e2, hk, q⟩ := q
  rw [e2] at r2
  cases r2
  obtain ⟨h4, h5⟩ := S1.ownG g2 h1 h2 h3
  have r3 : Rep K F2 v d := Rep.mono g2.f r
  exact ⟨a, vs, k, j, rfl, rfl, h4, by rw [h5.length]; exact hk, R.nx _ _ _ _ _ (g.f.trans g2.f) (S2.mutO (ds := .lst _) h1 h0 (h5.set r3 j)) q⟩
def kAug (i : Nat) (f : Int → Int → Int) (k : Int) (N : Env → Prop) (ρ : Env) (y : X) : Prop := ∃ j, y.n = .f (.int j) ∧ N (ρ.set i (.fz (.int (f k j))))
def mAug (i : Nat) (f : Int → Int → Int) (me : ME) : MS := fun D ρ => ∃ k, getS ρ i = .fz (.int k) ∧ me ρ (kAug i f k D.nx ρ)
theorem s_aug {i : Nat} {f : Int → Int → Int} {te : TE} {me : ME} (h : PurE K te me) : PurS K (tAug i te (ipI f)) (mAug i f me) := by
  intro c F O ρ σ H D D' S R hm
  obtain ⟨k, hs, hm⟩ := hm
  have e1 := getS_some hs (fun z => by cases z)
  have hi : i < σ.length := by rw [← S.len]; exact (List.getElem?_eq_some_iff.mp e1).1
  have e2 : σ[i]? = some σ[i] := List.getElem?_eq_getElem hi
  obtain ⟨v, e, r⟩ := S.sl i _ _ e1 e2
  cases r
  refine ⟨_, by rw [e2, e], ?_⟩
  refine h.mid S hm fun F1 H1 x v g S1 r q => ?_
  obtain ⟨j, e, q⟩ := q
  rw [e] at r
  cases r
  exact ⟨k, j, rfl, rfl, R.nx _ _ _ _ _ g.f (S1.setF (s := .fz (.int (f k j))) ⟨_, rfl, .int _⟩) q⟩
/-- x = y.pop() -/
def mPopG (i : Nat) (mg : MG) : MS := fun D ρ => ∃ ds d, getS ρ i = .own (.lst (ds ++ [d])) ∧ mg d (ρ.set i (.own (.lst ds))) D.nx
theorem s_popG {i : Nat} {ts : List Nat} {g : TG} {mg : MG} (hg : PurG K ts g mg) : PurS K (tAsg (tBM0 K "list" rPop (tVar i)) g) (mPopG i mg) := by
  intro c F O ρ σ H D D' S R hm
  obtain ⟨ds, d, hs, q⟩ := hm
  obtain ⟨a, vs, h0, h1, h2, h3⟩ := S.own hs
  have hl := h3.length
  rw [List.length_append, List.length_singleton] at hl
  obtain ⟨v, hv, rv⟩ := h3.get (i := ds.length) (d := d) (by rw [List.getElem?_append_right (Nat.le_refl _), Nat.sub_self]; rfl)
  refine ⟨_, h0, .inl ⟨rfl, vs, SqL.of h2⟩, a, vs, v, rfl, rfl, h2, by rw [hl]; exact hv, ?_⟩
  have r4 : Reps K F vs.dropLast ds := by
    have := h3.take ds.length
    rw [List.take_left] at this
    rw [List.dropLast_eq_take, hl]
    exact this
  have S2 := S.mutO (vs := .lst _) (ds := .lst ds) h1 h0 r4
  exact hg.run c F O _ _ _ v d _ _ S2 rv q fun ρ' σ' S' _ _ q' => R.nx _ _ _ _ _ Ex.refl S' q'
def kExt2 (i : Nat) (ds : List D) (N : Env → Prop) (ρ : Env) (es : List D) (_ : Bool) : Prop := ds.length + es.length ≤ sizeLine ∧ N (ρ.set i (.own (.lst (ds ++ es))))
def kExt1 (i : Nat) (ds : List D) (N : Env → Prop) (ρ : Env) (y : X) : Prop := itX y.n (kExt2 i ds N ρ)
def mExt (i : Nat) (me : ME) : MS := fun D ρ => ∃ ds, getS ρ i = .own (.lst ds) ∧ me ρ (kExt1 i ds D.nx ρ)
theorem s_ext {i : Nat} {te : TE} {me : ME} (h : PurE K te me) : PurS K (tDrop (tBM K "list" rExtend (tVar i) (tCons te tNil))) (mExt i me) := by
  intro c F O ρ σ H D D' S R hm
  obtain ⟨ds, hs, hm⟩ := hm
  obtain ⟨a, vs, h0, h1, h2, h3⟩ := S.own hs
  refine ⟨_, h0, .inl ⟨rfl, vs, SqL.of h2⟩, ?_⟩
  refine h.mid S hm fun F1 H1 x v g S1 r q => ?_
  obtain ⟨b, es, st, rfl, ⟨hz, q⟩, hb⟩ := lst_of S1 r q
  obtain ⟨ws, k1, k2⟩ := hb F1 O ρ σ H1 S1 (by cases st <;> simp [Ex.refl, Gr.refl])
  obtain ⟨h4, h5⟩ := S.ownG g h1 h2 h3
  exact ⟨a, b, vs, ws, rfl, rfl, h4, k1, by rw [h5.length, k2.length]; exact hz, R.nx _ _ _ _ _ g.f (S1.mutO (ds := .lst _) h1 h0 (h5.append k2)) q⟩
end
/-! the def -/
def X.start (x : X) : Sl := match x with
  | .f d => .fz d
  | .b ds => .bor ds
  | .q ds => .bor ds
  | .o _ => .no
  | .pl => .pool
def startE (n : Nat) (xs : List X) : Env := xs.map X.start ++ List.replicate (n - xs.length) Sl.no
def Pd.out (Q : X → Prop) : Pd := ⟨fun _ => Q (.f .non), fun x => Q x.p, fun _ => False, fun _ => False⟩
section
variable {K : PySem.W.Frag}
def paV (vs : List V) (i : Nat) : Option Addr := match vs[i]? with
  | some (.ref a) => some a
  | _ => none
theorem start_ok {H F : Hp} {P : Option (Addr × Addr)} {S : Option (Addr × Addr)} {Ln : Nat → Option (Addr × (HO → Prop))} {pa : Nat → Option Addr} : ∀ {xs : List X} {vs : List V} (O : Ow) (i : Nat) (s : Sl) (o : Option V), XMs K (mkC H F P) F H xs vs → (xs.map X.start)[i]? = some s → (vs.map some)[i]? = some o → ∀ j, (∀ a, vs[i]? = some (.ref a) → pa j = some a) → SlR K ⟨H, F, P, S, Ln, pa⟩ F O H j s o
  | [], _, _, _, _, _, _, hs, _, _, _ => by simp at hs
  | _ :: _, [], _, _, _, _, r, _, _, _, _ => r.elim
  | x :: xs, v :: vs, O, 0, s, o, r, hs, ho, j, hp => by
    simp at hs ho
    subst hs ho
    have r := r.1
    cases x with
    | f d => exact ⟨v, rfl, r⟩
    | b ds => obtain ⟨a, ws, rfl, h1, h2, h3⟩ := r; exact ⟨a, ws, rfl, h1, ⟨h2, hp a rfl⟩, h3⟩
    | q ds => obtain ⟨a, ws, rfl, h1, h2, h3⟩ := r; exact ⟨a, ws, rfl, h1, ⟨h2, hp a rfl⟩, h3⟩
    | o ds => trivial
    | pl => obtain ⟨p, l, h1, rfl⟩ := r; exact ⟨p, l, h1, rfl⟩
  | x :: xs, v :: vs, O, i + 1, s, o, r, hs, ho, j, hp => start_ok O i s o r.2 (by simpa using hs) (by simpa using ho) j (fun a h => hp a (by simpa using h))
theorem PoolL.ne1 {H : Hp} {p l : Addr} (h : PoolL H p l) : H l ≠ none := by
  obtain ⟨ns, i, x, c, e, h1, h2, _⟩ := h
  exact some_ne h2
theorem sim_start {H F : Hp} {P : Option (Addr × Addr)} {xs : List X} {vs : List V} {N : List Str} (fh : Ex F H) (po : PO P F H) (r : XMs K (mkC H F P) F H xs vs) : Sim K ⟨H, F, P, none, fun _ => none, paV vs⟩ F (fun _ => none) (startE N.length xs) (L2.start N vs) H := by
  have hl := xms_len r
  refine ⟨Gr.refl, fh, po, fun p l e => ⟨PoolL.ne0 (po p l e).1, PoolL.ne1 (po p l e).1⟩, (fun a i h => by cases h), by unfold startE L2.start; simp [hl], fun i s o hs ho => ?_⟩
  unfold startE at hs
  unfold L2.start at ho
  by_cases hi : i < xs.length
  · rw [List.getElem?_append_left (by simpa using hi)] at hs
    rw [List.getElem?_append_left (by simpa [← hl] using hi)] at ho
    exact start_ok _ i s o r hs ho i fun a h => (by unfold paV; rw [h])
  · rw [List.getElem?_append_right (by simpa using Nat.le_of_not_lt hi)] at hs
    obtain ⟨h1, h2⟩ := List.getElem?_eq_some_iff.mp hs
    rw [List.getElem_replicate] at h2
    subst h2
    trivial
/-- a def's body keeps its contract -/
theorem fn_run {t : TS} {m : MS} {sp : List X → (X → Prop) → Prop} {vs : List V} {H : Hp} {Q : VK} {E : XK} {N : List Str} (hl : lift K sp vs H Q E) (hb : PurS K t m) (hp : ∀ xs Q', sp xs Q' → m (Pd.out Q') (startE N.length xs)) : t { nx := fun _ H' => Q .non H', rt := Q } (L2.start N vs) H := by
  obtain ⟨F, P, xs, Q', fh, po, r, hs, k⟩ := hl
  refine hb ⟨H, F, P, none, fun _ => none, paV vs⟩ F _ _ _ H _ (Pd.out Q') (sim_start (N := N) fh po r) ⟨?_, ?_, ?_, ?_⟩ (hp xs Q' hs)
  · exact fun F' O ρ σ H' e S q => k F' H' (.f .non) .non S.gr S.fh S.po rfl .non q
  · exact fun F' O ρ σ H' e S q => q.elim
  · exact fun F' O ρ σ H' e S q => q.elim
  · intro F' H' x v e g fh' po' r q
    refine k F' H' x.p v g fh' po' ?_ ?_ q
    · cases x <;> rfl
    · cases x with
      | q ds => obtain ⟨a, ws, rfl, h1, h2, h3⟩ := r; exact ⟨a, ws, rfl, g.h _ _ h2 h1, h2, h3.mono Ex.refl (fun b o z => ⟨z.1, g.h _ _ z.1 z.2⟩) fun z => (g.n a (some_ne h1)).trans z⟩
      | f d => exact r
      | b d => exact r
      | o d => exact r
      | pl => exact r
theorem lift_len {sp : List X → (X → Prop) → Prop} {n : Nat} (h : ∀ xs Q, sp xs Q → xs.length = n) {vs H Q E} (hl : lift K sp vs H Q E) : vs.length = n := by
  obtain ⟨F, P, xs, Q', fh, po, r, hs, k⟩ := hl
  rw [← xms_len r]
  exact h xs Q' hs
end
end Pl
/-! Pl3: operators and built-ins by data. -/
namespace Pl
open PySem L2 Wp PyProof.Rows
def X.L : X → Option (List D)
  | .f (.lst ds) => some ds
  | .b (.lst ds) => some ds
  | .q (.lst ds) => some ds
  | _ => none
def X.S : X → Option (List D)
  | .f (.lst ds) => some ds
  | .f (.tup ds) => some ds
  | .b (.lst ds) => some ds
  | .q (.lst ds) => some ds
  | _ => none
def X.V : X → Option D
  | .f d => some d
  | .b (.lst ds) => some (.lst ds)
  | .b (.lls dss) => some (OD.lls dss).fr
  | .q (.lst ds) => some (.lst ds)
  | .q (.lls dss) => some (OD.lls dss).fr
  | _ => none
section
variable {K : PySem.W.Frag} {c : Ct} {F H : Hp} {O : Ow} {ρ : Env} {σ : L2.St}
theorem xm_L {x : X} {v : V} {ds : List D} (S : Sim K c F O ρ σ H) (r : XM K c F H x v) (e : x.L = some ds) : ∃ a vs, v = .ref a ∧ H a = some (.lst vs) ∧ Reps K F vs ds := by
  cases x with
  | f d =>
    cases d with
    | lst es => cases e; cases r with | lst h1 h2 => exact ⟨_, _, rfl, S.fh _ _ h1, h2⟩
    | _ => cases e
  | b es =>
    cases es with
    | lst es => cases e; obtain ⟨a, h, rfl, h1, _, h3⟩ := r; obtain ⟨vs, rfl, h3⟩ := h3.lst_; exact ⟨a, vs, rfl, h1, h3⟩
    | _ => cases e
  | q es =>
    cases es with
    | lst es => cases e; obtain ⟨a, h, rfl, h1, h2, h3⟩ := r; obtain ⟨vs, rfl, h3⟩ := h3.lst_; exact ⟨a, vs, rfl, S.gr.h _ _ h2 h1, h3⟩
    | _ => cases e
  | o es => cases e
  | pl => cases e
theorem xm_T {v : V} {ds : List D} (S : Sim K c F O ρ σ H) (r : XM K c F H (.f (.tup ds)) v) : ∃ a vs, v = .ref a ∧ SqT K H a vs ∧ Reps K F vs ds := by
  cases r with
  | tup h1 h2 => exact ⟨_, _, rfl, sqt_ex S.fh h1, h2⟩
theorem xm_S {x : X} {v : V} {ds : List D} (S : Sim K c F O ρ σ H) (r : XM K c F H x v) (e : x.S = some ds) : ∃ a vs, v = .ref a ∧ (SqL K H a vs ∨ SqT K H a vs) ∧ Reps K F vs ds := by
  by_cases h : x.L = some ds
  · obtain ⟨a, vs, h1, h2, h3⟩ := xm_L S r h
    exact ⟨a, vs, h1, .inl (SqL.of h2), h3⟩
  · cases x with
    | f d =>
      cases d with
      | tup es => cases e; obtain ⟨a, vs, h1, h2, h3⟩ := xm_T S r; exact ⟨a, vs, h1, .inr h2, h3⟩
      | lst es => exact absurd e h
      | _ => cases e
    | b es =>
      cases es with
      | lst es => exact absurd e h
      | _ => cases e
    | q es =>
      cases es with
      | lst es => exact absurd e h
      | _ => cases e
    | _ => cases e
/-- v stands for d now -/
theorem xm_V {x : X} {v : V} {d : D} (S : Sim K c F O ρ σ H) (r : XM K c F H x v) (e : x.V = some d) : Rep K H v d := by
  cases x with
  | f d => cases e; exact Rep.mono S.fh r
  | b es =>
    cases es with
    | lst ds => cases e; obtain ⟨a, vs, rfl, h1, _, h3⟩ := r; exact (ObjR.mono (o := .lst ds) S.fh (fun _ _ z => z) h3).rep h1 fun _ _ z => z.2
    | lls ds => cases e; obtain ⟨a, vs, rfl, h1, _, h3⟩ := r; exact (ObjR.mono (o := .lls ds) S.fh (fun _ _ z => z) h3).rep h1 fun _ _ z => z.2
    | _ => cases e
  | q es =>
    cases es with
    | lst ds => cases e; obtain ⟨a, vs, rfl, h1, h2, h3⟩ := r; exact (ObjR.mono (o := .lst ds) S.fh (fun _ _ z => z) h3).rep (S.gr.h _ _ h2 h1) fun b o z => S.gr.h b o z.1 z.2
    | lls ds => cases e; obtain ⟨a, vs, rfl, h1, h2, h3⟩ := r; exact (ObjR.mono (o := .lls ds) S.fh (fun _ _ z => z) h3).rep (S.gr.h _ _ h2 h1) fun b o z => S.gr.h b o z.1 z.2
    | _ => cases e
  | o es => cases e
  | pl => cases e
end
/-! arithmetic -/
def pI (C : Int → Int → Prop) (g : Int → Int → D) (x y : X) (Q : X → Prop) : Prop := match x, y with
  | .f (.int i), .f (.int j) => C i j ∧ Q (.f (g i j))
  | _, _ => False
def pI0 (g : Int → Int → D) (x y : X) (Q : X → Prop) : Prop := match x, y with
  | .f (.int i), .f (.int j) => Q (.f (g i j))
  | _, _ => False
def pU (g : Int → D) (x : X) (Q : X → Prop) : Prop := match x with
  | .f (.int i) => Q (.f (g i))
  | _ => False
def pOr (r r' : X → X → (X → Prop) → Prop) (x y : X) (Q : X → Prop) : Prop := r x y Q ∨ r' x y Q
section
variable {K : PySem.W.Frag}
theorem r_or {r s : R2} {r' s' : X → X → (X → Prop) → Prop} (h : PurR2 K r r') (k : PurR2 K s s') : PurR2 K (fun x y H Q => r x y H Q ∨ s x y H Q) (pOr r' s') := by
  intro c F O ρ σ H Q Q' x y v w S rx ry hm hp
  rcases hm with hm | hm
  · exact .inl (h c F O ρ σ H Q Q' x y v w S rx ry hm hp)
  · exact .inr (k c F O ρ σ H Q Q' x y v w S rx ry hm hp)
theorem r_I {C : Int → Int → Prop} {g : Int → Int → V} {g' : Int → Int → D} (h : ∀ i j F, Rep K F (g i j) (g' i j)) : PurR2 K (rI C g) (pI C g') := by
  intro c F O ρ σ H Q Q' x y v w S rx ry hm hp
  unfold pI at hm
  split at hm
  · rename_i i j
    cases rx; cases ry
    exact ⟨i, j, rfl, rfl, hm.1, hp.here (x := .f _) S (h i j F) hm.2⟩
  · exact hm.elim
theorem r_I0 {g : Int → Int → V} {g' : Int → Int → D} (h : ∀ i j F, Rep K F (g i j) (g' i j)) : PurR2 K (rI0 g) (pI0 g') := by
  intro c F O ρ σ H Q Q' x y v w S rx ry hm hp
  unfold pI0 at hm
  split at hm
  · rename_i i j
    cases rx; cases ry
    exact ⟨i, j, rfl, rfl, hp.here (x := .f _) S (h i j F) hm⟩
  · exact hm.elim
theorem r_U {g : Int → V} {g' : Int → D} (h : ∀ i F, Rep K F (g i) (g' i)) : PurR1 K (rU g) (pU g') := by
  intro c F O ρ σ H Q Q' x v S rx hm hp
  unfold pU at hm
  split at hm
  · rename_i i
    cases rx
    exact ⟨i, rfl, hp.here (x := .f _) S (h i F) hm⟩
  · exact hm.elim
end
abbrev pAddI := pI0 fun i j => .int (i + j)
abbrev pSub := pI0 fun i j => .int (i - j)
abbrev pMul := pI CMul fun i j => .int (i * j)
abbrev pMulW := pI CMulW fun i j => .int (i * j)
abbrev pFdivW := pI CDivW fun i j => .int (i / j)
abbrev pFdiv := pI CDiv fun i j => .int (i / j)
abbrev pMod := pI (fun _ j => 0 < j) fun i j => .int (i % j)
abbrev pPow := pI CPow fun i j => .int (i ^ j.toNat)
abbrev pLt := pI0 fun i j => .bl (decide (i < j))
abbrev pLe := pI0 fun i j => .bl (decide (i ≤ j))
abbrev pGt := pI0 fun i j => .bl (decide (j < i))
abbrev pGe := pI0 fun i j => .bl (decide (j ≤ i))
abbrev pNeg := pU fun i => .int (-i)
/-- + of lists -/
def pCat (x y : X) (Q : X → Prop) : Prop := ∃ as bs, x.L = some as ∧ y.L = some bs ∧ as.length + bs.length ≤ sizeLine ∧ Q (.o (.lst (as ++ bs)))
/-- + of tuples -/
def pCatT (x y : X) (Q : X → Prop) : Prop := match x, y with
  | .f (.tup as), .f (.tup bs) => as.length + bs.length ≤ sizeLine ∧ Q (.f (.tup (as ++ bs)))
  | _, _ => False
/-- + of texts -/
def pCatS (x y : X) (Q : X → Prop) : Prop := match x, y with
  | .f (.str a), .f (.str b) => a.length + b.length ≤ sizeLine ∧ Q (.f (.str (a ++ b)))
  | _, _ => False
/-- list * int -/
def pRep (x y : X) (Q : X → Prop) : Prop := ∃ as k, x.L = some as ∧ y = .f (.int k) ∧ -(2 ^ 63) ≤ k ∧ k < 2 ^ 63 ∧ as.length * k.toNat ≤ sizeLine ∧ Q (.o (.lst (List.replicate k.toNat as).flatten))
def rStrCat : R2 := fun x y H Q => ∃ i j, x = .str i ∧ y = .str j ∧ i.length + j.length ≤ sizeLine ∧ Q (.str (i ++ j)) H
def rAddU (K : PySem.W.Frag) : R2 := fun x y H Q => rI0 (fun i j => .int (i + j)) x y H Q ∨ (rCat x y H Q ∨ (rStrCat x y H Q ∨ rCatA K x y H Q))
theorem op_addU {X : L2.Cx} {K : PySem.W.Frag} (h : X.K = K) : OpR X (binaryOp .Add) (rAddU K) := h ▸ op_add.or (op_cat.or (op_add_str.or op_catA))
abbrev pAdd := pOr pAddI (pOr pCat (pOr pCatS pCatT))
section
variable {K : PySem.W.Frag}
theorem Reps.flat {F : Hp} {vs : List V} {ds : List D} (r : Reps K F vs ds) : ∀ n : Nat, Reps K F (List.replicate n vs).flatten (List.replicate n ds).flatten
  | 0 => .nil
  | n + 1 => by
    rw [List.replicate_succ, List.replicate_succ, List.flatten_cons, List.flatten_cons]
    exact r.append (Reps.flat r n)
theorem r_cat : PurR2 K rCat pCat := by
  intro c F O ρ σ H Q Q' x y v w S rx ry hm hp
  obtain ⟨as, bs, h1, h2, hz, q⟩ := hm
  obtain ⟨a, vs, rfl, ha, ra⟩ := xm_L S rx h1
  obtain ⟨b, ws, rfl, hb, rb⟩ := xm_L S ry h2
  exact ⟨a, b, vs, ws, rfl, rfl, ha, hb, by rw [ra.length, rb.length]; exact hz, fun p np => hp.newL S np (ra.append rb) q⟩
theorem r_rep : PurR2 K rRep pRep := by
  intro c F O ρ σ H Q Q' x y v w S rx ry hm hp
  obtain ⟨as, k, h1, rfl, b1, b2, hz, q⟩ := hm
  obtain ⟨a, vs, rfl, ha, ra⟩ := xm_L S rx h1
  cases ry
  exact ⟨a, k, vs, rfl, rfl, ha, b1, b2, by rw [ra.length]; exact hz, fun p np => hp.newL S np (ra.flat _) q⟩
theorem r_catS : PurR2 K rStrCat pCatS := by
  intro c F O ρ σ H Q Q' x y v w S rx ry hm hp
  unfold pCatS at hm
  split at hm
  · cases rx; cases ry
    exact ⟨_, _, rfl, rfl, hm.1, hp.here (x := .f _) S (.str _) hm.2⟩
  · exact hm.elim
theorem reps_nil {F : Hp} {ds : List D} (r : Reps K F [] ds) : ds = [] := by cases r; rfl
theorem r_catT : PurR2 K (rCatA K) pCatT := by
  intro c F O ρ σ H Q Q' x y v w S rx ry hm hp
  unfold pCatT at hm
  split at hm
  · rename_i as bs
    cases rx with
    | tup h1 ra =>
      cases ry with
      | tup h2 rb =>
        refine ⟨_, _, _, _, rfl, rfl, sqt_ex S.fh h1, sqt_ex S.fh h2, by rw [ra.length, rb.length]; exact hm.1, fun e => ?_, fun _ e => ?_, fun _ _ p np => ?_⟩
        · subst e
          obtain rfl := reps_nil ra
          exact hp.here (x := .f _) S (.tup h2 rb) hm.2
        · subst e
          obtain rfl := reps_nil rb
          rw [List.append_nil] at hm
          exact hp.here (x := .f _) S (.tup h1 ra) hm.2
        · exact hp.new S np (.tup (SqT.of upd_same) ((ra.append rb).mono (Ex.refl.new (S.fh.free np)))) hm.2
  · exact hm.elim
theorem r_addI : PurR2 K (rI0 fun i j => .int (i + j)) pAddI := r_I0 fun _ _ _ => .int _
theorem r_sub : PurR2 K (rI0 fun i j => .int (i - j)) pSub := r_I0 fun _ _ _ => .int _
theorem r_mul : PurR2 K (rI CMul fun i j => .int (i * j)) pMul := r_I fun _ _ _ => .int _
theorem r_mulW : PurR2 K (rI CMulW fun i j => .int (i * j)) pMulW := r_I fun _ _ _ => .int _
theorem r_fdivW : PurR2 K (rI CDivW fun i j => .int (i / j)) pFdivW := r_I fun _ _ _ => .int _
theorem r_fdiv : PurR2 K (rI CDiv fun i j => .int (i / j)) pFdiv := r_I fun _ _ _ => .int _
theorem r_mod : PurR2 K (rI (fun _ j => 0 < j) fun i j => .int (i % j)) pMod := r_I fun _ _ _ => .int _
theorem r_pow : PurR2 K (rI CPow fun i j => .int (i ^ j.toNat)) pPow := r_I fun _ _ _ => .int _
theorem r_lt : PurR2 K (rI0 fun i j => .bl (decide (i < j))) pLt := r_I0 fun _ _ _ => .bl _
theorem r_le : PurR2 K (rI0 fun i j => .bl (decide (i ≤ j))) pLe := r_I0 fun _ _ _ => .bl _
theorem r_gt : PurR2 K (rI0 fun i j => .bl (decide (j < i))) pGt := r_I0 fun _ _ _ => .bl _
theorem r_ge : PurR2 K (rI0 fun i j => .bl (decide (j ≤ i))) pGe := r_I0 fun _ _ _ => .bl _
theorem r_neg : PurR1 K (rU fun i => .int (-i)) pNeg := r_U fun _ _ => .int _
theorem r_add : PurR2 K (rAddU K) pAdd := r_or r_addI (r_or r_cat (r_or r_catS r_catT))
end
/-! equality of data -/
mutual
def py : D → Option PyData
  | .non => some .none
  | .bl b => some (.bool b)
  | .int i => some (.int i)
  | .str s => some (.str s)
  | .lst xs => (pys xs).map .list
  | .tup xs => (pys xs).map .tuple
  | _ => none
def pys : List D → Option (List PyData)
  | [] => some []
  | d :: r => (py d).bind fun a => (pys r).map (a :: ·)
end
section
variable {K : PySem.W.Frag} {F : Hp}
mutual
theorem py_dp : ∀ {v : V} {d : D} {p : PyData}, Rep K F v d → py d = some p → Dp K F v p
  | _, .non, _, .non, h => by unfold py at h; cases h; exact .non
  | _, .bl _, _, .bl b, h => by unfold py at h; cases h; exact .bl _
  | _, .int _, _, .int b, h => by unfold py at h; cases h; exact .int _
  | _, .str _, _, .str b, h => by unfold py at h; cases h; exact .str _
  | _, .obj _, _, .obj b, h => by unfold py at h; cases h
  | _, .ty _, _, .ty b, h => by unfold py at h; cases h
  | _, .lst ds, _, .lst h1 r, h => by
    unfold py at h
    cases e : pys ds with
    | none => rw [e] at h; cases h
    | some ps => rw [e] at h; cases h; exact .lst (SqL.of h1) (pys_dp r e)
  | _, .tup ds, _, .tup h1 r, h => by
    unfold py at h
    cases e : pys ds with
    | none => rw [e] at h; cases h
    | some ps => rw [e] at h; cases h; exact .tup h1 (pys_dp r e)
  | _, .ins _ _, _, .ins h1 r, h => by unfold py at h; cases h
  | _, .dk _, _, .dk h1 r, h => by unfold py at h; cases h
  | _, .dt _, _, .dt h1 r, h => by unfold py at h; cases h
theorem pys_dp : ∀ {vs : List V} {ds : List D} {ps : List PyData}, Reps K F vs ds → pys ds = some ps → DpAll K F vs ps
  | _, [], _, .nil, h => by unfold pys at h; cases h; exact .nil
  | _, d :: ds, _, .cons h1 r, h => by
    unfold pys at h
    cases e : py d with
    | none => rw [e] at h; cases h
    | some p =>
      cases e2 : pys ds with
      | none => rw [e, e2] at h; cases h
      | some ps => rw [e, e2] at h; cases h; exact .cons (py_dp h1 e) (pys_dp r e2)
end
end
def pEqD (x y : X) (Q : X → Prop) : Prop := ∃ d e p q, x.V = some d ∧ y.V = some e ∧ py d = some p ∧ py e = some q ∧ SeqAt.shaped p = true ∧ SeqAt.shaped q = true ∧ Q (.f (.bl (PyData.eqv p q)))
def pNeD (x y : X) (Q : X → Prop) : Prop := ∃ d e p q, x.V = some d ∧ y.V = some e ∧ py d = some p ∧ py e = some q ∧ SeqAt.shaped p = true ∧ SeqAt.shaped q = true ∧ Q (.f (.bl (!PyData.eqv p q)))
/-- scalars that == tells apart as data does -/
def scD : D → D → Option Bool
  | .int i, .int j => some (decide (i = j))
  | .str i, .str j => some (decide (i = j))
  | .bl i, .bl j => some (i == j)
  | .non, .non => some true
  | .non, .int _ => some false
  | .int _, .non => some false
  | .non, .str _ => some false
  | .str _, .non => some false
  | .non, .bl _ => some false
  | .bl _, .non => some false
  | .int _, .str _ => some false
  | .str _, .int _ => some false
  | .bl _, .str _ => some false
  | .str _, .bl _ => some false
  | _, _ => none
def pEqS (x y : X) (Q : X → Prop) : Prop := ∃ d e b, x = .f d ∧ y = .f e ∧ scD d e = some b ∧ Q (.f (.bl b))
def pNeS (x y : X) (Q : X → Prop) : Prop := ∃ d e b, x = .f d ∧ y = .f e ∧ scD d e = some b ∧ Q (.f (.bl (!b)))
def pEq (x y : X) (Q : X → Prop) : Prop := pEqS x y Q ∨ pEqD x y Q
def pNe (x y : X) (Q : X → Prop) : Prop := pNeS x y Q ∨ pNeD x y Q
def rEqU (K : PySem.W.Frag) : R2 := fun x y H Q => rEq x y H Q ∨ rEqD K x y H Q
def rNeU (K : PySem.W.Frag) : R2 := fun x y H Q => rNe x y H Q ∨ rNeD K x y H Q
theorem op_eqU {X : L2.Cx} {K : PySem.W.Frag} (h : X.K = K) (hu : X.A.units + 64 < cLine) : OpR X (compareOp .Eq) (rEqU K) := h ▸ op_eq.or (op_eqD hu)
theorem op_neU {X : L2.Cx} {K : PySem.W.Frag} (h : X.K = K) (hu : X.A.units + 64 < cLine) : OpR X (compareOp .NotEq) (rNeU K) := h ▸ op_ne.or (op_neD hu)
section
variable {K : PySem.W.Frag}
theorem scD_v {F : Hp} {v w : V} {d e : D} {b : Bool} (r : Rep K F v d) (q : Rep K F w e) (h : scD d e = some b) : scal v w = true ∧ decide (v = w) = b := by
  cases r <;> cases q <;> simp [scD] at h <;> subst h <;> refine ⟨rfl, ?_⟩ <;> first | rfl | exact di | exact ds | simp
  all_goals exact Bool.beq_eq_decide_eq _ _ |>.symm
theorem r_eq : PurR2 K (rEqU K) pEq := by
  intro c F O ρ σ H Q Q' x y v w S rx ry hm hp
  rcases hm with ⟨d, e, b, rfl, rfl, h, k⟩ | ⟨d, e, p, q, h1, h2, h3, h4, s1, s2, k⟩
  · obtain ⟨k1, k2⟩ := scD_v rx ry h
    exact .inl ⟨k1, by rw [k2]; exact hp.here (x := .f _) S (.bl _) k⟩
  · exact .inr ⟨p, q, py_dp (xm_V S rx h1) h3, py_dp (xm_V S ry h2) h4, s1, s2, hp.here (x := .f _) S (.bl _) k⟩
theorem r_ne : PurR2 K (rNeU K) pNe := by
  intro c F O ρ σ H Q Q' x y v w S rx ry hm hp
  rcases hm with ⟨d, e, b, rfl, rfl, h, k⟩ | ⟨d, e, p, q, h1, h2, h3, h4, s1, s2, k⟩
  · obtain ⟨k1, k2⟩ := scD_v rx ry h
    exact .inl ⟨k1, by rw [k2]; exact hp.here (x := .f _) S (.bl _) k⟩
  · exact .inr ⟨p, q, py_dp (xm_V S rx h1) h3, py_dp (xm_V S ry h2) h4, s1, s2, hp.here (x := .f _) S (.bl _) k⟩
end
theorem eqv_ii (i j : Int) : PyData.eqv (.int i) (.int j) = decide (i = j) := by simp [PyData.eqv]; rfl
theorem eqv_ss (i j : Str) : PyData.eqv (.str i) (.str j) = decide (i = j) := by simp [PyData.eqv]; rfl
theorem eqv_bb (a b : Bool) : PyData.eqv (.bool a) (.bool b) = (a == b) := by simp [PyData.eqv]
theorem pEq_sc {d e : D} {p q : PyData} {b : Bool} {Q : X → Prop} (h : scD d e = some b) (hd : py d = some p) (he : py e = some q) (hv : PyData.eqv p q = b) : pEq (.f d) (.f e) Q = Q (.f (.bl b)) := by
  apply propext
  constructor
  · rintro (⟨d', e', b', h1, h2, h3, k⟩ | ⟨d', e', p', q', h1, h2, h3, h4, _, _, k⟩)
    · cases h1; cases h2; rw [h] at h3; cases h3; exact k
    · cases h1; cases h2; rw [hd] at h3; rw [he] at h4; cases h3; cases h4; rw [hv] at k; exact k
  · exact fun k => .inl ⟨_, _, b, rfl, rfl, h, k⟩
theorem pNe_sc {d e : D} {p q : PyData} {b : Bool} {Q : X → Prop} (h : scD d e = some b) (hd : py d = some p) (he : py e = some q) (hv : PyData.eqv p q = b) : pNe (.f d) (.f e) Q = Q (.f (.bl (!b))) := by
  apply propext
  constructor
  · rintro (⟨d', e', b', h1, h2, h3, k⟩ | ⟨d', e', p', q', h1, h2, h3, h4, _, _, k⟩)
    · cases h1; cases h2; rw [h] at h3; cases h3; exact k
    · cases h1; cases h2; rw [hd] at h3; rw [he] at h4; cases h3; cases h4; rw [hv] at k; exact k
  · exact fun k => .inl ⟨_, _, b, rfl, rfl, h, k⟩
theorem py_int (i : Int) : py (.int i) = some (.int i) := by rw [py]
theorem py_str (i : Str) : py (.str i) = some (.str i) := by rw [py]
theorem py_bl (i : Bool) : py (.bl i) = some (.bool i) := by rw [py]
theorem pEq_ii {i j : Int} {Q : X → Prop} : pEq (.f (.int i)) (.f (.int j)) Q = Q (.f (.bl (decide (i = j)))) := pEq_sc rfl (py_int _) (py_int _) (eqv_ii i j)
theorem pNe_ii {i j : Int} {Q : X → Prop} : pNe (.f (.int i)) (.f (.int j)) Q = Q (.f (.bl (!decide (i = j)))) := pNe_sc rfl (py_int _) (py_int _) (eqv_ii i j)
theorem pEq_ss {i j : Str} {Q : X → Prop} : pEq (.f (.str i)) (.f (.str j)) Q = Q (.f (.bl (decide (i = j)))) := pEq_sc rfl (py_str _) (py_str _) (eqv_ss i j)
theorem pNe_ss {i j : Str} {Q : X → Prop} : pNe (.f (.str i)) (.f (.str j)) Q = Q (.f (.bl (!decide (i = j)))) := pNe_sc rfl (py_str _) (py_str _) (eqv_ss i j)
theorem pEq_bb {i j : Bool} {Q : X → Prop} : pEq (.f (.bl i)) (.f (.bl j)) Q = Q (.f (.bl (i == j))) := pEq_sc rfl (py_bl _) (py_bl _) (eqv_bb i j)
theorem pNe_bb {i j : Bool} {Q : X → Prop} : pNe (.f (.bl i)) (.f (.bl j)) Q = Q (.f (.bl (!(i == j)))) := pNe_sc rfl (py_bl _) (py_bl _) (eqv_bb i j)
/-- equal data -/
theorem sh_can {p : PyData} (h : SeqAt.shaped p = true) : p.canLay0 = true := by
  unfold SeqAt.shaped at h
  rw [Bool.and_eq_true] at h
  exact h.1
theorem pEq_same {d : D} {p : PyData} {x y : X} {Q : X → Prop} (hx : x.V = some d) (hy : y.V = some d) (hp : py d = some p) (hs : SeqAt.shaped p = true) (q : Q (.f (.bl true))) : pEq x y Q := .inr ⟨d, d, p, p, hx, hy, hp, hp, hs, hs, by rw [SeqAt.eqv_refl _ (sh_can hs)]; exact q⟩
theorem pNe_same {d : D} {p : PyData} {x y : X} {Q : X → Prop} (hx : x.V = some d) (hy : y.V = some d) (hp : py d = some p) (hs : SeqAt.shaped p = true) (q : Q (.f (.bl false))) : pNe x y Q := .inr ⟨d, d, p, p, hx, hy, hp, hp, hs, hs, by rw [SeqAt.eqv_refl _ (sh_can hs)]; exact q⟩
/-! is -/
def isD (x : X) (d : D) : Bool := match x, d with
  | .f .non, .non => true
  | .f (.bl a), .bl b => a == b
  | _, _ => false
def pIsN (x y : X) (Q : X → Prop) : Prop := y = .f .non ∧ x ≠ .pl ∧ Q (.f (.bl (isD x .non)))
def pNotN (x y : X) (Q : X → Prop) : Prop := y = .f .non ∧ x ≠ .pl ∧ Q (.f (.bl (!isD x .non)))
def pIsT (x y : X) (Q : X → Prop) : Prop := ∃ b, y = .f (.bl b) ∧ x ≠ .pl ∧ Q (.f (.bl (isD x (.bl b))))
def pNotT (x y : X) (Q : X → Prop) : Prop := ∃ b, y = .f (.bl b) ∧ x ≠ .pl ∧ Q (.f (.bl (!isD x (.bl b))))
/-- is not, the right side a truth value -/
def rNotT : R2 := fun x y H Q => ∃ b : Bool, y = .bl b ∧ Q (.bl (!decide (x = .bl b))) H
theorem op_notT {X : L2.Cx} : OpR X (compareOp .IsNot) rNotT := by
  intro pins s σ H x y v u Q I rx ry h
  obtain ⟨b, rfl, q⟩ := h
  cases (show u = Value.bool b from ry)
  have fin : ∀ c : Bool, c = (!decide (x = .bl b)) → EP X pins σ Q (.bool c) s := fun c e => ⟨.bl c, H, I, rfl, by rw [e]; exact q⟩
  have no : x ≠ .bl b → EP X pins σ Q (.bool true) s := fun h => fin _ (by rw [decide_eq_false h]; rfl)
  cases x with
  | non => cases (show v = Value.none from rx); exact wpAny_isNot_other rfl (fun z => by cases z) (no (fun z => by cases z))
  | bl a =>
    cases (show v = Value.bool a from rx)
    by_cases e : a = b
    · subst e
      exact wpAny_isNot_self rfl (fin _ (by simp))
    · exact wpAny_isNot_other rfl (fun z => e (Value.bool.inj z)) (no (fun z => by cases z; exact e rfl))
  | int i => obtain ⟨t, e⟩ := (show ∃ t, v = Value.int i t from rx); cases e; exact wpAny_isNot_other rfl (fun z => by cases z) (no (fun z => by cases z))
  | str i => obtain ⟨t, e⟩ := (show ∃ t, v = Value.str i t from rx); cases e; exact wpAny_isNot_other rfl (fun z => by cases z) (no (fun z => by cases z))
  | byt i => obtain ⟨t, e⟩ := (show ∃ t, v = Value.bytes i t from rx); cases e; exact wpAny_isNot_other rfl (fun z => by cases z) (no (fun z => by cases z))
  | flt i => obtain ⟨t, e⟩ := (show ∃ t, v = Value.float i t from rx); cases e; exact wpAny_isNot_other rfl (fun z => by cases z) (no (fun z => by cases z))
  | ref a => cases (show v = Value.ref a from rx); exact wpAny_isNot_other rfl (fun z => by cases z) (no (fun z => by cases z))
  | ty n => cases (show v = Value.type n from rx); exact wpAny_isNot_other rfl (fun z => by cases z) (no (fun z => by cases z))
section
variable {K : PySem.W.Frag} {c : Ct} {F H : Hp}
theorem xm_isN {x : X} {v : V} (r : XM K c F H x v) : decide (v = .non) = isD x .non := by
  cases x with
  | f d => cases r <;> simp [isD]
  | b es => obtain ⟨a, vs, rfl, _⟩ := r; simp [isD]
  | q es => obtain ⟨a, vs, rfl, _⟩ := r; simp [isD]
  | o es => exact r.elim
  | pl => obtain ⟨p, l, _, rfl⟩ := r; simp [isD]
theorem xm_isT {x : X} {v : V} {b : Bool} (r : XM K c F H x v) : decide (v = .bl b) = isD x (.bl b) := by
  cases x with
  | f d => cases r <;> simp [isD] <;> rfl
  | b es => obtain ⟨a, vs, rfl, _⟩ := r; simp [isD]
  | q es => obtain ⟨a, vs, rfl, _⟩ := r; simp [isD]
  | o es => exact r.elim
  | pl => obtain ⟨p, l, _, rfl⟩ := r; simp [isD]
end
section
variable {K : PySem.W.Frag}
theorem r_isN : PurR2 K rIsN pIsN := by
  intro c F O ρ σ H Q Q' x y v w S rx ry hm hp
  obtain ⟨rfl, _, q⟩ := hm
  cases ry
  exact ⟨rfl, hp.here (x := .f _) S (by rw [xm_isN rx]; exact .bl _) q⟩
theorem r_notN : PurR2 K rNotN pNotN := by
  intro c F O ρ σ H Q Q' x y v w S rx ry hm hp
  obtain ⟨rfl, _, q⟩ := hm
  cases ry
  exact ⟨rfl, hp.here (x := .f _) S (by rw [xm_isN rx]; exact .bl _) q⟩
theorem r_isT : PurR2 K rIsT pIsT := by
  intro c F O ρ σ H Q Q' x y v w S rx ry hm hp
  obtain ⟨b, rfl, _, q⟩ := hm
  cases ry
  exact ⟨b, rfl, hp.here (x := .f _) S (by rw [xm_isT rx]; exact .bl _) q⟩
theorem r_notT : PurR2 K rNotT pNotT := by
  intro c F O ρ σ H Q Q' x y v w S rx ry hm hp
  obtain ⟨b, rfl, _, q⟩ := hm
  cases ry
  exact ⟨b, rfl, hp.here (x := .f _) S (by rw [xm_isT rx]; exact .bl _) q⟩
end
/-! in a list or tuple of flat things -/
def flatD : D → Bool
  | .non => true
  | .bl _ => true
  | .int _ => true
  | .str _ => true
  | _ => false
def vD : D → V
  | .non => .non
  | .bl b => .bl b
  | .int i => .int i
  | .str s => .str s
  | _ => .non
def inD (x : D) (ds : List D) : Bool := ds.any fun y => eqV (vD y) (vD x)
def pIn (neg : Bool) (x y : X) (Q : X → Prop) : Prop := ∃ d ds, x = .f d ∧ y.S = some ds ∧ flatD d = true ∧ ds.all flatD = true ∧ Q (.f (.bl (if neg then !inD d ds else inD d ds)))
section
variable {K : PySem.W.Frag}
theorem flat_v {F : Hp} {v : V} {d : D} (r : Rep K F v d) (h : flatD d = true) : v = vD d ∧ flatV v = true := by
  cases r <;> first | exact ⟨rfl, rfl⟩ | cases h
theorem flats_v {F : Hp} : ∀ {vs : List V} {ds : List D}, Reps K F vs ds → ds.all flatD = true → vs = ds.map vD ∧ vs.all flatV = true
  | _, _, .nil, _ => ⟨rfl, rfl⟩
  | _, _, .cons h r, q => by
    rw [List.all_cons, Bool.and_eq_true] at q
    obtain ⟨e1, f1⟩ := flat_v h q.1
    obtain ⟨e2, f2⟩ := flats_v r q.2
    rw [List.map_cons, ← e1, ← e2, List.all_cons, f1, f2]
    exact ⟨rfl, rfl⟩
theorem r_in {neg : Bool} : PurR2 K (rIn K neg) (pIn neg) := by
  intro c F O ρ σ H Q Q' x y v w S rx ry hm hp
  obtain ⟨d, ds, rfl, h2, h3, h4, q⟩ := hm
  obtain ⟨a, vs, rfl, hs, rs⟩ := xm_S S ry h2
  obtain ⟨e1, f1⟩ := flat_v rx h3
  obtain ⟨e2, f2⟩ := flats_v rs h4
  refine ⟨a, vs, rfl, hs, f1, f2, ?_⟩
  have e : inV v vs = inD d ds := by
    unfold inV inD
    rw [e1, e2, List.any_map]
    rfl
  rw [e]
  exact hp.here (x := .f _) S (.bl _) q
end
theorem op_inK {X : L2.Cx} {K : PySem.W.Frag} (h : X.K = K) : OpR X (compareOp .In) (rIn K false) := h ▸ op_in_seq
theorem op_ninK {X : L2.Cx} {K : PySem.W.Frag} (h : X.K = K) : OpR X (compareOp .NotIn) (rIn K true) := h ▸ op_notIn_seq
/-! subscripts, slices -/
def pIx (x y : X) (Q : X → Prop) : Prop := ∃ i, y = .f (.int i) ∧ ((∃ ds d, x.S = some ds ∧ atI ds i = some d ∧ Q (.f d)) ∨ ∃ z ch, x = .f (.str z) ∧ z.length ≤ sizeLine ∧ atI z.cps.toList i = some ch ∧ Q (.f (.str ⟨#[ch]⟩)))
def rIxU (K : PySem.W.Frag) : R2 := fun x y H Q => rIxL K x y H Q ∨ (rIxT K x y H Q ∨ rIxS x y H Q)
theorem ixU {X : L2.Cx} {K : PySem.W.Frag} (h : X.K = K) : IxR X (rIxU K) := h ▸ ix_list.or (ix_tup.or ix_str)
section
variable {K : PySem.W.Frag}
theorem r_ix : PurR2 K (rIxU K) pIx := by
  intro c F O ρ σ H Q Q' x y v w S rx ry hm hp
  obtain ⟨i, rfl, h | h⟩ := hm
  · obtain ⟨ds, d, h1, h2, q⟩ := h
    cases ry
    obtain ⟨a, vs, rfl, hs, rs⟩ := xm_S S rx h1
    obtain ⟨u, hu, ru⟩ := rs.at h2
    have fin := hp.here (x := .f d) S ru q
    rcases hs with hs | hs
    · exact .inl ⟨a, vs, i, u, rfl, rfl, hs, hu, fin⟩
    · exact .inr (.inl ⟨a, vs, i, u, rfl, rfl, hs, hu, fin⟩)
  · obtain ⟨z, ch, rfl, hz, h2, q⟩ := h
    cases ry; cases rx
    exact .inr (.inr ⟨z, i, ch, rfl, rfl, hz, h2, hp.here (x := .f _) S (.str _) q⟩)
end
abbrev MO := Env → (Option Int → Prop) → Prop
def PurO (K : PySem.W.Frag) (t : TO) (m : MO) : Prop := ∀ c F O ρ σ H (Q : Option Int → Hp → Prop) (Q' : Option Int → Prop), Sim K c F O ρ σ H → m ρ Q' → (∀ F' H' x, Gr c.P F H F' H' → Sim K c F' O ρ σ H' → Q' x → Q x H') → t σ H Q
def mNoPart : MO := fun _ Q => Q none
def kPart (Q : Option Int → Prop) (x : X) : Prop := ∃ i, x = .f (.int i) ∧ Q (some i)
def mPart (me : ME) : MO := fun ρ Q => me ρ (kPart Q)
/-- x[l:h] -/
def pSl (x : X) (l h : Option Int) (Q : X → Prop) : Prop := (∃ ds, x.L = some ds ∧ Q (.o (.lst (cutD ds l h)))) ∨ (∃ ds, x = .f (.tup ds) ∧ Q (.f (.tup (cutD ds l h)))) ∨ ∃ z, x = .f (.str z) ∧ z.length ≤ sizeLine ∧ Q (.f (.str (cutS z l h)))
def kSl3 (x : X) (l : Option Int) (Q : X → Prop) (h : Option Int) : Prop := pSl x.n l h Q
def kSl2 (mh : MO) (x : X) (ρ : Env) (Q : X → Prop) (l : Option Int) : Prop := mh ρ (kSl3 x l Q)
def kSl1 (ml mh : MO) (ρ : Env) (Q : X → Prop) (x : X) : Prop := ml ρ (kSl2 mh x ρ Q)
def mSl (me : ME) (ml mh : MO) : ME := fun ρ Q => me ρ (kSl1 ml mh ρ Q)
def rSlU (K : PySem.W.Frag) : V → Option Int → Option Int → Hp → VK → Prop := fun x lo hi H Q => rSlL K x lo hi H Q ∨ (rSlA K x lo hi H Q ∨ rSlS x lo hi H Q)
theorem slU {X : L2.Cx} {K : PySem.W.Frag} (h : X.K = K) : L2.SlR X (rSlU K) := h ▸ sl_list.or (sl_tupA.or sl_str)
section
variable {K : PySem.W.Frag}
theorem o_none : PurO K tNoPart mNoPart := fun c F O ρ σ H Q Q' S hm hp => hp F H none Gr.refl S hm
theorem o_part {te : TE} {me : ME} (h : PurE K te me) : PurO K (tPart te) (mPart me) := by
  intro c F O ρ σ H Q Q' S hm hp
  refine h.mid S hm fun F1 H1 x v g S1 r q => ?_
  obtain ⟨i, rfl, q⟩ := q
  cases r
  exact ⟨i, rfl, hp F1 H1 _ g S1 q⟩
theorem cut_whole {ds : List D} {l h : Option Int} (e : HT.sIx ds.length 0 l = 0 ∧ HT.sIx ds.length ds.length h = ds.length) : cutD ds l h = ds := by
  unfold cutD
  rw [e.1, e.2]
  simp
theorem e_sl {te : TE} {tl th : TO} {me : ME} {ml mh : MO} (he : PurE K te me) (hl : PurO K tl ml) (hh : PurO K th mh) : PurE K (tSl (rSlU K) te tl th) (mSl me ml mh) := by
  intro c F O ρ σ H Q Q' S hm hp
  refine he.mid S hm fun F1 H1 x v g1 S1 r1 q => ?_
  refine hl c F1 O ρ σ H1 _ _ S1 q fun F2 H2 l g2 S2 q => ?_
  refine hh c F2 O ρ σ H2 _ _ S2 q fun F3 H3 h g3 S3 q => ?_
  have r3 := (r1.grow g2).grow g3
  have hp3 := (hp.trans g1).trans (g2.trans g3)
  have q : pSl x.n l h Q' := q
  generalize x.n = x at r3 q
  rcases q with ⟨ds, h1, q⟩ | ⟨ds, rfl, q⟩ | ⟨z, rfl, hz, q⟩
  · obtain ⟨a, vs, rfl, ha, ra⟩ := xm_L S3 r3 h1
    exact .inl ⟨a, vs, rfl, SqL.of ha, fun p np => hp3.newL S3 np (ra.cut l h) q⟩
  · cases r3 with
    | tup h1 ra =>
      refine .inr (.inl ⟨_, _, rfl, sqt_ex S3.fh h1, fun e => ?_, fun _ p np => ?_⟩)
      · rw [ra.length] at e
        rw [cut_whole e] at q
        exact hp3.here (x := .f _) S3 (.tup h1 ra) q
      · exact hp3.new S3 np (.tup (SqT.of upd_same) ((ra.cut l h).mono (Ex.refl.new (S3.fh.free np)))) q
  · cases r3
    exact .inr (.inr ⟨z, rfl, hz, hp3.here (x := .f _) S3 (.str _) q⟩)
end
/-! built-ins -/
def pLen (xs : List X) (Q : X → Prop) : Prop := ∃ x, xs = [x] ∧ ((∃ ds, x.S = some ds ∧ Q (.f (.int ds.length))) ∨ ∃ z, x = .f (.str z) ∧ z.length ≤ sizeLine ∧ Q (.f (.int z.length)))
def rLenU (K : PySem.W.Frag) : List V → Hp → VK → Prop := fun xs H Q => ∃ x n, xs = [x] ∧ LenV K x H n ∧ Q (.int n) H
theorem c_lenU {X : L2.Cx} {K : PySem.W.Frag} (h : X.K = K) : CallR X (.builtin "len") (rLenU K) := h ▸ call_len
def pAbs (xs : List X) (Q : X → Prop) : Prop := ∃ i, xs = [.f (.int i)] ∧ Q (.f (.int (if i < 0 then -i else i)))
def pMax2 (xs : List X) (Q : X → Prop) : Prop := ∃ i j, xs = [.f (.int i), .f (.int j)] ∧ Q (.f (.int (max i j)))
def pMin2 (xs : List X) (Q : X → Prop) : Prop := ∃ i j, xs = [.f (.int i), .f (.int j)] ∧ Q (.f (.int (min i j)))
def pInt (xs : List X) (Q : X → Prop) : Prop := (∃ i, xs = [.f (.int i)] ∧ Q (.f (.int i))) ∨ ∃ b : Bool, xs = [.f (.bl b)] ∧ Q (.f (.int (if b then 1 else 0)))
def pList (xs : List X) (Q : X → Prop) : Prop := ∃ x ds, xs = [x] ∧ x.S = some ds ∧ Q (.o (.lst ds))
def pTuple (xs : List X) (Q : X → Prop) : Prop := ∃ x ds, xs = [x] ∧ x.S = some ds ∧ Q (.f (.tup ds))
def iD : List D → Option (List Int)
  | [] => some []
  | .int i :: r => (iD r).map (i :: ·)
  | _ => none
def bD : List D → Option (List Bool)
  | [] => some []
  | .bl i :: r => (bD r).map (i :: ·)
  | _ => none
def sD : List D → Option (List Str)
  | [] => some []
  | .str i :: r => (sD r).map (i :: ·)
  | _ => none
def pSum (xs : List X) (Q : X → Prop) : Prop := ∃ x ds ns, xs = [x] ∧ x.L = some ds ∧ iD ds = some ns ∧ Q (.f (.int ns.sum))
/-- the greatest, the least of some numbers -/
def mx : List Int → Int
  | [] => 0
  | a :: r => r.foldl max a
def mn : List Int → Int
  | [] => 0
  | a :: r => r.foldl min a
theorem foldl_max : ∀ (r : List Int) (a : Int), (r.foldl max a ∈ a :: r) ∧ ∀ y, y ∈ a :: r → y ≤ r.foldl max a
  | [], a => ⟨by simp, fun y h => by simp at h; subst h; exact Int.le_refl _⟩
  | b :: r, a => by
    obtain ⟨h1, h2⟩ := foldl_max r (max a b)
    rw [List.foldl_cons]
    refine ⟨?_, fun y hy => ?_⟩
    · rcases List.mem_cons.mp h1 with h | h
      · rw [h]
        rcases Int.le_total a b with k | k
        · rw [Int.max_eq_right k]; simp
        · rw [Int.max_eq_left k]; simp
      · exact List.mem_cons_of_mem _ (List.mem_cons_of_mem _ h)
    · have h3 := h2 (max a b) List.mem_cons_self
      rcases List.mem_cons.mp hy with rfl | hy
      · omega
      · rcases List.mem_cons.mp hy with rfl | hy
        · omega
        · exact h2 y (List.mem_cons_of_mem _ hy)
theorem foldl_min : ∀ (r : List Int) (a : Int), (r.foldl min a ∈ a :: r) ∧ ∀ y, y ∈ a :: r → r.foldl min a ≤ y
  | [], a => ⟨by simp, fun y h => by simp at h; subst h; exact Int.le_refl _⟩
  | b :: r, a => by
    obtain ⟨h1, h2⟩ := foldl_min r (min a b)
    rw [List.foldl_cons]
    refine ⟨?_, fun y hy => ?_⟩
    · rcases List.mem_cons.mp h1 with h | h
      · rw [h]
        rcases Int.le_total a b with k | k
        · rw [Int.min_eq_left k]; simp
        · rw [Int.min_eq_right k]; simp
      · exact List.mem_cons_of_mem _ (List.mem_cons_of_mem _ h)
    · have h3 := h2 (min a b) List.mem_cons_self
      rcases List.mem_cons.mp hy with rfl | hy
      · omega
      · rcases List.mem_cons.mp hy with rfl | hy
        · omega
        · exact h2 y (List.mem_cons_of_mem _ hy)
theorem mx_mem {ns : List Int} (h : 0 < ns.length) : mx ns ∈ ns ∧ ∀ y, y ∈ ns → y ≤ mx ns := by
  cases ns with
  | nil => cases h
  | cons a r => exact foldl_max r a
theorem mn_mem {ns : List Int} (h : 0 < ns.length) : mn ns ∈ ns ∧ ∀ y, y ∈ ns → mn ns ≤ y := by
  cases ns with
  | nil => cases h
  | cons a r => exact foldl_min r a
def pMaxL (xs : List X) (Q : X → Prop) : Prop := ∃ x ds ns, xs = [x] ∧ x.L = some ds ∧ iD ds = some ns ∧ 0 < ns.length ∧ Q (.f (.int (mx ns)))
def pMinL (xs : List X) (Q : X → Prop) : Prop := ∃ x ds ns, xs = [x] ∧ x.L = some ds ∧ iD ds = some ns ∧ 0 < ns.length ∧ Q (.f (.int (mn ns)))
def pAll (xs : List X) (Q : X → Prop) : Prop := ∃ x ds bs, xs = [x] ∧ x.L = some ds ∧ bD ds = some bs ∧ Q (.f (.bl (bs.all id)))
def pAny (xs : List X) (Q : X → Prop) : Prop := ∃ x ds bs, xs = [x] ∧ x.L = some ds ∧ bD ds = some bs ∧ Q (.f (.bl (bs.any id)))
def pStrI (xs : List X) (Q : X → Prop) : Prop := ∃ i, xs = [.f (.int i)] ∧ i.natAbs.log2 < 1920 ∧ Q (.f (.str (toString i)))
section
variable {K : PySem.W.Frag}
theorem iD_map : ∀ {ds : List D} {ns : List Int}, iD ds = some ns → ds = ns.map D.int
  | [], _, h => by cases h; rfl
  | .int i :: r, ns, h => by
    unfold iD at h
    cases e : iD r with
    | none => rw [e] at h; cases h
    | some ms => rw [e] at h; cases h; rw [List.map_cons, ← iD_map e]
  | .non :: _, _, h => by cases h
  | .bl _ :: _, _, h => by cases h
  | .str _ :: _, _, h => by cases h
  | .obj _ :: _, _, h => by cases h
  | .ty _ :: _, _, h => by cases h
  | .lst _ :: _, _, h => by cases h
  | .tup _ :: _, _, h => by cases h
  | .ins _ _ :: _, _, h => by cases h
  | .dk _ :: _, _, h => by cases h
  | .dt _ :: _, _, h => by cases h
theorem bD_map : ∀ {ds : List D} {ns : List Bool}, bD ds = some ns → ds = ns.map D.bl
  | [], _, h => by cases h; rfl
  | .bl i :: r, ns, h => by
    unfold bD at h
    cases e : bD r with
    | none => rw [e] at h; cases h
    | some ms => rw [e] at h; cases h; rw [List.map_cons, ← bD_map e]
  | .non :: _, _, h => by cases h
  | .int _ :: _, _, h => by cases h
  | .str _ :: _, _, h => by cases h
  | .obj _ :: _, _, h => by cases h
  | .ty _ :: _, _, h => by cases h
  | .lst _ :: _, _, h => by cases h
  | .tup _ :: _, _, h => by cases h
  | .ins _ _ :: _, _, h => by cases h
  | .dk _ :: _, _, h => by cases h
  | .dt _ :: _, _, h => by cases h
theorem sD_map : ∀ {ds : List D} {ns : List Str}, sD ds = some ns → ds = ns.map D.str
  | [], _, h => by cases h; rfl
  | .str i :: r, ns, h => by
    unfold sD at h
    cases e : sD r with
    | none => rw [e] at h; cases h
    | some ms => rw [e] at h; cases h; rw [List.map_cons, ← sD_map e]
  | .non :: _, _, h => by cases h
  | .int _ :: _, _, h => by cases h
  | .bl _ :: _, _, h => by cases h
  | .obj _ :: _, _, h => by cases h
  | .ty _ :: _, _, h => by cases h
  | .lst _ :: _, _, h => by cases h
  | .tup _ :: _, _, h => by cases h
  | .ins _ _ :: _, _, h => by cases h
  | .dk _ :: _, _, h => by cases h
  | .dt _ :: _, _, h => by cases h
theorem iD_of (ns : List Int) : iD (ns.map D.int) = some ns := by
  induction ns with
  | nil => rfl
  | cons n r ih => rw [List.map_cons, iD, ih]; rfl
theorem bD_of (ns : List Bool) : bD (ns.map D.bl) = some ns := by
  induction ns with
  | nil => rfl
  | cons n r ih => rw [List.map_cons, bD, ih]; rfl
theorem sD_of (ns : List Str) : sD (ns.map D.str) = some ns := by
  induction ns with
  | nil => rfl
  | cons n r ih => rw [List.map_cons, sD, ih]; rfl
theorem xms1 {c : Ct} {F H : Hp} {x : X} {vs : List V} (r : XMs K c F H [x] vs) : ∃ v, vs = [v] ∧ XM K c F H x v := by
  match vs, r with
  | [v], r => exact ⟨v, rfl, r.1⟩
theorem xms2 {c : Ct} {F H : Hp} {x y : X} {vs : List V} (r : XMs K c F H [x, y] vs) : ∃ v w, vs = [v, w] ∧ XM K c F H x v ∧ XM K c F H y w := by
  match vs, r with
  | [v, w], r => exact ⟨v, w, rfl, r.1, r.2.1⟩
theorem c_len : PurRL K (rLenU K) pLen := by
  intro c F O ρ σ H Q Q' xs vs S r hm hp
  obtain ⟨x, rfl, hm⟩ := hm
  obtain ⟨v, rfl, r1⟩ := xms1 r
  rcases hm with ⟨ds, h1, q⟩ | ⟨z, rfl, hz, q⟩
  · obtain ⟨a, vs, rfl, hs, rs⟩ := xm_S S r1 h1
    rw [← rs.length] at q
    refine ⟨_, vs.length, rfl, ?_, hp.here (x := .f _) S (.int _) q⟩
    rcases hs with hs | hs
    · exact .inl ⟨vs, hs, rfl⟩
    · exact .inr ⟨vs, hs, rfl⟩
  · cases r1
    exact ⟨_, z.length, rfl, (show _ ∧ _ from ⟨hz, rfl⟩), hp.here (x := .f _) S (.int _) q⟩
theorem c_abs : PurRL K rAbs pAbs := by
  intro c F O ρ σ H Q Q' xs vs S r hm hp
  obtain ⟨i, rfl, q⟩ := hm
  obtain ⟨v, rfl, r1⟩ := xms1 r
  cases r1
  exact ⟨i, rfl, hp.here (x := .f _) S (.int _) q⟩
theorem max_if (i j : Int) : (if j > i then j else i) = max i j := by split <;> omega
theorem min_if (i j : Int) : (if j < i then j else i) = min i j := by split <;> omega
theorem c_max2 : PurRL K rMax2 pMax2 := by
  intro c F O ρ σ H Q Q' xs vs S r hm hp
  obtain ⟨i, j, rfl, q⟩ := hm
  obtain ⟨v, w, rfl, r1, r2⟩ := xms2 r
  cases r1; cases r2
  rw [← max_if] at q
  exact ⟨i, j, rfl, hp.here (x := .f _) S (.int _) q⟩
theorem c_min2 : PurRL K rMin2 pMin2 := by
  intro c F O ρ σ H Q Q' xs vs S r hm hp
  obtain ⟨i, j, rfl, q⟩ := hm
  obtain ⟨v, w, rfl, r1, r2⟩ := xms2 r
  cases r1; cases r2
  rw [← min_if] at q
  exact ⟨i, j, rfl, hp.here (x := .f _) S (.int _) q⟩
theorem c_int : PurRL K rInt pInt := by
  intro c F O ρ σ H Q Q' xs vs S r hm hp
  rcases hm with ⟨i, rfl, q⟩ | ⟨i, rfl, q⟩
  · obtain ⟨v, rfl, r1⟩ := xms1 r
    cases r1
    exact .inl ⟨i, rfl, hp.here (x := .f _) S (.int _) q⟩
  · obtain ⟨v, rfl, r1⟩ := xms1 r
    cases r1
    exact .inr ⟨i, rfl, hp.here (x := .f _) S (.int _) q⟩
theorem c_list : PurRL K (rList K) pList := by
  intro c F O ρ σ H Q Q' xs vs S r hm hp
  obtain ⟨x, ds, rfl, h1, q⟩ := hm
  obtain ⟨v, rfl, r1⟩ := xms1 r
  obtain ⟨a, vs, rfl, hs, rs⟩ := xm_S S r1 h1
  exact ⟨a, vs, rfl, hs, fun p np => hp.newL S np rs q⟩
def rTupleO (K : PySem.W.Frag) : List V → Hp → VK → Prop := fun xs H Q => ∃ p ys, xs = [.ref p] ∧ ((SqL K H p ys ∧ ∀ l, H l = none → Q (.ref l) (upd H l (.tup ys))) ∨ (SqT K H p ys ∧ Q (.ref p) H))
theorem c_tupleO {X : L2.Cx} {K : PySem.W.Frag} (h : X.K = K) : CallR X (.type "tuple") (rTupleO K) := h ▸ call_tuple_of
theorem c_tuple : PurRL K (rTupleO K) pTuple := by
  intro c F O ρ σ H Q Q' xs vs S r hm hp
  obtain ⟨x, ds, rfl, h1, q⟩ := hm
  obtain ⟨v, rfl, r1⟩ := xms1 r
  by_cases h : x.L = some ds
  · obtain ⟨a, vs, rfl, hs, rs⟩ := xm_L S r1 h
    exact ⟨a, vs, rfl, .inl ⟨SqL.of hs, fun p np => hp.new S np (.tup (SqT.of upd_same) (rs.mono (Ex.refl.new (S.fh.free np)))) q⟩⟩
  · cases x with
    | f d =>
      cases d with
      | tup es => cases h1; cases r1 with | tup k1 k2 => exact ⟨_, _, rfl, .inr ⟨sqt_ex S.fh k1, hp.here (x := .f _) S (.tup k1 k2) q⟩⟩
      | lst es => exact absurd h1 h
      | _ => cases h1
    | b es =>
      cases es with
      | lst es => exact absurd h1 h
      | _ => cases h1
    | q es =>
      cases es with
      | lst es => exact absurd h1 h
      | _ => cases h1
    | _ => cases h1
theorem c_sum : PurRL K (rSum K) pSum := by
  intro c F O ρ σ H Q Q' xs vs S r hm hp
  obtain ⟨x, ds, ns, rfl, h1, h2, q⟩ := hm
  obtain ⟨v, rfl, r1⟩ := xms1 r
  obtain ⟨a, vs, rfl, hs, rs⟩ := xm_L S r1 h1
  rw [iD_map h2] at rs
  exact ⟨a, ns, rfl, by rw [← rs.ints]; exact SqL.of hs, hp.here (x := .f _) S (.int _) q⟩
theorem c_maxL : PurRL K (rMax K) pMaxL := by
  intro c F O ρ σ H Q Q' xs vs S r hm hp
  obtain ⟨x, ds, ns, rfl, h1, h2, h3, q⟩ := hm
  obtain ⟨v, rfl, r1⟩ := xms1 r
  obtain ⟨a, vs, rfl, hs, rs⟩ := xm_L S r1 h1
  rw [iD_map h2] at rs
  exact ⟨a, ns, rfl, by rw [← rs.ints]; exact SqL.of hs, h3, fun m k1 k2 => by
    have := mx_mem h3
    have e : m = mx ns := Int.le_antisymm (this.2 m k1) (k2 _ this.1)
    rw [e]
    exact hp.here (x := .f _) S (.int _) q⟩
theorem c_minL : PurRL K (rMin K) pMinL := by
  intro c F O ρ σ H Q Q' xs vs S r hm hp
  obtain ⟨x, ds, ns, rfl, h1, h2, h3, q⟩ := hm
  obtain ⟨v, rfl, r1⟩ := xms1 r
  obtain ⟨a, vs, rfl, hs, rs⟩ := xm_L S r1 h1
  rw [iD_map h2] at rs
  exact ⟨a, ns, rfl, by rw [← rs.ints]; exact SqL.of hs, h3, fun m k1 k2 => by
    have := mn_mem h3
    have e : m = mn ns := Int.le_antisymm (k2 _ this.1) (this.2 m k1)
    rw [e]
    exact hp.here (x := .f _) S (.int _) q⟩
theorem c_all : PurRL K (rAll K) pAll := by
  intro c F O ρ σ H Q Q' xs vs S r hm hp
  obtain ⟨x, ds, ns, rfl, h1, h2, q⟩ := hm
  obtain ⟨v, rfl, r1⟩ := xms1 r
  obtain ⟨a, vs, rfl, hs, rs⟩ := xm_L S r1 h1
  rw [bD_map h2] at rs
  exact ⟨a, ns, rfl, by rw [← rs.bls]; exact SqL.of hs, hp.here (x := .f _) S (.bl _) q⟩
theorem c_any : PurRL K (rAny K) pAny := by
  intro c F O ρ σ H Q Q' xs vs S r hm hp
  obtain ⟨x, ds, ns, rfl, h1, h2, q⟩ := hm
  obtain ⟨v, rfl, r1⟩ := xms1 r
  obtain ⟨a, vs, rfl, hs, rs⟩ := xm_L S r1 h1
  rw [bD_map h2] at rs
  exact ⟨a, ns, rfl, by rw [← rs.bls]; exact SqL.of hs, hp.here (x := .f _) S (.bl _) q⟩
def rStrI : List V → Hp → VK → Prop := fun xs H Q => ∃ i, xs = [.int i] ∧ i.natAbs.log2 < 1920 ∧ Q (.str (toString i)) H
theorem c_strI : PurRL K rStrI pStrI := by
  intro c F O ρ σ H Q Q' xs vs S r hm hp
  obtain ⟨i, rfl, h, q⟩ := hm
  obtain ⟨v, rfl, r1⟩ := xms1 r
  cases r1
  exact ⟨i, rfl, h, hp.here (x := .f _) S (.str _) q⟩
end
theorem c_maxK {X : L2.Cx} {K : PySem.W.Frag} (h : X.K = K) (hc : X.calm = true) : CallR X (.builtin "max") (rMax K) := h ▸ cr_max hc
theorem c_minK {X : L2.Cx} {K : PySem.W.Frag} (h : X.K = K) (hc : X.calm = true) : CallR X (.builtin "min") (rMin K) := h ▸ cr_min hc
theorem c_allK {X : L2.Cx} {K : PySem.W.Frag} (h : X.K = K) (hc : X.calm = true) : CallR X (.builtin "all") (rAll K) := h ▸ cr_all hc
theorem c_anyK {X : L2.Cx} {K : PySem.W.Frag} (h : X.K = K) (hc : X.calm = true) : CallR X (.builtin "any") (rAny K) := h ▸ cr_any hc
/-! isinstance of a built-in type -/
def kindX (x : X) (T : String) : Option Bool := match x with
  | .f (.int _) => kitB "int" T
  | .f (.bl _) => kitB "bool" T
  | .f (.str _) => kitB "str" T
  | .f .non => kitB "NoneType" T
  | .f (.lst _) => kitB "list" T
  | .f (.tup _) => kitB "tuple" T
  | .b (.lst _) => kitB "list" T
  | .q (.lst _) => kitB "list" T
  | .f (.dk _) => kitB "dict" T
  | .b (.dk _) => kitB "dict" T
  | .q (.dk _) => kitB "dict" T
  | _ => none
def pIsi (xs : List X) (Q : X → Prop) : Prop := ∃ x T b, xs = [x, .f (.ty T)] ∧ kindX x T = some b ∧ Q (.f (.bl b))
theorem kitk {K : PySem.W.Frag} {a b : String} {r : Bool} (h : kitB a b = some r) : PySem.W.kitOne K (.type a) (.type b) = some r := h
section
variable {K : PySem.W.Frag}
theorem tyt {H : Hp} {a : Addr} {vs : List V} (h : SqT K H a vs) : TyX K H (.ref a) (.type "tuple") := by
  rcases h with (h | ⟨o, h⟩) | ⟨o, its, n, h1, h2, _⟩
  · exact .base (.tup h)
  · exact .fTuple h
  · exact .kTuple h1 h2
theorem c_isi : PurRL K (rIsiW K) pIsi := by
  intro c F O ρ σ H Q Q' xs vs S r hm hp
  obtain ⟨x, T, b, rfl, hk, q⟩ := hm
  obtain ⟨v, w, rfl, r1, r2⟩ := xms2 r
  cases r2
  have fin := hp.here (x := .f (.bl b)) S (.bl b) q
  cases x with
  | f d =>
    cases d with
    | int i => cases r1; exact isi_i hk fin
    | bl i => cases r1; exact isi_b hk fin
    | str i => cases r1; exact isi_s hk fin
    | non => cases r1; exact isi_n hk fin
    | lst ds => cases r1 with | lst h1 h2 => exact isi_l (S.fh _ _ h1) hk fin
    | tup ds => cases r1 with | tup h1 h2 => exact ⟨_, _, .type "tuple", .type T, b, rfl, .ty T, tyt (sqt_ex S.fh h1), kitk hk, fin⟩
    | obj _ => cases hk
    | ty _ => cases hk
    | ins _ _ => cases hk
    | dt _ => cases hk
    | dk _ => cases r1 with | dk h1 h2 => exact ⟨_, _, .type "dict", .type T, b, rfl, .ty T, .base (.dK (S.fh _ _ h1)), kitk hk, fin⟩
  | b ds =>
    cases ds with
    | lst ds => obtain ⟨a, h, rfl, h1, _, h3⟩ := r1; obtain ⟨vs, rfl, h3⟩ := h3.lst_; exact isi_l h1 hk fin
    | dk ds =>
      obtain ⟨a, h, rfl, h1, _, h3⟩ := r1
      obtain ⟨fs, rfl, h3⟩ := h3
      exact ⟨_, _, .type "dict", .type T, b, rfl, .ty T, .base (.dK h1), kitk hk, fin⟩
    | _ => cases hk
  | q ds =>
    cases ds with
    | lst ds => obtain ⟨a, h, rfl, h1, h2, h3⟩ := r1; obtain ⟨vs, rfl, h3⟩ := h3.lst_; exact isi_l (S.gr.h _ _ h2 h1) hk fin
    | dk ds =>
      obtain ⟨a, h, rfl, h1, h2, h3⟩ := r1
      obtain ⟨fs, rfl, h3⟩ := h3
      exact ⟨_, _, .type "dict", .type T, b, rfl, .ty T, .base (.dK (S.gr.h _ _ h2 h1)), kitk hk, fin⟩
    | _ => cases hk
  | o ds => exact r1.elim
  | pl => cases hk
end
/-! truth -/
def truX (x : X) (k : Bool) : Prop := match x with
  | .f .non => k = false
  | .f (.bl b) => k = b
  | .f (.int i) => k = (i != 0)
  | .f (.str y) => y.length ≤ sizeLine ∧ k = ((y.length : Int) != 0)
  | .f (.lst ds) => k = !ds.isEmpty
  | .f (.tup ds) => k = !ds.isEmpty
  | .b (.lst ds) => k = !ds.isEmpty
  | .q (.lst ds) => k = !ds.isEmpty
  | _ => False
def kTru (Q : Bool → Prop) (x : X) : Prop := ∃ k, truX x.n k ∧ Q k
def mTru (me : ME) : MT := fun ρ Q => me ρ (kTru Q)
section
variable {K : PySem.W.Frag}
theorem Reps.isEmpty {F : Hp} {vs : List V} {ds : List D} (r : Reps K F vs ds) : vs.isEmpty = ds.isEmpty := by cases r <;> rfl
theorem t_tru {te : TE} {me : ME} (h : PurE K te me) : PurT K (tTru K te) (mTru me) := by
  intro c F O ρ σ H Q Q' S hm hp
  refine h.mid S hm fun F1 H1 x v g S1 r q => ?_
  obtain ⟨k, hk, q⟩ := q
  refine ⟨k, ?_, hp F1 H1 k g S1 q⟩
  generalize x.n = x at r hk
  cases x with
  | f d =>
    cases d with
    | int i => cases r; exact hk
    | bl i => cases r; exact hk
    | str i => cases r; exact hk
    | non => cases r; exact hk
    | lst ds => cases r with | lst h1 h2 => exact .inl ⟨_, SqL.of (S1.fh _ _ h1), by rw [h2.isEmpty]; exact hk⟩
    | tup ds => cases r with | tup h1 h2 => exact .inr (.inl ⟨_, sqt_ex S1.fh h1, by rw [h2.isEmpty]; exact hk⟩)
    | obj _ => exact hk.elim
    | ty _ => exact hk.elim
    | ins _ _ => exact hk.elim
    | dk _ => exact hk.elim
    | dt _ => exact hk.elim
  | b ds =>
    cases ds with
    | lst ds => obtain ⟨a, h, rfl, h1, _, h3⟩ := r; obtain ⟨vs, rfl, h3⟩ := h3.lst_; exact .inl ⟨_, SqL.of h1, by rw [h3.isEmpty]; exact hk⟩
    | _ => exact hk.elim
  | q ds =>
    cases ds with
    | lst ds => obtain ⟨a, h, rfl, h1, h2, h3⟩ := r; obtain ⟨vs, rfl, h3⟩ := h3.lst_; exact .inl ⟨_, SqL.of (S1.gr.h _ _ h2 h1), by rw [h3.isEmpty]; exact hk⟩
    | _ => exact hk.elim
  | o ds => exact r.elim
  | pl => exact hk.elim
end
end Pl
/-! Pl4: instances, methods, more statements, the law's own run. -/
namespace Pl
open PySem L2 Wp PyProof.Rows
/-! walked: a list or a tuple -/
def iAny (K : PySem.W.Frag) (tl : TE) : TI := fun σ H R => tl σ H fun x H1 => ∃ a, x = .ref a ∧ (((∃ xs, SqL K H1 a xs) ∧ R (Itl K a) H1) ∨ ((∃ xs, SqT K H1 a xs) ∧ R (Itt K a) H1))
section
variable {X : L2.Cx}
theorem pi_any {K : PySem.W.Frag} {tg l : Expr} {tl : TE} (hK : X.K = K) (hl : PE X l tl) : PI X tg l (iAny K tl) := by
  subst hK
  refine ⟨fun pins s σ H R I h => ?_⟩
  refine thn (hl.run pins s σ H _ I h) fun v s1 ⟨x, H1, I1, r1, q1⟩ => ?_
  obtain ⟨a, e, q⟩ := q1
  subst e
  cases r1
  rcases q with ⟨⟨xs, hq⟩, q⟩ | ⟨⟨xs, hq⟩, q⟩
  · obtain ⟨its, rv, p, hz⟩ := I1.list hq
    refine wpAny_pyIter_list p.isList ?_
    refine ⟨s1.heap.objs.size, [s1.heap.objs.size], _, _, H1, rfl, I1.kept (t' := s1.toks) fun b o e => Heap.get?_push_of_some _ e, turn_list a _, ⟨_, Heap.get?_push_size _ rfl, rfl, rfl⟩, fun b hb => ?_, q⟩
    have e : b = s1.heap.objs.size := by simpa using hb
    subst e
    exact I1.fpOk (Nat.le_refl _) (I1.hok.fresh (Nat.le_refl _))
  · obtain ⟨its, rv, p, hz⟩ := I1.tuple hq
    refine wpAny_pyIter_tuple (show s1.heap.IsTuple a its.toArray from p) ?_
    refine ⟨s1.heap.objs.size, [s1.heap.objs.size], _, _, H1, rfl, I1.kept (t' := s1.toks) fun b o e => Heap.get?_push_of_some _ e, turn_tuple a _, ⟨_, Heap.get?_push_size _ rfl, rfl, rfl⟩, fun b hb => ?_, q⟩
    have e : b = s1.heap.objs.size := by simpa using hb
    subst e
    exact I1.fpOk (Nat.le_refl _) (I1.hok.fresh (Nat.le_refl _))
/-- a op1 b op2 c op3 d, as a test -/
def tChain3 (r r' r'' : R2) (ta tb tc td : TE) : TT := fun σ H Q => ta σ H fun x H1 => tb σ H1 fun y H2 => r x y H2 fun z H3 => ∃ k, z = .bl k ∧
  (if k = true then tc σ H3 fun w H4 => r' y w H4 fun z H5 => ∃ k, z = .bl k ∧ (if k = true then td σ H5 fun u H6 => r'' w u H6 fun z H7 => ∃ k, z = .bl k ∧ Q k H7 else Q false H5) else Q false H3)
theorem pt_chain3 {op op' op'' : CmpOp} {r r' r'' : R2} {a b c d : Expr} {ta tb tc td : TE} {pos : Pos} (ho : OpR X (compareOp op) r) (ho' : OpR X (compareOp op') r') (ho'' : OpR X (compareOp op'') r'') (ha : PE X a ta) (hb : PE X b tb) (hc : PE X c tc) (hd : PE X d td)
    (hm : lastMarks [op, op', op''] [b, c, d] = false := by with_unfolding_all rfl) : PT X (.Compare a [op, op', op''] [b, c, d] pos) (tChain3 r r' r'' ta tb tc td) := by
  refine ⟨fun pins s σ H Q I h => ?_⟩
  refine isTrue_chain (thn (ha.run pins s σ H _ I h) fun v s1 ⟨x, H1, I1, r1, q1⟩ => test_link (thn (hb.run pins s1 σ H1 _ I1 q1) fun u s2 ⟨y, H2, I2, r2, q2⟩ =>
    thn (ho pins s2 σ H2 x y v u _ I2 r1 r2 q2) fun d s3 ⟨z, H3, I3, r3, k, e, q3⟩ => ?_)) hm
  subst e
  cases r3
  refine wpAny_truthy_bool ?_
  cases k with
  | false => exact ite_ff ⟨H3, I3, q3⟩
  | true =>
    refine ite_tt (test_link (thn (hc.run pins s3 σ H3 _ I3 q3) fun w' s4 ⟨z', H4, I4, r4, q4⟩ => thn (ho' pins s4 σ H4 y z' u w' _ I4 r2 r4 q4) fun d' s5 ⟨z2, H5, I5, r5, k2, e2, q5⟩ => ?_))
    subst e2
    cases r5
    refine wpAny_truthy_bool ?_
    cases k2 with
    | false => exact ite_ff ⟨H5, I5, q5⟩
    | true =>
      refine ite_tt (test_last (thn (hd.run pins s5 σ H5 _ I5 q5) fun w2 s6 ⟨z3, H6, I6, r6, q6⟩ => thn (ho'' pins s6 σ H6 z' z3 w' w2 _ I6 r4 r6 q6) fun d3 s7 ⟨z4, H7, I7, r7, k3, e3, q7⟩ => ?_))
      subst e3
      cases r7
      exact wpAny_truthy_bool ⟨H7, I7, q7⟩
end
def kIA (R : List D → Bool → Prop) (x : X) : Prop := itA x.n R
def mIA (me : ME) : MI := fun ρ R => me ρ (kIA R)
def kC5 (Q : Bool → Prop) (z : X) : Prop := ∃ b, z = .f (.bl b) ∧ Q b
def kC4 (r'' : X → X → (X → Prop) → Prop) (w : X) (Q : Bool → Prop) (u : X) : Prop := r'' w.n u.n (kC5 Q)
def kC3 (r'' : X → X → (X → Prop) → Prop) (md : ME) (w : X) (ρ : Env) (Q : Bool → Prop) (z : X) : Prop := ∃ b, z = .f (.bl b) ∧ pIf b (md ρ (kC4 r'' w Q)) (Q false)
def kC2 (r' r'' : X → X → (X → Prop) → Prop) (md : ME) (y : X) (ρ : Env) (Q : Bool → Prop) (w : X) : Prop := r' y.n w.n (kC3 r'' md w ρ Q)
def kC1 (r' r'' : X → X → (X → Prop) → Prop) (mc md : ME) (y : X) (ρ : Env) (Q : Bool → Prop) (z : X) : Prop := ∃ b, z = .f (.bl b) ∧ pIf b (mc ρ (kC2 r' r'' md y ρ Q)) (Q false)
def kCb (r r' r'' : X → X → (X → Prop) → Prop) (mc md : ME) (x : X) (ρ : Env) (Q : Bool → Prop) (y : X) : Prop := r x.n y.n (kC1 r' r'' mc md y ρ Q)
def kCa (r r' r'' : X → X → (X → Prop) → Prop) (mb mc md : ME) (ρ : Env) (Q : Bool → Prop) (x : X) : Prop := mb ρ (kCb r r' r'' mc md x ρ Q)
def mChain3 (r r' r'' : X → X → (X → Prop) → Prop) (ma mb mc md : ME) : MT := fun ρ Q => ma ρ (kCa r r' r'' mb mc md ρ Q)
section
variable {K : PySem.W.Frag}
theorem i_any {te : TE} {me : ME} (h : PurE K te me) : PurI K (iAny K te) (mIA me) := by
  intro c F O ρ σ H R R' S hm k
  refine h.mid S hm fun F1 H1 x v g S1 r q => ?_
  have q : itA x.n R' := q
  generalize x.n = y at r q
  by_cases ht : ∃ ds, y = .f (.tup ds)
  · obtain ⟨ds, rfl⟩ := ht
    cases r with
    | tup h1 h2 =>
      rename_i a vs
      refine ⟨a, rfl, .inr ⟨⟨vs, sqt_ex S1.fh h1⟩, k _ _ _ ds true g S1 ?_ q⟩⟩
      intro F O ρ σ H S e i
      have e : Ex F1 F := by simpa using e
      have hl := h2.length
      have sq := sqt_ex S.fh (sqt_ex e h1)
      refine ⟨fun hi => ⟨vs, vs[i]'(by omega), sq, List.getElem?_eq_getElem (by omega)⟩, fun hi => ⟨vs, sq, by omega⟩, fun d x H' hd hy => ?_⟩
      obtain ⟨rfl, hy⟩ := hy
      obtain ⟨v, h3, h4⟩ := h2.get hd
      have := hy vs sq
      rw [h3] at this
      cases this
      exact ⟨F, Gr.refl, S, h4.mono e⟩
  · have q2 : itX y R' := by
      cases y with
      | f d =>
        cases d with
        | tup ds => exact absurd ⟨ds, rfl⟩ ht
        | _ => exact q
      | b od => cases od <;> exact q
      | q od => cases od <;> exact q
      | _ => exact q
    obtain ⟨a, ds, st, rfl, q, ha⟩ := lst_of S1 r q2
    obtain ⟨vs, h1, h2⟩ := ha F1 O ρ σ H1 S1 (by cases st <;> simp [Ex.refl, Gr.refl])
    exact ⟨a, rfl, .inl ⟨⟨vs, SqL.of h1⟩, k _ _ _ _ _ g S1 (list_ok ha) q⟩⟩
theorem t_chain3 {r r2 r3 : R2} {r' r2' r3' : X → X → (X → Prop) → Prop} {ta tb tc td : TE} {ma mb mc md : ME} (hr : PurR2 K r r') (hr2 : PurR2 K r2 r2') (hr3 : PurR2 K r3 r3') (ha : PurE K ta ma) (hb : PurE K tb mb) (hc : PurE K tc mc) (hd : PurE K td md) : PurT K (tChain3 r r2 r3 ta tb tc td) (mChain3 r' r2' r3' ma mb mc md) := by
  intro c F O ρ σ H Q Q' S hm hp
  refine ha.mid S hm fun F1 H1 x v g1 S1 r1 h1 => ?_
  refine hb.mid S1 h1 fun F2 H2 y w g2 S2 r2 h2 => ?_
  have g12 := g1.trans g2
  refine hr c F2 O ρ σ H2 _ _ _ _ v w S2 (r1.grow g2) r2 h2 fun F3 H3 z u g3 S3 r3 q => ?_
  obtain ⟨b, rfl, q⟩ := q
  refine ⟨b, (by cases r3; rfl), ?_⟩
  cases b with
  | false => replace q := pif_F' q; exact hp F3 H3 _ (g12.trans g3) S3 q
  | true =>
    have g13 := g12.trans g3
    refine hc.mid S3 q fun F4 H4 s t g4 S4 r4 h4 => ?_
    refine hr2 c F4 O ρ σ H4 _ _ _ _ w t S4 (r2.grow (g3.trans g4)) r4 h4 fun F5 H5 z u g5 S5 r5 q => ?_
    obtain ⟨b, rfl, q⟩ := q
    refine ⟨b, (by cases r5; rfl), ?_⟩
    have g15 := g13.trans (g4.trans g5)
    cases b with
    | false => replace q := pif_F' q; exact hp F5 H5 _ g15 S5 q
    | true =>
      refine hd.mid S5 q fun F6 H6 s2 t2 g6 S6 r6 h6 => ?_
      refine hr3 c F6 O ρ σ H6 _ _ _ _ t t2 S6 (r4.grow (g5.trans g6)) r6 h6 fun F7 H7 z u g7 S7 r7 q => ?_
      obtain ⟨b, rfl, q⟩ := q
      exact ⟨b, (by cases r7; rfl), hp F7 H7 _ (g15.trans (g6.trans g7)) S7 q⟩
end
/-! returned: a variable -/
def rdV (s : Sl) (Q : X → Prop) : Prop := match s with
  | .fz d => Q (.f d)
  | .own ds => Q (.o ds)
  | .bor ds => Q (.q ds)
  | .pool => Q .pl
  | .slf C gs => Q (.b (.ins C gs))
  | .len ds => Q (.b ds)
  | .no => False
def mRetV (i : Nat) : MS := fun D ρ => rdV (getS ρ i) D.rt
/-! targets that are tuples -/
def kAsgG (mg : MG) (N : Env → Prop) (ρ : Env) (x : X) : Prop := ∃ d, x.n = .f d ∧ mg d ρ N
def mAsgG (me : ME) (mg : MG) : MS := fun D ρ => me ρ (kAsgG mg D.nx ρ)
section
variable {K : PySem.W.Frag}
theorem s_retV (i : Nat) : PurS K (tRet (tVar i)) (mRetV i) := by
  intro c F O ρ σ H D D' S R hm
  unfold mRetV at hm
  generalize e : getS ρ i = s at hm
  have hs : s ≠ .no := fun z => by subst z; exact hm
  have e1 := getS_some e hs
  have hi : i < σ.length := by rw [← S.len]; exact (List.getElem?_eq_some_iff.mp e1).1
  have e2 : σ[i]? = some σ[i] := List.getElem?_eq_getElem hi
  have q := S.sl i s _ e1 e2
  have fin : ∀ x v, XR K c F c.H0 H x v → D'.rt x → D.rt v H := fun x v r q => R.rt F H x v Ex.refl S.gr S.fh S.po r q
  cases s with
  | no => exact absurd rfl hs
  | fz d => obtain ⟨v, e3, r⟩ := q; exact ⟨v, by rw [e2, e3], fin (.f d) _ r hm⟩
  | own ds =>
    obtain ⟨a, vs, e3, h1, h2, r⟩ := q
    obtain ⟨k1, k2, k3⟩ := S.ow a i h1
    exact ⟨_, by rw [e2, e3], fin (.o ds) _ ⟨a, vs, rfl, k1, h2, k2, r.mono Ex.refl fun b o z => ⟨(S.ow b i z.1).1, (S.ow b i z.1).2.1, z.2⟩⟩ hm⟩
  | bor ds => obtain ⟨a, vs, e3, h1, h2, r⟩ := q; exact ⟨_, by rw [e2, e3], fin (.q ds) _ ⟨a, vs, rfl, h1, h2.1, r⟩ hm⟩
  | len ds => obtain ⟨a, vs, e3, h0, h1, h2, r⟩ := q; exact ⟨_, by rw [e2, e3], fin (.b ds) _ ⟨a, vs, rfl, h2, S.own_np h1, r.mono Ex.refl (fun b o z => ⟨S.own_np z.1, z.2⟩) id⟩ hm⟩
  | slf C gs => obtain ⟨a, dx, fs, e, e3, h1, h2, r⟩ := q; exact ⟨_, by rw [e2, e3], fin (.b (.ins C gs)) _ ⟨a, _, rfl, h2, S.own_np h1, rfl, r⟩ hm⟩
  | pool => obtain ⟨p, l, h1, e3⟩ := q; exact ⟨_, by rw [e2, e3], fin .pl _ ⟨p, l, h1, rfl⟩ hm⟩
theorem s_asgG {te : TE} {me : ME} {ts : List Nat} {g : TG} {mg : MG} (h : PurE K te me) (hg : PurG K ts g mg) : PurS K (tAsg te g) (mAsgG me mg) := by
  intro c F O ρ σ H D D' S R hm
  refine h.mid S hm fun F1 H1 x v g1 S1 r q => ?_
  obtain ⟨d, e, q⟩ := q
  rw [e] at r
  exact hg.run c F1 O ρ σ H1 v d _ _ S1 r q fun ρ' σ' S' _ _ q' => R.nx _ _ _ _ _ g1.f S' q'
end
/-! attributes -/
def putD (f : Str) (v : D) : List (Str × D) → List (Str × D)
  | [] => [(f, v)]
  | (g, x) :: r => if g = f then (g, v) :: r else (g, x) :: putD f v r
theorem lookup_putD (f g : Str) (v : D) : ∀ fs : List (Str × D), (putD f v fs).lookup g = if g = f then some v else fs.lookup g
  | [] => by
    show List.lookup g [(f, v)] = _
    by_cases h : g = f
    · have hb : (g == f) = true := beq_iff_eq.mpr h
      simp only [List.lookup, hb, if_pos h]
    · have hb : (g == f) = false := beq_eq_false_iff_ne.mpr h
      simp only [List.lookup, hb, if_neg h]
  | (k, x) :: r => by
    have ih := lookup_putD f g v r
    rw [show putD f v ((k, x) :: r) = (if k = f then (k, v) :: r else (k, x) :: putD f v r) from rfl]
    by_cases hk : k = f
    · rw [if_pos hk]
      subst hk
      by_cases h : g = k
      · have hb : (g == k) = true := beq_iff_eq.mpr h
        simp only [List.lookup, hb, if_pos h]
      · have hb : (g == k) = false := beq_eq_false_iff_ne.mpr h
        simp only [List.lookup, hb, if_neg h]
    · rw [if_neg hk]
      by_cases h : g = k
      · have hb : (g == k) = true := beq_iff_eq.mpr h
        simp only [List.lookup, hb]
        rw [if_neg (by rw [h]; exact hk)]
      · have hb : (g == k) = false := beq_eq_false_iff_ne.mpr h
        simp only [List.lookup, hb]
        exact ih
theorem putD_len (f : Str) (v : D) : ∀ fs : List (Str × D), (putD f v fs).length ≤ fs.length + 1
  | [] => Nat.le_refl _
  | (g, x) :: r => by
    unfold putD
    split
    · exact Nat.le_succ _
    · exact Nat.succ_le_succ (putD_len f v r)
def X.ins : X → Option (Addr × List (Str × D))
  | .f (.ins C gs) => some (C, gs)
  | .b (.ins C gs) => some (C, gs)
  | .q (.ins C gs) => some (C, gs)
  | _ => none
def kFld (C : Addr) (f : Str) (Q : X → Prop) (x : X) : Prop := ∃ gs d, x.n.ins = some (C, gs) ∧ gs.lookup f = some d ∧ Q (.f d)
def mFld (C : Addr) (f : Str) (ma : ME) : ME := fun ρ Q => ma ρ (kFld C f Q)
def kSfld (i : Nat) (C : Addr) (f : Str) (N : Env → Prop) (ρ : Env) (y : X) : Prop := ∃ d gs, y.n = .f d ∧ getS ρ i = .slf C gs ∧ gs.length < 1000 ∧ N (ρ.set i (.slf C (putD f d gs)))
def mSfld (i : Nat) (C : Addr) (f : Str) (me : ME) : MS := fun D ρ => me ρ (kSfld i C f D.nx ρ)
section
variable {K : PySem.W.Frag}
theorem RepF.put {F : Hp} {f : Str} {v : V} {d : D} (h : Rep K F v d) : ∀ {fs : List (Str × V)} {gs : List (Str × D)}, RepF K F fs gs → RepF K F (putF f v fs) (putD f d gs)
  | _, _, .nil => .cons h .nil
  | (g, _) :: _, _, .cons q r => by
    unfold putF putD
    split
    · exact .cons h r
    · exact .cons q (RepF.put h r)
theorem RepF.length {F : Hp} : ∀ {fs : List (Str × V)} {gs : List (Str × D)}, RepF K F fs gs → fs.length = gs.length
  | _, _, .nil => rfl
  | _, _, .cons q r => by rw [List.length_cons, List.length_cons, RepF.length r]
theorem xm_I {c F H O ρ σ} {x : X} {v : V} {C : Addr} {gs : List (Str × D)} (S : Sim K c F O ρ σ H) (r : XM K c F H x v) (e : x.ins = some (C, gs)) : ∃ a dx fs, v = .ref a ∧ H a = some (.ins C dx fs) ∧ RepF K F fs gs := by
  cases x with
  | f d =>
    cases d with
    | ins C' es => cases e; cases r with | ins h1 h2 => exact ⟨_, _, _, rfl, S.fh _ _ h1, h2⟩
    | _ => cases e
  | b od =>
    cases od with
    | ins C' es => cases e; obtain ⟨a, h, rfl, h1, _, h3⟩ := r; cases h <;> first | exact h3.elim | (obtain ⟨rfl, h3⟩ := h3; exact ⟨_, _, _, rfl, h1, h3⟩)
    | _ => cases e
  | q od =>
    cases od with
    | ins C' es => cases e; obtain ⟨a, h, rfl, h1, h2, h3⟩ := r; cases h <;> first | exact h3.elim | (obtain ⟨rfl, h3⟩ := h3; exact ⟨_, _, _, rfl, S.gr.h _ _ h2 h1, h3⟩)
    | _ => cases e
  | o od => exact r.elim
  | pl => cases e
theorem e_fld {C : Addr} {f : Str} {ta : TE} {ma : ME} (hc : Cls K C) (hn : NoAttr K C f) (h : PurE K ta ma) : PurE K (tFld K ta f) (mFld C f ma) := by
  intro c F O ρ σ H Q Q' S hm hp
  refine h.mid S hm fun F1 H1 x v g S1 r q => ?_
  obtain ⟨gs, d, h1, h2, q⟩ := q
  obtain ⟨a, dx, fs, rfl, h3, h4⟩ := xm_I S1 r h1
  obtain ⟨u, h5, h6⟩ := h4.look h2
  exact ⟨a, C, dx, fs, u, rfl, h3, hc, hn, h5, (hp.trans g).here (x := .f d) S1 h6 q⟩
theorem s_sfld {i : Nat} {C : Addr} {f : Str} {te : TE} {me : ME} (hc : Cls K C) (hn : NoAttr K C f) (h : PurE K te me) : PurS K (sFld K (tVar i) te f) (mSfld i C f me) := by
  intro c F O ρ σ H D D' S R hm
  refine h.mid S hm fun F1 H1 x v g S1 r q => ?_
  obtain ⟨d, gs, e, hs, hz, q⟩ := q
  rw [e] at r
  have e1 := getS_some hs (fun z => by cases z)
  have hi : i < σ.length := by rw [← S1.len]; exact (List.getElem?_eq_some_iff.mp e1).1
  have e2 : σ[i]? = some σ[i] := List.getElem?_eq_getElem hi
  obtain ⟨a, dx, fs, cs, e3, h1, h2, h3⟩ := S1.sl i _ _ e1 e2
  refine ⟨_, by rw [e2, e3], a, C, dx, fs, rfl, h2, hc, hn, by rw [h3.length]; exact hz, ?_⟩
  refine R.nx F1 O (ρ.set i (.slf C (putD f d gs))) σ _ g.f ?_ q
  have r3 := RepF.put (f := f) r h3
  -- as mutO, the slot stays the instance's own
  obtain ⟨k1, k2, k3⟩ := S1.ow a i h1
  have np := S1.own_np h1
  have dm : ∀ b, H1 b ≠ none → upd H1 a (.ins C dx (putF f v fs)) b ≠ none := fun b h => by
    unfold upd
    split
    · exact some_ne rfl
    · exact h
  refine ⟨⟨S1.gr.f, S1.gr.n, fun b o n h => u_ne (ne_of_none h k1) (S1.gr.h b o n h), fun b h => dm b (S1.gr.d b h)⟩, fun b o h => u_ne (fun z => by rw [z, k2] at h; cases h) (S1.fh b o h), fun p l e => ⟨(S1.po p l e).1.upd (np p l e) (fun z => (S1.pd p l e).2 (by rw [← z]; exact k1)), (S1.po p l e).2⟩, S1.pd, fun b j h => ?_, by rw [List.length_set, S1.len], fun j t o ht ho => ?_⟩
  · obtain ⟨m1, m2, m3⟩ := S1.ow b j h
    exact ⟨m1, m2, dm b m3⟩
  · by_cases e0 : i = j
    · subst e0
      rw [e2] at ho
      cases ho
      have hl : i < ρ.length := by rw [S1.len]; exact hi
      rw [List.getElem?_set_self hl] at ht
      cases ht
      exact ⟨a, dx, _, cs, e3, h1, upd_same, r3⟩
    · rw [List.getElem?_set_ne e0] at ht
      have q := S1.sl j t o ht ho
      cases t with
      | own es =>
        obtain ⟨b, ws, e, k1, k2, k3⟩ := q
        exact ⟨b, ws, e, k1, u_ne (fun z => e0 (by rw [z, h1] at k1; exact Option.some.inj k1)) k2, k3.mono Ex.refl fun b' o' z => ⟨z.1, u_ne (fun y => e0 (Option.some.inj (h1.symm.trans (y ▸ z.1)))) z.2⟩⟩
      | len es =>
        obtain ⟨b, ws, e, k0, k1, k2, k3⟩ := q
        exact ⟨b, ws, e, k0, k1, u_ne (fun z => e0 (by rw [z, h1] at k1; exact Option.some.inj k1)) k2, k3.mono Ex.refl (fun b' o' z => ⟨z.1, u_ne (fun y => e0 (Option.some.inj (h1.symm.trans (y ▸ z.1)))) z.2⟩) id⟩
      | slf C' gs' =>
        obtain ⟨b, dx', fs', e, e2', k1, k2, k3⟩ := q
        exact ⟨b, dx', fs', e, e2', k1, u_ne (fun z => e0 (by rw [z, h1] at k1; exact Option.some.inj k1)) k2, k3⟩
      | no => exact q
      | fz d => exact q
      | bor d => exact q
      | pool => exact q
end
/-! an instance made -/
def hide (a : Addr) (H : Hp) : Hp := fun b => if b = a then none else H b
def liftI (K : PySem.W.Frag) (C : Addr) (sp : List X → (X → Prop) → Prop) : Sp := fun vs H Q _ => ∃ (a dx : Addr) (us : List V) (F : Hp) (P : Option (Addr × Addr)) (xs : List X) (Q' : X → Prop), vs = .ref a :: us ∧ H a = some (.ins C dx []) ∧ F a = none ∧ NP P a ∧ Ex F H ∧ PO P F H ∧
  XMs K (mkC (hide a H) F P) F (hide a H) xs us ∧ sp xs Q' ∧ ∀ F' H' fs gs, Gr P F (hide a H) F' (hide a H') → Ex F' H' → PO P F' H' → F' a = none → H' a = some (.ins C dx fs) → RepF K F' fs gs → Q' (.f (.ins C gs)) → Q .non H'
section
variable {K : PySem.W.Frag}
theorem hide_ne {a b : Addr} {H : Hp} (h : b ≠ a) : hide a H b = H b := if_neg h
theorem hide_same {a : Addr} {H : Hp} : hide a H a = none := if_pos rfl
theorem hide_of {a b : Addr} {H : Hp} {o : HO} (h : hide a H b = some o) : b ≠ a ∧ H b = some o := by
  unfold hide at h
  split at h
  · cases h
  · rename_i e; exact ⟨e, h⟩
theorem xms_hide {P : Option (Addr × Addr)} {F F' H H' : Hp} {a : Addr} (ez : ∀ b, F b = none → F' b = none) (ef : Ex F F') (eh : ∀ b o, NP P b → H b = some o → hide a H' b = some o) : ∀ {xs : List X} {vs : List V}, XMs K (mkC H F P) F H xs vs → XMs K (mkC (hide a H') F' P) F' (hide a H') xs vs
  | [], [], _ => trivial
  | x :: xs, v :: vs, r => ⟨by
    cases x with
    | f d => exact Rep.mono ef r.1
    | b ds => obtain ⟨a, ws, e, h1, h2, q⟩ := r.1; exact ⟨a, ws, e, eh _ _ h2 h1, h2, q.mono ef (fun b o z => ⟨z.1, eh b o z.1 z.2⟩) (ez a)⟩
    | q ds => obtain ⟨a, ws, e, h1, h2, q⟩ := r.1; exact ⟨a, ws, e, eh _ _ h2 h1, h2, q.mono ef (fun b o z => ⟨z.1, eh b o z.1 z.2⟩) (ez a)⟩
    | o ds => exact r.1
    | pl => exact r.1, xms_hide ez ef eh r.2⟩
  | [], _ :: _, r => r.elim
  | _ :: _, [], r => r.elim
theorem e_make {n : Nat} {t : TA} {m : MA} {C : Addr} {sp : List X → (X → Prop) → Prop} {E : XK} (bs : List Bool) (h : PurA K n t m) : PurE K (tMake C (liftI K C sp) [] E t) (mCall bs sp m) := by
  intro c F O ρ σ H Q Q' S hm hp
  refine h c F O ρ σ H _ _ S hm fun F1 H1 xs vs g1 S1 r1 e q => ?_
  intro x dx hx hdx hne
  rw [List.append_nil]
  have np : NP c.P x := S1.new_np hx
  have hx' : H1 x = none := hx
  have eh : ∀ b o, NP c.P b → H1 b = some o → hide x (upd (upd H1 dx (.own x)) x (.ins C dx [])) b = some o := fun b o n h => by
    have h1 : b ≠ x := ne_of_none h hx
    have h2 : b ≠ dx := ne_of_none h hdx
    rw [hide_ne h1, upd_ne h1, upd_ne h2]
    exact h
  have fx : F1 x = none := S1.fh.free hx
  have fdx : F1 dx = none := S1.fh.free hdx
  refine ⟨x, dx, vs, F1, c.P, _, Q', rfl, upd_same, fx, np, ?_, ?_, xms_hide (H := H1) (fun _ z => z) Ex.refl eh (xms_v (c := mkC H1 F1 c.P) (bs := bs) S1.fh S1.po (xms_p S1.gr.n S1.gr.h r1)), q, ?_⟩
  · exact (S1.fh.new hdx).new (by rw [upd_ne hne.symm]; exact hx)
  · exact (S1.po.newH hdx).newH (by rw [upd_ne hne.symm]; exact hx)
  · intro F' H' fs gs g fh po fx' hxx rf q
    have ex : Ex F' (upd F' x (.ins C dx fs)) := Ex.refl.new fx'
    have g2 : Gr c.P F1 H1 (upd F' x (.ins C dx fs)) H' := by
      refine ⟨g.f.trans ex, fun b hb => ?_, fun b o n hb => ?_, fun b hb => ?_⟩
      · have h1 : b ≠ x := fun z => hb (by rw [z]; exact hx)
        rw [upd_ne h1]
        refine g.n b ?_
        rw [hide_ne h1, upd_ne h1]
        unfold upd
        split
        · exact some_ne rfl
        · exact hb
      · exact (hide_of (g.h b o n (eh b o n hb))).2
      · have h1 : b ≠ x := fun z => hb (by rw [z]; exact hx)
        have := g.d b (by
          rw [hide_ne h1, upd_ne h1]
          unfold upd
          split
          · exact some_ne rfl
          · exact hb)
        rw [hide_ne h1] at this
        exact this
    have fh2 : Ex (upd F' x (.ins C dx fs)) H' := fun b o hb => by
      unfold upd at hb
      split at hb
      · rename_i z; rw [z]; cases hb; exact hxx
      · exact fh b o hb
    have po2 : PO c.P (upd F' x (.ins C dx fs)) H' := fun p l e => ⟨(po p l e).1, (upd_ne (fun z => np p l e z.symm)).trans (po p l e).2⟩
    exact ⟨rfl, (hp.trans g1) _ H' (.f (.ins C gs)) _ g2 (S1.grow g2 fh2 po2) (.ins upd_same (rf.mono ex)) q⟩
theorem fn_init {t : TS} {m : MS} {C : Addr} {sp : List X → (X → Prop) → Prop} {vs : List V} {H : Hp} {Q : VK} {E : XK} {N : List Str} (hl : liftI K C sp vs H Q E) (hb : PurS K t m)
    (hp : ∀ xs Q', sp xs Q' → m ⟨fun ρ => ∃ gs, getS ρ 0 = .slf C gs ∧ Q' (.f (.ins C gs)), fun _ => False, fun _ => False, fun _ => False⟩ (.slf C [] :: startE (N.length - 1) xs)) : t { nx := fun _ H' => Q .non H', rt := Q } (L2.start N vs) H := by
  obtain ⟨a, dx, us, F, P, xs, Q', rfl, ha, fa, np, fh, po, r, hs, k⟩ := hl
  have fh2 : Ex F (hide a H) := fun b o h => by rw [hide_ne (fun z => by rw [z, fa] at h; cases h)]; exact fh b o h
  have po2 : PO P F (hide a H) := fun p l e => by
    obtain ⟨⟨ns, i, x, y, z, h1, h2, h3⟩, q⟩ := po p l e
    refine ⟨⟨ns, i, x, y, z, by rw [hide_ne (fun z => np p l e z.symm)]; exact h1, ?_, h3⟩, q⟩
    rw [hide_ne (fun z => by rw [z, ha] at h2; cases h2)]
    exact h2
  have r2 := r
  have hl := xms_len r2
  have S : Sim K ⟨hide a H, F, P, some (a, dx), fun _ => none, fun i => paV us (i - 1)⟩ F (fun b => if b = a then some 0 else none) (.slf C [] :: startE (N.length - 1) xs) (L2.start N (.ref a :: us)) H := by
    refine ⟨⟨Ex.refl, fun _ _ => rfl, fun b o n h => (hide_of h).2, fun b h => ?_⟩, fh, po, fun p l e => ⟨PoolL.ne0 (po2 p l e).1, PoolL.ne1 (po2 p l e).1⟩, fun b i h => ?_, ?_, fun i s o hs ho => ?_⟩
    · intro z
      apply h
      show hide a H b = none
      unfold hide
      split
      · rfl
      · exact z
    · split at h
      · rename_i z; subst z; exact ⟨hide_same, fa, some_ne ha⟩
      · cases h
    · unfold startE L2.start
      simp [hl]
      omega
    · cases i with
      | zero =>
        simp at hs
        subst hs
        unfold L2.start at ho
        simp at ho
        subst ho
        exact ⟨a, dx, [], rfl, rfl, if_pos rfl, ha, .nil⟩
      | succ i =>
        have hs : (startE (N.length - 1) xs)[i]? = some s := by simpa using hs
        have ho : (us.map some ++ List.replicate (N.length - 1 - us.length) none)[i]? = some o := by
          unfold L2.start at ho
          simp only [List.map_cons, List.cons_append, List.getElem?_cons_succ, List.length_cons] at ho
          rw [show N.length - 1 - us.length = N.length - (us.length + 1) by omega]
          exact ho
        unfold startE at hs
        by_cases hi : i < xs.length
        · rw [List.getElem?_append_left (by simpa using hi)] at hs
          rw [List.getElem?_append_left (by simpa [← hl] using hi)] at ho
          have q := start_ok (S := some (a, dx)) (Ln := fun _ => none) (pa := fun i => paV us (i - 1)) (fun _ => none) i s o r2 hs ho (i + 1) fun b hb => (by show paV us (i + 1 - 1) = some b; unfold paV; rw [Nat.add_sub_cancel, hb])
          cases s with
          | own es => obtain ⟨b, ws, e, k1, k2, k3⟩ := q; cases k1
          | len es => obtain ⟨b, ws, e, k0, k1, k2, k3⟩ := q; cases k1
          | slf C' gs' => obtain ⟨b, dx', fs', e, e2', k1, k2, k3⟩ := q; cases k1
          | no => exact q
          | fz d => exact q
          | bor d => exact q
          | pool => exact q
        · rw [List.getElem?_append_right (by simpa using Nat.le_of_not_lt hi)] at hs
          obtain ⟨h1, h2⟩ := List.getElem?_eq_some_iff.mp hs
          rw [List.getElem_replicate] at h2
          subst h2
          trivial
  refine hb _ F _ _ _ H _ _ S ⟨?_, ?_, ?_, ?_⟩ (hp xs Q' hs)
  · rintro F' O ρ σ H' e S' ⟨gs, hg, q⟩
    have e1 := getS_some hg (fun z => by cases z)
    have hi : 0 < σ.length := by rw [← S'.len]; exact (List.getElem?_eq_some_iff.mp e1).1
    have e2 : σ[0]? = some σ[0] := List.getElem?_eq_getElem hi
    obtain ⟨a', dx', fs, cs, e3, h1, h2, h3⟩ := S'.sl 0 _ _ e1 e2
    cases cs
    obtain ⟨k1, k2, k3⟩ := S'.ow a 0 h1
    refine k F' H' fs gs ⟨S'.gr.f, S'.gr.n, fun b o n h => ?_, fun b h => ?_⟩ S'.fh S'.po k2 h2 h3 q
    · rw [hide_ne (hide_of h).1]; exact S'.gr.h b o n h
    · have : b ≠ a := fun z => h (by rw [z]; exact hide_same)
      rw [hide_ne this]
      exact S'.gr.d b h
  · exact fun F' O ρ σ H' e S q => q.elim
  · exact fun F' O ρ σ H' e S q => q.elim
  · exact fun F' H' x v e g fh' po' r q => q.elim
theorem liftI_len {C : Addr} {sp : List X → (X → Prop) → Prop} {n : Nat} (h : ∀ xs Q, sp xs Q → xs.length = n) {vs H Q E} (hl : liftI K C sp vs H Q E) : vs.length = n + 1 := by
  obtain ⟨a, dx, us, F, P, xs, Q', rfl, ha, fa, np, fh, po, r, hs, k⟩ := hl
  rw [List.length_cons, ← xms_len r]
  exact congrArg (· + 1) (h xs Q' hs)
/-- o.m(..) -/
def kMeth2 (bs : List Bool) (sp : List X → (X → Prop) → Prop) (x : X) (Q : X → Prop) (xs : List X) : Prop := sp (viewX bs (x.n.p :: xs.map X.p)) Q
def kMeth1 (bs : List Bool) (C : Addr) (m : Str) (sp : List X → (X → Prop) → Prop) (mt : MA) (ρ : Env) (Q : X → Prop) (x : X) : Prop := ∃ gs, x.n.ins = some (C, gs) ∧ gs.lookup m = none ∧ mt ρ (kMeth2 bs sp x Q)
def mMeth (bs : List Bool) (C : Addr) (m : Str) (sp : List X → (X → Prop) → Prop) (ma : ME) (mt : MA) : ME := fun ρ Q => ma ρ (kMeth1 bs C m sp mt ρ Q)
theorem e_meth {n : Nat} {C : Addr} {m : Str} {sp : List X → (X → Prop) → Prop} {E : XK} {ta : TE} {ma : ME} {t : TA} {mt : MA} (bs : List Bool) (ha : PurE K ta ma) (h : PurA K n t mt) : PurE K (tMeth C m (lift K sp) [] E ta t) (mMeth bs C m sp ma mt) := by
  intro c F O ρ σ H Q Q' S hm hp
  refine ha.mid S hm fun F1 H1 x v g1 S1 r1 q => ?_
  obtain ⟨gs, h1, h2, q⟩ := q
  obtain ⟨a, dx, fs, rfl, h3, h4⟩ := xm_I S1 r1 h1
  refine ⟨a, dx, fs, rfl, h3, h4.no h2, ?_⟩
  refine h c F1 O ρ σ H1 _ _ S1 q fun F2 H2 xs vs g2 S2 r2 e q => ?_
  rw [List.append_nil]
  have rr : XMs K c F2 H2 (x.n :: xs) (.ref a :: vs) := ⟨r1.grow g2, r2⟩
  refine ⟨F2, c.P, _, Q', S2.fh, S2.po, xms_v (c := mkC H2 F2 c.P) (bs := bs) S2.fh S2.po (xms_p S2.gr.n S2.gr.h rr), q, fun F' H' x v g fh po hg r q => ?_⟩
  refine ((hp.trans g1).trans g2) F' H' x v g (S2.grow g fh po) ?_ q
  cases x with
  | q ds => cases hg
  | _ => exact r
end
/-- a method with arguments, as others call it -/
theorem DefM.call {X : L2.Cx} {k : Nat} {C : Addr} {m : Str} {ps : List Str} {sp : Sp} {o e : Expr} {es : List Expr} {ta : TE} {t : TA} {apos pos : Pos} {pl : Sem Bool} (G : DefM X.prog X.w X.K X.mg X.base k C m ps sp) (hr : Room k X.A) (ho : PE X o ta) (ha : PA X (e :: es) t)
    (hst : starEach (e :: es) X.env = (false, eval e X.env) :: starEach es X.env := by rfl) (hpl : (backTo pos (starEach es X.env)).any (·.1) = false := by rfl)
    (ht : eval (.Call (.Attribute o m apos) (e :: es) [] pos) X.env = (do
      let ov ← eval o X.env
      standAt apos.atName
      let (f, first) ← holding [ov] (getMethod ov m pl)
      callWith pos f first (backTo pos (starEach (e :: es) X.env)) (backToKw pos (keywordEach [] X.env))) := by rfl) :
    PE X (.Call (.Attribute o m apos) (e :: es) [] pos) (tMeth C m sp [] (fun _ _ _ => False) ta t) := by
  refine ⟨fun pins s σ H Q I h => ?_⟩
  obtain ⟨f, fd, c, hm, F, hb⟩ := G.ex
  exact (pe_meth ho c hm F hr hb .nil (fun _ _ _ _ _ _ _ h => h.elim) ha hst hpl ht).run pins s σ H Q I h
/-! the laws' draws, as contracts -/
def pDraw (xs : List X) (Q : X → Prop) : Prop := ∃ m, xs = [.pl, .f (.int m)] ∧ 0 < m ∧ m < 2 ^ 199 ∧ ∀ r, 0 ≤ r → r < m → Q (.f (.int r))
theorem draw_of {K : PySem.W.Frag} {vs : List V} {H : Hp} {Q : VK} {E : XK} (h : lift K pDraw vs H Q E) : spDrawL vs H Q E := by
  obtain ⟨F, P, xs, Q', fh, po, r, ⟨m, rfl, m0, m9, q⟩, k⟩ := h
  obtain ⟨v, w, rfl, ⟨p, l, e, rfl⟩, r2⟩ := xms2 r
  cases r2
  obtain ⟨hp, fp⟩ := po p l e
  refine ⟨p, m, rfl, l, hp, m0, ?_, fun r H' r0 r9 hp' bt => ?_⟩
  · have : (2 : Int) ^ 199 < ((2 ^ 200 : Nat) : Int) := by decide
    omega
  · refine k F H' (.f (.int r)) _ ⟨Ex.refl, fun _ _ => rfl, fun b o n hb => (bt b (n p l e)).trans hb, fun b hb => ?_⟩ (fun b o hb => (bt b (fun z => by rw [z, fp] at hb; cases hb)).trans (fh b o hb)) (fun p' l' e' => ?_) rfl (.int r) (q r r0 r9)
    · by_cases z : b = p
      · rw [z]; exact PoolL.ne0 hp'
      · rw [bt b z]; exact hb
    · have e : P = some (p, l) := e
      rw [e] at e'; cases e'; exact ⟨hp', fp⟩
theorem DefL.draw {P : Program} {w : World} {K : PySem.W.Frag} {mg : Str → Option Value} {base : Heap} {k : Nat} {x : Str} {ps : List Str} (G : Def P w K mg base k x ps spDrawL) : Def P w K mg base k x ps (lift K pDraw) := by
  obtain ⟨f, fd, F, h⟩ := G.ex
  exact ⟨f, fd, F.imp fun _ _ _ _ h => draw_of h, h⟩
/-! the law -/
def spLawL (K : PySem.W.Frag) : Sp := fun vs H Q _ => ∃ (a : Addr) (ns : List Int), vs = [.ref a] ∧ SqL K H a (ns.map V.int) ∧ ns.length ≤ 63 ∧ ∀ H', Q (.bl true) H'
def Pd.law : Pd := ⟨fun _ => False, fun x => x = .f (.bl true), fun _ => False, fun _ => False⟩
theorem law_run {K : PySem.W.Frag} {t : TS} {m : MS} {vs : List V} {H : Hp} {Q : VK} {E : XK} {E1 : XK} {N : List Str} (hl : spLawL K vs H Q E) (hb : PurS K t m) (hm : m Pd.law (.no :: .pool :: List.replicate (N.length - 2) .no)) (hN : 2 ≤ N.length := by decide) :
    (tSeq (tAsg (tCall (spPoolL K) [] E1 (tCons (tVar 0) tNil)) (gName 1)) t) { nx := fun _ H' => Q .non H', rt := Q } (L2.start N vs) H := by
  obtain ⟨a, ns, rfl, hS, hz, k⟩ := hl
  refine ⟨.ref a, by unfold L2.start; simp, a, ns, rfl, hS, fun p l H1 p0 l0 e1 hp => ?_⟩
  have S : Sim K (mkC H1 (fun _ => none) (some (p, l))) (fun _ => none) (fun _ => none) (.no :: .pool :: List.replicate (N.length - 2) .no) ((L2.start N [.ref a]).set 1 (some (.ref p))) H1 := by
    refine ⟨Gr.refl, (fun b o h => by cases h), (fun p' l' e => ?_), (fun p' l' e => ?_), (fun a i h => by cases h), ?_, fun i s o hs ho => ?_⟩
    · cases e; exact ⟨hp, rfl⟩
    · cases e; exact ⟨PoolL.ne0 hp, PoolL.ne1 hp⟩
    · unfold L2.start; simp; omega
    · match i with
      | 0 => simp at hs; subst hs; trivial
      | 1 =>
        simp at hs
        subst hs
        rw [List.getElem?_set_self (by unfold L2.start; simp; omega)] at ho
        cases ho
        exact ⟨p, l, rfl, rfl⟩
      | i + 2 =>
        have hs : (List.replicate (N.length - 2) Sl.no)[i]? = some s := by simpa using hs
        obtain ⟨h1, h2⟩ := List.getElem?_eq_some_iff.mp hs
        rw [List.getElem_replicate] at h2
        subst h2
        trivial
  refine hb _ _ _ _ _ H1 _ Pd.law S ⟨?_, ?_, ?_, ?_⟩ hm
  · exact fun F' O ρ σ H' e S q => q.elim
  · exact fun F' O ρ σ H' e S q => q.elim
  · exact fun F' O ρ σ H' e S q => q.elim
  · rintro F' H' x v e g fh' po' r rfl
    cases r
    exact k H'
end Pl
/-! Pl5: the readings as plain formulas. -/
namespace Pl
open PySem L2 Wp PyProof.Rows
theorem g0 {b : Sl} {l : Env} : getS (b :: l) 0 = b := rfl
theorem g1 {b : Sl} {l : Env} {a0 : Sl} : getS (a0 :: b :: l) 1 = b := rfl
theorem g2 {b : Sl} {l : Env} {a0 : Sl} {a1 : Sl} : getS (a0 :: a1 :: b :: l) 2 = b := rfl
theorem g3 {b : Sl} {l : Env} {a0 : Sl} {a1 : Sl} {a2 : Sl} : getS (a0 :: a1 :: a2 :: b :: l) 3 = b := rfl
theorem g4 {b : Sl} {l : Env} {a0 : Sl} {a1 : Sl} {a2 : Sl} {a3 : Sl} : getS (a0 :: a1 :: a2 :: a3 :: b :: l) 4 = b := rfl
theorem g5 {b : Sl} {l : Env} {a0 : Sl} {a1 : Sl} {a2 : Sl} {a3 : Sl} {a4 : Sl} : getS (a0 :: a1 :: a2 :: a3 :: a4 :: b :: l) 5 = b := rfl
theorem g6 {b : Sl} {l : Env} {a0 : Sl} {a1 : Sl} {a2 : Sl} {a3 : Sl} {a4 : Sl} {a5 : Sl} : getS (a0 :: a1 :: a2 :: a3 :: a4 :: a5 :: b :: l) 6 = b := rfl
theorem g7 {b : Sl} {l : Env} {a0 : Sl} {a1 : Sl} {a2 : Sl} {a3 : Sl} {a4 : Sl} {a5 : Sl} {a6 : Sl} : getS (a0 :: a1 :: a2 :: a3 :: a4 :: a5 :: a6 :: b :: l) 7 = b := rfl
theorem g8 {b : Sl} {l : Env} {a0 : Sl} {a1 : Sl} {a2 : Sl} {a3 : Sl} {a4 : Sl} {a5 : Sl} {a6 : Sl} {a7 : Sl} : getS (a0 :: a1 :: a2 :: a3 :: a4 :: a5 :: a6 :: a7 :: b :: l) 8 = b := rfl
theorem g9 {b : Sl} {l : Env} {a0 : Sl} {a1 : Sl} {a2 : Sl} {a3 : Sl} {a4 : Sl} {a5 : Sl} {a6 : Sl} {a7 : Sl} {a8 : Sl} : getS (a0 :: a1 :: a2 :: a3 :: a4 :: a5 :: a6 :: a7 :: a8 :: b :: l) 9 = b := rfl
theorem g10 {b : Sl} {l : Env} {a0 : Sl} {a1 : Sl} {a2 : Sl} {a3 : Sl} {a4 : Sl} {a5 : Sl} {a6 : Sl} {a7 : Sl} {a8 : Sl} {a9 : Sl} : getS (a0 :: a1 :: a2 :: a3 :: a4 :: a5 :: a6 :: a7 :: a8 :: a9 :: b :: l) 10 = b := rfl
theorem g11 {b : Sl} {l : Env} {a0 : Sl} {a1 : Sl} {a2 : Sl} {a3 : Sl} {a4 : Sl} {a5 : Sl} {a6 : Sl} {a7 : Sl} {a8 : Sl} {a9 : Sl} {a10 : Sl} : getS (a0 :: a1 :: a2 :: a3 :: a4 :: a5 :: a6 :: a7 :: a8 :: a9 :: a10 :: b :: l) 11 = b := rfl
theorem g12 {b : Sl} {l : Env} {a0 : Sl} {a1 : Sl} {a2 : Sl} {a3 : Sl} {a4 : Sl} {a5 : Sl} {a6 : Sl} {a7 : Sl} {a8 : Sl} {a9 : Sl} {a10 : Sl} {a11 : Sl} : getS (a0 :: a1 :: a2 :: a3 :: a4 :: a5 :: a6 :: a7 :: a8 :: a9 :: a10 :: a11 :: b :: l) 12 = b := rfl
theorem g13 {b : Sl} {l : Env} {a0 : Sl} {a1 : Sl} {a2 : Sl} {a3 : Sl} {a4 : Sl} {a5 : Sl} {a6 : Sl} {a7 : Sl} {a8 : Sl} {a9 : Sl} {a10 : Sl} {a11 : Sl} {a12 : Sl} : getS (a0 :: a1 :: a2 :: a3 :: a4 :: a5 :: a6 :: a7 :: a8 :: a9 :: a10 :: a11 :: a12 :: b :: l) 13 = b := rfl
theorem g14 {b : Sl} {l : Env} {a0 : Sl} {a1 : Sl} {a2 : Sl} {a3 : Sl} {a4 : Sl} {a5 : Sl} {a6 : Sl} {a7 : Sl} {a8 : Sl} {a9 : Sl} {a10 : Sl} {a11 : Sl} {a12 : Sl} {a13 : Sl} : getS (a0 :: a1 :: a2 :: a3 :: a4 :: a5 :: a6 :: a7 :: a8 :: a9 :: a10 :: a11 :: a12 :: a13 :: b :: l) 14 = b := rfl
theorem g15 {b : Sl} {l : Env} {a0 : Sl} {a1 : Sl} {a2 : Sl} {a3 : Sl} {a4 : Sl} {a5 : Sl} {a6 : Sl} {a7 : Sl} {a8 : Sl} {a9 : Sl} {a10 : Sl} {a11 : Sl} {a12 : Sl} {a13 : Sl} {a14 : Sl} : getS (a0 :: a1 :: a2 :: a3 :: a4 :: a5 :: a6 :: a7 :: a8 :: a9 :: a10 :: a11 :: a12 :: a13 :: a14 :: b :: l) 15 = b := rfl
theorem g16 {b : Sl} {l : Env} {a0 : Sl} {a1 : Sl} {a2 : Sl} {a3 : Sl} {a4 : Sl} {a5 : Sl} {a6 : Sl} {a7 : Sl} {a8 : Sl} {a9 : Sl} {a10 : Sl} {a11 : Sl} {a12 : Sl} {a13 : Sl} {a14 : Sl} {a15 : Sl} : getS (a0 :: a1 :: a2 :: a3 :: a4 :: a5 :: a6 :: a7 :: a8 :: a9 :: a10 :: a11 :: a12 :: a13 :: a14 :: a15 :: b :: l) 16 = b := rfl
theorem g17 {b : Sl} {l : Env} {a0 : Sl} {a1 : Sl} {a2 : Sl} {a3 : Sl} {a4 : Sl} {a5 : Sl} {a6 : Sl} {a7 : Sl} {a8 : Sl} {a9 : Sl} {a10 : Sl} {a11 : Sl} {a12 : Sl} {a13 : Sl} {a14 : Sl} {a15 : Sl} {a16 : Sl} : getS (a0 :: a1 :: a2 :: a3 :: a4 :: a5 :: a6 :: a7 :: a8 :: a9 :: a10 :: a11 :: a12 :: a13 :: a14 :: a15 :: a16 :: b :: l) 17 = b := rfl
theorem g18 {b : Sl} {l : Env} {a0 : Sl} {a1 : Sl} {a2 : Sl} {a3 : Sl} {a4 : Sl} {a5 : Sl} {a6 : Sl} {a7 : Sl} {a8 : Sl} {a9 : Sl} {a10 : Sl} {a11 : Sl} {a12 : Sl} {a13 : Sl} {a14 : Sl} {a15 : Sl} {a16 : Sl} {a17 : Sl} : getS (a0 :: a1 :: a2 :: a3 :: a4 :: a5 :: a6 :: a7 :: a8 :: a9 :: a10 :: a11 :: a12 :: a13 :: a14 :: a15 :: a16 :: a17 :: b :: l) 18 = b := rfl
theorem g19 {b : Sl} {l : Env} {a0 : Sl} {a1 : Sl} {a2 : Sl} {a3 : Sl} {a4 : Sl} {a5 : Sl} {a6 : Sl} {a7 : Sl} {a8 : Sl} {a9 : Sl} {a10 : Sl} {a11 : Sl} {a12 : Sl} {a13 : Sl} {a14 : Sl} {a15 : Sl} {a16 : Sl} {a17 : Sl} {a18 : Sl} : getS (a0 :: a1 :: a2 :: a3 :: a4 :: a5 :: a6 :: a7 :: a8 :: a9 :: a10 :: a11 :: a12 :: a13 :: a14 :: a15 :: a16 :: a17 :: a18 :: b :: l) 19 = b := rfl
theorem g20 {b : Sl} {l : Env} {a0 : Sl} {a1 : Sl} {a2 : Sl} {a3 : Sl} {a4 : Sl} {a5 : Sl} {a6 : Sl} {a7 : Sl} {a8 : Sl} {a9 : Sl} {a10 : Sl} {a11 : Sl} {a12 : Sl} {a13 : Sl} {a14 : Sl} {a15 : Sl} {a16 : Sl} {a17 : Sl} {a18 : Sl} {a19 : Sl} : getS (a0 :: a1 :: a2 :: a3 :: a4 :: a5 :: a6 :: a7 :: a8 :: a9 :: a10 :: a11 :: a12 :: a13 :: a14 :: a15 :: a16 :: a17 :: a18 :: a19 :: b :: l) 20 = b := rfl
theorem g21 {b : Sl} {l : Env} {a0 : Sl} {a1 : Sl} {a2 : Sl} {a3 : Sl} {a4 : Sl} {a5 : Sl} {a6 : Sl} {a7 : Sl} {a8 : Sl} {a9 : Sl} {a10 : Sl} {a11 : Sl} {a12 : Sl} {a13 : Sl} {a14 : Sl} {a15 : Sl} {a16 : Sl} {a17 : Sl} {a18 : Sl} {a19 : Sl} {a20 : Sl} : getS (a0 :: a1 :: a2 :: a3 :: a4 :: a5 :: a6 :: a7 :: a8 :: a9 :: a10 :: a11 :: a12 :: a13 :: a14 :: a15 :: a16 :: a17 :: a18 :: a19 :: a20 :: b :: l) 21 = b := rfl
theorem g22 {b : Sl} {l : Env} {a0 : Sl} {a1 : Sl} {a2 : Sl} {a3 : Sl} {a4 : Sl} {a5 : Sl} {a6 : Sl} {a7 : Sl} {a8 : Sl} {a9 : Sl} {a10 : Sl} {a11 : Sl} {a12 : Sl} {a13 : Sl} {a14 : Sl} {a15 : Sl} {a16 : Sl} {a17 : Sl} {a18 : Sl} {a19 : Sl} {a20 : Sl} {a21 : Sl} : getS (a0 :: a1 :: a2 :: a3 :: a4 :: a5 :: a6 :: a7 :: a8 :: a9 :: a10 :: a11 :: a12 :: a13 :: a14 :: a15 :: a16 :: a17 :: a18 :: a19 :: a20 :: a21 :: b :: l) 22 = b := rfl
theorem g23 {b : Sl} {l : Env} {a0 : Sl} {a1 : Sl} {a2 : Sl} {a3 : Sl} {a4 : Sl} {a5 : Sl} {a6 : Sl} {a7 : Sl} {a8 : Sl} {a9 : Sl} {a10 : Sl} {a11 : Sl} {a12 : Sl} {a13 : Sl} {a14 : Sl} {a15 : Sl} {a16 : Sl} {a17 : Sl} {a18 : Sl} {a19 : Sl} {a20 : Sl} {a21 : Sl} {a22 : Sl} : getS (a0 :: a1 :: a2 :: a3 :: a4 :: a5 :: a6 :: a7 :: a8 :: a9 :: a10 :: a11 :: a12 :: a13 :: a14 :: a15 :: a16 :: a17 :: a18 :: a19 :: a20 :: a21 :: a22 :: b :: l) 23 = b := rfl
theorem g24 {b : Sl} {l : Env} {a0 : Sl} {a1 : Sl} {a2 : Sl} {a3 : Sl} {a4 : Sl} {a5 : Sl} {a6 : Sl} {a7 : Sl} {a8 : Sl} {a9 : Sl} {a10 : Sl} {a11 : Sl} {a12 : Sl} {a13 : Sl} {a14 : Sl} {a15 : Sl} {a16 : Sl} {a17 : Sl} {a18 : Sl} {a19 : Sl} {a20 : Sl} {a21 : Sl} {a22 : Sl} {a23 : Sl} : getS (a0 :: a1 :: a2 :: a3 :: a4 :: a5 :: a6 :: a7 :: a8 :: a9 :: a10 :: a11 :: a12 :: a13 :: a14 :: a15 :: a16 :: a17 :: a18 :: a19 :: a20 :: a21 :: a22 :: a23 :: b :: l) 24 = b := rfl
theorem g25 {b : Sl} {l : Env} {a0 : Sl} {a1 : Sl} {a2 : Sl} {a3 : Sl} {a4 : Sl} {a5 : Sl} {a6 : Sl} {a7 : Sl} {a8 : Sl} {a9 : Sl} {a10 : Sl} {a11 : Sl} {a12 : Sl} {a13 : Sl} {a14 : Sl} {a15 : Sl} {a16 : Sl} {a17 : Sl} {a18 : Sl} {a19 : Sl} {a20 : Sl} {a21 : Sl} {a22 : Sl} {a23 : Sl} {a24 : Sl} : getS (a0 :: a1 :: a2 :: a3 :: a4 :: a5 :: a6 :: a7 :: a8 :: a9 :: a10 :: a11 :: a12 :: a13 :: a14 :: a15 :: a16 :: a17 :: a18 :: a19 :: a20 :: a21 :: a22 :: a23 :: a24 :: b :: l) 25 = b := rfl
theorem g26 {b : Sl} {l : Env} {a0 : Sl} {a1 : Sl} {a2 : Sl} {a3 : Sl} {a4 : Sl} {a5 : Sl} {a6 : Sl} {a7 : Sl} {a8 : Sl} {a9 : Sl} {a10 : Sl} {a11 : Sl} {a12 : Sl} {a13 : Sl} {a14 : Sl} {a15 : Sl} {a16 : Sl} {a17 : Sl} {a18 : Sl} {a19 : Sl} {a20 : Sl} {a21 : Sl} {a22 : Sl} {a23 : Sl} {a24 : Sl} {a25 : Sl} : getS (a0 :: a1 :: a2 :: a3 :: a4 :: a5 :: a6 :: a7 :: a8 :: a9 :: a10 :: a11 :: a12 :: a13 :: a14 :: a15 :: a16 :: a17 :: a18 :: a19 :: a20 :: a21 :: a22 :: a23 :: a24 :: a25 :: b :: l) 26 = b := rfl
theorem g27 {b : Sl} {l : Env} {a0 : Sl} {a1 : Sl} {a2 : Sl} {a3 : Sl} {a4 : Sl} {a5 : Sl} {a6 : Sl} {a7 : Sl} {a8 : Sl} {a9 : Sl} {a10 : Sl} {a11 : Sl} {a12 : Sl} {a13 : Sl} {a14 : Sl} {a15 : Sl} {a16 : Sl} {a17 : Sl} {a18 : Sl} {a19 : Sl} {a20 : Sl} {a21 : Sl} {a22 : Sl} {a23 : Sl} {a24 : Sl} {a25 : Sl} {a26 : Sl} : getS (a0 :: a1 :: a2 :: a3 :: a4 :: a5 :: a6 :: a7 :: a8 :: a9 :: a10 :: a11 :: a12 :: a13 :: a14 :: a15 :: a16 :: a17 :: a18 :: a19 :: a20 :: a21 :: a22 :: a23 :: a24 :: a25 :: a26 :: b :: l) 27 = b := rfl
theorem g28 {b : Sl} {l : Env} {a0 : Sl} {a1 : Sl} {a2 : Sl} {a3 : Sl} {a4 : Sl} {a5 : Sl} {a6 : Sl} {a7 : Sl} {a8 : Sl} {a9 : Sl} {a10 : Sl} {a11 : Sl} {a12 : Sl} {a13 : Sl} {a14 : Sl} {a15 : Sl} {a16 : Sl} {a17 : Sl} {a18 : Sl} {a19 : Sl} {a20 : Sl} {a21 : Sl} {a22 : Sl} {a23 : Sl} {a24 : Sl} {a25 : Sl} {a26 : Sl} {a27 : Sl} : getS (a0 :: a1 :: a2 :: a3 :: a4 :: a5 :: a6 :: a7 :: a8 :: a9 :: a10 :: a11 :: a12 :: a13 :: a14 :: a15 :: a16 :: a17 :: a18 :: a19 :: a20 :: a21 :: a22 :: a23 :: a24 :: a25 :: a26 :: a27 :: b :: l) 28 = b := rfl
theorem g29 {b : Sl} {l : Env} {a0 : Sl} {a1 : Sl} {a2 : Sl} {a3 : Sl} {a4 : Sl} {a5 : Sl} {a6 : Sl} {a7 : Sl} {a8 : Sl} {a9 : Sl} {a10 : Sl} {a11 : Sl} {a12 : Sl} {a13 : Sl} {a14 : Sl} {a15 : Sl} {a16 : Sl} {a17 : Sl} {a18 : Sl} {a19 : Sl} {a20 : Sl} {a21 : Sl} {a22 : Sl} {a23 : Sl} {a24 : Sl} {a25 : Sl} {a26 : Sl} {a27 : Sl} {a28 : Sl} : getS (a0 :: a1 :: a2 :: a3 :: a4 :: a5 :: a6 :: a7 :: a8 :: a9 :: a10 :: a11 :: a12 :: a13 :: a14 :: a15 :: a16 :: a17 :: a18 :: a19 :: a20 :: a21 :: a22 :: a23 :: a24 :: a25 :: a26 :: a27 :: a28 :: b :: l) 29 = b := rfl
theorem g30 {b : Sl} {l : Env} {a0 : Sl} {a1 : Sl} {a2 : Sl} {a3 : Sl} {a4 : Sl} {a5 : Sl} {a6 : Sl} {a7 : Sl} {a8 : Sl} {a9 : Sl} {a10 : Sl} {a11 : Sl} {a12 : Sl} {a13 : Sl} {a14 : Sl} {a15 : Sl} {a16 : Sl} {a17 : Sl} {a18 : Sl} {a19 : Sl} {a20 : Sl} {a21 : Sl} {a22 : Sl} {a23 : Sl} {a24 : Sl} {a25 : Sl} {a26 : Sl} {a27 : Sl} {a28 : Sl} {a29 : Sl} : getS (a0 :: a1 :: a2 :: a3 :: a4 :: a5 :: a6 :: a7 :: a8 :: a9 :: a10 :: a11 :: a12 :: a13 :: a14 :: a15 :: a16 :: a17 :: a18 :: a19 :: a20 :: a21 :: a22 :: a23 :: a24 :: a25 :: a26 :: a27 :: a28 :: a29 :: b :: l) 30 = b := rfl
theorem g31 {b : Sl} {l : Env} {a0 : Sl} {a1 : Sl} {a2 : Sl} {a3 : Sl} {a4 : Sl} {a5 : Sl} {a6 : Sl} {a7 : Sl} {a8 : Sl} {a9 : Sl} {a10 : Sl} {a11 : Sl} {a12 : Sl} {a13 : Sl} {a14 : Sl} {a15 : Sl} {a16 : Sl} {a17 : Sl} {a18 : Sl} {a19 : Sl} {a20 : Sl} {a21 : Sl} {a22 : Sl} {a23 : Sl} {a24 : Sl} {a25 : Sl} {a26 : Sl} {a27 : Sl} {a28 : Sl} {a29 : Sl} {a30 : Sl} : getS (a0 :: a1 :: a2 :: a3 :: a4 :: a5 :: a6 :: a7 :: a8 :: a9 :: a10 :: a11 :: a12 :: a13 :: a14 :: a15 :: a16 :: a17 :: a18 :: a19 :: a20 :: a21 :: a22 :: a23 :: a24 :: a25 :: a26 :: a27 :: a28 :: a29 :: a30 :: b :: l) 31 = b := rfl
theorem g32 {b : Sl} {l : Env} {a0 : Sl} {a1 : Sl} {a2 : Sl} {a3 : Sl} {a4 : Sl} {a5 : Sl} {a6 : Sl} {a7 : Sl} {a8 : Sl} {a9 : Sl} {a10 : Sl} {a11 : Sl} {a12 : Sl} {a13 : Sl} {a14 : Sl} {a15 : Sl} {a16 : Sl} {a17 : Sl} {a18 : Sl} {a19 : Sl} {a20 : Sl} {a21 : Sl} {a22 : Sl} {a23 : Sl} {a24 : Sl} {a25 : Sl} {a26 : Sl} {a27 : Sl} {a28 : Sl} {a29 : Sl} {a30 : Sl} {a31 : Sl} : getS (a0 :: a1 :: a2 :: a3 :: a4 :: a5 :: a6 :: a7 :: a8 :: a9 :: a10 :: a11 :: a12 :: a13 :: a14 :: a15 :: a16 :: a17 :: a18 :: a19 :: a20 :: a21 :: a22 :: a23 :: a24 :: a25 :: a26 :: a27 :: a28 :: a29 :: a30 :: a31 :: b :: l) 32 = b := rfl
theorem g33 {b : Sl} {l : Env} {a0 : Sl} {a1 : Sl} {a2 : Sl} {a3 : Sl} {a4 : Sl} {a5 : Sl} {a6 : Sl} {a7 : Sl} {a8 : Sl} {a9 : Sl} {a10 : Sl} {a11 : Sl} {a12 : Sl} {a13 : Sl} {a14 : Sl} {a15 : Sl} {a16 : Sl} {a17 : Sl} {a18 : Sl} {a19 : Sl} {a20 : Sl} {a21 : Sl} {a22 : Sl} {a23 : Sl} {a24 : Sl} {a25 : Sl} {a26 : Sl} {a27 : Sl} {a28 : Sl} {a29 : Sl} {a30 : Sl} {a31 : Sl} {a32 : Sl} : getS (a0 :: a1 :: a2 :: a3 :: a4 :: a5 :: a6 :: a7 :: a8 :: a9 :: a10 :: a11 :: a12 :: a13 :: a14 :: a15 :: a16 :: a17 :: a18 :: a19 :: a20 :: a21 :: a22 :: a23 :: a24 :: a25 :: a26 :: a27 :: a28 :: a29 :: a30 :: a31 :: a32 :: b :: l) 33 = b := rfl
theorem g34 {b : Sl} {l : Env} {a0 : Sl} {a1 : Sl} {a2 : Sl} {a3 : Sl} {a4 : Sl} {a5 : Sl} {a6 : Sl} {a7 : Sl} {a8 : Sl} {a9 : Sl} {a10 : Sl} {a11 : Sl} {a12 : Sl} {a13 : Sl} {a14 : Sl} {a15 : Sl} {a16 : Sl} {a17 : Sl} {a18 : Sl} {a19 : Sl} {a20 : Sl} {a21 : Sl} {a22 : Sl} {a23 : Sl} {a24 : Sl} {a25 : Sl} {a26 : Sl} {a27 : Sl} {a28 : Sl} {a29 : Sl} {a30 : Sl} {a31 : Sl} {a32 : Sl} {a33 : Sl} : getS (a0 :: a1 :: a2 :: a3 :: a4 :: a5 :: a6 :: a7 :: a8 :: a9 :: a10 :: a11 :: a12 :: a13 :: a14 :: a15 :: a16 :: a17 :: a18 :: a19 :: a20 :: a21 :: a22 :: a23 :: a24 :: a25 :: a26 :: a27 :: a28 :: a29 :: a30 :: a31 :: a32 :: a33 :: b :: l) 34 = b := rfl
theorem g35 {b : Sl} {l : Env} {a0 : Sl} {a1 : Sl} {a2 : Sl} {a3 : Sl} {a4 : Sl} {a5 : Sl} {a6 : Sl} {a7 : Sl} {a8 : Sl} {a9 : Sl} {a10 : Sl} {a11 : Sl} {a12 : Sl} {a13 : Sl} {a14 : Sl} {a15 : Sl} {a16 : Sl} {a17 : Sl} {a18 : Sl} {a19 : Sl} {a20 : Sl} {a21 : Sl} {a22 : Sl} {a23 : Sl} {a24 : Sl} {a25 : Sl} {a26 : Sl} {a27 : Sl} {a28 : Sl} {a29 : Sl} {a30 : Sl} {a31 : Sl} {a32 : Sl} {a33 : Sl} {a34 : Sl} : getS (a0 :: a1 :: a2 :: a3 :: a4 :: a5 :: a6 :: a7 :: a8 :: a9 :: a10 :: a11 :: a12 :: a13 :: a14 :: a15 :: a16 :: a17 :: a18 :: a19 :: a20 :: a21 :: a22 :: a23 :: a24 :: a25 :: a26 :: a27 :: a28 :: a29 :: a30 :: a31 :: a32 :: a33 :: a34 :: b :: l) 35 = b := rfl
theorem g36 {b : Sl} {l : Env} {a0 : Sl} {a1 : Sl} {a2 : Sl} {a3 : Sl} {a4 : Sl} {a5 : Sl} {a6 : Sl} {a7 : Sl} {a8 : Sl} {a9 : Sl} {a10 : Sl} {a11 : Sl} {a12 : Sl} {a13 : Sl} {a14 : Sl} {a15 : Sl} {a16 : Sl} {a17 : Sl} {a18 : Sl} {a19 : Sl} {a20 : Sl} {a21 : Sl} {a22 : Sl} {a23 : Sl} {a24 : Sl} {a25 : Sl} {a26 : Sl} {a27 : Sl} {a28 : Sl} {a29 : Sl} {a30 : Sl} {a31 : Sl} {a32 : Sl} {a33 : Sl} {a34 : Sl} {a35 : Sl} : getS (a0 :: a1 :: a2 :: a3 :: a4 :: a5 :: a6 :: a7 :: a8 :: a9 :: a10 :: a11 :: a12 :: a13 :: a14 :: a15 :: a16 :: a17 :: a18 :: a19 :: a20 :: a21 :: a22 :: a23 :: a24 :: a25 :: a26 :: a27 :: a28 :: a29 :: a30 :: a31 :: a32 :: a33 :: a34 :: a35 :: b :: l) 36 = b := rfl
theorem g37 {b : Sl} {l : Env} {a0 : Sl} {a1 : Sl} {a2 : Sl} {a3 : Sl} {a4 : Sl} {a5 : Sl} {a6 : Sl} {a7 : Sl} {a8 : Sl} {a9 : Sl} {a10 : Sl} {a11 : Sl} {a12 : Sl} {a13 : Sl} {a14 : Sl} {a15 : Sl} {a16 : Sl} {a17 : Sl} {a18 : Sl} {a19 : Sl} {a20 : Sl} {a21 : Sl} {a22 : Sl} {a23 : Sl} {a24 : Sl} {a25 : Sl} {a26 : Sl} {a27 : Sl} {a28 : Sl} {a29 : Sl} {a30 : Sl} {a31 : Sl} {a32 : Sl} {a33 : Sl} {a34 : Sl} {a35 : Sl} {a36 : Sl} : getS (a0 :: a1 :: a2 :: a3 :: a4 :: a5 :: a6 :: a7 :: a8 :: a9 :: a10 :: a11 :: a12 :: a13 :: a14 :: a15 :: a16 :: a17 :: a18 :: a19 :: a20 :: a21 :: a22 :: a23 :: a24 :: a25 :: a26 :: a27 :: a28 :: a29 :: a30 :: a31 :: a32 :: a33 :: a34 :: a35 :: a36 :: b :: l) 37 = b := rfl
theorem g38 {b : Sl} {l : Env} {a0 : Sl} {a1 : Sl} {a2 : Sl} {a3 : Sl} {a4 : Sl} {a5 : Sl} {a6 : Sl} {a7 : Sl} {a8 : Sl} {a9 : Sl} {a10 : Sl} {a11 : Sl} {a12 : Sl} {a13 : Sl} {a14 : Sl} {a15 : Sl} {a16 : Sl} {a17 : Sl} {a18 : Sl} {a19 : Sl} {a20 : Sl} {a21 : Sl} {a22 : Sl} {a23 : Sl} {a24 : Sl} {a25 : Sl} {a26 : Sl} {a27 : Sl} {a28 : Sl} {a29 : Sl} {a30 : Sl} {a31 : Sl} {a32 : Sl} {a33 : Sl} {a34 : Sl} {a35 : Sl} {a36 : Sl} {a37 : Sl} : getS (a0 :: a1 :: a2 :: a3 :: a4 :: a5 :: a6 :: a7 :: a8 :: a9 :: a10 :: a11 :: a12 :: a13 :: a14 :: a15 :: a16 :: a17 :: a18 :: a19 :: a20 :: a21 :: a22 :: a23 :: a24 :: a25 :: a26 :: a27 :: a28 :: a29 :: a30 :: a31 :: a32 :: a33 :: a34 :: a35 :: a36 :: a37 :: b :: l) 38 = b := rfl
theorem g39 {b : Sl} {l : Env} {a0 : Sl} {a1 : Sl} {a2 : Sl} {a3 : Sl} {a4 : Sl} {a5 : Sl} {a6 : Sl} {a7 : Sl} {a8 : Sl} {a9 : Sl} {a10 : Sl} {a11 : Sl} {a12 : Sl} {a13 : Sl} {a14 : Sl} {a15 : Sl} {a16 : Sl} {a17 : Sl} {a18 : Sl} {a19 : Sl} {a20 : Sl} {a21 : Sl} {a22 : Sl} {a23 : Sl} {a24 : Sl} {a25 : Sl} {a26 : Sl} {a27 : Sl} {a28 : Sl} {a29 : Sl} {a30 : Sl} {a31 : Sl} {a32 : Sl} {a33 : Sl} {a34 : Sl} {a35 : Sl} {a36 : Sl} {a37 : Sl} {a38 : Sl} : getS (a0 :: a1 :: a2 :: a3 :: a4 :: a5 :: a6 :: a7 :: a8 :: a9 :: a10 :: a11 :: a12 :: a13 :: a14 :: a15 :: a16 :: a17 :: a18 :: a19 :: a20 :: a21 :: a22 :: a23 :: a24 :: a25 :: a26 :: a27 :: a28 :: a29 :: a30 :: a31 :: a32 :: a33 :: a34 :: a35 :: a36 :: a37 :: a38 :: b :: l) 39 = b := rfl
theorem g40 {b : Sl} {l : Env} {a0 : Sl} {a1 : Sl} {a2 : Sl} {a3 : Sl} {a4 : Sl} {a5 : Sl} {a6 : Sl} {a7 : Sl} {a8 : Sl} {a9 : Sl} {a10 : Sl} {a11 : Sl} {a12 : Sl} {a13 : Sl} {a14 : Sl} {a15 : Sl} {a16 : Sl} {a17 : Sl} {a18 : Sl} {a19 : Sl} {a20 : Sl} {a21 : Sl} {a22 : Sl} {a23 : Sl} {a24 : Sl} {a25 : Sl} {a26 : Sl} {a27 : Sl} {a28 : Sl} {a29 : Sl} {a30 : Sl} {a31 : Sl} {a32 : Sl} {a33 : Sl} {a34 : Sl} {a35 : Sl} {a36 : Sl} {a37 : Sl} {a38 : Sl} {a39 : Sl} : getS (a0 :: a1 :: a2 :: a3 :: a4 :: a5 :: a6 :: a7 :: a8 :: a9 :: a10 :: a11 :: a12 :: a13 :: a14 :: a15 :: a16 :: a17 :: a18 :: a19 :: a20 :: a21 :: a22 :: a23 :: a24 :: a25 :: a26 :: a27 :: a28 :: a29 :: a30 :: a31 :: a32 :: a33 :: a34 :: a35 :: a36 :: a37 :: a38 :: a39 :: b :: l) 40 = b := rfl
theorem g41 {b : Sl} {l : Env} {a0 : Sl} {a1 : Sl} {a2 : Sl} {a3 : Sl} {a4 : Sl} {a5 : Sl} {a6 : Sl} {a7 : Sl} {a8 : Sl} {a9 : Sl} {a10 : Sl} {a11 : Sl} {a12 : Sl} {a13 : Sl} {a14 : Sl} {a15 : Sl} {a16 : Sl} {a17 : Sl} {a18 : Sl} {a19 : Sl} {a20 : Sl} {a21 : Sl} {a22 : Sl} {a23 : Sl} {a24 : Sl} {a25 : Sl} {a26 : Sl} {a27 : Sl} {a28 : Sl} {a29 : Sl} {a30 : Sl} {a31 : Sl} {a32 : Sl} {a33 : Sl} {a34 : Sl} {a35 : Sl} {a36 : Sl} {a37 : Sl} {a38 : Sl} {a39 : Sl} {a40 : Sl} : getS (a0 :: a1 :: a2 :: a3 :: a4 :: a5 :: a6 :: a7 :: a8 :: a9 :: a10 :: a11 :: a12 :: a13 :: a14 :: a15 :: a16 :: a17 :: a18 :: a19 :: a20 :: a21 :: a22 :: a23 :: a24 :: a25 :: a26 :: a27 :: a28 :: a29 :: a30 :: a31 :: a32 :: a33 :: a34 :: a35 :: a36 :: a37 :: a38 :: a39 :: a40 :: b :: l) 41 = b := rfl
theorem g42 {b : Sl} {l : Env} {a0 : Sl} {a1 : Sl} {a2 : Sl} {a3 : Sl} {a4 : Sl} {a5 : Sl} {a6 : Sl} {a7 : Sl} {a8 : Sl} {a9 : Sl} {a10 : Sl} {a11 : Sl} {a12 : Sl} {a13 : Sl} {a14 : Sl} {a15 : Sl} {a16 : Sl} {a17 : Sl} {a18 : Sl} {a19 : Sl} {a20 : Sl} {a21 : Sl} {a22 : Sl} {a23 : Sl} {a24 : Sl} {a25 : Sl} {a26 : Sl} {a27 : Sl} {a28 : Sl} {a29 : Sl} {a30 : Sl} {a31 : Sl} {a32 : Sl} {a33 : Sl} {a34 : Sl} {a35 : Sl} {a36 : Sl} {a37 : Sl} {a38 : Sl} {a39 : Sl} {a40 : Sl} {a41 : Sl} : getS (a0 :: a1 :: a2 :: a3 :: a4 :: a5 :: a6 :: a7 :: a8 :: a9 :: a10 :: a11 :: a12 :: a13 :: a14 :: a15 :: a16 :: a17 :: a18 :: a19 :: a20 :: a21 :: a22 :: a23 :: a24 :: a25 :: a26 :: a27 :: a28 :: a29 :: a30 :: a31 :: a32 :: a33 :: a34 :: a35 :: a36 :: a37 :: a38 :: a39 :: a40 :: a41 :: b :: l) 42 = b := rfl
theorem g43 {b : Sl} {l : Env} {a0 : Sl} {a1 : Sl} {a2 : Sl} {a3 : Sl} {a4 : Sl} {a5 : Sl} {a6 : Sl} {a7 : Sl} {a8 : Sl} {a9 : Sl} {a10 : Sl} {a11 : Sl} {a12 : Sl} {a13 : Sl} {a14 : Sl} {a15 : Sl} {a16 : Sl} {a17 : Sl} {a18 : Sl} {a19 : Sl} {a20 : Sl} {a21 : Sl} {a22 : Sl} {a23 : Sl} {a24 : Sl} {a25 : Sl} {a26 : Sl} {a27 : Sl} {a28 : Sl} {a29 : Sl} {a30 : Sl} {a31 : Sl} {a32 : Sl} {a33 : Sl} {a34 : Sl} {a35 : Sl} {a36 : Sl} {a37 : Sl} {a38 : Sl} {a39 : Sl} {a40 : Sl} {a41 : Sl} {a42 : Sl} : getS (a0 :: a1 :: a2 :: a3 :: a4 :: a5 :: a6 :: a7 :: a8 :: a9 :: a10 :: a11 :: a12 :: a13 :: a14 :: a15 :: a16 :: a17 :: a18 :: a19 :: a20 :: a21 :: a22 :: a23 :: a24 :: a25 :: a26 :: a27 :: a28 :: a29 :: a30 :: a31 :: a32 :: a33 :: a34 :: a35 :: a36 :: a37 :: a38 :: a39 :: a40 :: a41 :: a42 :: b :: l) 43 = b := rfl
theorem s0 {b : Sl} {l : Env} {a0 : Sl} : List.set (a0 :: l) 0 b = b :: l := rfl
theorem s1 {b : Sl} {l : Env} {a0 : Sl} {a1 : Sl} : List.set (a0 :: a1 :: l) 1 b = a0 :: b :: l := rfl
theorem s2 {b : Sl} {l : Env} {a0 : Sl} {a1 : Sl} {a2 : Sl} : List.set (a0 :: a1 :: a2 :: l) 2 b = a0 :: a1 :: b :: l := rfl
theorem s3 {b : Sl} {l : Env} {a0 : Sl} {a1 : Sl} {a2 : Sl} {a3 : Sl} : List.set (a0 :: a1 :: a2 :: a3 :: l) 3 b = a0 :: a1 :: a2 :: b :: l := rfl
theorem s4 {b : Sl} {l : Env} {a0 : Sl} {a1 : Sl} {a2 : Sl} {a3 : Sl} {a4 : Sl} : List.set (a0 :: a1 :: a2 :: a3 :: a4 :: l) 4 b = a0 :: a1 :: a2 :: a3 :: b :: l := rfl
theorem s5 {b : Sl} {l : Env} {a0 : Sl} {a1 : Sl} {a2 : Sl} {a3 : Sl} {a4 : Sl} {a5 : Sl} : List.set (a0 :: a1 :: a2 :: a3 :: a4 :: a5 :: l) 5 b = a0 :: a1 :: a2 :: a3 :: a4 :: b :: l := rfl
theorem s6 {b : Sl} {l : Env} {a0 : Sl} {a1 : Sl} {a2 : Sl} {a3 : Sl} {a4 : Sl} {a5 : Sl} {a6 : Sl} : List.set (a0 :: a1 :: a2 :: a3 :: a4 :: a5 :: a6 :: l) 6 b = a0 :: a1 :: a2 :: a3 :: a4 :: a5 :: b :: l := rfl
theorem s7 {b : Sl} {l : Env} {a0 : Sl} {a1 : Sl} {a2 : Sl} {a3 : Sl} {a4 : Sl} {a5 : Sl} {a6 : Sl} {a7 : Sl} : List.set (a0 :: a1 :: a2 :: a3 :: a4 :: a5 :: a6 :: a7 :: l) 7 b = a0 :: a1 :: a2 :: a3 :: a4 :: a5 :: a6 :: b :: l := rfl
theorem s8 {b : Sl} {l : Env} {a0 : Sl} {a1 : Sl} {a2 : Sl} {a3 : Sl} {a4 : Sl} {a5 : Sl} {a6 : Sl} {a7 : Sl} {a8 : Sl} : List.set (a0 :: a1 :: a2 :: a3 :: a4 :: a5 :: a6 :: a7 :: a8 :: l) 8 b = a0 :: a1 :: a2 :: a3 :: a4 :: a5 :: a6 :: a7 :: b :: l := rfl
theorem s9 {b : Sl} {l : Env} {a0 : Sl} {a1 : Sl} {a2 : Sl} {a3 : Sl} {a4 : Sl} {a5 : Sl} {a6 : Sl} {a7 : Sl} {a8 : Sl} {a9 : Sl} : List.set (a0 :: a1 :: a2 :: a3 :: a4 :: a5 :: a6 :: a7 :: a8 :: a9 :: l) 9 b = a0 :: a1 :: a2 :: a3 :: a4 :: a5 :: a6 :: a7 :: a8 :: b :: l := rfl
theorem s10 {b : Sl} {l : Env} {a0 : Sl} {a1 : Sl} {a2 : Sl} {a3 : Sl} {a4 : Sl} {a5 : Sl} {a6 : Sl} {a7 : Sl} {a8 : Sl} {a9 : Sl} {a10 : Sl} : List.set (a0 :: a1 :: a2 :: a3 :: a4 :: a5 :: a6 :: a7 :: a8 :: a9 :: a10 :: l) 10 b = a0 :: a1 :: a2 :: a3 :: a4 :: a5 :: a6 :: a7 :: a8 :: a9 :: b :: l := rfl
theorem s11 {b : Sl} {l : Env} {a0 : Sl} {a1 : Sl} {a2 : Sl} {a3 : Sl} {a4 : Sl} {a5 : Sl} {a6 : Sl} {a7 : Sl} {a8 : Sl} {a9 : Sl} {a10 : Sl} {a11 : Sl} : List.set (a0 :: a1 :: a2 :: a3 :: a4 :: a5 :: a6 :: a7 :: a8 :: a9 :: a10 :: a11 :: l) 11 b = a0 :: a1 :: a2 :: a3 :: a4 :: a5 :: a6 :: a7 :: a8 :: a9 :: a10 :: b :: l := rfl
theorem s12 {b : Sl} {l : Env} {a0 : Sl} {a1 : Sl} {a2 : Sl} {a3 : Sl} {a4 : Sl} {a5 : Sl} {a6 : Sl} {a7 : Sl} {a8 : Sl} {a9 : Sl} {a10 : Sl} {a11 : Sl} {a12 : Sl} : List.set (a0 :: a1 :: a2 :: a3 :: a4 :: a5 :: a6 :: a7 :: a8 :: a9 :: a10 :: a11 :: a12 :: l) 12 b = a0 :: a1 :: a2 :: a3 :: a4 :: a5 :: a6 :: a7 :: a8 :: a9 :: a10 :: a11 :: b :: l := rfl
theorem s13 {b : Sl} {l : Env} {a0 : Sl} {a1 : Sl} {a2 : Sl} {a3 : Sl} {a4 : Sl} {a5 : Sl} {a6 : Sl} {a7 : Sl} {a8 : Sl} {a9 : Sl} {a10 : Sl} {a11 : Sl} {a12 : Sl} {a13 : Sl} : List.set (a0 :: a1 :: a2 :: a3 :: a4 :: a5 :: a6 :: a7 :: a8 :: a9 :: a10 :: a11 :: a12 :: a13 :: l) 13 b = a0 :: a1 :: a2 :: a3 :: a4 :: a5 :: a6 :: a7 :: a8 :: a9 :: a10 :: a11 :: a12 :: b :: l := rfl
theorem s14 {b : Sl} {l : Env} {a0 : Sl} {a1 : Sl} {a2 : Sl} {a3 : Sl} {a4 : Sl} {a5 : Sl} {a6 : Sl} {a7 : Sl} {a8 : Sl} {a9 : Sl} {a10 : Sl} {a11 : Sl} {a12 : Sl} {a13 : Sl} {a14 : Sl} : List.set (a0 :: a1 :: a2 :: a3 :: a4 :: a5 :: a6 :: a7 :: a8 :: a9 :: a10 :: a11 :: a12 :: a13 :: a14 :: l) 14 b = a0 :: a1 :: a2 :: a3 :: a4 :: a5 :: a6 :: a7 :: a8 :: a9 :: a10 :: a11 :: a12 :: a13 :: b :: l := rfl
theorem s15 {b : Sl} {l : Env} {a0 : Sl} {a1 : Sl} {a2 : Sl} {a3 : Sl} {a4 : Sl} {a5 : Sl} {a6 : Sl} {a7 : Sl} {a8 : Sl} {a9 : Sl} {a10 : Sl} {a11 : Sl} {a12 : Sl} {a13 : Sl} {a14 : Sl} {a15 : Sl} : List.set (a0 :: a1 :: a2 :: a3 :: a4 :: a5 :: a6 :: a7 :: a8 :: a9 :: a10 :: a11 :: a12 :: a13 :: a14 :: a15 :: l) 15 b = a0 :: a1 :: a2 :: a3 :: a4 :: a5 :: a6 :: a7 :: a8 :: a9 :: a10 :: a11 :: a12 :: a13 :: a14 :: b :: l := rfl
theorem s16 {b : Sl} {l : Env} {a0 : Sl} {a1 : Sl} {a2 : Sl} {a3 : Sl} {a4 : Sl} {a5 : Sl} {a6 : Sl} {a7 : Sl} {a8 : Sl} {a9 : Sl} {a10 : Sl} {a11 : Sl} {a12 : Sl} {a13 : Sl} {a14 : Sl} {a15 : Sl} {a16 : Sl} : List.set (a0 :: a1 :: a2 :: a3 :: a4 :: a5 :: a6 :: a7 :: a8 :: a9 :: a10 :: a11 :: a12 :: a13 :: a14 :: a15 :: a16 :: l) 16 b = a0 :: a1 :: a2 :: a3 :: a4 :: a5 :: a6 :: a7 :: a8 :: a9 :: a10 :: a11 :: a12 :: a13 :: a14 :: a15 :: b :: l := rfl
theorem s17 {b : Sl} {l : Env} {a0 : Sl} {a1 : Sl} {a2 : Sl} {a3 : Sl} {a4 : Sl} {a5 : Sl} {a6 : Sl} {a7 : Sl} {a8 : Sl} {a9 : Sl} {a10 : Sl} {a11 : Sl} {a12 : Sl} {a13 : Sl} {a14 : Sl} {a15 : Sl} {a16 : Sl} {a17 : Sl} : List.set (a0 :: a1 :: a2 :: a3 :: a4 :: a5 :: a6 :: a7 :: a8 :: a9 :: a10 :: a11 :: a12 :: a13 :: a14 :: a15 :: a16 :: a17 :: l) 17 b = a0 :: a1 :: a2 :: a3 :: a4 :: a5 :: a6 :: a7 :: a8 :: a9 :: a10 :: a11 :: a12 :: a13 :: a14 :: a15 :: a16 :: b :: l := rfl
theorem s18 {b : Sl} {l : Env} {a0 : Sl} {a1 : Sl} {a2 : Sl} {a3 : Sl} {a4 : Sl} {a5 : Sl} {a6 : Sl} {a7 : Sl} {a8 : Sl} {a9 : Sl} {a10 : Sl} {a11 : Sl} {a12 : Sl} {a13 : Sl} {a14 : Sl} {a15 : Sl} {a16 : Sl} {a17 : Sl} {a18 : Sl} : List.set (a0 :: a1 :: a2 :: a3 :: a4 :: a5 :: a6 :: a7 :: a8 :: a9 :: a10 :: a11 :: a12 :: a13 :: a14 :: a15 :: a16 :: a17 :: a18 :: l) 18 b = a0 :: a1 :: a2 :: a3 :: a4 :: a5 :: a6 :: a7 :: a8 :: a9 :: a10 :: a11 :: a12 :: a13 :: a14 :: a15 :: a16 :: a17 :: b :: l := rfl
theorem s19 {b : Sl} {l : Env} {a0 : Sl} {a1 : Sl} {a2 : Sl} {a3 : Sl} {a4 : Sl} {a5 : Sl} {a6 : Sl} {a7 : Sl} {a8 : Sl} {a9 : Sl} {a10 : Sl} {a11 : Sl} {a12 : Sl} {a13 : Sl} {a14 : Sl} {a15 : Sl} {a16 : Sl} {a17 : Sl} {a18 : Sl} {a19 : Sl} : List.set (a0 :: a1 :: a2 :: a3 :: a4 :: a5 :: a6 :: a7 :: a8 :: a9 :: a10 :: a11 :: a12 :: a13 :: a14 :: a15 :: a16 :: a17 :: a18 :: a19 :: l) 19 b = a0 :: a1 :: a2 :: a3 :: a4 :: a5 :: a6 :: a7 :: a8 :: a9 :: a10 :: a11 :: a12 :: a13 :: a14 :: a15 :: a16 :: a17 :: a18 :: b :: l := rfl
theorem s20 {b : Sl} {l : Env} {a0 : Sl} {a1 : Sl} {a2 : Sl} {a3 : Sl} {a4 : Sl} {a5 : Sl} {a6 : Sl} {a7 : Sl} {a8 : Sl} {a9 : Sl} {a10 : Sl} {a11 : Sl} {a12 : Sl} {a13 : Sl} {a14 : Sl} {a15 : Sl} {a16 : Sl} {a17 : Sl} {a18 : Sl} {a19 : Sl} {a20 : Sl} : List.set (a0 :: a1 :: a2 :: a3 :: a4 :: a5 :: a6 :: a7 :: a8 :: a9 :: a10 :: a11 :: a12 :: a13 :: a14 :: a15 :: a16 :: a17 :: a18 :: a19 :: a20 :: l) 20 b = a0 :: a1 :: a2 :: a3 :: a4 :: a5 :: a6 :: a7 :: a8 :: a9 :: a10 :: a11 :: a12 :: a13 :: a14 :: a15 :: a16 :: a17 :: a18 :: a19 :: b :: l := rfl
theorem s21 {b : Sl} {l : Env} {a0 : Sl} {a1 : Sl} {a2 : Sl} {a3 : Sl} {a4 : Sl} {a5 : Sl} {a6 : Sl} {a7 : Sl} {a8 : Sl} {a9 : Sl} {a10 : Sl} {a11 : Sl} {a12 : Sl} {a13 : Sl} {a14 : Sl} {a15 : Sl} {a16 : Sl} {a17 : Sl} {a18 : Sl} {a19 : Sl} {a20 : Sl} {a21 : Sl} : List.set (a0 :: a1 :: a2 :: a3 :: a4 :: a5 :: a6 :: a7 :: a8 :: a9 :: a10 :: a11 :: a12 :: a13 :: a14 :: a15 :: a16 :: a17 :: a18 :: a19 :: a20 :: a21 :: l) 21 b = a0 :: a1 :: a2 :: a3 :: a4 :: a5 :: a6 :: a7 :: a8 :: a9 :: a10 :: a11 :: a12 :: a13 :: a14 :: a15 :: a16 :: a17 :: a18 :: a19 :: a20 :: b :: l := rfl
theorem s22 {b : Sl} {l : Env} {a0 : Sl} {a1 : Sl} {a2 : Sl} {a3 : Sl} {a4 : Sl} {a5 : Sl} {a6 : Sl} {a7 : Sl} {a8 : Sl} {a9 : Sl} {a10 : Sl} {a11 : Sl} {a12 : Sl} {a13 : Sl} {a14 : Sl} {a15 : Sl} {a16 : Sl} {a17 : Sl} {a18 : Sl} {a19 : Sl} {a20 : Sl} {a21 : Sl} {a22 : Sl} : List.set (a0 :: a1 :: a2 :: a3 :: a4 :: a5 :: a6 :: a7 :: a8 :: a9 :: a10 :: a11 :: a12 :: a13 :: a14 :: a15 :: a16 :: a17 :: a18 :: a19 :: a20 :: a21 :: a22 :: l) 22 b = a0 :: a1 :: a2 :: a3 :: a4 :: a5 :: a6 :: a7 :: a8 :: a9 :: a10 :: a11 :: a12 :: a13 :: a14 :: a15 :: a16 :: a17 :: a18 :: a19 :: a20 :: a21 :: b :: l := rfl
theorem s23 {b : Sl} {l : Env} {a0 : Sl} {a1 : Sl} {a2 : Sl} {a3 : Sl} {a4 : Sl} {a5 : Sl} {a6 : Sl} {a7 : Sl} {a8 : Sl} {a9 : Sl} {a10 : Sl} {a11 : Sl} {a12 : Sl} {a13 : Sl} {a14 : Sl} {a15 : Sl} {a16 : Sl} {a17 : Sl} {a18 : Sl} {a19 : Sl} {a20 : Sl} {a21 : Sl} {a22 : Sl} {a23 : Sl} : List.set (a0 :: a1 :: a2 :: a3 :: a4 :: a5 :: a6 :: a7 :: a8 :: a9 :: a10 :: a11 :: a12 :: a13 :: a14 :: a15 :: a16 :: a17 :: a18 :: a19 :: a20 :: a21 :: a22 :: a23 :: l) 23 b = a0 :: a1 :: a2 :: a3 :: a4 :: a5 :: a6 :: a7 :: a8 :: a9 :: a10 :: a11 :: a12 :: a13 :: a14 :: a15 :: a16 :: a17 :: a18 :: a19 :: a20 :: a21 :: a22 :: b :: l := rfl
theorem s24 {b : Sl} {l : Env} {a0 : Sl} {a1 : Sl} {a2 : Sl} {a3 : Sl} {a4 : Sl} {a5 : Sl} {a6 : Sl} {a7 : Sl} {a8 : Sl} {a9 : Sl} {a10 : Sl} {a11 : Sl} {a12 : Sl} {a13 : Sl} {a14 : Sl} {a15 : Sl} {a16 : Sl} {a17 : Sl} {a18 : Sl} {a19 : Sl} {a20 : Sl} {a21 : Sl} {a22 : Sl} {a23 : Sl} {a24 : Sl} : List.set (a0 :: a1 :: a2 :: a3 :: a4 :: a5 :: a6 :: a7 :: a8 :: a9 :: a10 :: a11 :: a12 :: a13 :: a14 :: a15 :: a16 :: a17 :: a18 :: a19 :: a20 :: a21 :: a22 :: a23 :: a24 :: l) 24 b = a0 :: a1 :: a2 :: a3 :: a4 :: a5 :: a6 :: a7 :: a8 :: a9 :: a10 :: a11 :: a12 :: a13 :: a14 :: a15 :: a16 :: a17 :: a18 :: a19 :: a20 :: a21 :: a22 :: a23 :: b :: l := rfl
theorem s25 {b : Sl} {l : Env} {a0 : Sl} {a1 : Sl} {a2 : Sl} {a3 : Sl} {a4 : Sl} {a5 : Sl} {a6 : Sl} {a7 : Sl} {a8 : Sl} {a9 : Sl} {a10 : Sl} {a11 : Sl} {a12 : Sl} {a13 : Sl} {a14 : Sl} {a15 : Sl} {a16 : Sl} {a17 : Sl} {a18 : Sl} {a19 : Sl} {a20 : Sl} {a21 : Sl} {a22 : Sl} {a23 : Sl} {a24 : Sl} {a25 : Sl} : List.set (a0 :: a1 :: a2 :: a3 :: a4 :: a5 :: a6 :: a7 :: a8 :: a9 :: a10 :: a11 :: a12 :: a13 :: a14 :: a15 :: a16 :: a17 :: a18 :: a19 :: a20 :: a21 :: a22 :: a23 :: a24 :: a25 :: l) 25 b = a0 :: a1 :: a2 :: a3 :: a4 :: a5 :: a6 :: a7 :: a8 :: a9 :: a10 :: a11 :: a12 :: a13 :: a14 :: a15 :: a16 :: a17 :: a18 :: a19 :: a20 :: a21 :: a22 :: a23 :: a24 :: b :: l := rfl
theorem s26 {b : Sl} {l : Env} {a0 : Sl} {a1 : Sl} {a2 : Sl} {a3 : Sl} {a4 : Sl} {a5 : Sl} {a6 : Sl} {a7 : Sl} {a8 : Sl} {a9 : Sl} {a10 : Sl} {a11 : Sl} {a12 : Sl} {a13 : Sl} {a14 : Sl} {a15 : Sl} {a16 : Sl} {a17 : Sl} {a18 : Sl} {a19 : Sl} {a20 : Sl} {a21 : Sl} {a22 : Sl} {a23 : Sl} {a24 : Sl} {a25 : Sl} {a26 : Sl} : List.set (a0 :: a1 :: a2 :: a3 :: a4 :: a5 :: a6 :: a7 :: a8 :: a9 :: a10 :: a11 :: a12 :: a13 :: a14 :: a15 :: a16 :: a17 :: a18 :: a19 :: a20 :: a21 :: a22 :: a23 :: a24 :: a25 :: a26 :: l) 26 b = a0 :: a1 :: a2 :: a3 :: a4 :: a5 :: a6 :: a7 :: a8 :: a9 :: a10 :: a11 :: a12 :: a13 :: a14 :: a15 :: a16 :: a17 :: a18 :: a19 :: a20 :: a21 :: a22 :: a23 :: a24 :: a25 :: b :: l := rfl
theorem s27 {b : Sl} {l : Env} {a0 : Sl} {a1 : Sl} {a2 : Sl} {a3 : Sl} {a4 : Sl} {a5 : Sl} {a6 : Sl} {a7 : Sl} {a8 : Sl} {a9 : Sl} {a10 : Sl} {a11 : Sl} {a12 : Sl} {a13 : Sl} {a14 : Sl} {a15 : Sl} {a16 : Sl} {a17 : Sl} {a18 : Sl} {a19 : Sl} {a20 : Sl} {a21 : Sl} {a22 : Sl} {a23 : Sl} {a24 : Sl} {a25 : Sl} {a26 : Sl} {a27 : Sl} : List.set (a0 :: a1 :: a2 :: a3 :: a4 :: a5 :: a6 :: a7 :: a8 :: a9 :: a10 :: a11 :: a12 :: a13 :: a14 :: a15 :: a16 :: a17 :: a18 :: a19 :: a20 :: a21 :: a22 :: a23 :: a24 :: a25 :: a26 :: a27 :: l) 27 b = a0 :: a1 :: a2 :: a3 :: a4 :: a5 :: a6 :: a7 :: a8 :: a9 :: a10 :: a11 :: a12 :: a13 :: a14 :: a15 :: a16 :: a17 :: a18 :: a19 :: a20 :: a21 :: a22 :: a23 :: a24 :: a25 :: a26 :: b :: l := rfl
theorem s28 {b : Sl} {l : Env} {a0 : Sl} {a1 : Sl} {a2 : Sl} {a3 : Sl} {a4 : Sl} {a5 : Sl} {a6 : Sl} {a7 : Sl} {a8 : Sl} {a9 : Sl} {a10 : Sl} {a11 : Sl} {a12 : Sl} {a13 : Sl} {a14 : Sl} {a15 : Sl} {a16 : Sl} {a17 : Sl} {a18 : Sl} {a19 : Sl} {a20 : Sl} {a21 : Sl} {a22 : Sl} {a23 : Sl} {a24 : Sl} {a25 : Sl} {a26 : Sl} {a27 : Sl} {a28 : Sl} : List.set (a0 :: a1 :: a2 :: a3 :: a4 :: a5 :: a6 :: a7 :: a8 :: a9 :: a10 :: a11 :: a12 :: a13 :: a14 :: a15 :: a16 :: a17 :: a18 :: a19 :: a20 :: a21 :: a22 :: a23 :: a24 :: a25 :: a26 :: a27 :: a28 :: l) 28 b = a0 :: a1 :: a2 :: a3 :: a4 :: a5 :: a6 :: a7 :: a8 :: a9 :: a10 :: a11 :: a12 :: a13 :: a14 :: a15 :: a16 :: a17 :: a18 :: a19 :: a20 :: a21 :: a22 :: a23 :: a24 :: a25 :: a26 :: a27 :: b :: l := rfl
theorem s29 {b : Sl} {l : Env} {a0 : Sl} {a1 : Sl} {a2 : Sl} {a3 : Sl} {a4 : Sl} {a5 : Sl} {a6 : Sl} {a7 : Sl} {a8 : Sl} {a9 : Sl} {a10 : Sl} {a11 : Sl} {a12 : Sl} {a13 : Sl} {a14 : Sl} {a15 : Sl} {a16 : Sl} {a17 : Sl} {a18 : Sl} {a19 : Sl} {a20 : Sl} {a21 : Sl} {a22 : Sl} {a23 : Sl} {a24 : Sl} {a25 : Sl} {a26 : Sl} {a27 : Sl} {a28 : Sl} {a29 : Sl} : List.set (a0 :: a1 :: a2 :: a3 :: a4 :: a5 :: a6 :: a7 :: a8 :: a9 :: a10 :: a11 :: a12 :: a13 :: a14 :: a15 :: a16 :: a17 :: a18 :: a19 :: a20 :: a21 :: a22 :: a23 :: a24 :: a25 :: a26 :: a27 :: a28 :: a29 :: l) 29 b = a0 :: a1 :: a2 :: a3 :: a4 :: a5 :: a6 :: a7 :: a8 :: a9 :: a10 :: a11 :: a12 :: a13 :: a14 :: a15 :: a16 :: a17 :: a18 :: a19 :: a20 :: a21 :: a22 :: a23 :: a24 :: a25 :: a26 :: a27 :: a28 :: b :: l := rfl
theorem s30 {b : Sl} {l : Env} {a0 : Sl} {a1 : Sl} {a2 : Sl} {a3 : Sl} {a4 : Sl} {a5 : Sl} {a6 : Sl} {a7 : Sl} {a8 : Sl} {a9 : Sl} {a10 : Sl} {a11 : Sl} {a12 : Sl} {a13 : Sl} {a14 : Sl} {a15 : Sl} {a16 : Sl} {a17 : Sl} {a18 : Sl} {a19 : Sl} {a20 : Sl} {a21 : Sl} {a22 : Sl} {a23 : Sl} {a24 : Sl} {a25 : Sl} {a26 : Sl} {a27 : Sl} {a28 : Sl} {a29 : Sl} {a30 : Sl} : List.set (a0 :: a1 :: a2 :: a3 :: a4 :: a5 :: a6 :: a7 :: a8 :: a9 :: a10 :: a11 :: a12 :: a13 :: a14 :: a15 :: a16 :: a17 :: a18 :: a19 :: a20 :: a21 :: a22 :: a23 :: a24 :: a25 :: a26 :: a27 :: a28 :: a29 :: a30 :: l) 30 b = a0 :: a1 :: a2 :: a3 :: a4 :: a5 :: a6 :: a7 :: a8 :: a9 :: a10 :: a11 :: a12 :: a13 :: a14 :: a15 :: a16 :: a17 :: a18 :: a19 :: a20 :: a21 :: a22 :: a23 :: a24 :: a25 :: a26 :: a27 :: a28 :: a29 :: b :: l := rfl
theorem s31 {b : Sl} {l : Env} {a0 : Sl} {a1 : Sl} {a2 : Sl} {a3 : Sl} {a4 : Sl} {a5 : Sl} {a6 : Sl} {a7 : Sl} {a8 : Sl} {a9 : Sl} {a10 : Sl} {a11 : Sl} {a12 : Sl} {a13 : Sl} {a14 : Sl} {a15 : Sl} {a16 : Sl} {a17 : Sl} {a18 : Sl} {a19 : Sl} {a20 : Sl} {a21 : Sl} {a22 : Sl} {a23 : Sl} {a24 : Sl} {a25 : Sl} {a26 : Sl} {a27 : Sl} {a28 : Sl} {a29 : Sl} {a30 : Sl} {a31 : Sl} : List.set (a0 :: a1 :: a2 :: a3 :: a4 :: a5 :: a6 :: a7 :: a8 :: a9 :: a10 :: a11 :: a12 :: a13 :: a14 :: a15 :: a16 :: a17 :: a18 :: a19 :: a20 :: a21 :: a22 :: a23 :: a24 :: a25 :: a26 :: a27 :: a28 :: a29 :: a30 :: a31 :: l) 31 b = a0 :: a1 :: a2 :: a3 :: a4 :: a5 :: a6 :: a7 :: a8 :: a9 :: a10 :: a11 :: a12 :: a13 :: a14 :: a15 :: a16 :: a17 :: a18 :: a19 :: a20 :: a21 :: a22 :: a23 :: a24 :: a25 :: a26 :: a27 :: a28 :: a29 :: a30 :: b :: l := rfl
theorem s32 {b : Sl} {l : Env} {a0 : Sl} {a1 : Sl} {a2 : Sl} {a3 : Sl} {a4 : Sl} {a5 : Sl} {a6 : Sl} {a7 : Sl} {a8 : Sl} {a9 : Sl} {a10 : Sl} {a11 : Sl} {a12 : Sl} {a13 : Sl} {a14 : Sl} {a15 : Sl} {a16 : Sl} {a17 : Sl} {a18 : Sl} {a19 : Sl} {a20 : Sl} {a21 : Sl} {a22 : Sl} {a23 : Sl} {a24 : Sl} {a25 : Sl} {a26 : Sl} {a27 : Sl} {a28 : Sl} {a29 : Sl} {a30 : Sl} {a31 : Sl} {a32 : Sl} : List.set (a0 :: a1 :: a2 :: a3 :: a4 :: a5 :: a6 :: a7 :: a8 :: a9 :: a10 :: a11 :: a12 :: a13 :: a14 :: a15 :: a16 :: a17 :: a18 :: a19 :: a20 :: a21 :: a22 :: a23 :: a24 :: a25 :: a26 :: a27 :: a28 :: a29 :: a30 :: a31 :: a32 :: l) 32 b = a0 :: a1 :: a2 :: a3 :: a4 :: a5 :: a6 :: a7 :: a8 :: a9 :: a10 :: a11 :: a12 :: a13 :: a14 :: a15 :: a16 :: a17 :: a18 :: a19 :: a20 :: a21 :: a22 :: a23 :: a24 :: a25 :: a26 :: a27 :: a28 :: a29 :: a30 :: a31 :: b :: l := rfl
theorem s33 {b : Sl} {l : Env} {a0 : Sl} {a1 : Sl} {a2 : Sl} {a3 : Sl} {a4 : Sl} {a5 : Sl} {a6 : Sl} {a7 : Sl} {a8 : Sl} {a9 : Sl} {a10 : Sl} {a11 : Sl} {a12 : Sl} {a13 : Sl} {a14 : Sl} {a15 : Sl} {a16 : Sl} {a17 : Sl} {a18 : Sl} {a19 : Sl} {a20 : Sl} {a21 : Sl} {a22 : Sl} {a23 : Sl} {a24 : Sl} {a25 : Sl} {a26 : Sl} {a27 : Sl} {a28 : Sl} {a29 : Sl} {a30 : Sl} {a31 : Sl} {a32 : Sl} {a33 : Sl} : List.set (a0 :: a1 :: a2 :: a3 :: a4 :: a5 :: a6 :: a7 :: a8 :: a9 :: a10 :: a11 :: a12 :: a13 :: a14 :: a15 :: a16 :: a17 :: a18 :: a19 :: a20 :: a21 :: a22 :: a23 :: a24 :: a25 :: a26 :: a27 :: a28 :: a29 :: a30 :: a31 :: a32 :: a33 :: l) 33 b = a0 :: a1 :: a2 :: a3 :: a4 :: a5 :: a6 :: a7 :: a8 :: a9 :: a10 :: a11 :: a12 :: a13 :: a14 :: a15 :: a16 :: a17 :: a18 :: a19 :: a20 :: a21 :: a22 :: a23 :: a24 :: a25 :: a26 :: a27 :: a28 :: a29 :: a30 :: a31 :: a32 :: b :: l := rfl
theorem s34 {b : Sl} {l : Env} {a0 : Sl} {a1 : Sl} {a2 : Sl} {a3 : Sl} {a4 : Sl} {a5 : Sl} {a6 : Sl} {a7 : Sl} {a8 : Sl} {a9 : Sl} {a10 : Sl} {a11 : Sl} {a12 : Sl} {a13 : Sl} {a14 : Sl} {a15 : Sl} {a16 : Sl} {a17 : Sl} {a18 : Sl} {a19 : Sl} {a20 : Sl} {a21 : Sl} {a22 : Sl} {a23 : Sl} {a24 : Sl} {a25 : Sl} {a26 : Sl} {a27 : Sl} {a28 : Sl} {a29 : Sl} {a30 : Sl} {a31 : Sl} {a32 : Sl} {a33 : Sl} {a34 : Sl} : List.set (a0 :: a1 :: a2 :: a3 :: a4 :: a5 :: a6 :: a7 :: a8 :: a9 :: a10 :: a11 :: a12 :: a13 :: a14 :: a15 :: a16 :: a17 :: a18 :: a19 :: a20 :: a21 :: a22 :: a23 :: a24 :: a25 :: a26 :: a27 :: a28 :: a29 :: a30 :: a31 :: a32 :: a33 :: a34 :: l) 34 b = a0 :: a1 :: a2 :: a3 :: a4 :: a5 :: a6 :: a7 :: a8 :: a9 :: a10 :: a11 :: a12 :: a13 :: a14 :: a15 :: a16 :: a17 :: a18 :: a19 :: a20 :: a21 :: a22 :: a23 :: a24 :: a25 :: a26 :: a27 :: a28 :: a29 :: a30 :: a31 :: a32 :: a33 :: b :: l := rfl
theorem s35 {b : Sl} {l : Env} {a0 : Sl} {a1 : Sl} {a2 : Sl} {a3 : Sl} {a4 : Sl} {a5 : Sl} {a6 : Sl} {a7 : Sl} {a8 : Sl} {a9 : Sl} {a10 : Sl} {a11 : Sl} {a12 : Sl} {a13 : Sl} {a14 : Sl} {a15 : Sl} {a16 : Sl} {a17 : Sl} {a18 : Sl} {a19 : Sl} {a20 : Sl} {a21 : Sl} {a22 : Sl} {a23 : Sl} {a24 : Sl} {a25 : Sl} {a26 : Sl} {a27 : Sl} {a28 : Sl} {a29 : Sl} {a30 : Sl} {a31 : Sl} {a32 : Sl} {a33 : Sl} {a34 : Sl} {a35 : Sl} : List.set (a0 :: a1 :: a2 :: a3 :: a4 :: a5 :: a6 :: a7 :: a8 :: a9 :: a10 :: a11 :: a12 :: a13 :: a14 :: a15 :: a16 :: a17 :: a18 :: a19 :: a20 :: a21 :: a22 :: a23 :: a24 :: a25 :: a26 :: a27 :: a28 :: a29 :: a30 :: a31 :: a32 :: a33 :: a34 :: a35 :: l) 35 b = a0 :: a1 :: a2 :: a3 :: a4 :: a5 :: a6 :: a7 :: a8 :: a9 :: a10 :: a11 :: a12 :: a13 :: a14 :: a15 :: a16 :: a17 :: a18 :: a19 :: a20 :: a21 :: a22 :: a23 :: a24 :: a25 :: a26 :: a27 :: a28 :: a29 :: a30 :: a31 :: a32 :: a33 :: a34 :: b :: l := rfl
theorem s36 {b : Sl} {l : Env} {a0 : Sl} {a1 : Sl} {a2 : Sl} {a3 : Sl} {a4 : Sl} {a5 : Sl} {a6 : Sl} {a7 : Sl} {a8 : Sl} {a9 : Sl} {a10 : Sl} {a11 : Sl} {a12 : Sl} {a13 : Sl} {a14 : Sl} {a15 : Sl} {a16 : Sl} {a17 : Sl} {a18 : Sl} {a19 : Sl} {a20 : Sl} {a21 : Sl} {a22 : Sl} {a23 : Sl} {a24 : Sl} {a25 : Sl} {a26 : Sl} {a27 : Sl} {a28 : Sl} {a29 : Sl} {a30 : Sl} {a31 : Sl} {a32 : Sl} {a33 : Sl} {a34 : Sl} {a35 : Sl} {a36 : Sl} : List.set (a0 :: a1 :: a2 :: a3 :: a4 :: a5 :: a6 :: a7 :: a8 :: a9 :: a10 :: a11 :: a12 :: a13 :: a14 :: a15 :: a16 :: a17 :: a18 :: a19 :: a20 :: a21 :: a22 :: a23 :: a24 :: a25 :: a26 :: a27 :: a28 :: a29 :: a30 :: a31 :: a32 :: a33 :: a34 :: a35 :: a36 :: l) 36 b = a0 :: a1 :: a2 :: a3 :: a4 :: a5 :: a6 :: a7 :: a8 :: a9 :: a10 :: a11 :: a12 :: a13 :: a14 :: a15 :: a16 :: a17 :: a18 :: a19 :: a20 :: a21 :: a22 :: a23 :: a24 :: a25 :: a26 :: a27 :: a28 :: a29 :: a30 :: a31 :: a32 :: a33 :: a34 :: a35 :: b :: l := rfl
theorem s37 {b : Sl} {l : Env} {a0 : Sl} {a1 : Sl} {a2 : Sl} {a3 : Sl} {a4 : Sl} {a5 : Sl} {a6 : Sl} {a7 : Sl} {a8 : Sl} {a9 : Sl} {a10 : Sl} {a11 : Sl} {a12 : Sl} {a13 : Sl} {a14 : Sl} {a15 : Sl} {a16 : Sl} {a17 : Sl} {a18 : Sl} {a19 : Sl} {a20 : Sl} {a21 : Sl} {a22 : Sl} {a23 : Sl} {a24 : Sl} {a25 : Sl} {a26 : Sl} {a27 : Sl} {a28 : Sl} {a29 : Sl} {a30 : Sl} {a31 : Sl} {a32 : Sl} {a33 : Sl} {a34 : Sl} {a35 : Sl} {a36 : Sl} {a37 : Sl} : List.set (a0 :: a1 :: a2 :: a3 :: a4 :: a5 :: a6 :: a7 :: a8 :: a9 :: a10 :: a11 :: a12 :: a13 :: a14 :: a15 :: a16 :: a17 :: a18 :: a19 :: a20 :: a21 :: a22 :: a23 :: a24 :: a25 :: a26 :: a27 :: a28 :: a29 :: a30 :: a31 :: a32 :: a33 :: a34 :: a35 :: a36 :: a37 :: l) 37 b = a0 :: a1 :: a2 :: a3 :: a4 :: a5 :: a6 :: a7 :: a8 :: a9 :: a10 :: a11 :: a12 :: a13 :: a14 :: a15 :: a16 :: a17 :: a18 :: a19 :: a20 :: a21 :: a22 :: a23 :: a24 :: a25 :: a26 :: a27 :: a28 :: a29 :: a30 :: a31 :: a32 :: a33 :: a34 :: a35 :: a36 :: b :: l := rfl
theorem s38 {b : Sl} {l : Env} {a0 : Sl} {a1 : Sl} {a2 : Sl} {a3 : Sl} {a4 : Sl} {a5 : Sl} {a6 : Sl} {a7 : Sl} {a8 : Sl} {a9 : Sl} {a10 : Sl} {a11 : Sl} {a12 : Sl} {a13 : Sl} {a14 : Sl} {a15 : Sl} {a16 : Sl} {a17 : Sl} {a18 : Sl} {a19 : Sl} {a20 : Sl} {a21 : Sl} {a22 : Sl} {a23 : Sl} {a24 : Sl} {a25 : Sl} {a26 : Sl} {a27 : Sl} {a28 : Sl} {a29 : Sl} {a30 : Sl} {a31 : Sl} {a32 : Sl} {a33 : Sl} {a34 : Sl} {a35 : Sl} {a36 : Sl} {a37 : Sl} {a38 : Sl} : List.set (a0 :: a1 :: a2 :: a3 :: a4 :: a5 :: a6 :: a7 :: a8 :: a9 :: a10 :: a11 :: a12 :: a13 :: a14 :: a15 :: a16 :: a17 :: a18 :: a19 :: a20 :: a21 :: a22 :: a23 :: a24 :: a25 :: a26 :: a27 :: a28 :: a29 :: a30 :: a31 :: a32 :: a33 :: a34 :: a35 :: a36 :: a37 :: a38 :: l) 38 b = a0 :: a1 :: a2 :: a3 :: a4 :: a5 :: a6 :: a7 :: a8 :: a9 :: a10 :: a11 :: a12 :: a13 :: a14 :: a15 :: a16 :: a17 :: a18 :: a19 :: a20 :: a21 :: a22 :: a23 :: a24 :: a25 :: a26 :: a27 :: a28 :: a29 :: a30 :: a31 :: a32 :: a33 :: a34 :: a35 :: a36 :: a37 :: b :: l := rfl
theorem s39 {b : Sl} {l : Env} {a0 : Sl} {a1 : Sl} {a2 : Sl} {a3 : Sl} {a4 : Sl} {a5 : Sl} {a6 : Sl} {a7 : Sl} {a8 : Sl} {a9 : Sl} {a10 : Sl} {a11 : Sl} {a12 : Sl} {a13 : Sl} {a14 : Sl} {a15 : Sl} {a16 : Sl} {a17 : Sl} {a18 : Sl} {a19 : Sl} {a20 : Sl} {a21 : Sl} {a22 : Sl} {a23 : Sl} {a24 : Sl} {a25 : Sl} {a26 : Sl} {a27 : Sl} {a28 : Sl} {a29 : Sl} {a30 : Sl} {a31 : Sl} {a32 : Sl} {a33 : Sl} {a34 : Sl} {a35 : Sl} {a36 : Sl} {a37 : Sl} {a38 : Sl} {a39 : Sl} : List.set (a0 :: a1 :: a2 :: a3 :: a4 :: a5 :: a6 :: a7 :: a8 :: a9 :: a10 :: a11 :: a12 :: a13 :: a14 :: a15 :: a16 :: a17 :: a18 :: a19 :: a20 :: a21 :: a22 :: a23 :: a24 :: a25 :: a26 :: a27 :: a28 :: a29 :: a30 :: a31 :: a32 :: a33 :: a34 :: a35 :: a36 :: a37 :: a38 :: a39 :: l) 39 b = a0 :: a1 :: a2 :: a3 :: a4 :: a5 :: a6 :: a7 :: a8 :: a9 :: a10 :: a11 :: a12 :: a13 :: a14 :: a15 :: a16 :: a17 :: a18 :: a19 :: a20 :: a21 :: a22 :: a23 :: a24 :: a25 :: a26 :: a27 :: a28 :: a29 :: a30 :: a31 :: a32 :: a33 :: a34 :: a35 :: a36 :: a37 :: a38 :: b :: l := rfl
theorem s40 {b : Sl} {l : Env} {a0 : Sl} {a1 : Sl} {a2 : Sl} {a3 : Sl} {a4 : Sl} {a5 : Sl} {a6 : Sl} {a7 : Sl} {a8 : Sl} {a9 : Sl} {a10 : Sl} {a11 : Sl} {a12 : Sl} {a13 : Sl} {a14 : Sl} {a15 : Sl} {a16 : Sl} {a17 : Sl} {a18 : Sl} {a19 : Sl} {a20 : Sl} {a21 : Sl} {a22 : Sl} {a23 : Sl} {a24 : Sl} {a25 : Sl} {a26 : Sl} {a27 : Sl} {a28 : Sl} {a29 : Sl} {a30 : Sl} {a31 : Sl} {a32 : Sl} {a33 : Sl} {a34 : Sl} {a35 : Sl} {a36 : Sl} {a37 : Sl} {a38 : Sl} {a39 : Sl} {a40 : Sl} : List.set (a0 :: a1 :: a2 :: a3 :: a4 :: a5 :: a6 :: a7 :: a8 :: a9 :: a10 :: a11 :: a12 :: a13 :: a14 :: a15 :: a16 :: a17 :: a18 :: a19 :: a20 :: a21 :: a22 :: a23 :: a24 :: a25 :: a26 :: a27 :: a28 :: a29 :: a30 :: a31 :: a32 :: a33 :: a34 :: a35 :: a36 :: a37 :: a38 :: a39 :: a40 :: l) 40 b = a0 :: a1 :: a2 :: a3 :: a4 :: a5 :: a6 :: a7 :: a8 :: a9 :: a10 :: a11 :: a12 :: a13 :: a14 :: a15 :: a16 :: a17 :: a18 :: a19 :: a20 :: a21 :: a22 :: a23 :: a24 :: a25 :: a26 :: a27 :: a28 :: a29 :: a30 :: a31 :: a32 :: a33 :: a34 :: a35 :: a36 :: a37 :: a38 :: a39 :: b :: l := rfl
theorem s41 {b : Sl} {l : Env} {a0 : Sl} {a1 : Sl} {a2 : Sl} {a3 : Sl} {a4 : Sl} {a5 : Sl} {a6 : Sl} {a7 : Sl} {a8 : Sl} {a9 : Sl} {a10 : Sl} {a11 : Sl} {a12 : Sl} {a13 : Sl} {a14 : Sl} {a15 : Sl} {a16 : Sl} {a17 : Sl} {a18 : Sl} {a19 : Sl} {a20 : Sl} {a21 : Sl} {a22 : Sl} {a23 : Sl} {a24 : Sl} {a25 : Sl} {a26 : Sl} {a27 : Sl} {a28 : Sl} {a29 : Sl} {a30 : Sl} {a31 : Sl} {a32 : Sl} {a33 : Sl} {a34 : Sl} {a35 : Sl} {a36 : Sl} {a37 : Sl} {a38 : Sl} {a39 : Sl} {a40 : Sl} {a41 : Sl} : List.set (a0 :: a1 :: a2 :: a3 :: a4 :: a5 :: a6 :: a7 :: a8 :: a9 :: a10 :: a11 :: a12 :: a13 :: a14 :: a15 :: a16 :: a17 :: a18 :: a19 :: a20 :: a21 :: a22 :: a23 :: a24 :: a25 :: a26 :: a27 :: a28 :: a29 :: a30 :: a31 :: a32 :: a33 :: a34 :: a35 :: a36 :: a37 :: a38 :: a39 :: a40 :: a41 :: l) 41 b = a0 :: a1 :: a2 :: a3 :: a4 :: a5 :: a6 :: a7 :: a8 :: a9 :: a10 :: a11 :: a12 :: a13 :: a14 :: a15 :: a16 :: a17 :: a18 :: a19 :: a20 :: a21 :: a22 :: a23 :: a24 :: a25 :: a26 :: a27 :: a28 :: a29 :: a30 :: a31 :: a32 :: a33 :: a34 :: a35 :: a36 :: a37 :: a38 :: a39 :: a40 :: b :: l := rfl
theorem s42 {b : Sl} {l : Env} {a0 : Sl} {a1 : Sl} {a2 : Sl} {a3 : Sl} {a4 : Sl} {a5 : Sl} {a6 : Sl} {a7 : Sl} {a8 : Sl} {a9 : Sl} {a10 : Sl} {a11 : Sl} {a12 : Sl} {a13 : Sl} {a14 : Sl} {a15 : Sl} {a16 : Sl} {a17 : Sl} {a18 : Sl} {a19 : Sl} {a20 : Sl} {a21 : Sl} {a22 : Sl} {a23 : Sl} {a24 : Sl} {a25 : Sl} {a26 : Sl} {a27 : Sl} {a28 : Sl} {a29 : Sl} {a30 : Sl} {a31 : Sl} {a32 : Sl} {a33 : Sl} {a34 : Sl} {a35 : Sl} {a36 : Sl} {a37 : Sl} {a38 : Sl} {a39 : Sl} {a40 : Sl} {a41 : Sl} {a42 : Sl} : List.set (a0 :: a1 :: a2 :: a3 :: a4 :: a5 :: a6 :: a7 :: a8 :: a9 :: a10 :: a11 :: a12 :: a13 :: a14 :: a15 :: a16 :: a17 :: a18 :: a19 :: a20 :: a21 :: a22 :: a23 :: a24 :: a25 :: a26 :: a27 :: a28 :: a29 :: a30 :: a31 :: a32 :: a33 :: a34 :: a35 :: a36 :: a37 :: a38 :: a39 :: a40 :: a41 :: a42 :: l) 42 b = a0 :: a1 :: a2 :: a3 :: a4 :: a5 :: a6 :: a7 :: a8 :: a9 :: a10 :: a11 :: a12 :: a13 :: a14 :: a15 :: a16 :: a17 :: a18 :: a19 :: a20 :: a21 :: a22 :: a23 :: a24 :: a25 :: a26 :: a27 :: a28 :: a29 :: a30 :: a31 :: a32 :: a33 :: a34 :: a35 :: a36 :: a37 :: a38 :: a39 :: a40 :: a41 :: b :: l := rfl
theorem s43 {b : Sl} {l : Env} {a0 : Sl} {a1 : Sl} {a2 : Sl} {a3 : Sl} {a4 : Sl} {a5 : Sl} {a6 : Sl} {a7 : Sl} {a8 : Sl} {a9 : Sl} {a10 : Sl} {a11 : Sl} {a12 : Sl} {a13 : Sl} {a14 : Sl} {a15 : Sl} {a16 : Sl} {a17 : Sl} {a18 : Sl} {a19 : Sl} {a20 : Sl} {a21 : Sl} {a22 : Sl} {a23 : Sl} {a24 : Sl} {a25 : Sl} {a26 : Sl} {a27 : Sl} {a28 : Sl} {a29 : Sl} {a30 : Sl} {a31 : Sl} {a32 : Sl} {a33 : Sl} {a34 : Sl} {a35 : Sl} {a36 : Sl} {a37 : Sl} {a38 : Sl} {a39 : Sl} {a40 : Sl} {a41 : Sl} {a42 : Sl} {a43 : Sl} : List.set (a0 :: a1 :: a2 :: a3 :: a4 :: a5 :: a6 :: a7 :: a8 :: a9 :: a10 :: a11 :: a12 :: a13 :: a14 :: a15 :: a16 :: a17 :: a18 :: a19 :: a20 :: a21 :: a22 :: a23 :: a24 :: a25 :: a26 :: a27 :: a28 :: a29 :: a30 :: a31 :: a32 :: a33 :: a34 :: a35 :: a36 :: a37 :: a38 :: a39 :: a40 :: a41 :: a42 :: a43 :: l) 43 b = a0 :: a1 :: a2 :: a3 :: a4 :: a5 :: a6 :: a7 :: a8 :: a9 :: a10 :: a11 :: a12 :: a13 :: a14 :: a15 :: a16 :: a17 :: a18 :: a19 :: a20 :: a21 :: a22 :: a23 :: a24 :: a25 :: a26 :: a27 :: a28 :: a29 :: a30 :: a31 :: a32 :: a33 :: a34 :: a35 :: a36 :: a37 :: a38 :: a39 :: a40 :: a41 :: a42 :: b :: l := rfl
theorem rd_fz {Q : X → Prop} {d : D} : (Sl.fz d).rd Q = Q (.f d) := rfl
theorem rd_own {Q : X → Prop} {d : OD} : (Sl.own d).rd Q = Q (.b d) := rfl
theorem rd_bor {Q : X → Prop} {d : OD} : (Sl.bor d).rd Q = Q (.q d) := rfl
theorem rd_pool {Q : X → Prop} : Sl.pool.rd Q = Q .pl := rfl
theorem rd_slf {Q : X → Prop} {C : Addr} {g : List (Str × D)} : (Sl.slf C g).rd Q = Q (.b (.ins C g)) := rfl
theorem rd_len {Q : X → Prop} {d : OD} : (Sl.len d).rd Q = Q (.b d) := rfl
theorem sf_len {d : OD} : (Sl.len d).fr = .len d := rfl
theorem rv_fz {Q : X → Prop} {d : D} : rdV (Sl.fz d) Q = Q (.f d) := rfl
theorem rv_own {Q : X → Prop} {d : OD} : rdV (Sl.own d) Q = Q (.o d) := rfl
theorem rv_bor {Q : X → Prop} {d : OD} : rdV (Sl.bor d) Q = Q (.q d) := rfl
theorem rv_pool {Q : X → Prop} : rdV Sl.pool Q = Q .pl := rfl
theorem sf_own {d : OD} : (Sl.own d).fr = .fz d.fr := rfl
theorem sf_fz {d : D} : (Sl.fz d).fr = .fz d := rfl
theorem sf_no  : Sl.no.fr = .no := rfl
theorem sf_bor {d : OD} : (Sl.bor d).fr = .bor d := rfl
theorem sf_pool  : Sl.pool.fr = .pool := rfl
theorem sf_slf {C : Addr} {g : List (Str × D)} : (Sl.slf C g).fr = .slf C g := rfl
theorem fr_lst {d : List D} : (OD.lst d).fr = .lst d := rfl
theorem fr_ins {C : Addr} {d : List (Str × D)} : (OD.ins C d).fr = .ins C d := rfl
theorem fr_dk {d : List (Key × D)} : (OD.dk d).fr = .dk d := rfl
theorem fr_dt {d : List (List Key × D)} : (OD.dt d).fr = .dt d := rfl
theorem xn_f {d : D} : (X.f d).n = .f d := rfl
theorem xn_b {d : OD} : (X.b d).n = .b d := rfl
theorem xn_q {d : OD} : (X.q d).n = .q d := rfl
theorem xn_o {d : OD} : (X.o d).n = .f d.fr := rfl
theorem xn_pl  : X.pl.n = .pl := rfl
theorem xp_f {d : D} : (X.f d).p = .f d := rfl
theorem xp_b {d : OD} : (X.b d).p = .b d := rfl
theorem xp_q {d : OD} : (X.q d).p = .b d := rfl
theorem xp_o {d : OD} : (X.o d).p = .o d := rfl
theorem xp_pl  : X.pl.p = .pl := rfl
theorem xL_f {d : List D} : (X.f (.lst d)).L = some d := rfl
theorem xL_b {d : List D} : (X.b (.lst d)).L = some d := rfl
theorem xL_q {d : List D} : (X.q (.lst d)).L = some d := rfl
theorem xS_f {d : List D} : (X.f (.lst d)).S = some d := rfl
theorem xS_t {d : List D} : (X.f (.tup d)).S = some d := rfl
theorem xS_b {d : List D} : (X.b (.lst d)).S = some d := rfl
theorem xS_q {d : List D} : (X.q (.lst d)).S = some d := rfl
theorem xV_f {d : D} : (X.f d).V = some d := rfl
theorem xV_b {d : List D} : (X.b (.lst d)).V = some (.lst d) := rfl
theorem xV_q {d : List D} : (X.q (.lst d)).V = some (.lst d) := rfl
theorem xI_f {C : Addr} {d : List (Str × D)} : (X.f (.ins C d)).ins = some (C, d) := rfl
theorem xI_b {C : Addr} {d : List (Str × D)} : (X.b (.ins C d)).ins = some (C, d) := rfl
theorem xI_q {C : Addr} {d : List (Str × D)} : (X.q (.ins C d)).ins = some (C, d) := rfl
theorem w_var {Q : X → Prop} {ρ : Env} {i : Nat} : mVar i ρ Q = (getS ρ i).rd Q := rfl
theorem w_c {Q : X → Prop} {ρ : Env} {d : D} : mC d ρ Q = Q (.f d) := rfl
theorem w_op {Q : X → Prop} {ρ : Env} {r : X → X → (X → Prop) → Prop} {ma mb : ME} : mOp r ma mb ρ Q = ma ρ (kOp1 r mb ρ Q) := rfl
theorem w_op1 {Q : X → Prop} {ρ : Env} {r : X → X → (X → Prop) → Prop} {mb : ME} {x : X} : kOp1 r mb ρ Q x = mb ρ (kOp2 r x Q) := rfl
theorem w_op2 {Q : X → Prop} {r : X → X → (X → Prop) → Prop} {x y : X} : kOp2 r x Q y = r x.n y.n Q := rfl
theorem w_un {Q : X → Prop} {ρ : Env} {r : X → (X → Prop) → Prop} {ma : ME} : mUn r ma ρ Q = ma ρ (kUn r Q) := rfl
theorem w_un1 {Q : X → Prop} {r : X → (X → Prop) → Prop} {x : X} : kUn r Q x = r x.n Q := rfl
theorem w_tst {Q : Bool → Prop} {ρ : Env} {ma : ME} : mTst ma ρ Q = ma ρ (kTst Q) := rfl
theorem w_tst1 {Q : Bool → Prop} {b : Bool} : kTst Q (.f (.bl b)) = Q b := propext ⟨fun ⟨_, e, h⟩ => by cases e; exact h, fun h => ⟨_, rfl, h⟩⟩
theorem w_if {Q : X → Prop} {ρ : Env} {ma mb : ME} {t : MT} : mIf t ma mb ρ Q = t ρ (kIf ma mb ρ Q) := rfl
theorem w_if1 {Q : X → Prop} {ρ : Env} {ma mb : ME} {b : Bool} : kIf ma mb ρ Q b = pIf b (ma ρ Q) (mb ρ Q) := rfl
theorem w_not {Q : Bool → Prop} {ρ : Env} {t : MT} : mNot t ρ Q = t ρ (kNot Q) := rfl
theorem w_not1 {Q : Bool → Prop} {b : Bool} : kNot Q b = Q (!b) := rfl
theorem w_and {Q : Bool → Prop} {ρ : Env} {t u : MT} : mAnd t u ρ Q = t ρ (kAnd u ρ Q) := rfl
theorem w_and1 {Q : Bool → Prop} {ρ : Env} {u : MT} {b : Bool} : kAnd u ρ Q b = pIf b (u ρ Q) (Q false) := rfl
theorem w_or {Q : Bool → Prop} {ρ : Env} {t u : MT} : mOr t u ρ Q = t ρ (kOr u ρ Q) := rfl
theorem w_or1 {Q : Bool → Prop} {ρ : Env} {u : MT} {b : Bool} : kOr u ρ Q b = pIf b (Q true) (u ρ Q) := rfl
theorem w_andv {Q : X → Prop} {ρ : Env} {ma mb : ME} : mAndV ma mb ρ Q = ma ρ (kAndV mb ρ Q) := rfl
theorem w_andv1 {Q : X → Prop} {ρ : Env} {mb : ME} {b : Bool} : kAndV mb ρ Q (.f (.bl b)) = pIf b (mb ρ Q) (Q (.f (.bl false))) := propext ⟨fun ⟨_, e, h⟩ => by cases e; exact h, fun h => ⟨_, rfl, h⟩⟩
theorem w_orv {Q : X → Prop} {ρ : Env} {ma mb : ME} : mOrV ma mb ρ Q = ma ρ (kOrV mb ρ Q) := rfl
theorem w_orv1 {Q : X → Prop} {ρ : Env} {mb : ME} {b : Bool} : kOrV mb ρ Q (.f (.bl b)) = pIf b (Q (.f (.bl true))) (mb ρ Q) := propext ⟨fun ⟨_, e, h⟩ => by cases e; exact h, fun h => ⟨_, rfl, h⟩⟩
theorem w_notv {Q : X → Prop} {ρ : Env} {ma : ME} : mNotV ma ρ Q = ma ρ (kNotV Q) := rfl
theorem w_notv1 {Q : X → Prop} {b : Bool} : kNotV Q (.f (.bl b)) = Q (.f (.bl (!b))) := propext ⟨fun ⟨_, e, h⟩ => by cases e; exact h, fun h => ⟨_, rfl, h⟩⟩
theorem w_ch {Q : X → Prop} {ρ : Env} {r r2 : X → X → (X → Prop) → Prop} {ma mb mc : ME} : mChain r r2 ma mb mc ρ Q = ma ρ (kCh1 r r2 mb mc ρ Q) := rfl
theorem w_ch1 {Q : X → Prop} {ρ : Env} {r r2 : X → X → (X → Prop) → Prop} {mb mc : ME} {x : X} : kCh1 r r2 mb mc ρ Q x = mb ρ (kCh2 r r2 mc x ρ Q) := rfl
theorem w_ch2 {Q : X → Prop} {ρ : Env} {r r2 : X → X → (X → Prop) → Prop} {mc : ME} {x y : X} : kCh2 r r2 mc x ρ Q y = r x.n y.n (kCh3 r2 mc y ρ Q) := rfl
theorem w_ch3 {Q : X → Prop} {ρ : Env} {r2 : X → X → (X → Prop) → Prop} {mc : ME} {y : X} {b : Bool} : kCh3 r2 mc y ρ Q (.f (.bl b)) = pIf b (mc ρ (kOp2 r2 y Q)) (Q (.f (.bl false))) := propext ⟨fun ⟨_, e, h⟩ => by cases e; exact h, fun h => ⟨_, rfl, h⟩⟩
theorem w_c3 {Q : Bool → Prop} {ρ : Env} {r r2 r3 : X → X → (X → Prop) → Prop} {ma mb mc md : ME} : mChain3 r r2 r3 ma mb mc md ρ Q = ma ρ (kCa r r2 r3 mb mc md ρ Q) := rfl
theorem w_ca {Q : Bool → Prop} {ρ : Env} {r r2 r3 : X → X → (X → Prop) → Prop} {mb mc md : ME} {x : X} : kCa r r2 r3 mb mc md ρ Q x = mb ρ (kCb r r2 r3 mc md x ρ Q) := rfl
theorem w_cb {Q : Bool → Prop} {ρ : Env} {r r2 r3 : X → X → (X → Prop) → Prop} {mc md : ME} {x y : X} : kCb r r2 r3 mc md x ρ Q y = r x.n y.n (kC1 r2 r3 mc md y ρ Q) := rfl
theorem w_c1 {Q : Bool → Prop} {ρ : Env} {r2 r3 : X → X → (X → Prop) → Prop} {mc md : ME} {y : X} {b : Bool} : kC1 r2 r3 mc md y ρ Q (.f (.bl b)) = pIf b (mc ρ (kC2 r2 r3 md y ρ Q)) (Q false) := propext ⟨fun ⟨_, e, h⟩ => by cases e; exact h, fun h => ⟨_, rfl, h⟩⟩
theorem w_c2 {Q : Bool → Prop} {ρ : Env} {r2 r3 : X → X → (X → Prop) → Prop} {md : ME} {y w : X} : kC2 r2 r3 md y ρ Q w = r2 y.n w.n (kC3 r3 md w ρ Q) := rfl
theorem w_c33 {Q : Bool → Prop} {ρ : Env} {r3 : X → X → (X → Prop) → Prop} {md : ME} {w : X} {b : Bool} : kC3 r3 md w ρ Q (.f (.bl b)) = pIf b (md ρ (kC4 r3 w Q)) (Q false) := propext ⟨fun ⟨_, e, h⟩ => by cases e; exact h, fun h => ⟨_, rfl, h⟩⟩
theorem w_c4 {Q : Bool → Prop} {r3 : X → X → (X → Prop) → Prop} {w u : X} : kC4 r3 w Q u = r3 w.n u.n (kC5 Q) := rfl
theorem w_c5 {Q : Bool → Prop} {b : Bool} : kC5 Q (.f (.bl b)) = Q b := propext ⟨fun ⟨_, e, h⟩ => by cases e; exact h, fun h => ⟨_, rfl, h⟩⟩
theorem w_nil {Q : List X → Prop} {ρ : Env} : mNil ρ Q = Q [] := rfl
theorem w_cons {Q : List X → Prop} {ρ : Env} {ma : ME} {mr : MA} : mCons ma mr ρ Q = ma ρ (kCons1 mr ρ Q) := rfl
theorem w_cons1 {Q : List X → Prop} {ρ : Env} {mr : MA} {x : X} : kCons1 mr ρ Q x = mr ρ (kCons2 x Q) := rfl
theorem w_cons2 {Q : List X → Prop} {x : X} {xs : List X} : kCons2 x Q xs = Q (x.n :: xs) := rfl
theorem w_fs0  : fsOf [] = some [] := rfl
theorem w_fs1 {d : D} {r : List X} : fsOf (.f d :: r) = (fsOf r).map (d :: ·) := rfl
theorem w_tup {Q : X → Prop} {ρ : Env} {m : MA} : mTup m ρ Q = m ρ (kTup Q) := rfl
theorem w_tup1 {Q : X → Prop} {xs : List X} : kTup Q xs = ∃ ds, fsOf xs = some ds ∧ Q (.f (.tup ds)) := rfl
theorem w_lst {Q : X → Prop} {ρ : Env} {m : MA} : mLst m ρ Q = m ρ (kLst Q) := rfl
theorem w_lst1 {Q : X → Prop} {xs : List X} : kLst Q xs = ∃ ds, fsOf xs = some ds ∧ Q (.o (.lst ds)) := rfl
theorem w_call {Q : X → Prop} {ρ : Env} {sp : List X → (X → Prop) → Prop} {m : MA} {bs : List Bool} : mCall bs sp m ρ Q = m ρ (kCall bs sp Q) := rfl
theorem w_call1 {Q : X → Prop} {sp : List X → (X → Prop) → Prop} {xs : List X} {bs : List Bool} : kCall bs sp Q xs = sp (viewX bs (xs.map X.p)) Q := rfl
theorem vx0 {xs : List X} : viewX [] xs = xs := by cases xs <;> rfl
theorem vxt {b : List Bool} {x : X} {xs : List X} : viewX (true :: b) (x :: xs) = x.v :: viewX b xs := rfl
theorem vxf {b : List Bool} {x : X} {xs : List X} : viewX (false :: b) (x :: xs) = x :: viewX b xs := rfl
theorem xv_f {d : List D} : (X.f (.lst d)).v = .b (.lst d) := rfl
theorem xv_k {d : List (Key × D)} : (X.f (.dk d)).v = .f (.dk d) := rfl
theorem xv_t {d : List (List Key × D)} : (X.f (.dt d)).v = .f (.dt d) := rfl
theorem xv_b {d : OD} : (X.b d).v = .b d := rfl
theorem w_cb0 {Q : X → Prop} {ρ : Env} {sp : List X → (X → Prop) → Prop} {m : MA} : mCB sp m ρ Q = m ρ (kCB sp Q) := rfl
theorem w_cb1 {Q : X → Prop} {sp : List X → (X → Prop) → Prop} {xs : List X} : kCB sp Q xs = sp xs Q := rfl
theorem w_seq {D : Pd} {ρ : Env} {m n : MS} : mSeq m n D ρ = m { D with nx := n D } ρ := rfl
theorem w_next {D : Pd} {ρ : Env} : mNext D ρ = D.nx ρ := rfl
theorem w_ret {D : Pd} {ρ : Env} {me : ME} : mRet me D ρ = me ρ D.rt := rfl
theorem w_retN {D : Pd} {ρ : Env} : mRetN D ρ = D.rt (.f .non) := rfl
theorem w_retV {D : Pd} {ρ : Env} {i : Nat} : mRetV i D ρ = rdV (getS ρ i) D.rt := rfl
theorem w_brk {D : Pd} {ρ : Env} : mBrk D ρ = D.bk ρ := rfl
theorem w_cnt {D : Pd} {ρ : Env} : mCnt D ρ = D.ct ρ := rfl
theorem w_nev {D : Pd} {ρ : Env} : mNev D ρ = False := rfl
theorem w_asg {D : Pd} {ρ : Env} {me : ME} {i : Nat} : mAsg me i D ρ = me ρ (kAsg i D.nx ρ) := rfl
theorem w_asgf {N : Env → Prop} {ρ : Env} {i : Nat} {d : Pl.D} : kAsg i N ρ (.f d) = N (ρ.set i (.fz d)) := rfl
theorem w_asgo {N : Env → Prop} {ρ : Env} {i : Nat} {d : OD} : kAsg i N ρ (.o d) = N (ρ.set i (.own d)) := rfl
theorem w_asgp {N : Env → Prop} {ρ : Env} {i : Nat} : kAsg i N ρ .pl = N (ρ.set i .pool) := rfl
theorem w_drop {D : Pd} {ρ : Env} {me : ME} : mDrop me D ρ = me ρ (kDrop D.nx ρ) := rfl
theorem w_drop1 {N : Env → Prop} {ρ : Env} {x : X} : kDrop N ρ x = N ρ := rfl
theorem w_ifs {D : Pd} {ρ : Env} {t : MT} {m n : MS} : mIfS t m n D ρ = t ρ (kIfS m n D ρ) := rfl
theorem w_ifs1 {D : Pd} {ρ : Env} {m n : MS} {b : Bool} : kIfS m n D ρ b = pIf b (m D ρ) (n D ρ) := rfl
theorem w_fr {D : Pd} {ρ : Env} {i : Nat} {m : MS} : mFr i m D ρ = m D (ρ.set i (getS ρ i).fr) := rfl
theorem w_out {Q : X → Prop} {x : X} : (Pd.out Q).rt x = Q x.p := rfl
theorem w_outn {Q : X → Prop} {ρ : Env} : (Pd.out Q).nx ρ = Q (.f .non) := rfl
theorem w_law {x : X} : Pd.law.rt x = (x = .f (.bl true)) := rfl
theorem w_rg1 {R : List D → Bool → Prop} {ρ : Env} {m : MA} : mRg1 m ρ R = m ρ (kRg1 R) := rfl
theorem w_rg1i {R : List D → Bool → Prop} {n : Int} : kRg1 R [.f (.int n)] = ((-(2 ^ 62) ≤ n ∧ n < 2 ^ 62) ∧ R (rngD 0 n.toNat) true) := propext ⟨fun ⟨_, e, h⟩ => by cases e; exact h, fun h => ⟨_, rfl, h⟩⟩
theorem w_rg2 {R : List D → Bool → Prop} {ρ : Env} {m : MA} : mRg2 m ρ R = m ρ (kRg2 R) := rfl
theorem w_rg2i {R : List D → Bool → Prop} {i n : Int} : kRg2 R [.f (.int i), .f (.int n)] = ((-(2 ^ 62) ≤ i ∧ i < 2 ^ 62 ∧ -(2 ^ 62) ≤ n ∧ n < 2 ^ 62) ∧ R (rngD i (n - i).toNat) true) := propext ⟨fun ⟨_, _, e, h⟩ => by cases e; exact h, fun h => ⟨_, _, rfl, h⟩⟩
theorem w_il {R : List D → Bool → Prop} {ρ : Env} {m : ME} : mIL m ρ R = m ρ (kIL R) := rfl
theorem w_il1 {R : List D → Bool → Prop} {x : X} : kIL R x = itX x.n R := rfl
theorem w_it {R : List D → Bool → Prop} {ρ : Env} {m : ME} : mIT m ρ R = m ρ (kIT R) := rfl
theorem w_it1 {R : List D → Bool → Prop} {x : X} : kIT R x = itT x.n R := rfl
theorem w_ia {R : List D → Bool → Prop} {ρ : Env} {m : ME} : mIA m ρ R = m ρ (kIA R) := rfl
theorem w_ia1 {R : List D → Bool → Prop} {x : X} : kIA R x = itA x.n R := rfl
theorem itX_f {R : List D → Bool → Prop} {d : List D} : itX (.f (.lst d)) R = R d true := rfl
theorem itX_q {R : List D → Bool → Prop} {d : List D} : itX (.q (.lst d)) R = R d true := rfl
theorem itX_b {R : List D → Bool → Prop} {d : List D} : itX (.b (.lst d)) R = R d false := rfl
theorem itA_f {R : List D → Bool → Prop} {d : List D} : itA (.f (.lst d)) R = R d true := rfl
theorem itA_q {R : List D → Bool → Prop} {d : List D} : itA (.q (.lst d)) R = R d true := rfl
theorem itA_b {R : List D → Bool → Prop} {d : List D} : itA (.b (.lst d)) R = R d false := rfl
theorem itA_t {R : List D → Bool → Prop} {d : List D} : itA (.f (.tup d)) R = R d true := rfl
theorem itT_t {R : List D → Bool → Prop} {d : List D} : itT (.f (.tup d)) R = R d true := rfl
theorem w_en {R : List D → Bool → Prop} {ρ : Env} {m : MA} : mEnum m ρ R = m ρ (kEn1 R) := rfl
theorem w_en1 {R : List D → Bool → Prop} {x : X} : kEn1 R [x] = itX x (kEn2 R) := propext ⟨fun ⟨_, e, h⟩ => by cases e; exact h, fun h => ⟨_, rfl, h⟩⟩
theorem w_en2 {R : List D → Bool → Prop} {d : List D} {s : Bool} : kEn2 R d s = R (numbered 0 d) s := rfl
theorem w_zp {R : List D → Bool → Prop} {ρ : Env} {m : MA} : mZip m ρ R = m ρ (kZp1 R) := rfl
theorem w_zp1 {R : List D → Bool → Prop} {x y : X} : kZp1 R [x, y] = itX x (kZp2 R y) := propext ⟨fun ⟨_, _, e, h⟩ => by cases e; exact h, fun h => ⟨_, _, rfl, h⟩⟩
theorem w_zp2 {R : List D → Bool → Prop} {d : List D} {s : Bool} {y : X} : kZp2 R y d s = itX y (kZp3 R d s) := rfl
theorem w_zp3 {R : List D → Bool → Prop} {d e : List D} {s t : Bool} : kZp3 R d s e t = (d.length = e.length ∧ R (zipD d e) (s && t)) := rfl
theorem w_for {D : Pd} {ρ : Env} {mi : MI} {mg : MG} {mb : MS} : mFor mi mg mb D ρ = mi ρ (kFor mg mb D ρ) := rfl
theorem w_for1 {D : Pd} {ρ : Env} {mg : MG} {mb : MS} {d : List Pl.D} : kFor mg mb D ρ d true = mLoop d mg mb D ρ := propext ⟨fun h => h.2, fun h => ⟨rfl, h⟩⟩
theorem w_lc {Q : X → Prop} {ρ : Env} {mi : MI} {mg : MG} {mt : MT} {me : ME} {vs : List Nat} : mLc mi mg mt me vs ρ Q = mi ρ (kLc mg mt me vs ρ Q) := rfl
theorem w_lc1 {Q : X → Prop} {ρ : Env} {mg : MG} {mt : MT} {me : ME} {vs : List Nat} {d : List D} {s : Bool} : kLc mg mt me vs ρ Q d s = mComp d mg mt me (wipeE ρ vs) Q := rfl
theorem w_yes {Q : Bool → Prop} {ρ : Env} : mYes ρ Q = Q true := rfl
theorem w_wp0 {ρ : Env} : wipeE ρ [] = ρ := rfl
theorem w_wp1 {ρ : Env} {v : Nat} {vs : List Nat} : wipeE ρ (v :: vs) = (wipeE ρ vs).set v .no := rfl
theorem w_gn {Q : Env → Prop} {ρ : Env} {i : Nat} {d : D} : mGN i d ρ Q = Q (ρ.set i (.fz d)) := rfl
theorem w_gt {Q : Env → Prop} {ρ : Env} {n : Nat} {m : List D → Env → (Env → Prop) → Prop} {ds : List D} : mGT n m (.tup ds) ρ Q = (ds.length = n ∧ m ds ρ Q) := propext ⟨fun ⟨_, e, h⟩ => by cases e; exact h, fun h => ⟨_, rfl, h⟩⟩
theorem w_gs0 {Q : Env → Prop} {ρ : Env} : mGsN [] ρ Q = Q ρ := propext ⟨fun h => h.2, fun h => ⟨rfl, h⟩⟩
theorem w_gs1 {Q : Env → Prop} {ρ : Env} {m : MG} {n : List D → Env → (Env → Prop) → Prop} {d : D} {r : List D} : mGsC m n (d :: r) ρ Q = m d ρ fun ρ2 => n r ρ2 Q := propext ⟨fun ⟨_, _, e, h⟩ => by cases e; exact h, fun h => ⟨_, _, rfl, h⟩⟩
theorem w_asgG {D : Pd} {ρ : Env} {me : ME} {mg : MG} : mAsgG me mg D ρ = me ρ (kAsgG mg D.nx ρ) := rfl
theorem w_asgG1 {N : Env → Prop} {ρ : Env} {mg : MG} {d : D} : kAsgG mg N ρ (.f d) = mg d ρ N := propext ⟨fun ⟨_, e, h⟩ => by cases e; exact h, fun h => ⟨_, rfl, h⟩⟩
theorem w_asgG2 {N : Env → Prop} {ρ : Env} {mg : MG} {d : OD} : kAsgG mg N ρ (.o d) = mg d.fr ρ N := propext ⟨fun ⟨_, e, h⟩ => by cases e; exact h, fun h => ⟨_, rfl, h⟩⟩
theorem w_apd {D : Pd} {ρ : Env} {i : Nat} {me : ME} : mApd i me D ρ = ∃ ds, getS ρ i = .own (.lst ds) ∧ me ρ (kApd i ds D.nx ρ) := rfl
theorem w_apdf {N : Env → Prop} {ρ : Env} {i : Nat} {d : D} {ds : List D} : kApd i ds N ρ (.f d) = (ds.length < sizeLine ∧ N (ρ.set i (.own (.lst (ds ++ [d]))))) := propext ⟨fun ⟨_, e, h⟩ => by cases e; exact h, fun h => ⟨_, rfl, h⟩⟩
theorem w_apdo {N : Env → Prop} {ρ : Env} {i : Nat} {d : OD} {ds : List D} : kApd i ds N ρ (.o d) = (ds.length < sizeLine ∧ N (ρ.set i (.own (.lst (ds ++ [d.fr]))))) := propext ⟨fun ⟨_, e, h⟩ => by cases e; exact h, fun h => ⟨_, rfl, h⟩⟩
theorem w_set {D : Pd} {ρ : Env} {i : Nat} {mj me : ME} : mSet i mj me D ρ = me ρ (kSet1 i mj D.nx ρ) := rfl
theorem w_set1 {N : Env → Prop} {ρ : Env} {i : Nat} {mj : ME} {y : X} : kSet1 i mj N ρ y = ∃ d ds, y.n = .f d ∧ getS ρ i = .own (.lst ds) ∧ mj ρ (kSet2 i d ds N ρ) := rfl
theorem w_set2 {N : Env → Prop} {ρ : Env} {i : Nat} {d : D} {ds : List D} {k : Int} : kSet2 i d ds N ρ (.f (.int k)) = ∃ j, ixN ds.length k = some j ∧ N (ρ.set i (.own (.lst (ds.set j d)))) := propext ⟨fun ⟨_, _, e, h⟩ => by cases e; exact ⟨_, h⟩, fun ⟨_, h⟩ => ⟨_, _, rfl, h⟩⟩
theorem w_aug {D : Pd} {ρ : Env} {i : Nat} {f : Int → Int → Int} {me : ME} : mAug i f me D ρ = ∃ k, getS ρ i = .fz (.int k) ∧ me ρ (kAug i f k D.nx ρ) := rfl
theorem w_aug1 {N : Env → Prop} {ρ : Env} {i : Nat} {f : Int → Int → Int} {k j : Int} : kAug i f k N ρ (.f (.int j)) = N (ρ.set i (.fz (.int (f k j)))) := propext ⟨fun ⟨_, e, h⟩ => by cases e; exact h, fun h => ⟨_, rfl, h⟩⟩
theorem w_ext {D : Pd} {ρ : Env} {i : Nat} {me : ME} : mExt i me D ρ = ∃ ds, getS ρ i = .own (.lst ds) ∧ me ρ (kExt1 i ds D.nx ρ) := rfl
theorem w_ext1 {N : Env → Prop} {ρ : Env} {i : Nat} {ds : List D} {y : X} : kExt1 i ds N ρ y = itX y.n (kExt2 i ds N ρ) := rfl
theorem w_ext2 {N : Env → Prop} {ρ : Env} {i : Nat} {ds es : List D} {s : Bool} : kExt2 i ds N ρ es s = (ds.length + es.length ≤ sizeLine ∧ N (ρ.set i (.own (.lst (ds ++ es))))) := rfl
theorem w_pop {D : Pd} {ρ : Env} {i : Nat} {mg : MG} : mPopG i mg D ρ = ∃ ds d, getS ρ i = .own (.lst (ds ++ [d])) ∧ mg d (ρ.set i (.own (.lst ds))) D.nx := rfl
theorem w_fld {Q : X → Prop} {ρ : Env} {C : Addr} {f : Str} {ma : ME} : mFld C f ma ρ Q = ma ρ (kFld C f Q) := rfl
theorem w_fld1 {Q : X → Prop} {C : Addr} {f : Str} {x : X} : kFld C f Q x = ∃ gs d, x.n.ins = some (C, gs) ∧ gs.lookup f = some d ∧ Q (.f d) := rfl
theorem w_sf {D : Pd} {ρ : Env} {i : Nat} {C : Addr} {f : Str} {me : ME} : mSfld i C f me D ρ = me ρ (kSfld i C f D.nx ρ) := rfl
theorem w_sf1 {N : Env → Prop} {ρ : Env} {i : Nat} {C : Addr} {f : Str} {y : X} : kSfld i C f N ρ y = ∃ d gs, y.n = .f d ∧ getS ρ i = .slf C gs ∧ gs.length < 1000 ∧ N (ρ.set i (.slf C (putD f d gs))) := rfl
theorem w_mt {Q : X → Prop} {ρ : Env} {C : Addr} {m : Str} {sp : List X → (X → Prop) → Prop} {ma : ME} {mt : MA} {bs : List Bool} : mMeth bs C m sp ma mt ρ Q = ma ρ (kMeth1 bs C m sp mt ρ Q) := rfl
theorem w_mt1 {Q : X → Prop} {ρ : Env} {C : Addr} {m : Str} {sp : List X → (X → Prop) → Prop} {mt : MA} {x : X} {bs : List Bool} : kMeth1 bs C m sp mt ρ Q x = ∃ gs, x.n.ins = some (C, gs) ∧ gs.lookup m = none ∧ mt ρ (kMeth2 bs sp x Q) := rfl
theorem w_mt2 {Q : X → Prop} {sp : List X → (X → Prop) → Prop} {x : X} {xs : List X} {bs : List Bool} : kMeth2 bs sp x Q xs = sp (viewX bs (x.n.p :: xs.map X.p)) Q := rfl
theorem o_I {Q : X → Prop} {C : Int → Int → Prop} {g : Int → Int → D} {i j : Int} : pI C g (.f (.int i)) (.f (.int j)) Q = (C i j ∧ Q (.f (g i j))) := rfl
theorem o_I0 {Q : X → Prop} {g : Int → Int → D} {i j : Int} : pI0 g (.f (.int i)) (.f (.int j)) Q = Q (.f (g i j)) := rfl
theorem o_U {Q : X → Prop} {g : Int → D} {i : Int} : pU g (.f (.int i)) Q = Q (.f (g i)) := rfl
theorem o_add {x y : X} {Q : X → Prop} : pAdd x y Q = (pAddI x y Q ∨ pCat x y Q ∨ pCatS x y Q ∨ pCatT x y Q) := rfl
theorem add_L {x y : X} {as bs : List D} {Q : X → Prop} (hx : x.L = some as) (hy : y.L = some bs) (h1 : pAddI x y Q = False) (h2 : pCatS x y Q = False) (h3 : pCatT x y Q = False) : pAdd x y Q = (as.length + bs.length ≤ sizeLine ∧ Q (.o (.lst (as ++ bs)))) := by
  rw [o_add, h1, h2, h3, false_or, or_false, or_false]
  exact propext ⟨fun ⟨_, _, e1, e2, h⟩ => by rw [hx] at e1; rw [hy] at e2; cases e1; cases e2; exact h, fun h => ⟨as, bs, hx, hy, h⟩⟩
theorem cat_no {x y : X} {Q : X → Prop} (h : x.L = none) : pCat x y Q = False := eq_false fun ⟨_, _, e, _⟩ => by rw [h] at e; cases e
theorem add_ii {Q : X → Prop} {i j : Int} : pAdd (.f (.int i)) (.f (.int j)) Q = Q (.f (.int (i + j))) := by
  rw [o_add, cat_no (show X.L _ = none from rfl), show pCatS (.f (.int i)) (.f (.int j)) Q = False from rfl, show pCatT (.f (.int i)) (.f (.int j)) Q = False from rfl]
  simp only [false_or, or_false]
  rfl
theorem add_ss {Q : X → Prop} {i j : Str} : pAdd (.f (.str i)) (.f (.str j)) Q = (i.length + j.length ≤ sizeLine ∧ Q (.f (.str (i ++ j)))) := by
  rw [o_add, show pAddI (.f (.str i)) (.f (.str j)) Q = False from rfl, cat_no (show X.L _ = none from rfl), show pCatT (.f (.str i)) (.f (.str j)) Q = False from rfl]
  simp only [false_or, or_false]
  rfl
theorem add_tt {Q : X → Prop} {i j : List D} : pAdd (.f (.tup i)) (.f (.tup j)) Q = (i.length + j.length ≤ sizeLine ∧ Q (.f (.tup (i ++ j)))) := by
  rw [o_add, show pAddI (.f (.tup i)) (.f (.tup j)) Q = False from rfl, cat_no (show X.L _ = none from rfl), show pCatS (.f (.tup i)) (.f (.tup j)) Q = False from rfl]
  simp only [false_or, or_false]
  rfl
theorem add_ff {Q : X → Prop} {i j : List D} : pAdd (.f (.lst i)) (.f (.lst j)) Q = (i.length + j.length ≤ sizeLine ∧ Q (.o (.lst (i ++ j)))) := add_L rfl rfl rfl rfl rfl
theorem add_fb {Q : X → Prop} {i j : List D} : pAdd (.f (.lst i)) (.b (.lst j)) Q = (i.length + j.length ≤ sizeLine ∧ Q (.o (.lst (i ++ j)))) := add_L rfl rfl rfl rfl rfl
theorem add_fq {Q : X → Prop} {i j : List D} : pAdd (.f (.lst i)) (.q (.lst j)) Q = (i.length + j.length ≤ sizeLine ∧ Q (.o (.lst (i ++ j)))) := add_L rfl rfl rfl rfl rfl
theorem add_bf {Q : X → Prop} {i j : List D} : pAdd (.b (.lst i)) (.f (.lst j)) Q = (i.length + j.length ≤ sizeLine ∧ Q (.o (.lst (i ++ j)))) := add_L rfl rfl rfl rfl rfl
theorem add_bb {Q : X → Prop} {i j : List D} : pAdd (.b (.lst i)) (.b (.lst j)) Q = (i.length + j.length ≤ sizeLine ∧ Q (.o (.lst (i ++ j)))) := add_L rfl rfl rfl rfl rfl
theorem add_bq {Q : X → Prop} {i j : List D} : pAdd (.b (.lst i)) (.q (.lst j)) Q = (i.length + j.length ≤ sizeLine ∧ Q (.o (.lst (i ++ j)))) := add_L rfl rfl rfl rfl rfl
theorem add_qf {Q : X → Prop} {i j : List D} : pAdd (.q (.lst i)) (.f (.lst j)) Q = (i.length + j.length ≤ sizeLine ∧ Q (.o (.lst (i ++ j)))) := add_L rfl rfl rfl rfl rfl
theorem add_qb {Q : X → Prop} {i j : List D} : pAdd (.q (.lst i)) (.b (.lst j)) Q = (i.length + j.length ≤ sizeLine ∧ Q (.o (.lst (i ++ j)))) := add_L rfl rfl rfl rfl rfl
theorem add_qq {Q : X → Prop} {i j : List D} : pAdd (.q (.lst i)) (.q (.lst j)) Q = (i.length + j.length ≤ sizeLine ∧ Q (.o (.lst (i ++ j)))) := add_L rfl rfl rfl rfl rfl
theorem rep_f {Q : X → Prop} {i : List D} {k : Int} : pRep (.f (.lst i)) (.f (.int k)) Q = (-(2 ^ 63) ≤ k ∧ k < 2 ^ 63 ∧ i.length * k.toNat ≤ sizeLine ∧ Q (.o (.lst (List.replicate k.toNat i).flatten))) := propext ⟨fun ⟨_, _, e1, e2, h⟩ => by cases e1; cases e2; exact h, fun h => ⟨_, _, rfl, rfl, h⟩⟩
theorem rep_b {Q : X → Prop} {i : List D} {k : Int} : pRep (.b (.lst i)) (.f (.int k)) Q = (-(2 ^ 63) ≤ k ∧ k < 2 ^ 63 ∧ i.length * k.toNat ≤ sizeLine ∧ Q (.o (.lst (List.replicate k.toNat i).flatten))) := propext ⟨fun ⟨_, _, e1, e2, h⟩ => by cases e1; cases e2; exact h, fun h => ⟨_, _, rfl, rfl, h⟩⟩
theorem rep_q {Q : X → Prop} {i : List D} {k : Int} : pRep (.q (.lst i)) (.f (.int k)) Q = (-(2 ^ 63) ≤ k ∧ k < 2 ^ 63 ∧ i.length * k.toNat ≤ sizeLine ∧ Q (.o (.lst (List.replicate k.toNat i).flatten))) := propext ⟨fun ⟨_, _, e1, e2, h⟩ => by cases e1; cases e2; exact h, fun h => ⟨_, _, rfl, rfl, h⟩⟩
theorem isN_f {Q : X → Prop} {d : D} : pIsN (.f d) (.f .non) Q = Q (.f (.bl (isD (.f d) .non))) := propext ⟨fun ⟨_, _, h⟩ => h, fun h => ⟨rfl, (fun z => by cases z), h⟩⟩
theorem isN_b {Q : X → Prop} {d : OD} : pIsN (.b d) (.f .non) Q = Q (.f (.bl (isD (.b d) .non))) := propext ⟨fun ⟨_, _, h⟩ => h, fun h => ⟨rfl, (fun z => by cases z), h⟩⟩
theorem isN_q {Q : X → Prop} {d : OD} : pIsN (.q d) (.f .non) Q = Q (.f (.bl (isD (.q d) .non))) := propext ⟨fun ⟨_, _, h⟩ => h, fun h => ⟨rfl, (fun z => by cases z), h⟩⟩
theorem notN_f {Q : X → Prop} {d : D} : pNotN (.f d) (.f .non) Q = Q (.f (.bl (!isD (.f d) .non))) := propext ⟨fun ⟨_, _, h⟩ => h, fun h => ⟨rfl, (fun z => by cases z), h⟩⟩
theorem notN_b {Q : X → Prop} {d : OD} : pNotN (.b d) (.f .non) Q = Q (.f (.bl (!isD (.b d) .non))) := propext ⟨fun ⟨_, _, h⟩ => h, fun h => ⟨rfl, (fun z => by cases z), h⟩⟩
theorem notN_q {Q : X → Prop} {d : OD} : pNotN (.q d) (.f .non) Q = Q (.f (.bl (!isD (.q d) .non))) := propext ⟨fun ⟨_, _, h⟩ => h, fun h => ⟨rfl, (fun z => by cases z), h⟩⟩
theorem isT_f {Q : X → Prop} {d : D} {b : Bool} : pIsT (.f d) (.f (.bl b)) Q = Q (.f (.bl (isD (.f d) (.bl b)))) := propext ⟨fun ⟨_, e, _, h⟩ => by cases e; exact h, fun h => ⟨_, rfl, (fun z => by cases z), h⟩⟩
theorem isT_b {Q : X → Prop} {d : OD} {b : Bool} : pIsT (.b d) (.f (.bl b)) Q = Q (.f (.bl (isD (.b d) (.bl b)))) := propext ⟨fun ⟨_, e, _, h⟩ => by cases e; exact h, fun h => ⟨_, rfl, (fun z => by cases z), h⟩⟩
theorem isT_q {Q : X → Prop} {d : OD} {b : Bool} : pIsT (.q d) (.f (.bl b)) Q = Q (.f (.bl (isD (.q d) (.bl b)))) := propext ⟨fun ⟨_, e, _, h⟩ => by cases e; exact h, fun h => ⟨_, rfl, (fun z => by cases z), h⟩⟩
theorem notT_f {Q : X → Prop} {d : D} {b : Bool} : pNotT (.f d) (.f (.bl b)) Q = Q (.f (.bl (!isD (.f d) (.bl b)))) := propext ⟨fun ⟨_, e, _, h⟩ => by cases e; exact h, fun h => ⟨_, rfl, (fun z => by cases z), h⟩⟩
theorem notT_b {Q : X → Prop} {d : OD} {b : Bool} : pNotT (.b d) (.f (.bl b)) Q = Q (.f (.bl (!isD (.b d) (.bl b)))) := propext ⟨fun ⟨_, e, _, h⟩ => by cases e; exact h, fun h => ⟨_, rfl, (fun z => by cases z), h⟩⟩
theorem notT_q {Q : X → Prop} {d : OD} {b : Bool} : pNotT (.q d) (.f (.bl b)) Q = Q (.f (.bl (!isD (.q d) (.bl b)))) := propext ⟨fun ⟨_, e, _, h⟩ => by cases e; exact h, fun h => ⟨_, rfl, (fun z => by cases z), h⟩⟩
theorem isD_n  : isD (.f .non) .non = true := rfl
theorem isD_bb {a b : Bool} : isD (.f (.bl a)) (.bl b) = (a == b) := rfl
theorem isD_intn {i : Int} : isD (.f (.int i)) .non = false := rfl
theorem isD_intb {i : Int} {b : Bool} : isD (.f (.int i)) (.bl b) = false := rfl
theorem isD_strn {i : Str} : isD (.f (.str i)) .non = false := rfl
theorem isD_strb {i : Str} {b : Bool} : isD (.f (.str i)) (.bl b) = false := rfl
theorem isD_lstn {i : List D} : isD (.f (.lst i)) .non = false := rfl
theorem isD_lstb {i : List D} {b : Bool} : isD (.f (.lst i)) (.bl b) = false := rfl
theorem isD_tupn {i : List D} : isD (.f (.tup i)) .non = false := rfl
theorem isD_tupb {i : List D} {b : Bool} : isD (.f (.tup i)) (.bl b) = false := rfl
theorem isD_dkn {i : List (Key × D)} : isD (.f (.dk i)) .non = false := rfl
theorem isD_dkb {i : List (Key × D)} {b : Bool} : isD (.f (.dk i)) (.bl b) = false := rfl
theorem isD_insn {C : Addr} {g : List (Str × D)} : isD (.f (.ins C g)) .non = false := rfl
theorem isD_bn {b : Bool} : isD (.f (.bl b)) .non = false := rfl
theorem isD_nb {b : Bool} : isD (.f .non) (.bl b) = false := rfl
theorem isD_b_n {i : OD} : isD (.b i) .non = false := rfl
theorem isD_b_b {i : OD} {b : Bool} : isD (.b i) (.bl b) = false := rfl
theorem isD_q_n {i : OD} : isD (.q i) .non = false := rfl
theorem isD_q_b {i : OD} {b : Bool} : isD (.q i) (.bl b) = false := rfl
theorem in_n {x y : X} {neg : Bool} {Q : X → Prop} : pIn neg x y Q = ∃ d ds, x = .f d ∧ y.S = some ds ∧ flatD d = true ∧ ds.all flatD = true ∧ Q (.f (.bl (if neg then !inD d ds else inD d ds))) := rfl
theorem fl_i {i : Int} : flatD (.int i) = true := rfl
theorem fl_s {i : Str} : flatD (.str i) = true := rfl
theorem fl_b {i : Bool} : flatD (.bl i) = true := rfl
theorem fl_n  : flatD .non = true := rfl
theorem in_nil {d : D} : inD d [] = false := rfl
theorem in_ss {a b : Str} {r : List D} : inD (.str a) (.str b :: r) = (decide (b = a) || inD (.str a) r) := by simp only [inD, List.any_cons, vD, eqV]; congr 1
theorem in_ii {a b : Int} {r : List D} : inD (.int a) (.int b :: r) = (decide (b = a) || inD (.int a) r) := by simp only [inD, List.any_cons, vD, eqV]; congr 1
theorem ix_t {Q : X → Prop} {ds : List D} {i : Int} : pIx (.f (.tup ds)) (.f (.int i)) Q = ∃ d, atI ds i = some d ∧ Q (.f d) := propext ⟨fun ⟨_, e, h⟩ => (by
  cases e
  rcases h with ⟨_, d, e, h⟩ | ⟨_, _, e, _⟩
  · cases e; exact ⟨d, h⟩
  · cases e), fun ⟨d, h⟩ => ⟨_, rfl, .inl ⟨_, d, rfl, h⟩⟩⟩
theorem len_t {Q : X → Prop} {ds : List D} : pLen [(.f (.tup ds))] Q = Q (.f (.int ds.length)) := propext ⟨fun ⟨_, e, h⟩ => (by
  cases e
  rcases h with ⟨_, e, h⟩ | ⟨_, e, _⟩
  · cases e; exact h
  · cases e), fun h => ⟨_, rfl, .inl ⟨_, rfl, h⟩⟩⟩
theorem list_t {Q : X → Prop} {ds : List D} : pList [(.f (.tup ds))] Q = Q (.o (.lst ds)) := propext ⟨fun ⟨_, _, e, e2, h⟩ => by cases e; cases e2; exact h, fun h => ⟨_, _, rfl, rfl, h⟩⟩
theorem tuple_t {Q : X → Prop} {ds : List D} : pTuple [(.f (.tup ds))] Q = Q (.f (.tup ds)) := propext ⟨fun ⟨_, _, e, e2, h⟩ => by cases e; cases e2; exact h, fun h => ⟨_, _, rfl, rfl, h⟩⟩
theorem ix_l {Q : X → Prop} {ds : List D} {i : Int} : pIx (.f (.lst ds)) (.f (.int i)) Q = ∃ d, atI ds i = some d ∧ Q (.f d) := propext ⟨fun ⟨_, e, h⟩ => (by
  cases e
  rcases h with ⟨_, d, e, h⟩ | ⟨_, _, e, _⟩
  · cases e; exact ⟨d, h⟩
  · cases e), fun ⟨d, h⟩ => ⟨_, rfl, .inl ⟨_, d, rfl, h⟩⟩⟩
theorem len_l {Q : X → Prop} {ds : List D} : pLen [(.f (.lst ds))] Q = Q (.f (.int ds.length)) := propext ⟨fun ⟨_, e, h⟩ => (by
  cases e
  rcases h with ⟨_, e, h⟩ | ⟨_, e, _⟩
  · cases e; exact h
  · cases e), fun h => ⟨_, rfl, .inl ⟨_, rfl, h⟩⟩⟩
theorem list_l {Q : X → Prop} {ds : List D} : pList [(.f (.lst ds))] Q = Q (.o (.lst ds)) := propext ⟨fun ⟨_, _, e, e2, h⟩ => by cases e; cases e2; exact h, fun h => ⟨_, _, rfl, rfl, h⟩⟩
theorem tuple_l {Q : X → Prop} {ds : List D} : pTuple [(.f (.lst ds))] Q = Q (.f (.tup ds)) := propext ⟨fun ⟨_, _, e, e2, h⟩ => by cases e; cases e2; exact h, fun h => ⟨_, _, rfl, rfl, h⟩⟩
theorem sl_l {Q : X → Prop} {ds : List D} {l h : Option Int} : pSl (.f (.lst ds)) l h Q = Q (.o (.lst (cutD ds l h))) := propext ⟨fun k => (by
  rcases k with ⟨_, e, k⟩ | ⟨_, e, _⟩ | ⟨_, e, _⟩
  · cases e; exact k
  · cases e
  · cases e), fun k => .inl ⟨_, rfl, k⟩⟩
theorem ix_b {Q : X → Prop} {ds : List D} {i : Int} : pIx (.b (.lst ds)) (.f (.int i)) Q = ∃ d, atI ds i = some d ∧ Q (.f d) := propext ⟨fun ⟨_, e, h⟩ => (by
  cases e
  rcases h with ⟨_, d, e, h⟩ | ⟨_, _, e, _⟩
  · cases e; exact ⟨d, h⟩
  · cases e), fun ⟨d, h⟩ => ⟨_, rfl, .inl ⟨_, d, rfl, h⟩⟩⟩
theorem len_b {Q : X → Prop} {ds : List D} : pLen [(.b (.lst ds))] Q = Q (.f (.int ds.length)) := propext ⟨fun ⟨_, e, h⟩ => (by
  cases e
  rcases h with ⟨_, e, h⟩ | ⟨_, e, _⟩
  · cases e; exact h
  · cases e), fun h => ⟨_, rfl, .inl ⟨_, rfl, h⟩⟩⟩
theorem list_b {Q : X → Prop} {ds : List D} : pList [(.b (.lst ds))] Q = Q (.o (.lst ds)) := propext ⟨fun ⟨_, _, e, e2, h⟩ => by cases e; cases e2; exact h, fun h => ⟨_, _, rfl, rfl, h⟩⟩
theorem tuple_b {Q : X → Prop} {ds : List D} : pTuple [(.b (.lst ds))] Q = Q (.f (.tup ds)) := propext ⟨fun ⟨_, _, e, e2, h⟩ => by cases e; cases e2; exact h, fun h => ⟨_, _, rfl, rfl, h⟩⟩
theorem sl_b {Q : X → Prop} {ds : List D} {l h : Option Int} : pSl (.b (.lst ds)) l h Q = Q (.o (.lst (cutD ds l h))) := propext ⟨fun k => (by
  rcases k with ⟨_, e, k⟩ | ⟨_, e, _⟩ | ⟨_, e, _⟩
  · cases e; exact k
  · cases e
  · cases e), fun k => .inl ⟨_, rfl, k⟩⟩
theorem ix_q {Q : X → Prop} {ds : List D} {i : Int} : pIx (.q (.lst ds)) (.f (.int i)) Q = ∃ d, atI ds i = some d ∧ Q (.f d) := propext ⟨fun ⟨_, e, h⟩ => (by
  cases e
  rcases h with ⟨_, d, e, h⟩ | ⟨_, _, e, _⟩
  · cases e; exact ⟨d, h⟩
  · cases e), fun ⟨d, h⟩ => ⟨_, rfl, .inl ⟨_, d, rfl, h⟩⟩⟩
theorem len_q {Q : X → Prop} {ds : List D} : pLen [(.q (.lst ds))] Q = Q (.f (.int ds.length)) := propext ⟨fun ⟨_, e, h⟩ => (by
  cases e
  rcases h with ⟨_, e, h⟩ | ⟨_, e, _⟩
  · cases e; exact h
  · cases e), fun h => ⟨_, rfl, .inl ⟨_, rfl, h⟩⟩⟩
theorem list_q {Q : X → Prop} {ds : List D} : pList [(.q (.lst ds))] Q = Q (.o (.lst ds)) := propext ⟨fun ⟨_, _, e, e2, h⟩ => by cases e; cases e2; exact h, fun h => ⟨_, _, rfl, rfl, h⟩⟩
theorem tuple_q {Q : X → Prop} {ds : List D} : pTuple [(.q (.lst ds))] Q = Q (.f (.tup ds)) := propext ⟨fun ⟨_, _, e, e2, h⟩ => by cases e; cases e2; exact h, fun h => ⟨_, _, rfl, rfl, h⟩⟩
theorem sl_q {Q : X → Prop} {ds : List D} {l h : Option Int} : pSl (.q (.lst ds)) l h Q = Q (.o (.lst (cutD ds l h))) := propext ⟨fun k => (by
  rcases k with ⟨_, e, k⟩ | ⟨_, e, _⟩ | ⟨_, e, _⟩
  · cases e; exact k
  · cases e
  · cases e), fun k => .inl ⟨_, rfl, k⟩⟩
theorem sl_t {Q : X → Prop} {ds : List D} {l h : Option Int} : pSl (.f (.tup ds)) l h Q = Q (.f (.tup (cutD ds l h))) := propext ⟨fun k => (by
  rcases k with ⟨_, e, k⟩ | ⟨_, e, k⟩ | ⟨_, e, _⟩
  · cases e
  · cases e; exact k
  · cases e), fun k => .inr (.inl ⟨_, rfl, k⟩)⟩
theorem sl_s {Q : X → Prop} {z : Str} {l h : Option Int} : pSl (.f (.str z)) l h Q = (z.length ≤ sizeLine ∧ Q (.f (.str (cutS z l h)))) := propext ⟨fun k => (by
  rcases k with ⟨_, e, k⟩ | ⟨_, e, k⟩ | ⟨_, e, k⟩
  · cases e
  · cases e
  · cases e; exact k), fun k => .inr (.inr ⟨_, rfl, k⟩)⟩
theorem len_s {Q : X → Prop} {z : Str} : pLen [.f (.str z)] Q = (z.length ≤ sizeLine ∧ Q (.f (.int z.length))) := propext ⟨fun ⟨_, e, h⟩ => (by
  cases e
  rcases h with ⟨_, e, h⟩ | ⟨_, e, h⟩
  · cases e
  · cases e; exact h), fun h => ⟨_, rfl, .inr ⟨_, rfl, h⟩⟩⟩
theorem ix_s {Q : X → Prop} {z : Str} {i : Int} : pIx (.f (.str z)) (.f (.int i)) Q = (z.length ≤ sizeLine ∧ ∃ c, atI z.cps.toList i = some c ∧ Q (.f (.str ⟨#[c]⟩))) := propext ⟨fun ⟨_, e, h⟩ => (by
  cases e
  rcases h with ⟨_, _, e, h⟩ | ⟨_, c, e, h1, h2, h⟩
  · cases e
  · cases e; exact ⟨h1, c, h2, h⟩), fun ⟨h1, c, h2, h⟩ => ⟨_, rfl, .inr ⟨_, c, rfl, h1, h2, h⟩⟩⟩
theorem at0 {α : Type} {l : List α} {a0 : α} : atI (a0 :: l) 0 = some a0 := atI_nat (j := 0) rfl
theorem at1 {α : Type} {l : List α} {a0 a1 : α} : atI (a0 :: a1 :: l) 1 = some a1 := atI_nat (j := 1) rfl
theorem at2 {α : Type} {l : List α} {a0 a1 a2 : α} : atI (a0 :: a1 :: a2 :: l) 2 = some a2 := atI_nat (j := 2) rfl
theorem at3 {α : Type} {l : List α} {a0 a1 a2 a3 : α} : atI (a0 :: a1 :: a2 :: a3 :: l) 3 = some a3 := atI_nat (j := 3) rfl
theorem at4 {α : Type} {l : List α} {a0 a1 a2 a3 a4 : α} : atI (a0 :: a1 :: a2 :: a3 :: a4 :: l) 4 = some a4 := atI_nat (j := 4) rfl
theorem at5 {α : Type} {l : List α} {a0 a1 a2 a3 a4 a5 : α} : atI (a0 :: a1 :: a2 :: a3 :: a4 :: a5 :: l) 5 = some a5 := atI_nat (j := 5) rfl
theorem at6 {α : Type} {l : List α} {a0 a1 a2 a3 a4 a5 a6 : α} : atI (a0 :: a1 :: a2 :: a3 :: a4 :: a5 :: a6 :: l) 6 = some a6 := atI_nat (j := 6) rfl
theorem at7 {α : Type} {l : List α} {a0 a1 a2 a3 a4 a5 a6 a7 : α} : atI (a0 :: a1 :: a2 :: a3 :: a4 :: a5 :: a6 :: a7 :: l) 7 = some a7 := atI_nat (j := 7) rfl
theorem at8 {α : Type} {l : List α} {a0 a1 a2 a3 a4 a5 a6 a7 a8 : α} : atI (a0 :: a1 :: a2 :: a3 :: a4 :: a5 :: a6 :: a7 :: a8 :: l) 8 = some a8 := atI_nat (j := 8) rfl
theorem at9 {α : Type} {l : List α} {a0 a1 a2 a3 a4 a5 a6 a7 a8 a9 : α} : atI (a0 :: a1 :: a2 :: a3 :: a4 :: a5 :: a6 :: a7 :: a8 :: a9 :: l) 9 = some a9 := atI_nat (j := 9) rfl
theorem at10 {α : Type} {l : List α} {a0 a1 a2 a3 a4 a5 a6 a7 a8 a9 a10 : α} : atI (a0 :: a1 :: a2 :: a3 :: a4 :: a5 :: a6 :: a7 :: a8 :: a9 :: a10 :: l) 10 = some a10 := atI_nat (j := 10) rfl
theorem at11 {α : Type} {l : List α} {a0 a1 a2 a3 a4 a5 a6 a7 a8 a9 a10 a11 : α} : atI (a0 :: a1 :: a2 :: a3 :: a4 :: a5 :: a6 :: a7 :: a8 :: a9 :: a10 :: a11 :: l) 11 = some a11 := atI_nat (j := 11) rfl
theorem at12 {α : Type} {l : List α} {a0 a1 a2 a3 a4 a5 a6 a7 a8 a9 a10 a11 a12 : α} : atI (a0 :: a1 :: a2 :: a3 :: a4 :: a5 :: a6 :: a7 :: a8 :: a9 :: a10 :: a11 :: a12 :: l) 12 = some a12 := atI_nat (j := 12) rfl
theorem at13 {α : Type} {l : List α} {a0 a1 a2 a3 a4 a5 a6 a7 a8 a9 a10 a11 a12 a13 : α} : atI (a0 :: a1 :: a2 :: a3 :: a4 :: a5 :: a6 :: a7 :: a8 :: a9 :: a10 :: a11 :: a12 :: a13 :: l) 13 = some a13 := atI_nat (j := 13) rfl
theorem atm1 {α : Type} {a0 : α} : atI [a0] (-1) = some a0 := rfl
theorem atm2 {α : Type} {a0 a1 : α} : atI [a0, a1] (-1) = some a1 := rfl
theorem atm3 {α : Type} {a0 a1 a2 : α} : atI [a0, a1, a2] (-1) = some a2 := rfl
theorem atm4 {α : Type} {a0 a1 a2 a3 : α} : atI [a0, a1, a2, a3] (-1) = some a3 := rfl
theorem atm5 {α : Type} {a0 a1 a2 a3 a4 : α} : atI [a0, a1, a2, a3, a4] (-1) = some a4 := rfl
theorem atm6 {α : Type} {a0 a1 a2 a3 a4 a5 : α} : atI [a0, a1, a2, a3, a4, a5] (-1) = some a5 := rfl
theorem atm7 {α : Type} {a0 a1 a2 a3 a4 a5 a6 : α} : atI [a0, a1, a2, a3, a4, a5, a6] (-1) = some a6 := rfl
theorem w_sl {Q : X → Prop} {ρ : Env} {me : ME} {ml mh : MO} : mSl me ml mh ρ Q = me ρ (kSl1 ml mh ρ Q) := rfl
theorem w_sl1 {Q : X → Prop} {ρ : Env} {ml mh : MO} {x : X} : kSl1 ml mh ρ Q x = ml ρ (kSl2 mh x ρ Q) := rfl
theorem w_sl2 {Q : X → Prop} {ρ : Env} {mh : MO} {x : X} {l : Option Int} : kSl2 mh x ρ Q l = mh ρ (kSl3 x l Q) := rfl
theorem w_sl3 {Q : X → Prop} {x : X} {l h : Option Int} : kSl3 x l Q h = pSl x.n l h Q := rfl
theorem w_np {Q : Option Int → Prop} {ρ : Env} : mNoPart ρ Q = Q none := rfl
theorem w_pt {Q : Option Int → Prop} {ρ : Env} {me : ME} : mPart me ρ Q = me ρ (kPart Q) := rfl
theorem w_pt1 {Q : Option Int → Prop} {i : Int} : kPart Q (.f (.int i)) = Q (some i) := propext ⟨fun ⟨_, e, h⟩ => by cases e; exact h, fun h => ⟨_, rfl, h⟩⟩
theorem cut_nn (ds : List D) (a b : Nat) (h : a ≤ b) : cutD ds (some (a : Int)) (some (b : Int)) = (ds.take b).drop a := by
  unfold cutD
  rw [HT.sIx_nat, HT.sIx_nat]
  apply List.ext_getElem?
  intro i
  rw [List.getElem?_take, List.getElem?_drop, List.getElem?_drop, List.getElem?_take]
  by_cases h1 : a ≤ ds.length
  · rw [Nat.min_eq_left h1]
    by_cases h2 : i < min b ds.length - a
    · rw [if_pos h2, if_pos (by omega)]
    · rw [if_neg h2]
      split
      · exact (List.getElem?_eq_none (by omega)).symm
      · rfl
  · rw [if_neg (by omega)]
    split
    · exact (List.getElem?_eq_none (by omega)).symm
    · rfl
theorem cut_an (ds : List D) (a : Nat) : cutD ds (some (a : Int)) none = ds.drop a := by
  unfold cutD
  rw [HT.sIx_nat, HT.sIx_none]
  apply List.ext_getElem?
  intro i
  rw [List.getElem?_take, List.getElem?_drop, List.getElem?_drop]
  by_cases h1 : a ≤ ds.length
  · rw [Nat.min_eq_left h1]
    split
    · rfl
    · exact (List.getElem?_eq_none (by omega)).symm
  · rw [if_neg (by omega)]
    exact (List.getElem?_eq_none (by omega)).symm
theorem cut_nb (ds : List D) (b : Nat) : cutD ds none (some (b : Int)) = ds.take b := by
  unfold cutD
  rw [HT.sIx_nat, HT.sIx_none, Nat.sub_zero, List.drop_zero]
  apply List.ext_getElem?
  intro i
  rw [List.getElem?_take, List.getElem?_take]
  by_cases h : i < min b ds.length
  · rw [if_pos h, if_pos (by omega)]
  · rw [if_neg h]
    split
    · exact (List.getElem?_eq_none (by omega)).symm
    · rfl
theorem cut_nm (ds : List D) : cutD ds none (some (-1)) = ds.dropLast := by
  unfold cutD
  rw [HT.sIx_none, Nat.sub_zero, List.drop_zero, List.dropLast_eq_take]
  have e : HT.sIx ds.length ds.length (some (-1)) = ds.length - 1 := by
    show (if (-1 : Int) < 0 then ((-1 : Int) + (ds.length : Int)).toNat else min (-1 : Int).toNat ds.length) = _
    rw [if_pos (by decide)]
    omega
  rw [e]
theorem cutb0 {ds : List D} : cutD ds none (some 0) = ds.take 0 := cut_nb ds 0
theorem cuta0 {ds : List D} : cutD ds (some 0) none = ds.drop 0 := cut_an ds 0
theorem cutb1 {ds : List D} : cutD ds none (some 1) = ds.take 1 := cut_nb ds 1
theorem cuta1 {ds : List D} : cutD ds (some 1) none = ds.drop 1 := cut_an ds 1
theorem cutb2 {ds : List D} : cutD ds none (some 2) = ds.take 2 := cut_nb ds 2
theorem cuta2 {ds : List D} : cutD ds (some 2) none = ds.drop 2 := cut_an ds 2
theorem cutb3 {ds : List D} : cutD ds none (some 3) = ds.take 3 := cut_nb ds 3
theorem cuta3 {ds : List D} : cutD ds (some 3) none = ds.drop 3 := cut_an ds 3
theorem cutb4 {ds : List D} : cutD ds none (some 4) = ds.take 4 := cut_nb ds 4
theorem cuta4 {ds : List D} : cutD ds (some 4) none = ds.drop 4 := cut_an ds 4
theorem cutb5 {ds : List D} : cutD ds none (some 5) = ds.take 5 := cut_nb ds 5
theorem cuta5 {ds : List D} : cutD ds (some 5) none = ds.drop 5 := cut_an ds 5
theorem cutb6 {ds : List D} : cutD ds none (some 6) = ds.take 6 := cut_nb ds 6
theorem cuta6 {ds : List D} : cutD ds (some 6) none = ds.drop 6 := cut_an ds 6
theorem cutb7 {ds : List D} : cutD ds none (some 7) = ds.take 7 := cut_nb ds 7
theorem cuta7 {ds : List D} : cutD ds (some 7) none = ds.drop 7 := cut_an ds 7
theorem cutb8 {ds : List D} : cutD ds none (some 8) = ds.take 8 := cut_nb ds 8
theorem cuta8 {ds : List D} : cutD ds (some 8) none = ds.drop 8 := cut_an ds 8
theorem cutb9 {ds : List D} : cutD ds none (some 9) = ds.take 9 := cut_nb ds 9
theorem cuta9 {ds : List D} : cutD ds (some 9) none = ds.drop 9 := cut_an ds 9
theorem cutb10 {ds : List D} : cutD ds none (some 10) = ds.take 10 := cut_nb ds 10
theorem cuta10 {ds : List D} : cutD ds (some 10) none = ds.drop 10 := cut_an ds 10
theorem cutb11 {ds : List D} : cutD ds none (some 11) = ds.take 11 := cut_nb ds 11
theorem cuta11 {ds : List D} : cutD ds (some 11) none = ds.drop 11 := cut_an ds 11
theorem cutb12 {ds : List D} : cutD ds none (some 12) = ds.take 12 := cut_nb ds 12
theorem cuta12 {ds : List D} : cutD ds (some 12) none = ds.drop 12 := cut_an ds 12
theorem cut0_0 {ds : List D} : cutD ds (some 0) (some 0) = (ds.take 0).drop 0 := cut_nn ds 0 0 (by decide)
theorem cut0_1 {ds : List D} : cutD ds (some 0) (some 1) = (ds.take 1).drop 0 := cut_nn ds 0 1 (by decide)
theorem cut0_2 {ds : List D} : cutD ds (some 0) (some 2) = (ds.take 2).drop 0 := cut_nn ds 0 2 (by decide)
theorem cut0_3 {ds : List D} : cutD ds (some 0) (some 3) = (ds.take 3).drop 0 := cut_nn ds 0 3 (by decide)
theorem cut0_4 {ds : List D} : cutD ds (some 0) (some 4) = (ds.take 4).drop 0 := cut_nn ds 0 4 (by decide)
theorem cut0_5 {ds : List D} : cutD ds (some 0) (some 5) = (ds.take 5).drop 0 := cut_nn ds 0 5 (by decide)
theorem cut0_6 {ds : List D} : cutD ds (some 0) (some 6) = (ds.take 6).drop 0 := cut_nn ds 0 6 (by decide)
theorem cut0_7 {ds : List D} : cutD ds (some 0) (some 7) = (ds.take 7).drop 0 := cut_nn ds 0 7 (by decide)
theorem cut0_8 {ds : List D} : cutD ds (some 0) (some 8) = (ds.take 8).drop 0 := cut_nn ds 0 8 (by decide)
theorem cut0_9 {ds : List D} : cutD ds (some 0) (some 9) = (ds.take 9).drop 0 := cut_nn ds 0 9 (by decide)
theorem cut0_10 {ds : List D} : cutD ds (some 0) (some 10) = (ds.take 10).drop 0 := cut_nn ds 0 10 (by decide)
theorem cut0_11 {ds : List D} : cutD ds (some 0) (some 11) = (ds.take 11).drop 0 := cut_nn ds 0 11 (by decide)
theorem cut1_1 {ds : List D} : cutD ds (some 1) (some 1) = (ds.take 1).drop 1 := cut_nn ds 1 1 (by decide)
theorem cut1_2 {ds : List D} : cutD ds (some 1) (some 2) = (ds.take 2).drop 1 := cut_nn ds 1 2 (by decide)
theorem cut1_3 {ds : List D} : cutD ds (some 1) (some 3) = (ds.take 3).drop 1 := cut_nn ds 1 3 (by decide)
theorem cut1_4 {ds : List D} : cutD ds (some 1) (some 4) = (ds.take 4).drop 1 := cut_nn ds 1 4 (by decide)
theorem cut1_5 {ds : List D} : cutD ds (some 1) (some 5) = (ds.take 5).drop 1 := cut_nn ds 1 5 (by decide)
theorem cut1_6 {ds : List D} : cutD ds (some 1) (some 6) = (ds.take 6).drop 1 := cut_nn ds 1 6 (by decide)
theorem cut1_7 {ds : List D} : cutD ds (some 1) (some 7) = (ds.take 7).drop 1 := cut_nn ds 1 7 (by decide)
theorem cut1_8 {ds : List D} : cutD ds (some 1) (some 8) = (ds.take 8).drop 1 := cut_nn ds 1 8 (by decide)
theorem cut1_9 {ds : List D} : cutD ds (some 1) (some 9) = (ds.take 9).drop 1 := cut_nn ds 1 9 (by decide)
theorem cut1_10 {ds : List D} : cutD ds (some 1) (some 10) = (ds.take 10).drop 1 := cut_nn ds 1 10 (by decide)
theorem cut1_11 {ds : List D} : cutD ds (some 1) (some 11) = (ds.take 11).drop 1 := cut_nn ds 1 11 (by decide)
theorem cut2_2 {ds : List D} : cutD ds (some 2) (some 2) = (ds.take 2).drop 2 := cut_nn ds 2 2 (by decide)
theorem cut2_3 {ds : List D} : cutD ds (some 2) (some 3) = (ds.take 3).drop 2 := cut_nn ds 2 3 (by decide)
theorem cut2_4 {ds : List D} : cutD ds (some 2) (some 4) = (ds.take 4).drop 2 := cut_nn ds 2 4 (by decide)
theorem cut2_5 {ds : List D} : cutD ds (some 2) (some 5) = (ds.take 5).drop 2 := cut_nn ds 2 5 (by decide)
theorem cut2_6 {ds : List D} : cutD ds (some 2) (some 6) = (ds.take 6).drop 2 := cut_nn ds 2 6 (by decide)
theorem cut2_7 {ds : List D} : cutD ds (some 2) (some 7) = (ds.take 7).drop 2 := cut_nn ds 2 7 (by decide)
theorem cut2_8 {ds : List D} : cutD ds (some 2) (some 8) = (ds.take 8).drop 2 := cut_nn ds 2 8 (by decide)
theorem cut2_9 {ds : List D} : cutD ds (some 2) (some 9) = (ds.take 9).drop 2 := cut_nn ds 2 9 (by decide)
theorem cut2_10 {ds : List D} : cutD ds (some 2) (some 10) = (ds.take 10).drop 2 := cut_nn ds 2 10 (by decide)
theorem cut2_11 {ds : List D} : cutD ds (some 2) (some 11) = (ds.take 11).drop 2 := cut_nn ds 2 11 (by decide)
theorem cut3_3 {ds : List D} : cutD ds (some 3) (some 3) = (ds.take 3).drop 3 := cut_nn ds 3 3 (by decide)
theorem cut3_4 {ds : List D} : cutD ds (some 3) (some 4) = (ds.take 4).drop 3 := cut_nn ds 3 4 (by decide)
theorem cut3_5 {ds : List D} : cutD ds (some 3) (some 5) = (ds.take 5).drop 3 := cut_nn ds 3 5 (by decide)
theorem cut3_6 {ds : List D} : cutD ds (some 3) (some 6) = (ds.take 6).drop 3 := cut_nn ds 3 6 (by decide)
theorem cut3_7 {ds : List D} : cutD ds (some 3) (some 7) = (ds.take 7).drop 3 := cut_nn ds 3 7 (by decide)
theorem cut3_8 {ds : List D} : cutD ds (some 3) (some 8) = (ds.take 8).drop 3 := cut_nn ds 3 8 (by decide)
theorem cut3_9 {ds : List D} : cutD ds (some 3) (some 9) = (ds.take 9).drop 3 := cut_nn ds 3 9 (by decide)
theorem cut3_10 {ds : List D} : cutD ds (some 3) (some 10) = (ds.take 10).drop 3 := cut_nn ds 3 10 (by decide)
theorem cut3_11 {ds : List D} : cutD ds (some 3) (some 11) = (ds.take 11).drop 3 := cut_nn ds 3 11 (by decide)
theorem cut4_4 {ds : List D} : cutD ds (some 4) (some 4) = (ds.take 4).drop 4 := cut_nn ds 4 4 (by decide)
theorem cut4_5 {ds : List D} : cutD ds (some 4) (some 5) = (ds.take 5).drop 4 := cut_nn ds 4 5 (by decide)
theorem cut4_6 {ds : List D} : cutD ds (some 4) (some 6) = (ds.take 6).drop 4 := cut_nn ds 4 6 (by decide)
theorem cut4_7 {ds : List D} : cutD ds (some 4) (some 7) = (ds.take 7).drop 4 := cut_nn ds 4 7 (by decide)
theorem cut4_8 {ds : List D} : cutD ds (some 4) (some 8) = (ds.take 8).drop 4 := cut_nn ds 4 8 (by decide)
theorem cut4_9 {ds : List D} : cutD ds (some 4) (some 9) = (ds.take 9).drop 4 := cut_nn ds 4 9 (by decide)
theorem cut4_10 {ds : List D} : cutD ds (some 4) (some 10) = (ds.take 10).drop 4 := cut_nn ds 4 10 (by decide)
theorem cut4_11 {ds : List D} : cutD ds (some 4) (some 11) = (ds.take 11).drop 4 := cut_nn ds 4 11 (by decide)
theorem cut5_5 {ds : List D} : cutD ds (some 5) (some 5) = (ds.take 5).drop 5 := cut_nn ds 5 5 (by decide)
theorem cut5_6 {ds : List D} : cutD ds (some 5) (some 6) = (ds.take 6).drop 5 := cut_nn ds 5 6 (by decide)
theorem cut5_7 {ds : List D} : cutD ds (some 5) (some 7) = (ds.take 7).drop 5 := cut_nn ds 5 7 (by decide)
theorem cut5_8 {ds : List D} : cutD ds (some 5) (some 8) = (ds.take 8).drop 5 := cut_nn ds 5 8 (by decide)
theorem cut5_9 {ds : List D} : cutD ds (some 5) (some 9) = (ds.take 9).drop 5 := cut_nn ds 5 9 (by decide)
theorem cut5_10 {ds : List D} : cutD ds (some 5) (some 10) = (ds.take 10).drop 5 := cut_nn ds 5 10 (by decide)
theorem cut5_11 {ds : List D} : cutD ds (some 5) (some 11) = (ds.take 11).drop 5 := cut_nn ds 5 11 (by decide)
theorem cut6_6 {ds : List D} : cutD ds (some 6) (some 6) = (ds.take 6).drop 6 := cut_nn ds 6 6 (by decide)
theorem cut6_7 {ds : List D} : cutD ds (some 6) (some 7) = (ds.take 7).drop 6 := cut_nn ds 6 7 (by decide)
theorem cut6_8 {ds : List D} : cutD ds (some 6) (some 8) = (ds.take 8).drop 6 := cut_nn ds 6 8 (by decide)
theorem cut6_9 {ds : List D} : cutD ds (some 6) (some 9) = (ds.take 9).drop 6 := cut_nn ds 6 9 (by decide)
theorem cut6_10 {ds : List D} : cutD ds (some 6) (some 10) = (ds.take 10).drop 6 := cut_nn ds 6 10 (by decide)
theorem cut6_11 {ds : List D} : cutD ds (some 6) (some 11) = (ds.take 11).drop 6 := cut_nn ds 6 11 (by decide)
theorem abs_i {Q : X → Prop} {i : Int} : pAbs [.f (.int i)] Q = Q (.f (.int (if i < 0 then -i else i))) := propext ⟨fun ⟨_, e, h⟩ => by cases e; exact h, fun h => ⟨_, rfl, h⟩⟩
theorem max_ii {Q : X → Prop} {i j : Int} : pMax2 [.f (.int i), .f (.int j)] Q = Q (.f (.int (max i j))) := propext ⟨fun ⟨_, _, e, h⟩ => by cases e; exact h, fun h => ⟨_, _, rfl, h⟩⟩
theorem min_ii {Q : X → Prop} {i j : Int} : pMin2 [.f (.int i), .f (.int j)] Q = Q (.f (.int (min i j))) := propext ⟨fun ⟨_, _, e, h⟩ => by cases e; exact h, fun h => ⟨_, _, rfl, h⟩⟩
theorem int_i {Q : X → Prop} {i : Int} : pInt [.f (.int i)] Q = Q (.f (.int i)) := propext ⟨fun h => (by
  rcases h with ⟨_, e, h⟩ | ⟨_, e, h⟩
  · cases e; exact h
  · cases e), fun h => .inl ⟨_, rfl, h⟩⟩
theorem int_b {Q : X → Prop} {b : Bool} : pInt [.f (.bl b)] Q = Q (.f (.int (if b then 1 else 0))) := propext ⟨fun h => (by
  rcases h with ⟨_, e, h⟩ | ⟨_, e, h⟩
  · cases e
  · cases e; exact h), fun h => .inr ⟨_, rfl, h⟩⟩
theorem str_i {Q : X → Prop} {i : Int} : pStrI [.f (.int i)] Q = (i.natAbs.log2 < 1920 ∧ Q (.f (.str (toString i)))) := propext ⟨fun ⟨_, e, h⟩ => by cases e; exact h, fun h => ⟨_, rfl, h⟩⟩
theorem kq_int_int : kitB "int" "int" = some true := by decide +kernel
theorem kq_int_str : kitB "int" "str" = some false := by decide +kernel
theorem kq_int_bool : kitB "int" "bool" = some false := by decide +kernel
theorem kq_int_list : kitB "int" "list" = some false := by decide +kernel
theorem kq_int_tuple : kitB "int" "tuple" = some false := by decide +kernel
theorem kq_int_dict : kitB "int" "dict" = some false := by decide +kernel
theorem kq_bool_int : kitB "bool" "int" = some true := by decide +kernel
theorem kq_bool_str : kitB "bool" "str" = some false := by decide +kernel
theorem kq_bool_bool : kitB "bool" "bool" = some true := by decide +kernel
theorem kq_bool_list : kitB "bool" "list" = some false := by decide +kernel
theorem kq_bool_tuple : kitB "bool" "tuple" = some false := by decide +kernel
theorem kq_bool_dict : kitB "bool" "dict" = some false := by decide +kernel
theorem kq_str_int : kitB "str" "int" = some false := by decide +kernel
theorem kq_str_str : kitB "str" "str" = some true := by decide +kernel
theorem kq_str_bool : kitB "str" "bool" = some false := by decide +kernel
theorem kq_str_list : kitB "str" "list" = some false := by decide +kernel
theorem kq_str_tuple : kitB "str" "tuple" = some false := by decide +kernel
theorem kq_str_dict : kitB "str" "dict" = some false := by decide +kernel
theorem kq_NoneType_int : kitB "NoneType" "int" = some false := by decide +kernel
theorem kq_NoneType_str : kitB "NoneType" "str" = some false := by decide +kernel
theorem kq_NoneType_bool : kitB "NoneType" "bool" = some false := by decide +kernel
theorem kq_NoneType_list : kitB "NoneType" "list" = some false := by decide +kernel
theorem kq_NoneType_tuple : kitB "NoneType" "tuple" = some false := by decide +kernel
theorem kq_NoneType_dict : kitB "NoneType" "dict" = some false := by decide +kernel
theorem kq_list_int : kitB "list" "int" = some false := by decide +kernel
theorem kq_list_str : kitB "list" "str" = some false := by decide +kernel
theorem kq_list_bool : kitB "list" "bool" = some false := by decide +kernel
theorem kq_list_list : kitB "list" "list" = some true := by decide +kernel
theorem kq_list_tuple : kitB "list" "tuple" = some false := by decide +kernel
theorem kq_list_dict : kitB "list" "dict" = some false := by decide +kernel
theorem kq_tuple_int : kitB "tuple" "int" = some false := by decide +kernel
theorem kq_tuple_str : kitB "tuple" "str" = some false := by decide +kernel
theorem kq_tuple_bool : kitB "tuple" "bool" = some false := by decide +kernel
theorem kq_tuple_list : kitB "tuple" "list" = some false := by decide +kernel
theorem kq_tuple_tuple : kitB "tuple" "tuple" = some true := by decide +kernel
theorem kq_tuple_dict : kitB "tuple" "dict" = some false := by decide +kernel
theorem kq_dict_int : kitB "dict" "int" = some false := by decide +kernel
theorem kq_dict_str : kitB "dict" "str" = some false := by decide +kernel
theorem kq_dict_bool : kitB "dict" "bool" = some false := by decide +kernel
theorem kq_dict_list : kitB "dict" "list" = some false := by decide +kernel
theorem kq_dict_tuple : kitB "dict" "tuple" = some false := by decide +kernel
theorem kq_dict_dict : kitB "dict" "dict" = some true := by decide +kernel
theorem isi_0_int {i : Int} {Q : X → Prop} : pIsi [.f (.int i), .f (.ty "int")] Q = Q (.f (.bl true)) := propext ⟨fun ⟨_, _, _, e, k, h⟩ => by cases e; cases (kq_int_int.symm.trans k); exact h, fun h => ⟨_, _, _, rfl, kq_int_int, h⟩⟩
theorem isi_0_str {i : Int} {Q : X → Prop} : pIsi [.f (.int i), .f (.ty "str")] Q = Q (.f (.bl false)) := propext ⟨fun ⟨_, _, _, e, k, h⟩ => by cases e; cases (kq_int_str.symm.trans k); exact h, fun h => ⟨_, _, _, rfl, kq_int_str, h⟩⟩
theorem isi_0_bool {i : Int} {Q : X → Prop} : pIsi [.f (.int i), .f (.ty "bool")] Q = Q (.f (.bl false)) := propext ⟨fun ⟨_, _, _, e, k, h⟩ => by cases e; cases (kq_int_bool.symm.trans k); exact h, fun h => ⟨_, _, _, rfl, kq_int_bool, h⟩⟩
theorem isi_0_list {i : Int} {Q : X → Prop} : pIsi [.f (.int i), .f (.ty "list")] Q = Q (.f (.bl false)) := propext ⟨fun ⟨_, _, _, e, k, h⟩ => by cases e; cases (kq_int_list.symm.trans k); exact h, fun h => ⟨_, _, _, rfl, kq_int_list, h⟩⟩
theorem isi_0_tuple {i : Int} {Q : X → Prop} : pIsi [.f (.int i), .f (.ty "tuple")] Q = Q (.f (.bl false)) := propext ⟨fun ⟨_, _, _, e, k, h⟩ => by cases e; cases (kq_int_tuple.symm.trans k); exact h, fun h => ⟨_, _, _, rfl, kq_int_tuple, h⟩⟩
theorem isi_0_dict {i : Int} {Q : X → Prop} : pIsi [.f (.int i), .f (.ty "dict")] Q = Q (.f (.bl false)) := propext ⟨fun ⟨_, _, _, e, k, h⟩ => by cases e; cases (kq_int_dict.symm.trans k); exact h, fun h => ⟨_, _, _, rfl, kq_int_dict, h⟩⟩
theorem isi_1_int {i : Bool} {Q : X → Prop} : pIsi [.f (.bl i), .f (.ty "int")] Q = Q (.f (.bl true)) := propext ⟨fun ⟨_, _, _, e, k, h⟩ => by cases e; cases (kq_bool_int.symm.trans k); exact h, fun h => ⟨_, _, _, rfl, kq_bool_int, h⟩⟩
theorem isi_1_str {i : Bool} {Q : X → Prop} : pIsi [.f (.bl i), .f (.ty "str")] Q = Q (.f (.bl false)) := propext ⟨fun ⟨_, _, _, e, k, h⟩ => by cases e; cases (kq_bool_str.symm.trans k); exact h, fun h => ⟨_, _, _, rfl, kq_bool_str, h⟩⟩
theorem isi_1_bool {i : Bool} {Q : X → Prop} : pIsi [.f (.bl i), .f (.ty "bool")] Q = Q (.f (.bl true)) := propext ⟨fun ⟨_, _, _, e, k, h⟩ => by cases e; cases (kq_bool_bool.symm.trans k); exact h, fun h => ⟨_, _, _, rfl, kq_bool_bool, h⟩⟩
theorem isi_1_list {i : Bool} {Q : X → Prop} : pIsi [.f (.bl i), .f (.ty "list")] Q = Q (.f (.bl false)) := propext ⟨fun ⟨_, _, _, e, k, h⟩ => by cases e; cases (kq_bool_list.symm.trans k); exact h, fun h => ⟨_, _, _, rfl, kq_bool_list, h⟩⟩
theorem isi_1_tuple {i : Bool} {Q : X → Prop} : pIsi [.f (.bl i), .f (.ty "tuple")] Q = Q (.f (.bl false)) := propext ⟨fun ⟨_, _, _, e, k, h⟩ => by cases e; cases (kq_bool_tuple.symm.trans k); exact h, fun h => ⟨_, _, _, rfl, kq_bool_tuple, h⟩⟩
theorem isi_1_dict {i : Bool} {Q : X → Prop} : pIsi [.f (.bl i), .f (.ty "dict")] Q = Q (.f (.bl false)) := propext ⟨fun ⟨_, _, _, e, k, h⟩ => by cases e; cases (kq_bool_dict.symm.trans k); exact h, fun h => ⟨_, _, _, rfl, kq_bool_dict, h⟩⟩
theorem isi_2_int {i : Str} {Q : X → Prop} : pIsi [.f (.str i), .f (.ty "int")] Q = Q (.f (.bl false)) := propext ⟨fun ⟨_, _, _, e, k, h⟩ => by cases e; cases (kq_str_int.symm.trans k); exact h, fun h => ⟨_, _, _, rfl, kq_str_int, h⟩⟩
theorem isi_2_str {i : Str} {Q : X → Prop} : pIsi [.f (.str i), .f (.ty "str")] Q = Q (.f (.bl true)) := propext ⟨fun ⟨_, _, _, e, k, h⟩ => by cases e; cases (kq_str_str.symm.trans k); exact h, fun h => ⟨_, _, _, rfl, kq_str_str, h⟩⟩
theorem isi_2_bool {i : Str} {Q : X → Prop} : pIsi [.f (.str i), .f (.ty "bool")] Q = Q (.f (.bl false)) := propext ⟨fun ⟨_, _, _, e, k, h⟩ => by cases e; cases (kq_str_bool.symm.trans k); exact h, fun h => ⟨_, _, _, rfl, kq_str_bool, h⟩⟩
theorem isi_2_list {i : Str} {Q : X → Prop} : pIsi [.f (.str i), .f (.ty "list")] Q = Q (.f (.bl false)) := propext ⟨fun ⟨_, _, _, e, k, h⟩ => by cases e; cases (kq_str_list.symm.trans k); exact h, fun h => ⟨_, _, _, rfl, kq_str_list, h⟩⟩
theorem isi_2_tuple {i : Str} {Q : X → Prop} : pIsi [.f (.str i), .f (.ty "tuple")] Q = Q (.f (.bl false)) := propext ⟨fun ⟨_, _, _, e, k, h⟩ => by cases e; cases (kq_str_tuple.symm.trans k); exact h, fun h => ⟨_, _, _, rfl, kq_str_tuple, h⟩⟩
theorem isi_2_dict {i : Str} {Q : X → Prop} : pIsi [.f (.str i), .f (.ty "dict")] Q = Q (.f (.bl false)) := propext ⟨fun ⟨_, _, _, e, k, h⟩ => by cases e; cases (kq_str_dict.symm.trans k); exact h, fun h => ⟨_, _, _, rfl, kq_str_dict, h⟩⟩
theorem isi_3_int {Q : X → Prop} : pIsi [.f .non, .f (.ty "int")] Q = Q (.f (.bl false)) := propext ⟨fun ⟨_, _, _, e, k, h⟩ => by cases e; cases (kq_NoneType_int.symm.trans k); exact h, fun h => ⟨_, _, _, rfl, kq_NoneType_int, h⟩⟩
theorem isi_3_str {Q : X → Prop} : pIsi [.f .non, .f (.ty "str")] Q = Q (.f (.bl false)) := propext ⟨fun ⟨_, _, _, e, k, h⟩ => by cases e; cases (kq_NoneType_str.symm.trans k); exact h, fun h => ⟨_, _, _, rfl, kq_NoneType_str, h⟩⟩
theorem isi_3_bool {Q : X → Prop} : pIsi [.f .non, .f (.ty "bool")] Q = Q (.f (.bl false)) := propext ⟨fun ⟨_, _, _, e, k, h⟩ => by cases e; cases (kq_NoneType_bool.symm.trans k); exact h, fun h => ⟨_, _, _, rfl, kq_NoneType_bool, h⟩⟩
theorem isi_3_list {Q : X → Prop} : pIsi [.f .non, .f (.ty "list")] Q = Q (.f (.bl false)) := propext ⟨fun ⟨_, _, _, e, k, h⟩ => by cases e; cases (kq_NoneType_list.symm.trans k); exact h, fun h => ⟨_, _, _, rfl, kq_NoneType_list, h⟩⟩
theorem isi_3_tuple {Q : X → Prop} : pIsi [.f .non, .f (.ty "tuple")] Q = Q (.f (.bl false)) := propext ⟨fun ⟨_, _, _, e, k, h⟩ => by cases e; cases (kq_NoneType_tuple.symm.trans k); exact h, fun h => ⟨_, _, _, rfl, kq_NoneType_tuple, h⟩⟩
theorem isi_3_dict {Q : X → Prop} : pIsi [.f .non, .f (.ty "dict")] Q = Q (.f (.bl false)) := propext ⟨fun ⟨_, _, _, e, k, h⟩ => by cases e; cases (kq_NoneType_dict.symm.trans k); exact h, fun h => ⟨_, _, _, rfl, kq_NoneType_dict, h⟩⟩
theorem isi_4_int {i : List D} {Q : X → Prop} : pIsi [.f (.lst i), .f (.ty "int")] Q = Q (.f (.bl false)) := propext ⟨fun ⟨_, _, _, e, k, h⟩ => by cases e; cases (kq_list_int.symm.trans k); exact h, fun h => ⟨_, _, _, rfl, kq_list_int, h⟩⟩
theorem isi_4_str {i : List D} {Q : X → Prop} : pIsi [.f (.lst i), .f (.ty "str")] Q = Q (.f (.bl false)) := propext ⟨fun ⟨_, _, _, e, k, h⟩ => by cases e; cases (kq_list_str.symm.trans k); exact h, fun h => ⟨_, _, _, rfl, kq_list_str, h⟩⟩
theorem isi_4_bool {i : List D} {Q : X → Prop} : pIsi [.f (.lst i), .f (.ty "bool")] Q = Q (.f (.bl false)) := propext ⟨fun ⟨_, _, _, e, k, h⟩ => by cases e; cases (kq_list_bool.symm.trans k); exact h, fun h => ⟨_, _, _, rfl, kq_list_bool, h⟩⟩
theorem isi_4_list {i : List D} {Q : X → Prop} : pIsi [.f (.lst i), .f (.ty "list")] Q = Q (.f (.bl true)) := propext ⟨fun ⟨_, _, _, e, k, h⟩ => by cases e; cases (kq_list_list.symm.trans k); exact h, fun h => ⟨_, _, _, rfl, kq_list_list, h⟩⟩
theorem isi_4_tuple {i : List D} {Q : X → Prop} : pIsi [.f (.lst i), .f (.ty "tuple")] Q = Q (.f (.bl false)) := propext ⟨fun ⟨_, _, _, e, k, h⟩ => by cases e; cases (kq_list_tuple.symm.trans k); exact h, fun h => ⟨_, _, _, rfl, kq_list_tuple, h⟩⟩
theorem isi_4_dict {i : List D} {Q : X → Prop} : pIsi [.f (.lst i), .f (.ty "dict")] Q = Q (.f (.bl false)) := propext ⟨fun ⟨_, _, _, e, k, h⟩ => by cases e; cases (kq_list_dict.symm.trans k); exact h, fun h => ⟨_, _, _, rfl, kq_list_dict, h⟩⟩
theorem isi_5_int {i : List D} {Q : X → Prop} : pIsi [.f (.tup i), .f (.ty "int")] Q = Q (.f (.bl false)) := propext ⟨fun ⟨_, _, _, e, k, h⟩ => by cases e; cases (kq_tuple_int.symm.trans k); exact h, fun h => ⟨_, _, _, rfl, kq_tuple_int, h⟩⟩
theorem isi_5_str {i : List D} {Q : X → Prop} : pIsi [.f (.tup i), .f (.ty "str")] Q = Q (.f (.bl false)) := propext ⟨fun ⟨_, _, _, e, k, h⟩ => by cases e; cases (kq_tuple_str.symm.trans k); exact h, fun h => ⟨_, _, _, rfl, kq_tuple_str, h⟩⟩
theorem isi_5_bool {i : List D} {Q : X → Prop} : pIsi [.f (.tup i), .f (.ty "bool")] Q = Q (.f (.bl false)) := propext ⟨fun ⟨_, _, _, e, k, h⟩ => by cases e; cases (kq_tuple_bool.symm.trans k); exact h, fun h => ⟨_, _, _, rfl, kq_tuple_bool, h⟩⟩
theorem isi_5_list {i : List D} {Q : X → Prop} : pIsi [.f (.tup i), .f (.ty "list")] Q = Q (.f (.bl false)) := propext ⟨fun ⟨_, _, _, e, k, h⟩ => by cases e; cases (kq_tuple_list.symm.trans k); exact h, fun h => ⟨_, _, _, rfl, kq_tuple_list, h⟩⟩
theorem isi_5_tuple {i : List D} {Q : X → Prop} : pIsi [.f (.tup i), .f (.ty "tuple")] Q = Q (.f (.bl true)) := propext ⟨fun ⟨_, _, _, e, k, h⟩ => by cases e; cases (kq_tuple_tuple.symm.trans k); exact h, fun h => ⟨_, _, _, rfl, kq_tuple_tuple, h⟩⟩
theorem isi_5_dict {i : List D} {Q : X → Prop} : pIsi [.f (.tup i), .f (.ty "dict")] Q = Q (.f (.bl false)) := propext ⟨fun ⟨_, _, _, e, k, h⟩ => by cases e; cases (kq_tuple_dict.symm.trans k); exact h, fun h => ⟨_, _, _, rfl, kq_tuple_dict, h⟩⟩
theorem isi_6_int {i : List D} {Q : X → Prop} : pIsi [.b (.lst i), .f (.ty "int")] Q = Q (.f (.bl false)) := propext ⟨fun ⟨_, _, _, e, k, h⟩ => by cases e; cases (kq_list_int.symm.trans k); exact h, fun h => ⟨_, _, _, rfl, kq_list_int, h⟩⟩
theorem isi_6_str {i : List D} {Q : X → Prop} : pIsi [.b (.lst i), .f (.ty "str")] Q = Q (.f (.bl false)) := propext ⟨fun ⟨_, _, _, e, k, h⟩ => by cases e; cases (kq_list_str.symm.trans k); exact h, fun h => ⟨_, _, _, rfl, kq_list_str, h⟩⟩
theorem isi_6_bool {i : List D} {Q : X → Prop} : pIsi [.b (.lst i), .f (.ty "bool")] Q = Q (.f (.bl false)) := propext ⟨fun ⟨_, _, _, e, k, h⟩ => by cases e; cases (kq_list_bool.symm.trans k); exact h, fun h => ⟨_, _, _, rfl, kq_list_bool, h⟩⟩
theorem isi_6_list {i : List D} {Q : X → Prop} : pIsi [.b (.lst i), .f (.ty "list")] Q = Q (.f (.bl true)) := propext ⟨fun ⟨_, _, _, e, k, h⟩ => by cases e; cases (kq_list_list.symm.trans k); exact h, fun h => ⟨_, _, _, rfl, kq_list_list, h⟩⟩
theorem isi_6_tuple {i : List D} {Q : X → Prop} : pIsi [.b (.lst i), .f (.ty "tuple")] Q = Q (.f (.bl false)) := propext ⟨fun ⟨_, _, _, e, k, h⟩ => by cases e; cases (kq_list_tuple.symm.trans k); exact h, fun h => ⟨_, _, _, rfl, kq_list_tuple, h⟩⟩
theorem isi_6_dict {i : List D} {Q : X → Prop} : pIsi [.b (.lst i), .f (.ty "dict")] Q = Q (.f (.bl false)) := propext ⟨fun ⟨_, _, _, e, k, h⟩ => by cases e; cases (kq_list_dict.symm.trans k); exact h, fun h => ⟨_, _, _, rfl, kq_list_dict, h⟩⟩
theorem isi_7_int {i : List D} {Q : X → Prop} : pIsi [.q (.lst i), .f (.ty "int")] Q = Q (.f (.bl false)) := propext ⟨fun ⟨_, _, _, e, k, h⟩ => by cases e; cases (kq_list_int.symm.trans k); exact h, fun h => ⟨_, _, _, rfl, kq_list_int, h⟩⟩
theorem isi_7_str {i : List D} {Q : X → Prop} : pIsi [.q (.lst i), .f (.ty "str")] Q = Q (.f (.bl false)) := propext ⟨fun ⟨_, _, _, e, k, h⟩ => by cases e; cases (kq_list_str.symm.trans k); exact h, fun h => ⟨_, _, _, rfl, kq_list_str, h⟩⟩
theorem isi_7_bool {i : List D} {Q : X → Prop} : pIsi [.q (.lst i), .f (.ty "bool")] Q = Q (.f (.bl false)) := propext ⟨fun ⟨_, _, _, e, k, h⟩ => by cases e; cases (kq_list_bool.symm.trans k); exact h, fun h => ⟨_, _, _, rfl, kq_list_bool, h⟩⟩
theorem isi_7_list {i : List D} {Q : X → Prop} : pIsi [.q (.lst i), .f (.ty "list")] Q = Q (.f (.bl true)) := propext ⟨fun ⟨_, _, _, e, k, h⟩ => by cases e; cases (kq_list_list.symm.trans k); exact h, fun h => ⟨_, _, _, rfl, kq_list_list, h⟩⟩
theorem isi_7_tuple {i : List D} {Q : X → Prop} : pIsi [.q (.lst i), .f (.ty "tuple")] Q = Q (.f (.bl false)) := propext ⟨fun ⟨_, _, _, e, k, h⟩ => by cases e; cases (kq_list_tuple.symm.trans k); exact h, fun h => ⟨_, _, _, rfl, kq_list_tuple, h⟩⟩
theorem isi_7_dict {i : List D} {Q : X → Prop} : pIsi [.q (.lst i), .f (.ty "dict")] Q = Q (.f (.bl false)) := propext ⟨fun ⟨_, _, _, e, k, h⟩ => by cases e; cases (kq_list_dict.symm.trans k); exact h, fun h => ⟨_, _, _, rfl, kq_list_dict, h⟩⟩
theorem isi_8_int {i : List (Key × D)} {Q : X → Prop} : pIsi [.f (.dk i), .f (.ty "int")] Q = Q (.f (.bl false)) := propext ⟨fun ⟨_, _, _, e, k, h⟩ => by cases e; cases (kq_dict_int.symm.trans k); exact h, fun h => ⟨_, _, _, rfl, kq_dict_int, h⟩⟩
theorem isi_8_str {i : List (Key × D)} {Q : X → Prop} : pIsi [.f (.dk i), .f (.ty "str")] Q = Q (.f (.bl false)) := propext ⟨fun ⟨_, _, _, e, k, h⟩ => by cases e; cases (kq_dict_str.symm.trans k); exact h, fun h => ⟨_, _, _, rfl, kq_dict_str, h⟩⟩
theorem isi_8_bool {i : List (Key × D)} {Q : X → Prop} : pIsi [.f (.dk i), .f (.ty "bool")] Q = Q (.f (.bl false)) := propext ⟨fun ⟨_, _, _, e, k, h⟩ => by cases e; cases (kq_dict_bool.symm.trans k); exact h, fun h => ⟨_, _, _, rfl, kq_dict_bool, h⟩⟩
theorem isi_8_list {i : List (Key × D)} {Q : X → Prop} : pIsi [.f (.dk i), .f (.ty "list")] Q = Q (.f (.bl false)) := propext ⟨fun ⟨_, _, _, e, k, h⟩ => by cases e; cases (kq_dict_list.symm.trans k); exact h, fun h => ⟨_, _, _, rfl, kq_dict_list, h⟩⟩
theorem isi_8_tuple {i : List (Key × D)} {Q : X → Prop} : pIsi [.f (.dk i), .f (.ty "tuple")] Q = Q (.f (.bl false)) := propext ⟨fun ⟨_, _, _, e, k, h⟩ => by cases e; cases (kq_dict_tuple.symm.trans k); exact h, fun h => ⟨_, _, _, rfl, kq_dict_tuple, h⟩⟩
theorem isi_8_dict {i : List (Key × D)} {Q : X → Prop} : pIsi [.f (.dk i), .f (.ty "dict")] Q = Q (.f (.bl true)) := propext ⟨fun ⟨_, _, _, e, k, h⟩ => by cases e; cases (kq_dict_dict.symm.trans k); exact h, fun h => ⟨_, _, _, rfl, kq_dict_dict, h⟩⟩
theorem isi_9_int {i : List (Key × D)} {Q : X → Prop} : pIsi [.b (.dk i), .f (.ty "int")] Q = Q (.f (.bl false)) := propext ⟨fun ⟨_, _, _, e, k, h⟩ => by cases e; cases (kq_dict_int.symm.trans k); exact h, fun h => ⟨_, _, _, rfl, kq_dict_int, h⟩⟩
theorem isi_9_str {i : List (Key × D)} {Q : X → Prop} : pIsi [.b (.dk i), .f (.ty "str")] Q = Q (.f (.bl false)) := propext ⟨fun ⟨_, _, _, e, k, h⟩ => by cases e; cases (kq_dict_str.symm.trans k); exact h, fun h => ⟨_, _, _, rfl, kq_dict_str, h⟩⟩
theorem isi_9_bool {i : List (Key × D)} {Q : X → Prop} : pIsi [.b (.dk i), .f (.ty "bool")] Q = Q (.f (.bl false)) := propext ⟨fun ⟨_, _, _, e, k, h⟩ => by cases e; cases (kq_dict_bool.symm.trans k); exact h, fun h => ⟨_, _, _, rfl, kq_dict_bool, h⟩⟩
theorem isi_9_list {i : List (Key × D)} {Q : X → Prop} : pIsi [.b (.dk i), .f (.ty "list")] Q = Q (.f (.bl false)) := propext ⟨fun ⟨_, _, _, e, k, h⟩ => by cases e; cases (kq_dict_list.symm.trans k); exact h, fun h => ⟨_, _, _, rfl, kq_dict_list, h⟩⟩
theorem isi_9_tuple {i : List (Key × D)} {Q : X → Prop} : pIsi [.b (.dk i), .f (.ty "tuple")] Q = Q (.f (.bl false)) := propext ⟨fun ⟨_, _, _, e, k, h⟩ => by cases e; cases (kq_dict_tuple.symm.trans k); exact h, fun h => ⟨_, _, _, rfl, kq_dict_tuple, h⟩⟩
theorem isi_9_dict {i : List (Key × D)} {Q : X → Prop} : pIsi [.b (.dk i), .f (.ty "dict")] Q = Q (.f (.bl true)) := propext ⟨fun ⟨_, _, _, e, k, h⟩ => by cases e; cases (kq_dict_dict.symm.trans k); exact h, fun h => ⟨_, _, _, rfl, kq_dict_dict, h⟩⟩
theorem isi_10_int {i : List (Key × D)} {Q : X → Prop} : pIsi [.q (.dk i), .f (.ty "int")] Q = Q (.f (.bl false)) := propext ⟨fun ⟨_, _, _, e, k, h⟩ => by cases e; cases (kq_dict_int.symm.trans k); exact h, fun h => ⟨_, _, _, rfl, kq_dict_int, h⟩⟩
theorem isi_10_str {i : List (Key × D)} {Q : X → Prop} : pIsi [.q (.dk i), .f (.ty "str")] Q = Q (.f (.bl false)) := propext ⟨fun ⟨_, _, _, e, k, h⟩ => by cases e; cases (kq_dict_str.symm.trans k); exact h, fun h => ⟨_, _, _, rfl, kq_dict_str, h⟩⟩
theorem isi_10_bool {i : List (Key × D)} {Q : X → Prop} : pIsi [.q (.dk i), .f (.ty "bool")] Q = Q (.f (.bl false)) := propext ⟨fun ⟨_, _, _, e, k, h⟩ => by cases e; cases (kq_dict_bool.symm.trans k); exact h, fun h => ⟨_, _, _, rfl, kq_dict_bool, h⟩⟩
theorem isi_10_list {i : List (Key × D)} {Q : X → Prop} : pIsi [.q (.dk i), .f (.ty "list")] Q = Q (.f (.bl false)) := propext ⟨fun ⟨_, _, _, e, k, h⟩ => by cases e; cases (kq_dict_list.symm.trans k); exact h, fun h => ⟨_, _, _, rfl, kq_dict_list, h⟩⟩
theorem isi_10_tuple {i : List (Key × D)} {Q : X → Prop} : pIsi [.q (.dk i), .f (.ty "tuple")] Q = Q (.f (.bl false)) := propext ⟨fun ⟨_, _, _, e, k, h⟩ => by cases e; cases (kq_dict_tuple.symm.trans k); exact h, fun h => ⟨_, _, _, rfl, kq_dict_tuple, h⟩⟩
theorem isi_10_dict {i : List (Key × D)} {Q : X → Prop} : pIsi [.q (.dk i), .f (.ty "dict")] Q = Q (.f (.bl true)) := propext ⟨fun ⟨_, _, _, e, k, h⟩ => by cases e; cases (kq_dict_dict.symm.trans k); exact h, fun h => ⟨_, _, _, rfl, kq_dict_dict, h⟩⟩
theorem w_tru {Q : Bool → Prop} {ρ : Env} {me : ME} : mTru me ρ Q = me ρ (kTru Q) := rfl
theorem tru_bl {Q : Bool → Prop} {i : Bool} : kTru Q (.f (.bl i)) = Q i := propext ⟨fun ⟨_, e, h⟩ => by cases e; exact h, fun h => ⟨_, rfl, h⟩⟩
theorem tru_n {Q : Bool → Prop} : kTru Q (.f .non) = Q false := propext ⟨fun ⟨_, e, h⟩ => by cases e; exact h, fun h => ⟨_, rfl, h⟩⟩
theorem tru_i {Q : Bool → Prop} {i : Int} : kTru Q (.f (.int i)) = Q (i != 0) := propext ⟨fun ⟨_, e, h⟩ => by cases e; exact h, fun h => ⟨_, rfl, h⟩⟩
theorem tru_l {Q : Bool → Prop} {i : List D} : kTru Q (.f (.lst i)) = Q (!i.isEmpty) := propext ⟨fun ⟨_, e, h⟩ => by cases e; exact h, fun h => ⟨_, rfl, h⟩⟩
theorem tru_t {Q : Bool → Prop} {i : List D} : kTru Q (.f (.tup i)) = Q (!i.isEmpty) := propext ⟨fun ⟨_, e, h⟩ => by cases e; exact h, fun h => ⟨_, rfl, h⟩⟩
theorem tru_b {Q : Bool → Prop} {i : List D} : kTru Q (.b (.lst i)) = Q (!i.isEmpty) := propext ⟨fun ⟨_, e, h⟩ => by cases e; exact h, fun h => ⟨_, rfl, h⟩⟩
theorem tru_q {Q : Bool → Prop} {i : List D} : kTru Q (.q (.lst i)) = Q (!i.isEmpty) := propext ⟨fun ⟨_, e, h⟩ => by cases e; exact h, fun h => ⟨_, rfl, h⟩⟩
theorem mTru_o {Q : Bool → Prop} {i : List D} : kTru Q (.o (.lst i)) = Q (!i.isEmpty) := propext ⟨fun ⟨_, e, h⟩ => by cases e; exact h, fun h => ⟨_, rfl, h⟩⟩
theorem draw_ {Q : X → Prop} {xs : List X} : pDraw xs Q = ∃ m, xs = [.pl, .f (.int m)] ∧ 0 < m ∧ m < 2 ^ 199 ∧ ∀ r, 0 ≤ r → r < m → Q (.f (.int r)) := rfl
theorem iD0  : iD [] = some [] := rfl
theorem iD1 {i : Int} {r : List D} : iD (.int i :: r) = (iD r).map (i :: ·) := rfl
theorem bD0  : bD [] = some [] := rfl
theorem bD1 {i : Bool} {r : List D} : bD (.bl i :: r) = (bD r).map (i :: ·) := rfl
end Pl
/-! Pl6: more walks, own lists, loops turn by turn, the laws' helpers. -/
namespace Pl
open PySem L2 Wp PyProof.Rows RT RZ
theorem pi_enumK {X : L2.Cx} {K : PySem.W.Frag} {e : Expr} {ta : TA} {p pos tpos : Pos} {elts : List Expr} {kk : Nat} (h : X.K = K) (hg : Gl X "enumerate") (hm : X.mg "enumerate" = none) (ha : PA X [e] ta) (hs : starEach [e] X.env = [(false, eval e X.env)] := by rfl) :
    PI X (.Tuple elts kk tpos) (.Call (.Name "enumerate" p) [e] [] pos) (iEnum K ta) := h ▸ pi_enum hg hm ha hs
theorem pi_revK {X : L2.Cx} {K : PySem.W.Frag} {tg e : Expr} {te : TE} {p pos : Pos} (h : X.K = K) (hg : Gl X "reversed") (hm : X.mg "reversed" = none) (he : PE X e te) (hs : starEach [e] X.env = (false, eval e X.env) :: starEach [] X.env := by rfl) : PI X tg (.Call (.Name "reversed" p) [e] [] pos) (iRevA K te) := h ▸ pi_revA hg hm he hs
theorem pi_zipAK {X : L2.Cx} {K : PySem.W.Frag} {e e2 : Expr} {ta : TA} {p pos tpos : Pos} {elts : List Expr} {kk : Nat} (h : X.K = K) (hg : Gl X "zip") (hm : X.mg "zip" = none) (ha : PA X [e, e2] ta)
    (hs : starEach [e, e2] X.env = (false, eval e X.env) :: starEach [e2] X.env := by rfl) (hpl : (backTo pos (starEach [e2] X.env)).any (·.1) = false := by rfl) :
    PI X (.Tuple elts kk tpos) (.Call (.Name "zip" p) [e, e2] [] pos) (iZipA K ta) := h ▸ pi_zipA hg hm ha hs hpl
/-- zip of two tuples -/
def kZpT (R : List D → Bool → Prop) (xs : List X) : Prop := ∃ ds es, xs = [.f (.tup ds), .f (.tup es)] ∧ ds.length = es.length ∧ R (zipD ds es) true
def mZipT (m : MA) : MI := fun ρ R => m ρ (kZpT R)
def mRev (me : ME) : MI := fun ρ R => me ρ fun x => itA x.n fun ds st => R ds.reverse st
section
variable {K : PySem.W.Frag}
theorem i_zipT {n : Nat} {ta : TA} {m : MA} (h : PurA K n ta m) : PurI K (iZipA K ta) (mZipT m) := by
  intro c F O ρ σ H R R' S hm k
  refine h c F O ρ σ H _ _ S hm fun F1 H1 xs vs g S1 r e q => ?_
  obtain ⟨ds, es, rfl, hle, q⟩ := q
  obtain ⟨v, w, rfl, r1, r2⟩ := xms2 r
  cases r1 with
  | tup h1 h2 =>
    cases r2 with
    | tup k1 k2 =>
      rename_i a vs b ws
      refine ⟨a, b, vs, ws, rfl, .inr ⟨sqt_ex S1.fh h1, sqt_ex S1.fh k1, k _ _ _ (zipD ds es) true g S1 ?_ q⟩⟩
      intro F O ρ σ H S e i
      have e : Ex F1 F := by simpa using e
      have sq := sqt_ex S.fh (sqt_ex e h1)
      have sr := sqt_ex S.fh (sqt_ex e k1)
      have hl := h2.length
      have kl := k2.length
      unfold zipD
      rw [List.length_zipWith, ← hle, Nat.min_self]
      refine ⟨fun hi => ⟨vs, ws, vs[i]'(by omega), ws[i]'(by omega), sq, sr, List.getElem?_eq_getElem (by omega), List.getElem?_eq_getElem (by omega)⟩, fun hi => ⟨vs, ws, sq, sr, .inl (by omega)⟩, fun d x H' hd hy => ?_⟩
      obtain ⟨T, y, z, rfl, hT, rfl, hy, hz⟩ := hy
      rw [List.getElem?_zipWith] at hd
      cases e1 : ds[i]? with
      | none => rw [e1] at hd; cases hd
      | some d0 =>
        cases e2 : es[i]? with
        | none => rw [e1, e2] at hd; cases hd
        | some d1 =>
          rw [e1, e2] at hd
          cases hd
          obtain ⟨v, h3, h4⟩ := h2.get e1
          obtain ⟨w, k3, k4⟩ := k2.get e2
          have q1 := hy vs sq
          have q2 := hz ws sr
          rw [h3] at q1
          rw [k3] at q2
          obtain rfl := Option.some.inj q1
          obtain rfl := Option.some.inj q2
          exact ⟨upd F T (.tup [v, w]), Gr.new S.fh hT, S.new hT, .tup (SqT.of upd_same) (.cons ((h4.mono e).mono (Ex.refl.new (S.fh.free hT))) (.cons ((k4.mono e).mono (Ex.refl.new (S.fh.free hT))) .nil))⟩
theorem i_rev {te : TE} {me : ME} (h : PurE K te me) : PurI K (iRevA K te) (mRev me) := by
  intro c F O ρ σ H R R' S hm k
  refine h.mid S hm fun F1 H1 x v g S1 r q => ?_
  generalize x.n = y at r q
  by_cases ht : ∃ ds, y = .f (.tup ds)
  · obtain ⟨ds, rfl⟩ := ht
    cases r with
    | tup h1 h2 =>
      rename_i a vs
      refine ⟨a, vs, rfl, .inr ⟨sqt_ex S1.fh h1, k _ _ _ ds.reverse true g S1 ?_ q⟩⟩
      intro F O ρ σ H S e i
      have e : Ex F1 F := by simpa using e
      have hl := h2.length
      have sq := sqt_ex S.fh (sqt_ex e h1)
      rw [List.length_reverse, ← hl]
      refine ⟨fun hi => ⟨hi, vs, vs[vs.length - 1 - i]'(by omega), sq, List.getElem?_eq_getElem (by omega)⟩, fun hi => hi, fun d x H' hd hy => ?_⟩
      obtain ⟨rfl, hy⟩ := hy
      have hi : i < ds.length := by simpa using (List.getElem?_eq_some_iff.mp hd).1
      rw [List.getElem?_reverse hi] at hd
      obtain ⟨v, h3, h4⟩ := h2.get hd
      have := hy vs sq
      rw [hl, h3] at this
      cases this
      exact ⟨F, Gr.refl, S, h4.mono e⟩
  · have q2 : itX y (fun ds st => R' ds.reverse st) := by
      cases y with
      | f d =>
        cases d with
        | tup ds => exact absurd ⟨ds, rfl⟩ ht
        | _ => exact q
      | b od => cases od <;> exact q
      | q od => cases od <;> exact q
      | _ => exact q
    obtain ⟨a, ds, st, rfl, q, ha⟩ := lst_of S1 r q2
    obtain ⟨vs, h1, h2⟩ := ha F1 O ρ σ H1 S1 (by cases st <;> simp [Ex.refl, Gr.refl])
    refine ⟨a, vs, rfl, .inl ⟨SqL.of h1, k _ _ _ ds.reverse st g S1 ?_ q⟩⟩
    have hl1 := h2.length
    intro F O ρ σ H S e i
    obtain ⟨ws, k1, k2⟩ := ha F O ρ σ H S e
    have hl := k2.length
    rw [List.length_reverse, hl1]
    refine ⟨fun hi => ⟨hi, ws, ws[ds.length - 1 - i]'(by omega), SqL.of k1, List.getElem?_eq_getElem (by omega)⟩, fun hi => hi, fun d x H' hd hy => ?_⟩
    obtain ⟨rfl, hy⟩ := hy
    have hi : i < ds.length := by simpa using (List.getElem?_eq_some_iff.mp hd).1
    rw [List.getElem?_reverse hi] at hd
    obtain ⟨v, h3, h4⟩ := k2.get hd
    have := hy ws (SqL.of k1)
    rw [h3] at this
    cases this
    exact ⟨F, Gr.refl, S, h4⟩
/-- x.insert(i, e) -/
def mIns (i : Nat) (mj me : ME) : MS := fun D ρ => ∃ ds, getS ρ i = .own (.lst ds) ∧ mj ρ fun z => ∃ k, z.n = .f (.int k) ∧ me ρ fun y => ∃ d, y.n = .f d ∧ ds.length < sizeLine ∧ 0 ≤ k ∧ k < 2 ^ 63 ∧ D.nx (ρ.set i (.own (.lst (ds.take k.toNat ++ [d] ++ ds.drop k.toNat))))
def rInsert : V → List V → Hp → VK → Prop := fun x vs H Q => ∃ (l : Addr) (xs : List V) (i : Int) (y : V), x = .ref l ∧ vs = [.int i, y] ∧ H l = some (.lst xs) ∧ xs.length < sizeLine ∧ 0 ≤ i ∧ i < 2 ^ 63 ∧ Q .non (upd H l (.lst (xs.take i.toNat ++ [y] ++ xs.drop i.toNat)))
theorem s_ins {i : Nat} {te tj : TE} {me mj : ME} (hj : PurE K tj mj) (h : PurE K te me) : PurS K (tDrop (tBM K "list" rInsert (tVar i) (tCons tj (tCons te tNil)))) (mIns i mj me) := by
  intro c F O ρ σ H D D' S R hm
  obtain ⟨ds, hs, hm⟩ := hm
  obtain ⟨a, vs, h0, h1, h2, h3⟩ := S.own hs
  refine ⟨_, h0, .inl ⟨rfl, vs, SqL.of h2⟩, ?_⟩
  refine hj.mid S hm fun F1 H1 x v g S1 r q => ?_
  obtain ⟨k, e, q⟩ := q
  rw [e] at r
  cases r
  refine h.mid S1 q fun F2 H2 y w g2 S2 r2 q => ?_
  obtain ⟨d, e, hz, k0, k9, q⟩ := q
  rw [e] at r2
  have r2 : Rep K F2 w d := r2
  obtain ⟨h4, h5⟩ := S.ownG (g.trans g2) h1 h2 h3
  exact ⟨a, vs, k, w, rfl, rfl, h4, by rw [h5.length]; exact hz, k0, k9, R.nx _ _ _ _ _ (g.f.trans g2.f) (S2.mutO (ds := .lst _) (vs := .lst _) h1 h0 (((h5.take k.toNat).append (.cons r2 .nil)).append (h5.drop k.toNat))) q⟩
/-- for x in y, y an own list that stays as it is meanwhile -/
def mLoopO (i : Nat) (mg : MG) (mb : MS) : MS := fun E ρ => ∃ ds, getS ρ i = .own (.lst ds) ∧ ∃ Pv : Nat → Env → Prop, Pv 0 (ρ.set i (.len (.lst ds))) ∧
  (∀ j d ρ, ds[j]? = some d → Pv j ρ → mg d ρ fun ρ2 => mb { E with nx := Pv (j + 1), ct := Pv (j + 1), bk := fun ρ => getS ρ i = .len (.lst ds) ∧ E.nx (ρ.set i (.own (.lst ds))) } ρ2) ∧
  (∀ j ρ, j ≤ ds.length → Pv j ρ → getS ρ i = .len (.lst ds)) ∧ ∀ ρ, Pv ds.length ρ → E.nx (ρ.set i (.own (.lst ds)))
def lndP (c : Ct) (i : Nat) (a : Addr) (p : HO → Prop) : Ct := { c with Ln := fun j => if j = i then some (a, p) else c.Ln j }
abbrev lnd (c : Ct) (i : Nat) (a : Addr) : Ct := lndP c i a fun _ => True
theorem Sim.lend {c F O ρ σ H} (S : Sim K c F O ρ σ H) {i : Nat} {a : Addr} {ds : List D} (hs : getS ρ i = .own (.lst ds)) (h0 : σ[i]? = some (some (.ref a))) : Sim K (lnd c i a) F O (ρ.set i (.len (.lst ds))) σ H := by
  have e1 := getS_some hs (fun z => by cases z)
  refine ⟨S.gr, S.fh, S.po, S.pd, S.ow, by rw [List.length_set, S.len], fun j t o ht ho => ?_⟩
  by_cases e0 : i = j
  · subst e0
    rw [List.getElem?_set_self (List.getElem?_eq_some_iff.mp e1).1] at ht
    cases ht
    rw [h0] at ho
    cases ho
    obtain ⟨b, h, e, h1, h2, h3⟩ := S.sl i _ _ e1 h0
    cases e
    exact ⟨_, h, rfl, ⟨_, if_pos rfl, trivial⟩, h1, h2, h3⟩
  · rw [List.getElem?_set_ne e0] at ht
    have q := S.sl j t o ht ho
    cases t with
    | len es => obtain ⟨b, ws, e, ⟨p, k0, k1⟩, k⟩ := q; exact ⟨b, ws, e, ⟨p, (if_neg (fun z => e0 z.symm)).trans k0, k1⟩, k⟩
    | own es => exact q
    | slf C gs => exact q
    | no => exact q
    | fz d => exact q
    | bor d => exact q
    | pool => exact q
theorem Sim.back {c F O ρ σ H} {i : Nat} {a : Addr} {ds : List D} (S : Sim K (lnd c i a) F O ρ σ H) (hs : getS ρ i = .len (.lst ds)) : Sim K c F O (ρ.set i (.own (.lst ds))) σ H := by
  have e1 := getS_some hs (fun z => by cases z)
  refine ⟨S.gr, S.fh, S.po, S.pd, S.ow, by rw [List.length_set, S.len], fun j t o ht ho => ?_⟩
  by_cases e0 : i = j
  · subst e0
    rw [List.getElem?_set_self (List.getElem?_eq_some_iff.mp e1).1] at ht
    cases ht
    obtain ⟨b, h, e, k0, h1, h2, h3⟩ := S.sl i _ _ e1 ho
    exact ⟨b, h, e, h1, h2, h3⟩
  · rw [List.getElem?_set_ne e0] at ht
    have q := S.sl j t o ht ho
    cases t with
    | len es => obtain ⟨b, ws, e, ⟨p, k0, k1⟩, k⟩ := q; exact ⟨b, ws, e, ⟨p, (if_neg (fun z => e0 z.symm)).symm.trans k0, k1⟩, k⟩
    | own es => exact q
    | slf C gs => exact q
    | no => exact q
    | fz d => exact q
    | bor d => exact q
    | pool => exact q
theorem s_forO {i : Nat} {g : TG} {tb : TS} {ts : List Nat} {mg : MG} {mb : MS} (hg : PurG K ts g mg) (hb : PurS K tb mb) : PurS K (tFor (iAny K (tVar i)) g tb) (mLoopO i mg mb) := by
  intro c F O ρ σ H D D' S R hm
  obtain ⟨ds, hs, Pv, p0, hstep, hl, hd⟩ := hm
  obtain ⟨a, vs, h0, h1, h2, h3⟩ := S.own hs
  have S1 := S.lend hs h0
  refine ⟨_, h0, a, rfl, .inl ⟨⟨vs, SqL.of h2⟩, ?_⟩⟩
  refine ⟨fun j m σ H => m = ds.length - j ∧ j ≤ ds.length ∧ ∃ F' O ρ, Ex F F' ∧ Sim K (lnd c i a) F' O ρ σ H ∧ Pv j ρ, ⟨_, rfl, Nat.zero_le _, F, O, _, Ex.refl, S1, p0⟩, ?_⟩
  rintro j m σ2 H2 ⟨rfl, hj, F2, O2, ρ2, e2, S2, p⟩
  have hl2 := hl j ρ2 hj p
  have e1 := getS_some hl2 (fun z => by cases z)
  have hi : i < σ2.length := by rw [← S2.len]; exact (List.getElem?_eq_some_iff.mp e1).1
  obtain ⟨b, h, eb, k0, k1, k2, k3⟩ := S2.sl i _ _ e1 (List.getElem?_eq_getElem hi)
  have hab : b = a := by
    obtain ⟨p, k0, _⟩ := k0
    have : (lnd c i a).Ln i = some (a, fun _ => True) := if_pos rfl
    rw [this] at k0
    exact (congrArg Prod.fst (Option.some.inj k0)).symm
  subst hab
  obtain ⟨us, rfl, k3⟩ := k3.lst_
  have hlen := k3.length
  by_cases hlt : j < ds.length
  · refine .inr ⟨⟨us, us[j]'(by omega), SqL.of k2, List.getElem?_eq_getElem (by omega)⟩, fun σ' H' => j + 1 ≤ ds.length ∧ ∃ F' O ρ, Ex F F' ∧ Sim K (lnd c i b) F' O ρ σ' H' ∧ Pv (j + 1) ρ, fun σ' H' n => ⟨ds.length - (j + 1), by omega, rfl, n.1, n.2⟩, fun x H' y => ?_⟩
    obtain ⟨rfl, hy⟩ := y
    obtain ⟨v, hv, rv⟩ := k3.get (List.getElem?_eq_getElem hlt)
    have := hy us (SqL.of k2)
    rw [hv] at this
    obtain rfl := Option.some.inj this
    refine hg.run (lnd c i b) F2 O2 ρ2 σ2 _ _ _ _ _ S2 rv (hstep j _ ρ2 (List.getElem?_eq_getElem hlt) p) fun ρ4 σ4 S4 _ _ q => ?_
    refine hb (lnd c i b) F2 O2 ρ4 σ4 _ _ _ S4 ⟨?_, ?_, ?_, ?_⟩ q
    · exact fun F' O' ρ' σ' H' x S' p' => ⟨by omega, F', O', ρ', e2.trans x, S', p'⟩
    · exact fun F' O' ρ' σ' H' x S' p' => R.nx F' O' _ σ' H' (e2.trans x) (S'.back p'.1) p'.2
    · exact fun F' O' ρ' σ' H' x S' p' => ⟨by omega, F', O', ρ', e2.trans x, S', p'⟩
    · intro F' H' x v y g fh po r q
      refine R.rt F' H' x v (e2.trans y) g fh po ?_ q
      cases x <;> exact r
  · have e : j = ds.length := by omega
    subst e
    exact .inl ⟨⟨us, SqL.of k2, by omega⟩, R.nx F2 O2 _ σ2 H2 e2 (S2.back hl2) (hd ρ2 p)⟩
/-- del x[i] -/
def mDel (i : Nat) (mj : ME) : MS := fun D ρ => ∃ ds, getS ρ i = .own (.lst ds) ∧ mj ρ fun z => ∃ k j, z.n = .f (.int k) ∧ -(2 ^ 63) ≤ k ∧ k < 2 ^ 63 ∧ seqIndex? k ds.length = some j ∧ D.nx (ρ.set i (.own (.lst (ds.eraseIdx j))))
theorem Reps.erase {F : Hp} : ∀ {vs : List V} {ds : List D} (n : Nat), Reps K F vs ds → Reps K F (vs.eraseIdx n) (ds.eraseIdx n)
  | _, _, _, .nil => .nil
  | _, _, 0, .cons _ r => r
  | _, _, n + 1, .cons q r => .cons q (Reps.erase n r)
theorem s_del {i : Nat} {tj : TE} {mj : ME} (hj : PurE K tj mj) : PurS K (tDelL (tVar i) tj) (mDel i mj) := by
  intro c F O ρ σ H D D' S R hm
  obtain ⟨ds, hs, hm⟩ := hm
  obtain ⟨a, vs, h0, h1, h2, h3⟩ := S.own hs
  refine ⟨_, h0, ?_⟩
  refine hj.mid S hm fun F1 H1 x v g S1 r q => ?_
  obtain ⟨k, j, e, k0, k9, hj, q⟩ := q
  rw [e] at r
  cases r
  obtain ⟨h4, h5⟩ := S.ownG g h1 h2 h3
  exact ⟨a, vs, k, j, rfl, rfl, h4, k0, k9, by rw [h5.length]; exact hj, R.nx _ _ _ _ _ g.f (S1.mutO (ds := .lst _) (vs := .lst _) h1 h0 (h5.erase j)) q⟩
end
theorem w_fo {E : Pd} {ρ : Env} {i : Nat} {mg : MG} {mb : MS} : mLoopO i mg mb E ρ = ∃ ds, getS ρ i = .own (.lst ds) ∧ ∃ Pv : Nat → Env → Prop, Pv 0 (ρ.set i (.len (.lst ds))) ∧ (∀ j d ρ, ds[j]? = some d → Pv j ρ → mg d ρ fun ρ2 => mb { E with nx := Pv (j + 1), ct := Pv (j + 1), bk := fun ρ => getS ρ i = .len (.lst ds) ∧ E.nx (ρ.set i (.own (.lst ds))) } ρ2) ∧ (∀ j ρ, j ≤ ds.length → Pv j ρ → getS ρ i = .len (.lst ds)) ∧ ∀ ρ, Pv ds.length ρ → E.nx (ρ.set i (.own (.lst ds))) := rfl
theorem w_zpT {R : List D → Bool → Prop} {ρ : Env} {m : MA} : mZipT m ρ R = m ρ (kZpT R) := rfl
theorem w_zpT1 {R : List D → Bool → Prop} {ds es : List D} : kZpT R [.f (.tup ds), .f (.tup es)] = (ds.length = es.length ∧ R (zipD ds es) true) := propext ⟨fun ⟨_, _, e, h⟩ => by cases e; exact h, fun h => ⟨_, _, rfl, h⟩⟩
theorem w_rev {R : List D → Bool → Prop} {ρ : Env} {me : ME} : mRev me ρ R = me ρ fun x => itA x.n fun ds st => R ds.reverse st := rfl
theorem w_ins {D : Pd} {ρ : Env} {i : Nat} {mj me : ME} : mIns i mj me D ρ = ∃ ds, getS ρ i = .own (.lst ds) ∧ mj ρ fun z => ∃ k, z.n = .f (.int k) ∧ me ρ fun y => ∃ d, y.n = .f d ∧ ds.length < sizeLine ∧ 0 ≤ k ∧ k < 2 ^ 63 ∧ D.nx (ρ.set i (.own (.lst (ds.take k.toNat ++ [d] ++ ds.drop k.toNat)))) := rfl
theorem w_del {D : Pd} {ρ : Env} {i : Nat} {mj : ME} : mDel i mj D ρ = ∃ ds, getS ρ i = .own (.lst ds) ∧ mj ρ fun z => ∃ k j, z.n = .f (.int k) ∧ -(2 ^ 63) ≤ k ∧ k < 2 ^ 63 ∧ seqIndex? k ds.length = some j ∧ D.nx (ρ.set i (.own (.lst (ds.eraseIdx j)))) := rfl
/-! loops -/
/-- by an invariant over a range -/
theorem lpR {lo : Int} {n : Nat} {mg : MG} {mb : MS} {D : Pd} {ρ : Env} (Pv : Nat → Env → Prop) (h0 : Pv 0 ρ) (hs : ∀ (i : Nat) ρ, i < n → Pv i ρ → mg (.int (lo + i)) ρ fun ρ2 => mb { D with nx := Pv (i + 1), ct := Pv (i + 1), bk := D.nx } ρ2) (hd : ∀ ρ, Pv n ρ → D.nx ρ) : mLoop (rngD lo n) mg mb D ρ := by
  refine ⟨Pv, h0, fun i d ρ hdi p => ?_, fun ρ p => hd ρ ?_⟩
  · unfold rngD at hdi
    rw [List.getElem?_map] at hdi
    cases e : (List.range n)[i]? with
    | none => rw [e] at hdi; cases hdi
    | some j =>
      rw [e] at hdi
      cases hdi
      obtain ⟨h1, h2⟩ := List.getElem?_eq_some_iff.mp e
      rw [List.getElem_range] at h2
      subst h2
      exact hs i ρ (by simpa using h1) p
  · unfold rngD at p
    rw [List.length_map, List.length_range] at p
    exact p
theorem lpO {i : Nat} {mg : MG} {mb : MS} {E : Pd} {ρ : Env} {ds : List D} (Pv : Nat → Env → Prop) (hs0 : getS ρ i = .own (.lst ds)) (h0 : Pv 0 (ρ.set i (.len (.lst ds)))) (hs : ∀ j d ρ, ds[j]? = some d → Pv j ρ → mg d ρ fun ρ2 => mb { E with nx := Pv (j + 1), ct := Pv (j + 1), bk := fun ρ => getS ρ i = .len (.lst ds) ∧ E.nx (ρ.set i (.own (.lst ds))) } ρ2)
    (hl : ∀ j ρ, j ≤ ds.length → Pv j ρ → getS ρ i = .len (.lst ds)) (hd : ∀ ρ, Pv ds.length ρ → E.nx (ρ.set i (.own (.lst ds)))) : mLoopO i mg mb E ρ := ⟨ds, hs0, Pv, h0, hs, hl, hd⟩
theorem lpL {ds : List D} {mg : MG} {mb : MS} {E : Pd} {ρ : Env} (Pv : Nat → Env → Prop) (h0 : Pv 0 ρ) (hs : ∀ i d ρ, ds[i]? = some d → Pv i ρ → mg d ρ fun ρ2 => mb { E with nx := Pv (i + 1), ct := Pv (i + 1), bk := E.nx } ρ2) (hd : ∀ ρ, Pv ds.length ρ → E.nx ρ) : mLoop ds mg mb E ρ := ⟨Pv, h0, hs, hd⟩
/-- a loop over a written list, turn by turn -/
def runL (mg : MG) (mb : MS) (E : Pd) : List D → Env → Prop
  | [], ρ => E.nx ρ
  | d :: r, ρ => mg d ρ fun ρ2 => mb { E with nx := runL mg mb E r, ct := runL mg mb E r, bk := E.nx } ρ2
theorem runLoop {ds : List D} {mg : MG} {mb : MS} {E : Pd} {ρ : Env} (h : runL mg mb E ds ρ) : mLoop ds mg mb E ρ := by
  refine ⟨fun i ρ => runL mg mb E (ds.drop i) ρ, h, fun i d ρ hd p => ?_, fun ρ p => ?_⟩
  · have hi := (List.getElem?_eq_some_iff.mp hd).1
    have e : ds.drop i = d :: ds.drop (i + 1) := by
      rw [List.drop_eq_getElem_cons hi]
      rw [List.getElem?_eq_getElem hi] at hd
      rw [Option.some.inj hd]
    have p : runL mg mb E (ds.drop i) ρ := p
    rw [e] at p
    exact p
  · have p : runL mg mb E (ds.drop ds.length) ρ := p
    rw [List.drop_length] at p
    exact p
theorem runL_nil {mg : MG} {mb : MS} {E : Pd} {ρ : Env} : runL mg mb E [] ρ = E.nx ρ := rfl
theorem runL_cons {mg : MG} {mb : MS} {E : Pd} {ρ : Env} {d : D} {r : List D} : runL mg mb E (d :: r) ρ = mg d ρ fun ρ2 => mb { E with nx := runL mg mb E r, ct := runL mg mb E r, bk := E.nx } ρ2 := rfl
/-- a comprehension by an invariant over what is made -/
theorem compL {ds : List D} {mg : MG} {mt : MT} {me : ME} {ρ : Env} {Q : X → Prop} (Pv : Nat → List D → Prop) (h0 : Pv 0 []) (hs : ∀ i d acc, ds[i]? = some d → Pv i acc → mg d ρ fun ρ2 => mt ρ2 fun b => pIf b (me ρ2 fun x => ∃ e, x.n = .f e ∧ acc.length < sizeLine ∧ Pv (i + 1) (acc ++ [e])) (Pv (i + 1) acc)) (hd : ∀ acc, Pv ds.length acc → Q (.o (.lst acc))) : mComp ds mg mt me ρ Q := ⟨Pv, h0, hs, hd⟩
/-- a comprehension over a written list, item by item -/
def kRc (N : D → Prop) (x : X) : Prop := ∃ e, x.n = .f e ∧ N e
theorem kRc_f {N : D → Prop} {d : D} : kRc N (.f d) = N d := propext ⟨fun ⟨_, e, h⟩ => by cases e; exact h, fun h => ⟨_, rfl, h⟩⟩
theorem kRc_o {N : D → Prop} {d : OD} : kRc N (.o d) = N d.fr := propext ⟨fun ⟨_, e, h⟩ => by cases e; exact h, fun h => ⟨_, rfl, h⟩⟩
def runC (mg : MG) (mt : MT) (me : ME) (ρ : Env) (Q : X → Prop) : List D → List D → Prop
  | [], acc => Q (.o (.lst acc))
  | d :: r, acc => mg d ρ fun ρ2 => mt ρ2 fun b => pIf b (me ρ2 (kRc fun e => acc.length < sizeLine ∧ runC mg mt me ρ Q r (acc ++ [e]))) (runC mg mt me ρ Q r acc)
theorem runC_nil {mg : MG} {mt : MT} {me : ME} {ρ : Env} {Q : X → Prop} {acc : List D} : runC mg mt me ρ Q [] acc = Q (.o (.lst acc)) := rfl
theorem runC_cons {mg : MG} {mt : MT} {me : ME} {ρ : Env} {Q : X → Prop} {d : D} {r acc : List D} : runC mg mt me ρ Q (d :: r) acc = mg d ρ fun ρ2 => mt ρ2 fun b => pIf b (me ρ2 (kRc fun e => acc.length < sizeLine ∧ runC mg mt me ρ Q r (acc ++ [e]))) (runC mg mt me ρ Q r acc) := rfl
theorem runComp {ds : List D} {mg : MG} {mt : MT} {me : ME} {ρ : Env} {Q : X → Prop} (h : runC mg mt me ρ Q ds []) : mComp ds mg mt me ρ Q := by
  refine ⟨fun i acc => runC mg mt me ρ Q (ds.drop i) acc, h, fun i d acc hd p => ?_, fun acc p => ?_⟩
  · have hi := (List.getElem?_eq_some_iff.mp hd).1
    have e : ds.drop i = d :: ds.drop (i + 1) := by
      rw [List.drop_eq_getElem_cons hi]
      rw [List.getElem?_eq_getElem hi] at hd
      rw [Option.some.inj hd]
    have p : runC mg mt me ρ Q (ds.drop i) acc := p
    rw [e] at p
    exact p
  · have p : runC mg mt me ρ Q (ds.drop ds.length) acc := p
    rw [List.drop_length] at p
    exact p
theorem mx_c {a : Int} {r : List Int} : mx (a :: r) = r.foldl max a := rfl
theorem mn_c {a : Int} {r : List Int} : mn (a :: r) = r.foldl min a := rfl
/-- an element that only looks: its value -/
def kEl (N : D → Prop) (x : X) : Prop := ∃ e, x.n = .f e ∧ N e
theorem kEl_f {N : D → Prop} {d : D} : kEl N (.f d) = N d := propext ⟨fun ⟨_, e, h⟩ => by cases e; exact h, fun h => ⟨_, rfl, h⟩⟩
theorem kEl_o {N : D → Prop} {d : OD} : kEl N (.o d) = N d.fr := propext ⟨fun ⟨_, e, h⟩ => by cases e; exact h, fun h => ⟨_, rfl, h⟩⟩
/-- each item gives one element by itself -/
theorem compM {ds : List D} {mg : MG} {me : ME} {ρ : Env} {Q : X → Prop} (f : D → D) (hz : ds.length < sizeLine) (hs : ∀ d, d ∈ ds → ∀ N : D → Prop, N (f d) → mg d ρ fun ρ2 => me ρ2 (kEl N)) (hd : Q (.o (.lst (ds.map f)))) : mComp ds mg mYes me ρ Q := by
  refine ⟨fun i acc => acc = (ds.take i).map f, rfl, fun i d acc hdi p => ?_, fun acc p => ?_⟩
  · subst p
    have hi := (List.getElem?_eq_some_iff.mp hdi).1
    have et : ds.take (i + 1) = ds.take i ++ [d] := by rw [List.take_succ, hdi]; rfl
    refine hs d (List.mem_of_getElem? hdi) (fun e => ((ds.take i).map f).length < sizeLine ∧ (ds.take i).map f ++ [e] = (ds.take (i + 1)).map f) ⟨?_, by rw [et, List.map_append]; rfl⟩
    rw [List.length_map, List.length_take]
    omega
  · subst p
    rw [List.take_length]
    exact hd
/-- each item gives one element of which something is known -/
theorem compP {ds : List D} {mg : MG} {me : ME} {ρ : Env} {Q : X → Prop} (Pn : D → Prop) (hz : ds.length < sizeLine) (hs : ∀ d, d ∈ ds → ∀ N : D → Prop, (∀ e, Pn e → N e) → mg d ρ fun ρ2 => me ρ2 (kEl N)) (hd : ∀ es, es.length = ds.length → (∀ e, e ∈ es → Pn e) → Q (.o (.lst es))) : mComp ds mg mYes me ρ Q := by
  refine ⟨fun i acc => acc.length = i ∧ ∀ e, e ∈ acc → Pn e, ⟨rfl, fun e h => by cases h⟩, fun i d acc hdi p => ?_, fun acc p => hd acc p.1 p.2⟩
  have hi := (List.getElem?_eq_some_iff.mp hdi).1
  refine hs d (List.mem_of_getElem? hdi) (fun e => acc.length < sizeLine ∧ (acc ++ [e]).length = i + 1 ∧ ∀ x, x ∈ acc ++ [e] → Pn x) fun e pe => ⟨by rw [p.1]; omega, by rw [List.length_append, p.1]; rfl, fun x hx => ?_⟩
  rcases List.mem_append.mp hx with hx | hx
  · exact p.2 x hx
  · rw [List.mem_singleton.mp hx]; exact pe
theorem rng_mem {lo : Int} {n : Nat} {d : D} (h : d ∈ rngD lo n) : ∃ i : Nat, i < n ∧ d = .int (lo + i) := by
  unfold rngD at h
  obtain ⟨i, hi, rfl⟩ := List.mem_map.mp h
  exact ⟨i, by simpa using hi, rfl⟩
theorem rng_memI {lo : Int} {n : Nat} {d : D} (h : d ∈ rngD lo n) : ∃ i : Int, lo ≤ i ∧ i < lo + n ∧ d = .int i := by
  obtain ⟨i, hi, rfl⟩ := rng_mem h
  exact ⟨lo + i, by omega, by omega, rfl⟩
theorem rng_len {lo : Int} {n : Nat} : (rngD lo n).length = n := by unfold rngD; rw [List.length_map, List.length_range]
theorem startIs {m : MS} {D : Pd} {ρ ρ' : Env} (e : ρ' = ρ) (h : m D ρ) : m D ρ' := e ▸ h
theorem bDm {α : Type} {l : List α} {g : α → Bool} : bD (l.map fun x => D.bl (g x)) = some (l.map g) := by
  induction l with
  | nil => rfl
  | cons a r ih => rw [List.map_cons, bD, ih]; rfl
theorem iDm {α : Type} {l : List α} {g : α → Int} : iD (l.map fun x => D.int (g x)) = some (l.map g) := by
  induction l with
  | nil => rfl
  | cons a r ih => rw [List.map_cons, iD, ih]; rfl
theorem sDm {α : Type} {l : List α} {g : α → Str} : sD (l.map fun x => D.str (g x)) = some (l.map g) := by
  induction l with
  | nil => rfl
  | cons a r ih => rw [List.map_cons, sD, ih]; rfl
theorem all_true {α : Type} {l : List α} : (l.map fun _ => true).all id = true := by
  induction l with
  | nil => rfl
  | cons a r ih => exact ih
theorem zip_c {a b : D} {as bs : List D} : zipD (a :: as) (b :: bs) = .tup [a, b] :: zipD as bs := rfl
theorem zip_n : zipD [] [] = [] := rfl
theorem putD_lt0 {f : Str} {v : D} {gs : List (Str × D)} {k : Nat} (h : gs.length + 1 < k) : (putD f v gs).length < k := Nat.lt_of_le_of_lt (putD_len f v gs) h
theorem putD_ltn {f : Str} {v : D} {gs : List (Str × D)} {n k : Nat} (h : gs.length + (n + 1) < k) : (putD f v gs).length + n < k := by
  have := putD_len f v gs
  omega
/-! the laws' helpers -/
def pPick (xs : List X) (Q : X → Prop) : Prop := ∃ ds : List D, xs = [.pl, .b (.lst ds)] ∧ 0 < ds.length ∧ ds.length < 2 ^ 60 ∧ ∀ (i : Nat) d, ds[i]? = some d → Q (.f d)
def pRare (xs : List X) (Q : X → Prop) : Prop := ∃ m : Int, xs = [.pl, .f (.int m)] ∧ 0 < m ∧ m < 2 ^ 60 ∧ ∀ b, Q (.f (.bl b))
def pFew (xs : List X) (Q : X → Prop) : Prop := ∃ u m : Int, xs = [.pl, .f (.int u), .f (.int m)] ∧ 0 ≤ u ∧ u ≤ m ∧ m < 2 ^ 60 ∧ ∀ r, 0 ≤ r → r ≤ m → Q (.f (.int r))
def pIntB (xs : List X) (Q : X → Prop) : Prop := ∃ i : Int, xs = [.f (.int i)] ∧ Q (.f (.bl true))
/-- plain data of bounded depth -/
def okD : Nat → D → Prop
  | _, .non => True
  | _, .bl _ => True
  | _, .int _ => True
  | _, .str _ => True
  | n + 1, .lst ds => ds.length < 2 ^ 60 ∧ ∀ d, d ∈ ds → okD n d
  | n + 1, .tup ds => ds.length < 2 ^ 60 ∧ ∀ d, d ∈ ds → okD n d
  | _, _ => False
def pSame (n : Nat) (xs : List X) (Q : X → Prop) : Prop := ∃ d, xs = [(X.f d).v, (X.f d).v] ∧ okD n d ∧ Q (.f (.bl true))
theorem same_d {n : Nat} {d : D} {Q : X → Prop} (h : okD n d) (q : Q (.f (.bl true))) : pSame n [(X.f d).v, (X.f d).v] Q := ⟨d, rfl, h, q⟩
theorem same_t {n : Nat} {a b : List D} {Q : X → Prop} (e : a = b) (h : okD n (.tup b)) (q : Q (.f (.bl true))) : pSame n [.f (.tup a), .f (.tup b)] Q := e ▸ ⟨.tup a, rfl, e ▸ h, q⟩
theorem same_l {n : Nat} {a b : List D} {Q : X → Prop} (e : a = b) (h : okD n (.lst b)) (q : Q (.f (.bl true))) : pSame n [.b (.lst a), .b (.lst b)] Q := e ▸ ⟨.lst a, rfl, e ▸ h, q⟩
theorem same_b {n : Nat} {a b : Bool} {Q : X → Prop} (e : a = b) (q : Q (.f (.bl true))) : pSame n [.f (.bl a), .f (.bl b)] Q := e ▸ ⟨.bl a, rfl, by simp only [okD], q⟩
theorem same_i {n : Nat} {a b : Int} {Q : X → Prop} (e : a = b) (q : Q (.f (.bl true))) : pSame n [.f (.int a), .f (.int b)] Q := e ▸ ⟨.int a, rfl, by simp only [okD], q⟩
theorem same_s {n : Nat} {a b : Str} {Q : X → Prop} (e : a = b) (q : Q (.f (.bl true))) : pSame n [.f (.str a), .f (.str b)] Q := e ▸ ⟨.str a, rfl, by simp only [okD], q⟩
theorem same_n {n : Nat} {Q : X → Prop} (q : Q (.f (.bl true))) : pSame n [.f .non, .f .non] Q := ⟨.non, rfl, by simp only [okD], q⟩
end Pl
/-! Pl7: enumerate of a tuple. -/
namespace Pl
open PySem L2 Wp PyProof.Rows RT RZ
theorem meetsEnT (tt : Addr) (cells : Array Value) :
    Meets (Builtin.«enumerate.__new__» ⟨[.type "enumerate", .ref tt], []⟩) (fun _ R s => s.heap.IsTuple tt cells ∧
      R (.ok (.ret (.ref (s.heap.push { cls := .type "tuple_iterator", data := .fields #[.ref tt, .int 0 0] }).objs.size)))
        { s with heap := (s.heap.push { cls := .type "tuple_iterator", data := .fields #[.ref tt, .int 0 0] }).push { cls := .type "enumerate", data := .fields #[.none, .bool false, .ref s.heap.objs.size, rawInt 0, .none, .none] } }) :=
  .of_wp fun prog w A R s both => by
    obtain ⟨hp, gg, dd, tk, os⟩ := s
    obtain ⟨isT, both⟩ := both
    have sub1 := sub_enumerate
    have itr : ∀ {A' : Around} {E' : Value → Shared → Prop} {Q' : Value → Shared → Prop}, Q' (.ref hp.objs.size) ⟨hp.push { cls := .type "tuple_iterator", data := .fields #[.ref tt, .int 0 0] }, gg, dd, tk, os⟩ → wpAny (model prog w) A' (pyIter (.ref tt)) Q' E' ⟨hp, gg, dd, tk, os⟩ :=
      fun z => (begins_tuple tt cells).iter prog w _ _ ⟨hp, gg, dd, tk, os⟩ _ isT z
    wp_walk using itr
    refine wpAny_stack_any fun _ => ?_
    refine wpAny_pure ?_
    split
    · rename_i c _ _ _ _ _
      cases (c == Value.type "enumerate") <;> (wp_walk using itr; exact ⟨_, rfl, both⟩)
    · wp_walk using itr; exact ⟨_, rfl, both⟩
section
variable {prog : Program} {w : World} {A : Around} {E : Value → Shared → Prop} {s : Shared}
theorem enumT_new {tt : Addr} {cells : Array Value} {Q : Value → Shared → Prop} (isT : s.heap.IsTuple tt cells)
    (k : ∀ h', IsEnum h' (s.heap.objs.size + 1) s.heap.objs.size 0 .none → h'.IsTupleIter s.heap.objs.size tt 0 → h'.objs.size = s.heap.objs.size + 2 →
      (∀ b o, s.heap.get? b = some o → h'.get? b = some o) → Q (.ref (s.heap.objs.size + 1)) { s with heap := h' }) :
    wpAny (model prog w) A (call (.type "enumerate") [.ref tt]) Q E s := by
  have big : (s.heap.push { cls := .type "tuple_iterator", data := .fields #[.ref tt, .int 0 0] }).objs.size = s.heap.objs.size + 1 := Heap.size_push ..
  refine callType_new F.called_enumerate (by decide) (F.typeCall_enumerate_1 _) (F.newCall_enumerate_1 _) (fun ob => F.args_object_init_2 ob _) F.entry_enumerate_new (meetsEnT tt cells) ⟨isT, ?_⟩
  show _ ∧ _
  rw [big]
  have isE : IsEnum ((s.heap.push { cls := .type "tuple_iterator", data := .fields #[.ref tt, .int 0 0] }).push { cls := .type "enumerate", data := .fields #[.none, .bool false, .ref s.heap.objs.size, rawInt 0, .none, .none] }) (s.heap.objs.size + 1) s.heap.objs.size 0 .none := by
    have z := Heap.get?_push_size (s.heap.push { cls := .type "tuple_iterator", data := .fields #[.ref tt, .int 0 0] }) (o := { cls := .type "enumerate", data := .fields #[.none, .bool false, .ref s.heap.objs.size, rawInt 0, .none, .none] }) rfl
    rw [big] at z
    exact z
  exact ⟨⟨_, isE, rfl⟩, k _ isE ⟨_, Heap.get?_push_of_some _ (Heap.get?_push_size _ rfl), rfl, rfl⟩ (by rw [Heap.size_push, big]) fun b o z => Heap.get?_push_of_some _ (Heap.get?_push_of_some _ z)⟩
end
/-- a tuple's items, each in a new pair with its number -/
def IteT (K : PySem.W.Frag) (a : Addr) : It :=
  ⟨fun i H => ∃ (xs : List V) (x : V), SqT K H a xs ∧ xs[i]? = some x, fun i H v H' => ∃ T x, v = .ref T ∧ H T = none ∧ H' = upd H T (.tup [.int (i : Nat), x]) ∧ ∀ xs, SqT K H a xs → xs[i]? = some x, fun i H => ∃ xs : List V, SqT K H a xs ∧ xs.length ≤ i⟩
theorem turnEnT {P : Program} {w : World} {K : PySem.W.Frag} {elts : List Expr} {kk : Nat} {tpos : Pos} (a e it : Addr) (hae : a ≠ it) :
    Turn P w K (.Tuple elts kk tpos) (IteT K a) [e, it] e (fun i h => (∃ old, IsEnum h e it ((i : Nat) : Int) old) ∧ h.IsTupleIter it a i ∧ e ≠ it) where
  mem := List.mem_cons_self ..
  obj := fun i h st b hb => by
    obtain ⟨⟨old, isE⟩, ⟨o, q1, q2, q3⟩, _⟩ := st
    rcases List.mem_cons.mp hb with rfl | hb
    · exact ⟨_, isE, fun v q => nomatch q⟩
    · rw [List.mem_singleton.mp hb]
      exact ⟨o, q1, fun v q => by rw [q3] at q; cases q⟩
  keep := fun i h h' st k => by
    obtain ⟨⟨old, isE⟩, q, ne⟩ := st
    exact ⟨⟨old, k e (List.mem_cons_self ..) _ isE⟩, q.at fun o z => k it (List.mem_cons_of_mem _ (List.mem_cons_self ..)) o z, ne⟩
  item := by
    intro X hP hw hK hc i pins s σ H E I fok st can
    subst hP hw hK
    obtain ⟨⟨old, isE⟩, isI, ne⟩ := st
    obtain ⟨xs, x, sq, hx⟩ := can
    obtain ⟨cells, rv, isT, _⟩ := I.tuple sq
    obtain ⟨u, hu, ru⟩ := rv.get hx
    obtain ⟨oi, qi, _⟩ := id isI
    have le := Heap.lt_size isE
    have li := Heap.lt_size qi
    have lx : i < cells.length := (List.getElem?_eq_some_iff.mp hu).1
    have isT2 : s.heap.IsTuple a cells.toArray := isT
    have ea : e ≠ a := fun z => by
      subst z
      obtain ⟨o, q1, q2, _⟩ := isT2
      have q3 : _ = _ := (show s.heap.get? e = _ from isE).symm.trans q1
      cases q3
      exact absurd (Value.type.inj q2) (by decide)
    refine wpAny_pyNext_enum_itemD (Draws.tuple (prog := X.prog) (w := X.w) (A := X.A.in1) (show X.A.in1.handled = none from I.ok.hd hc) it a hae cells.toArray) isE ⟨isI, isT2⟩ (by simpa using lx) ne (fun m => ?_) fun x' h' tk hx' out st' got big hk => ?_
    · rcases List.mem_cons.mp m with z | m
      · exact ne z
      · exact ea (List.mem_singleton.mp m)
    · obtain rfl : x' = u := by
        have z : cells.toArray[i]? = some x' := hx'
        rw [List.getElem?_toArray, hu] at z
        exact (Option.some.inj z).symm
      refine ⟨_, rfl, wpAny_letOwnedTupleGo_enum (s := { s with heap := h', toks := tk + 1 }) out fun h'' isE' sb => ?_⟩
      have got2 : h''.get? s.heap.objs.size = some { cls := .type "tuple", data := .seq #[.int i tk, x'] } := (sb.2 _ (Nat.ne_of_gt le)).trans got
      have I1 : Inv X pins σ (upd H s.heap.objs.size (.tup [.int (i : Nat), x])) { s with heap := h'', toks := tk + 1 } :=
        I.turnedNew (ch := [e, it]) (fun b ob nb q => (sb.2 b (fun z => nb (by simp [z]))).trans (hk b ob (fun z => nb (by simp [z])) (fun z => nb (by simp [z])) q)) fok (Nat.le_refl _)
          ⟨by show 2 ≤ sizeLine; decide, [.int i tk, x'], .cons ⟨_, rfl⟩ (.cons ru .nil), ⟨_, got2, rfl, _, rfl⟩⟩
      refine ⟨.ref s.heap.objs.size, _, I1, rfl, ⟨_, x, rfl, I.hok.fresh (Nat.le_refl _), rfl, fun ys sq2 => by rw [I.tuple_inj sq2 sq]; exact hx⟩, ⟨⟨x', ?_⟩, st'.1.at fun o q => (sb.2 it (Ne.symm ne)).trans q, ne⟩, fun b hb => ?_⟩
      · rw [show ((i + 1 : Nat) : Int) = (i : Int) + 1 by omega]
        exact isE'
      · have lb : b < s.heap.objs.size := by
          rcases List.mem_cons.mp hb with rfl | hb
          · exact le
          · rw [List.mem_singleton.mp hb]; exact li
        rw [upd_ne (Nat.ne_of_lt lb)]
        exact (fok b hb).1
  done := by
    intro X hP hw hK hc i pins s σ H E I fok st end_
    subst hP hw hK
    obtain ⟨⟨old, isE⟩, isI, ne⟩ := st
    obtain ⟨xs, sq, hx⟩ := end_
    obtain ⟨cells, rv, isT, _⟩ := I.tuple sq
    obtain ⟨f0, f1, f2, f3, f4, f5⟩ := fok it (List.mem_cons_of_mem _ (List.mem_cons_self ..))
    have ll := rv.length
    have isT2 : s.heap.IsTuple a cells.toArray := isT
    have big : cells.toArray.size ≤ i := by simp; omega
    have D : Draws X.prog X.w X.A.in1 it [it, a] i (fun _ _ => True) (fun j h => j = i ∧ h.IsTupleIter it a j ∧ h.IsTuple a cells.toArray) :=
      { live := fun j h st => by obtain ⟨_, ⟨o, q, _⟩, _⟩ := st; exact ⟨o, q⟩
        frame := fun j h h' st hk => ⟨st.1, st.2.1.at fun o q => hk it (List.mem_cons_self ..) o q, st.2.2.at fun o q => hk a (by simp) o q⟩
        item := fun j s' Q' E' lt st _ => absurd st.1 (Nat.ne_of_lt lt)
        done := fun s' Q' E' st hE => nextOf_tuple_end (show X.A.in1.handled = none from I.ok.hd hc) st.2.1 st.2.2 (by simp; omega) hE }
    exact wpAny_pyNext_enum_endD D isE ⟨rfl, isI, isT2⟩ fun h' eb => ⟨rfl, I.turned (t' := s.toks) (fun b o nb q => eb b o nb q) f0 f1 f3 f4 f5⟩
  self := fun A i s Q E st h => let ⟨⟨_, isE⟩, _⟩ := st; wpAny_pyIter_enum isE h
def iEnumA (K : PySem.W.Frag) (ta : TA) : TI := fun σ H R => ta σ H fun vs H1 => ∃ a xs, vs = [.ref a] ∧ ((SqL K H1 a xs ∧ R (Ite K a) H1) ∨ (SqT K H1 a xs ∧ R (IteT K a) H1))
theorem pi_enumA {X : Cx} {e : Expr} {ta : TA} {p pos tpos : Pos} {elts : List Expr} {kk : Nat} (hg : Gl X "enumerate") (hm : X.mg "enumerate" = none) (ha : PA X [e] ta) (hs : starEach [e] X.env = [(false, eval e X.env)] := by rfl) :
    PI X (.Tuple elts kk tpos) (.Call (.Name "enumerate" p) [e] [] pos) (iEnumA X.K ta) := by
  refine ⟨fun pins s σ H R I q => ?_⟩
  refine Call_ (ld_blt I hg hm boot_enumerate (PyProof.Rows.callWith_type1 (thn (ha.run pos pins s σ H _ I q) fun us s1 got => ?_) hs rfl))
  obtain ⟨vs, H1, I1, rs, a, xs, rfl, q⟩ := got
  obtain ⟨u, rfl, ru⟩ := rs.one
  obtain rfl : u = Value.ref a := ru
  have fresh : ∀ b, b ∈ [s1.heap.objs.size + 1, s1.heap.objs.size] → FpOk X pins H1 b := fun b hb => by
    have le : s1.heap.objs.size ≤ b := by
      rcases List.mem_cons.mp hb with rfl | hb
      · exact Nat.le_add_right _ _
      · rw [List.mem_singleton.mp hb]; exact Nat.le_refl _
    exact I1.fpOk le (I1.hok.fresh le)
  rcases q with ⟨sq, q⟩ | ⟨sq, q⟩
  · obtain ⟨cells, rv, isL, _⟩ := I1.list sq
    refine call_enumerate_list isL.isList fun h' isE isI _ keep => wpAny_pyIter_enum isE ?_
    exact ⟨s1.heap.objs.size + 1, [s1.heap.objs.size + 1, s1.heap.objs.size], _, _, H1, rfl, I1.kept (t' := s1.toks) keep, turn_enum a (s1.heap.objs.size + 1) s1.heap.objs.size, ⟨⟨.none, isE⟩, isI, Nat.succ_ne_self _⟩, fresh, q⟩
  · obtain ⟨cells, rv, isT, _⟩ := I1.tuple sq
    obtain ⟨o, at_, _⟩ := id isT
    refine enumT_new (show s1.heap.IsTuple a cells.toArray from isT) fun h' isE isI _ keep => wpAny_pyIter_enum isE ?_
    exact ⟨s1.heap.objs.size + 1, [s1.heap.objs.size + 1, s1.heap.objs.size], _, _, H1, rfl, I1.kept (t' := s1.toks) keep, turnEnT a (s1.heap.objs.size + 1) s1.heap.objs.size (Nat.ne_of_lt (Heap.lt_size at_)), ⟨⟨.none, isE⟩, isI, Nat.succ_ne_self _⟩, fresh, q⟩
theorem pi_enumAK {X : L2.Cx} {K : PySem.W.Frag} {e : Expr} {ta : TA} {p pos tpos : Pos} {elts : List Expr} {kk : Nat} (h : X.K = K) (hg : Gl X "enumerate") (hm : X.mg "enumerate" = none) (ha : PA X [e] ta) (hs : starEach [e] X.env = [(false, eval e X.env)] := by rfl) :
    PI X (.Tuple elts kk tpos) (.Call (.Name "enumerate" p) [e] [] pos) (iEnumA K ta) := h ▸ pi_enumA hg hm ha hs
def kEnA (R : List D → Bool → Prop) (xs : List X) : Prop := ∃ x, xs = [x] ∧ itA x (kEn2 R)
def mEnA (m : MA) : MI := fun ρ R => m ρ (kEnA R)
theorem w_enA {R : List D → Bool → Prop} {ρ : Env} {m : MA} : mEnA m ρ R = m ρ (kEnA R) := rfl
theorem w_enA1 {R : List D → Bool → Prop} {x : X} : kEnA R [x] = itA x (kEn2 R) := propext ⟨fun ⟨_, e, h⟩ => by cases e; exact h, fun h => ⟨_, rfl, h⟩⟩
theorem i_enumA {K : PySem.W.Frag} {n : Nat} {ta : TA} {m : MA} (h : PurA K n ta m) : PurI K (iEnumA K ta) (mEnA m) := by
  intro c F O ρ σ H R R' S hm k
  refine h c F O ρ σ H _ _ S hm fun F1 H1 xs vs g S1 r e q => ?_
  obtain ⟨x, rfl, q⟩ := q
  match vs, r with
  | [v], r =>
    by_cases ht : ∃ ds, x = .f (.tup ds)
    · obtain ⟨ds, rfl⟩ := ht
      cases r.1 with
      | tup h1 h2 =>
        rename_i a vs
        have q : R' (numbered 0 ds) true := q
        refine ⟨a, vs, rfl, .inr ⟨sqt_ex S1.fh h1, k _ _ _ (numbered 0 ds) true g S1 ?_ q⟩⟩
        intro F O ρ σ H S e i
        have e : Ex F1 F := by simpa using e
        have sq := sqt_ex S.fh (sqt_ex e h1)
        have hl := h2.length
        rw [numbered_length]
        refine ⟨fun hi => ⟨vs, vs[i]'(by omega), sq, List.getElem?_eq_getElem (by omega)⟩, fun hi => ⟨vs, sq, by omega⟩, fun d y H' hd hy => ?_⟩
        obtain ⟨T, z, rfl, hT, rfl, hz⟩ := hy
        rw [numbered_get] at hd
        cases e1 : ds[i]? with
        | none => rw [e1] at hd; cases hd
        | some d0 =>
          rw [e1] at hd
          cases hd
          obtain ⟨v, h3, h4⟩ := h2.get e1
          have q1 := hz vs sq
          rw [h3] at q1
          obtain rfl := Option.some.inj q1
          refine ⟨upd F T (.tup [.int (i : Nat), v]), Gr.new S.fh hT, S.new hT, .tup (SqT.of upd_same) (.cons ?_ (.cons ((h4.mono e).mono (Ex.refl.new (S.fh.free hT))) .nil))⟩
          rw [Nat.zero_add]
          exact .int _
    · have q2 : itX x (kEn2 R') := by
        cases x with
        | f d =>
          cases d with
          | tup ds => exact absurd ⟨ds, rfl⟩ ht
          | _ => exact q
        | b od => cases od <;> exact q
        | q od => cases od <;> exact q
        | _ => exact q
      obtain ⟨a, ds, st, rfl, q, ha⟩ := lst_of S1 r.1 q2
      obtain ⟨ws, h1, h2⟩ := ha F1 O ρ σ H1 S1 (by cases st <;> simp [Ex.refl, Gr.refl])
      refine ⟨a, ws, rfl, .inl ⟨SqL.of h1, k _ _ _ (numbered 0 ds) st g S1 ?_ q⟩⟩
      intro F O ρ σ H S e i
      obtain ⟨vs, h1, h2⟩ := ha F O ρ σ H S e
      have hl := h2.length
      rw [numbered_length]
      refine ⟨fun hi => ⟨vs, vs[i]'(by omega), SqL.of h1, List.getElem?_eq_getElem (by omega)⟩, fun hi => ⟨vs, SqL.of h1, by omega⟩, fun d y H' hd hy => ?_⟩
      obtain ⟨T, z, rfl, hT, rfl, hz⟩ := hy
      rw [numbered_get] at hd
      cases e1 : ds[i]? with
      | none => rw [e1] at hd; cases hd
      | some d0 =>
        rw [e1] at hd
        cases hd
        obtain ⟨v, h3, h4⟩ := h2.get e1
        have q1 := hz vs (SqL.of h1)
        rw [h3] at q1
        obtain rfl := Option.some.inj q1
        refine ⟨upd F T (.tup [.int (i : Nat), v]), Gr.new S.fh hT, S.new hT, .tup (SqT.of upd_same) (.cons ?_ (.cons (h4.mono (Ex.refl.new (S.fh.free hT))) .nil))⟩
        rw [Nat.zero_add]
        exact .int _
/-! a written dict of texts, asked with get; a text counted in a list -/
def KTab (K : PySem.W.Frag) (w : World) (a : Addr) (tab : List (Str × Str)) : Prop :=
  ∃ es n, K.lookup a = some ⟨.type "dict", none, .dict es n, #[]⟩ ∧ PySem.W.KeysLit w.params es.toList ∧ (a == sysModules) = false ∧
    ∀ c, (∀ v, tab.lookup c = some v → ∃ t, PySem.W.nsIn K a c = some (some (.str v t))) ∧ (tab.lookup c = none → PySem.W.nsIn K a c = some none)
def tKGet (K : PySem.W.Frag) (w : World) (td ty tx : TE) : TE := fun σ H Q => td σ H fun x H1 => ∃ a es n, x = .ref a ∧ K.lookup a = some ⟨.type "dict", none, .dict es n, #[]⟩ ∧ PySem.W.KeysLit w.params es.toList ∧ (a == sysModules) = false ∧
  ty σ H1 fun y H2 => tx σ H2 fun z H3 => ∃ c, y = .str c ∧ ((∃ u v, PySem.W.nsIn K a c = some (some u) ∧ RelV v u ∧ Q v H3) ∨ (PySem.W.nsIn K a c = some none ∧ Q z H3))
theorem pe_kget {X : Cx} {K : PySem.W.Frag} {w : World} {o e f : Expr} {apos cpos : Pos} {td ty tx : TE} (hK : X.K = K) (hw : X.w = w) (ho : PE X o td) (he : PE X e ty) (hf : PE X f tx) (m : M2 X o "get" apos e f cpos) : PE X (.Call (.Attribute o "get" apos) [e, f] [] cpos) (tKGet K w td ty tx) := by
  subst hK hw
  refine ⟨fun pins s σ H Q I q => ?_⟩
  refine wpAny_Call_method m.base m.few m.line PySem.F.plainAttrs_dict PySem.F.slot_dict_get PySem.F.type_dict_get (thn (ho.run pins s σ H _ I q) fun u s1 got => ?_)
  obtain ⟨x, H1, I1, rx, a, es, n, rfl, hl, hk, low, q⟩ := got
  obtain rfl : u = Value.ref a := rx
  have hm := PySem.W.mapOf_K (prog := X.prog) (w := X.w) I1.kIn hl hk
  refine ⟨hm.typeIs, hm.noDict, ?_⟩
  rw [m.trees]
  refine Calls.callWith_builtin rfl (Calls.evalArgs_plain (Calls.spliced_cons (thn (he.run pins s1 σ H1 _ I1 q) fun iv s2 got => ?_)))
  obtain ⟨y, H2, I2, ry, q⟩ := got
  refine Calls.spliced_cons (thn (hf.run pins s2 σ H2 _ I2 q) fun fv s3 got => Calls.spliced_nil ?_)
  obtain ⟨z, H3, I3, rz, c, rfl, q2⟩ := got
  obtain ⟨t, rfl⟩ := (show ∃ t, iv = Value.str c t from ry)
  have hm3 := PySem.W.mapOf_K (prog := X.prog) (w := X.w) I3.kIn hl hk
  refine call_meetsIn PySem.F.slot_dict_get hm3.typeIs PySem.F.entry_dict_get (PySem.F.args_dict_get_3 _ _ _) (meets_dict_get_default (strKind X.prog X.w) a (strKind_is X.prog X.w c t) low fv) ⟨_, hm3, ?_⟩
  rcases q2 with ⟨u, v, k, rv, q2⟩ | ⟨k, q2⟩
  · rw [PySem.W.find_K hl k]
    exact ⟨v, H3, I3.tok _, rv, q2⟩
  · rw [PySem.W.find_K hl k]
    exact ⟨z, H3, I3.tok _, rz, q2⟩
def mKGet (tab : List (Str × Str)) (me mz : ME) : ME := fun ρ Q => me ρ fun x => ∃ c, x.n = .f (.str c) ∧ mz ρ fun z => ∃ d, z.n = .f (.str d) ∧ Q (.f (.str ((tab.lookup c).getD d)))
theorem e_kget {K : PySem.W.Frag} {w : World} {a : Addr} {tab : List (Str × Str)} {ty tx : TE} {me mz : ME} (T : KTab K w a tab) (h1 : PurE K ty me) (h2 : PurE K tx mz) : PurE K (tKGet K w (tC (.ref a)) ty tx) (mKGet tab me mz) := by
  intro c F O ρ σ H Q Q' S hm hp
  obtain ⟨es, n, hl, hk, low, hc⟩ := T
  refine ⟨a, es, n, rfl, hl, hk, low, ?_⟩
  refine h1.mid S hm fun F1 H1 x v g1 S1 r1 q => ?_
  obtain ⟨z, hz, q⟩ := q
  rw [hz] at r1
  cases r1
  refine h2.mid S1 q fun F2 H2 y u g2 S2 r2 q => ?_
  obtain ⟨d, hd, q⟩ := q
  rw [hd] at r2
  cases r2
  refine ⟨z, rfl, ?_⟩
  have hp := hp.trans (g1.trans g2)
  cases e : tab.lookup z with
  | none =>
    rw [e] at q
    exact .inr ⟨(hc z).2 e, hp.here (x := .f _) S2 (.str _) q⟩
  | some v =>
    rw [e] at q
    obtain ⟨t, k⟩ := (hc z).1 v e
    exact .inl ⟨_, .str v, k, ⟨t, rfl⟩, hp.here (x := .f _) S2 (.str _) q⟩
def rCntT (K : PySem.W.Frag) : V → List V → Hp → VK → Prop := fun x xs H Q => ∃ (a : Addr) (ss : List Str) (c : Str), x = V.ref a ∧ xs = [.str c] ∧ SqL K H a (ss.map V.str) ∧ Q (.int (ss.count c : Nat)) H
theorem cnt_strs {c : Str} : ∀ {ss : List Str} {us : List Value}, Vals (ss.map V.str) us → us.countP (eqU (.str c)) = ss.count c
  | [], _, .nil => rfl
  | z :: ss, _ :: us, .cons r t => by
    obtain ⟨k, rfl⟩ := r
    rw [List.countP_cons, List.count_cons, cnt_strs t]
    rfl
theorem mt_countT {X : Cx} : MtR X "list.count" (rCntT X.K) := by
  intro pins s σ H x xs v us Q I rx rxs q
  obtain ⟨a, ss, c, rfl, rfl, sq, q⟩ := q
  cases rx
  obtain ⟨u, rfl, ru⟩ := rxs.one
  obtain ⟨cells, rv, ⟨⟨cls, dd, data, sl⟩, n, at_, hc, hdn, hd⟩, hlen⟩ := I.list sq
  simp only at hc hd
  subst hc hd
  refine call_meets PySem.F.slot_list_count ⟨_, at_, rfl⟩ PySem.F.entry_list_count (PySem.F.args_list_count_2 _ _) (SeqAt.list_countAt a cells.toArray n dd sl u (eqU (.str c))) ⟨at_, fun y hy => ?_, ?_⟩
  · exact mem_eqAt ru rfl rv (all_flat_str ss) y (by simpa using hy)
  · have e : cells.toArray.toList.countP (eqU (.str c)) = ss.count c := cnt_strs rv
    refine ⟨.int (ss.count c : Nat), H, I.tok _, ⟨s.toks, ?_⟩, q⟩
    rw [← e]
theorem mt_countTK {X : Cx} {K : PySem.W.Frag} (h : X.K = K) : MtR X "list.count" (rCntT K) := h ▸ mt_countT
def mCntT (me : ME) (ma : MA) : ME := fun ρ Q => me ρ fun x => ∃ ds ss, x.n.L = some ds ∧ sD ds = some ss ∧ ma ρ fun ys => ∃ c, ys = [.f (.str c)] ∧ Q (.f (.int (ss.count c : Nat)))
theorem e_cnt {K : PySem.W.Frag} {n : Nat} {te : TE} {ta : TA} {me : ME} {ma : MA} (h1 : PurE K te me) (h2 : PurA K n ta ma) : PurE K (tBM K "list" (rCntT K) te ta) (mCntT me ma) := by
  intro c F O ρ σ H Q Q' S hm hp
  refine h1.mid S hm fun F1 H1 x v g1 S1 r1 q => ?_
  obtain ⟨ds, ss, hx, hs, q⟩ := q
  obtain ⟨a, vs, rfl, k1, _⟩ := xm_L S1 r1 hx
  refine ⟨?_, ?_⟩
  · exact .inl ⟨rfl, _, SqL.of k1⟩
  · refine h2 c F1 O ρ σ H1 _ _ S1 q fun F2 H2 xs ws g2 S2 r2 e q => ?_
    obtain ⟨z, rfl, q⟩ := q
    obtain ⟨w, rfl, r3⟩ := xms1 r2
    cases r3
    obtain ⟨b, us, e1, k2, k3⟩ := xm_L S2 (r1.grow g2) hx
    cases e1
    rw [sD_map hs] at k3
    refine ⟨a, ss, z, rfl, rfl, ?_, (hp.trans (g1.trans g2)).here (x := .f _) S2 (.int _) q⟩
    rw [← k3.strs]
    exact SqL.of k2
theorem w_kget {tab : List (Str × Str)} {me mz : ME} {ρ : Env} {Q : X → Prop} : mKGet tab me mz ρ Q = me ρ fun x => ∃ c, x.n = .f (.str c) ∧ mz ρ fun z => ∃ d, z.n = .f (.str d) ∧ Q (.f (.str ((tab.lookup c).getD d))) := rfl
def kCntT1 (ss : List Str) (Q : X → Prop) (ys : List X) : Prop := ∃ c, ys = [.f (.str c)] ∧ Q (.f (.int (ss.count c : Nat)))
theorem w_cntT {me : ME} {ma : MA} {ρ : Env} {Q : X → Prop} : mCntT me ma ρ Q = me ρ fun x => ∃ ds ss, x.n.L = some ds ∧ sD ds = some ss ∧ ma ρ (kCntT1 ss Q) := rfl
theorem w_cntT1 {ss : List Str} {Q : X → Prop} {c : Str} : kCntT1 ss Q [.f (.str c)] = Q (.f (.int (ss.count c : Nat))) := propext ⟨fun ⟨_, e, h⟩ => by cases e; exact h, fun h => ⟨_, rfl, h⟩⟩
theorem n_f {d : D} : (X.f d).n = .f d := rfl
theorem n_o {d : OD} : (X.o d).n.L = (X.f d.fr).L := by cases d <;> rfl
/-- a written dict's places -/
def DTab (P : Params) : List (Str × Str) → List DictEntry → Prop
  | [], [] => True
  | (k, v) :: r, e :: es => (∃ t, e.key = .str k t) ∧ (∃ t, e.val = .str v t) ∧ e.hash = PyData.keyHash P k ∧ DTab P r es
  | _, _ => False
theorem DTab.lit {P : Params} : ∀ {tab : List (Str × Str)} {es : List DictEntry}, DTab P tab es → PySem.W.KeysLit P es
  | [], [], _ => trivial
  | (k, v) :: r, e :: es, ⟨⟨t, h1⟩, _, h3, h4⟩ => ⟨⟨k, t, h1, h3⟩, DTab.lit h4⟩
theorem DTab.find {P : Params} {c : Str} : ∀ {tab : List (Str × Str)} {es : List DictEntry}, DTab P tab es → match tab.lookup c with
    | some v => ∃ e t, es.find? (fun d => d.key.isStr c) = some e ∧ e.val = .str v t
    | none => es.find? (fun d => d.key.isStr c) = none ∧ es.any (fun d => d.refKey) = false
  | [], [], _ => ⟨rfl, rfl⟩
  | (k, v) :: r, e :: es, ⟨⟨t, h1⟩, ⟨u, h2⟩, _, h4⟩ => by
    have ih := DTab.find (c := c) h4
    have er : e.key.isStr c = (k == c) := by rw [h1]; rfl
    have rr : e.refKey = false := by unfold DictEntry.refKey; rw [h1]
    rw [List.lookup_cons, List.find?_cons, List.any_cons, er, rr, Bool.false_or]
    by_cases hk : c = k
    · subst hk
      rw [beq_self_eq_true]
      exact ⟨e, u, rfl, h2⟩
    · rw [beq_eq_false_iff_ne.mpr hk, beq_eq_false_iff_ne.mpr (Ne.symm hk)]
      exact ih
theorem KTab.of {K : PySem.W.Frag} {w : World} {a : Addr} {tab : List (Str × Str)} {es : List DictEntry} {n : Nat} (hl : K.lookup a = some ⟨.type "dict", none, .dict ⟨es⟩ n, #[]⟩) (low : (a == sysModules) = false) (T : DTab w.params tab es) : KTab K w a tab := by
  refine ⟨_, _, hl, T.lit, low, fun c => ?_⟩
  have h := T.find (c := c)
  unfold PySem.W.nsIn
  rw [hl]
  dsimp only
  cases e : tab.lookup c with
  | none =>
    rw [e] at h
    refine ⟨fun v q => (by cases q), fun _ => ?_⟩
    rw [h.1]
    dsimp only
    rw [h.2]
    rfl
  | some v =>
    rw [e] at h
    obtain ⟨d, t, h1, h2⟩ := h
    refine ⟨fun v' q => ?_, fun q => (by cases q)⟩
    cases q
    exact ⟨t, by rw [h1]; dsimp only; rw [h2]⟩
/-! (text, number) < (text, number); a sign in a text -/
def ltSI (s1 : Str) (i1 : Int) (s2 : Str) (i2 : Int) : Bool := if s1 = s2 then decide (i1 < i2) else decide (s1.cps.toList < s2.cps.toList)
def rLtSI (K : PySem.W.Frag) : R2 := fun x y H Q => ∃ a b s1 i1 s2 i2, x = .ref a ∧ y = .ref b ∧ SqT K H a [.str s1, .int i1] ∧ SqT K H b [.str s2, .int i2] ∧ Q (.bl (ltSI s1 i1 s2 i2)) H
theorem op_ltSI {X : Cx} (hu : X.A.units < cLine) : OpR X (compareOp .Lt) (rLtSI X.K) := by
  intro pins s σ H x y v u Q I rx ry q
  obtain ⟨a, b, s1, i1, s2, i2, rfl, rfl, ha, hb, q⟩ := q
  cases rx
  cases ry
  obtain ⟨its, r1, p1, _⟩ := I.tuple ha
  obtain ⟨its2, r2, p2, _⟩ := I.tuple hb
  obtain ⟨c1, c2, rfl, ⟨t1, rfl⟩, ⟨t2, rfl⟩⟩ := r1.two
  obtain ⟨d1, d2, rfl, ⟨t3, rfl⟩, ⟨t4, rfl⟩⟩ := r2.two
  refine Ob.RcOp.tuples_lt (e := fun j => if j = 0 then decide (s1 = s2) else decide (i1 = i2)) (r := fun j => if j = 0 then decide (s1.cps.toList < s2.cps.toList) else decide (i1 < i2)) p1 p2 (Nat.lt_of_le_of_lt (Nat.le_refl _) hu) (fun j h1 h2 => ?_) (fun j h1 h2 he => ?_) X.prog X.w _ _ ?_
  · match j, h1, h2 with
    | 0, _, _ =>
      have z := eqAt_V (A := X.A.in1) (s := s) (y := .str s1) (x := .str s2) (u := .str s1 t1) (v := .str s2 t3) ⟨_, rfl⟩ ⟨_, rfl⟩ rfl rfl
      rw [show eqV (.str s1) (.str s2) = decide (s1 = s2) from by show (s1 == s2) = decide (s1 = s2); by_cases h : s1 = s2 <;> simp [h]] at z
      exact z
    | 1, _, _ =>
      have z := eqAt_V (A := X.A.in1) (s := s) (y := .int i1) (x := .int i2) (u := .int i1 t2) (v := .int i2 t4) ⟨_, rfl⟩ ⟨_, rfl⟩ rfl rfl
      rw [show eqV (.int i1) (.int i2) = decide (i1 = i2) from by show (i1 == i2) = decide (i1 = i2); by_cases h : i1 = i2 <;> simp [h]] at z
      exact z
    | j + 2, h1, _ => exact absurd h1 (by simp)
  · match j, h1, h2 with
    | 0, _, _ => exact fun prog w E Q k => PyProof.Rows.lt_str k
    | 1, _, _ => exact Ob.RcOp.lt_int i1 i2 t2 t4
    | j + 2, h1, _ => exact absurd h1 (by simp)
  · refine ⟨.bl (ltSI s1 i1 s2 i2), H, I, ?_, q⟩
    show Value.bool _ = Value.bool _
    congr 1
    show Ob.lexAt _ _ _ 0 2 = _
    rw [Ob.lexAt_succ, Ob.lexAt_succ, Ob.lexAt_zero]
    unfold ltSI
    by_cases e1 : s1 = s2 <;> by_cases e2 : i1 = i2 <;> simp [e1, e2]
theorem op_ltSIK {X : Cx} {K : PySem.W.Frag} (h : X.K = K) (hu : X.A.units + 64 < cLine) : OpR X (compareOp .Lt) (rLtSI K) := h ▸ op_ltSI (Nat.lt_of_le_of_lt (Nat.le_add_right _ _) hu)
def pLtSI (x y : X) (Q : X → Prop) : Prop := ∃ s1 i1 s2 i2, x = .f (.tup [.str s1, .int i1]) ∧ y = .f (.tup [.str s2, .int i2]) ∧ Q (.f (.bl (ltSI s1 i1 s2 i2)))
theorem r_ltSI {K : PySem.W.Frag} : PurR2 K (rLtSI K) pLtSI := by
  intro c F O ρ σ H Q Q' x y v w S rx ry hm hp
  obtain ⟨s1, i1, s2, i2, rfl, rfl, q⟩ := hm
  obtain ⟨a, vs, rfl, k1, k2⟩ := xm_T S rx
  obtain ⟨b, ws, rfl, k3, k4⟩ := xm_T S ry
  cases k2 with
  | cons r1 k2 =>
    cases r1
    cases k2 with
    | cons r1 k2 =>
      cases r1
      cases k2
      cases k4 with
      | cons r1 k4 =>
        cases r1
        cases k4 with
        | cons r1 k4 =>
          cases r1
          cases k4
          exact ⟨a, b, s1, i1, s2, i2, rfl, rfl, k1, k3, hp.here (x := .f _) S (.bl _) q⟩
def rInC : R2 := fun x y H Q => ∃ (c : Nat) (z : Str), x = .str ⟨#[c]⟩ ∧ y = .str z ∧ Q (.bl (decide (c ∈ z.cps.toList))) H
theorem op_inC {X : Cx} : OpR X (compareOp .In) rInC := op_in_sign
def pInC (x y : X) (Q : X → Prop) : Prop := ∃ c z, x = .f (.str ⟨#[c]⟩) ∧ y = .f (.str z) ∧ Q (.f (.bl (decide (c ∈ z.cps.toList))))
theorem r_inC {K : PySem.W.Frag} : PurR2 K rInC pInC := by
  intro c F O ρ σ H Q Q' x y v w S rx ry hm hp
  obtain ⟨ch, z, rfl, rfl, q⟩ := hm
  cases rx
  cases ry
  exact ⟨ch, z, rfl, rfl, hp.here (x := .f _) S (.bl _) q⟩
theorem w_inC {c : Nat} {z : Str} {Q : X → Prop} : pInC (.f (.str ⟨#[c]⟩)) (.f (.str z)) Q = Q (.f (.bl (decide (c ∈ z.cps.toList)))) := propext ⟨fun ⟨_, _, e1, e2, h⟩ => by cases e1; cases e2; exact h, fun h => ⟨_, _, rfl, rfl, h⟩⟩
theorem w_ltSI {s1 s2 : Str} {i1 i2 : Int} {Q : X → Prop} : pLtSI (.f (.tup [.str s1, .int i1])) (.f (.tup [.str s2, .int i2])) Q = Q (.f (.bl (ltSI s1 i1 s2 i2))) := propext ⟨fun ⟨_, _, _, _, e1, e2, h⟩ => by cases e1; cases e2; exact h, fun h => ⟨_, _, _, _, rfl, rfl, h⟩⟩
end Pl
/-! Pl8: max of three, sorted, join, methods of texts. -/
namespace Pl
open PySem L2 Wp PyProof.Rows RT RZ
theorem c_max3K {X : L2.Cx} (hc : X.calm = true) : CallR X (.builtin "max") (rNuC3 nuMax3) := call_max3Nu hc
def pMax3 (xs : List X) (Q : X → Prop) : Prop := ∃ i j k : Int, xs = [.f (.int i), .f (.int j), .f (.int k)] ∧ Q (.f (.int (max (max i j) k)))
theorem nuMax2_int (i j : Int) : nuMax2 (.int i) (.int j) = some (.int (max i j)) := by
  show some (if decide (i < j) = true then V.int j else V.int i) = _
  by_cases h : i < j
  · rw [if_pos (decide_eq_true h), Int.max_eq_right (Int.le_of_lt h)]
  · rw [if_neg (by simp [h]), Int.max_eq_left (by omega)]
theorem xms3 {K : PySem.W.Frag} {c : Ct} {F H : Hp} {x y z : X} {vs : List V} (r : XMs K c F H [x, y, z] vs) : ∃ v w u, vs = [v, w, u] ∧ XM K c F H x v ∧ XM K c F H y w ∧ XM K c F H z u := by
  match vs, r with
  | [v, w, u], r => exact ⟨v, w, u, rfl, r.1, r.2.1, r.2.2.1⟩
theorem c_max3 {K : PySem.W.Frag} : PurRL K (rNuC3 nuMax3) pMax3 := by
  intro c F O ρ σ H Q Q' xs vs S r hm hp
  obtain ⟨i, j, k, rfl, q⟩ := hm
  obtain ⟨v, w, u, rfl, r1, r2, r3⟩ := xms3 r
  cases r1; cases r2; cases r3
  refine ⟨_, _, _, .int (max (max i j) k), rfl, ?_, hp.here (x := .f _) S (.int _) q⟩
  unfold nuMax3
  rw [nuMax2_int]
  exact nuMax2_int _ _
theorem w_max3 {i j k : Int} {Q : X → Prop} : pMax3 [.f (.int i), .f (.int j), .f (.int k)] Q = Q (.f (.int (max (max i j) k))) := propext ⟨fun ⟨_, _, _, e, h⟩ => by cases e; exact h, fun h => ⟨_, _, _, rfl, h⟩⟩
/-! sorted -/
theorem c_sortIK {X : L2.Cx} {K : PySem.W.Frag} (h : X.K = K) : CallR X (.builtin "sorted") (rSortedI K) := h ▸ cr_sortedI
def pSortI (xs : List X) (Q : X → Prop) : Prop := ∃ x ds ns, xs = [x] ∧ x.L = some ds ∧ iD ds = some ns ∧ ∀ ms : List Int, ms.Perm ns → ms.Pairwise (· ≤ ·) → Q (.o (.lst (ms.map .int)))
theorem c_sortI {K : PySem.W.Frag} : PurRL K (rSortedI K) pSortI := by
  intro c F O ρ σ H Q Q' xs vs S r hm hp
  obtain ⟨x, ds, ns, rfl, h1, h2, q⟩ := hm
  obtain ⟨v, rfl, r1⟩ := xms1 r
  obtain ⟨a, vs, rfl, hs, rs⟩ := xm_L S r1 h1
  rw [iD_map h2] at rs
  exact ⟨a, ns, rfl, by rw [← rs.ints]; exact SqL.of hs, fun ms p h3 h4 np => hp.newL S np (Reps.ofInts ms) (q ms h3 h4)⟩
theorem w_sortI {x : X} {Q : X → Prop} : pSortI [x] Q = ∃ ds ns, x.L = some ds ∧ iD ds = some ns ∧ ∀ ms : List Int, ms.Perm ns → ms.Pairwise (· ≤ ·) → Q (.o (.lst (ms.map .int))) := propext ⟨fun ⟨_, ds, ns, e, h1, h2, h⟩ => by cases e; exact ⟨ds, ns, h1, h2, h⟩, fun ⟨ds, ns, h1, h2, h⟩ => ⟨_, ds, ns, rfl, h1, h2, h⟩⟩
theorem c_sortSK {X : L2.Cx} {K : PySem.W.Frag} (h : X.K = K) : CallR X (.builtin "sorted") (rSortedS K) := h ▸ cr_sortedS
def pSortS (xs : List X) (Q : X → Prop) : Prop := ∃ x ds ns, xs = [x] ∧ x.L = some ds ∧ sD ds = some ns ∧ ns.length < 64 ∧ ∀ ms : List Str, ms.Perm ns → sortedS ms = true → Q (.o (.lst (ms.map .str)))
theorem c_sortS {K : PySem.W.Frag} : PurRL K (rSortedS K) pSortS := by
  intro c F O ρ σ H Q Q' xs vs S r hm hp
  obtain ⟨x, ds, ns, rfl, h1, h2, h3, q⟩ := hm
  obtain ⟨v, rfl, r1⟩ := xms1 r
  obtain ⟨a, vs, rfl, hs, rs⟩ := xm_L S r1 h1
  rw [sD_map h2] at rs
  exact ⟨a, ns, rfl, by rw [← rs.strs]; exact SqL.of hs, h3, fun ms p h4 h5 np => hp.newL S np (Reps.ofStrs ms) (q ms h4 h5)⟩
theorem w_sortS {x : X} {Q : X → Prop} : pSortS [x] Q = ∃ ds ns, x.L = some ds ∧ sD ds = some ns ∧ ns.length < 64 ∧ ∀ ms : List Str, ms.Perm ns → sortedS ms = true → Q (.o (.lst (ms.map .str))) := propext ⟨fun ⟨_, ds, ns, e, h1, h2, h3, h⟩ => by cases e; exact ⟨ds, ns, h1, h2, h3, h⟩, fun ⟨ds, ns, h1, h2, h3, h⟩ => ⟨_, ds, ns, rfl, h1, h2, h3, h⟩⟩
/-! a text's methods with one argument -/
def PurMt (K : PySem.W.Frag) (r : V → List V → Hp → VK → Prop) (r' : Str → X → (X → Prop) → Prop) : Prop := ∀ c F O ρ σ H Q Q' a y v, Sim K c F O ρ σ H → XM K c F H y v → r' a y Q' → Post K c F O ρ σ H Q' Q → r (.str a) [v] H Q
def kM1a (r' : Str → X → (X → Prop) → Prop) (a : Str) (Q : X → Prop) (y : X) : Prop := r' a y.n Q
def kM1 (r' : Str → X → (X → Prop) → Prop) (my : ME) (ρ : Env) (Q : X → Prop) (x : X) : Prop := ∃ a, x = .f (.str a) ∧ my ρ (kM1a r' a Q)
def mM1 (r' : Str → X → (X → Prop) → Prop) (me my : ME) : ME := fun ρ Q => me ρ (kM1 r' my ρ Q)
theorem e_m1 {K : PySem.W.Frag} {r : V → List V → Hp → VK → Prop} {r' : Str → X → (X → Prop) → Prop} {te ty : TE} {me my : ME} (hr : PurMt K r r') (h1 : PurE K te me) (h2 : PurE K ty my) : PurE K (tM1 r te ty) (mM1 r' me my) := by
  intro c F O ρ σ H Q Q' S hm hp
  refine h1.mid S hm fun F1 H1 x v g1 S1 r1 q => ?_
  obtain ⟨a, rfl, q⟩ := q
  cases r1
  refine ⟨⟨a, rfl⟩, ?_⟩
  refine h2.mid S1 q fun F2 H2 y w g2 S2 r2 q => ?_
  exact hr c F2 O ρ σ H2 Q Q' a _ w S2 r2 q (hp.trans (g1.trans g2))
theorem w_m1 {r' : Str → X → (X → Prop) → Prop} {me my : ME} {ρ : Env} {Q : X → Prop} : mM1 r' me my ρ Q = me ρ (kM1 r' my ρ Q) := rfl
theorem w_m1a {r' : Str → X → (X → Prop) → Prop} {my : ME} {ρ : Env} {Q : X → Prop} {a : Str} : kM1 r' my ρ Q (.f (.str a)) = my ρ (kM1a r' a Q) := propext ⟨fun ⟨_, e, h⟩ => by cases e; exact h, fun h => ⟨_, rfl, h⟩⟩
theorem w_m1b {r' : Str → X → (X → Prop) → Prop} {Q : X → Prop} {a : Str} {y : X} : kM1a r' a Q y = r' a y.n Q := rfl
def rJoin (K : PySem.W.Frag) : V → List V → Hp → VK → Prop := fun x xs H Q => ∃ a p, ∃ ys : List Str, x = .str a ∧ xs = [.ref p] ∧ (SqL K H p (ys.map V.str) ∨ SqT K H p (ys.map V.str)) ∧ (ys.map (·.length)).sum + ys.length * a.length ≤ 16777216 ∧ Q (.str (Txt.join a ys)) H
theorem mt_joinK {X : L2.Cx} {K : PySem.W.Frag} (h : X.K = K) : MtR X "str.join" (rJoin K) := h ▸ mt_join
def pJoin (a : Str) (y : X) (Q : X → Prop) : Prop := ∃ ds ss, y.S = some ds ∧ sD ds = some ss ∧ (ss.map (·.length)).sum + ss.length * a.length ≤ 16777216 ∧ Q (.f (.str (Txt.join a ss)))
theorem m_join {K : PySem.W.Frag} : PurMt K (rJoin K) pJoin := by
  intro c F O ρ σ H Q Q' a y v S ry hm hp
  obtain ⟨ds, ss, h1, h2, h3, q⟩ := hm
  obtain ⟨p, vs, rfl, hs, rs⟩ := xm_S S ry h1
  rw [sD_map h2] at rs
  exact ⟨a, p, ss, rfl, rfl, by rw [← rs.strs]; exact hs, h3, hp.here (x := .f _) S (.str _) q⟩
def pStr1 (f : Str → Str → D) (a : Str) (y : X) (Q : X → Prop) : Prop := ∃ b, y = .f (.str b) ∧ Q (.f (f a b))
theorem w_str1 {f : Str → Str → D} {a b : Str} {Q : X → Prop} : pStr1 f a (.f (.str b)) Q = Q (.f (f a b)) := propext ⟨fun ⟨_, e, h⟩ => by cases e; exact h, fun h => ⟨_, rfl, h⟩⟩
theorem m_count {K : PySem.W.Frag} : PurMt K (fun x xs H Q => ∃ a b, x = .str a ∧ xs = [.str b] ∧ Q (.int (Txt.count a b)) H) (pStr1 fun a b => .int (Txt.count a b)) := by
  intro c F O ρ σ H Q Q' a y v S ry hm hp
  obtain ⟨b, rfl, q⟩ := hm
  cases ry
  exact ⟨a, b, rfl, rfl, hp.here (x := .f _) S (.int _) q⟩
end Pl
/-! Pl9: a def's own dicts with numbers and texts as keys. -/
namespace Pl
open PySem L2 Wp PyProof.Rows RT RZ
def keyD : D → Option Key
  | .int i => some (.inl i)
  | .str s => some (.inr s)
  | _ => none
theorem keyD_v {K : PySem.W.Frag} {F : Hp} {v : V} {d : D} {k : Key} (r : Rep K F v d) (h : keyD d = some k) : v = kV k := by
  cases r <;> cases h <;> rfl
def atD (gs : List (Key × D)) (k : Key) : Option D := (gs.find? fun kv => decide (kv.1 = k)).map (·.2)
def storeD (gs : List (Key × D)) (k : Key) (d : D) : List (Key × D) := if (gs.any fun kv => decide (kv.1 = k)) = true then gs.map (fun kv => if kv.1 = k then (kv.1, d) else kv) else gs ++ [(k, d)]
section
variable {K : PySem.W.Frag} {F : Hp}
theorem RepK.at {k : Key} : ∀ {fs : List (Key × V)} {gs : List (Key × D)}, RepK K F fs gs → match atD gs k with
    | some d => ∃ v, valV fs k = some v ∧ Rep K F v d
    | none => valV fs k = none
  | [], [], .nil => rfl
  | (f, v) :: fs, (_, d) :: gs, .cons r t => by
    have ih := RepK.at (k := k) t
    unfold atD valV at *
    rw [List.find?_cons, List.find?_cons]
    by_cases h : f = k
    · simp only [h, decide_true]
      exact ⟨v, rfl, r⟩
    · simp only [h, decide_false]
      exact ih
theorem RepK.len : ∀ {fs : List (Key × V)} {gs : List (Key × D)}, RepK K F fs gs → fs.length = gs.length
  | [], [], .nil => rfl
  | _ :: _, _ :: _, .cons _ t => by rw [List.length_cons, List.length_cons, RepK.len t]
theorem RepK.has {k : Key} : ∀ {fs : List (Key × V)} {gs : List (Key × D)}, RepK K F fs gs → (fs.any fun kv => decide (kv.1 = k)) = gs.any fun kv => decide (kv.1 = k)
  | [], [], .nil => rfl
  | (f, v) :: fs, (_, d) :: gs, .cons r t => by rw [List.any_cons, List.any_cons, RepK.has t]
theorem RepK.app {k : Key} {v : V} {d : D} (q : Rep K F v d) : ∀ {fs : List (Key × V)} {gs : List (Key × D)}, RepK K F fs gs → RepK K F (fs ++ [(k, v)]) (gs ++ [(k, d)])
  | [], [], .nil => .cons q .nil
  | _ :: _, _ :: _, .cons r t => .cons r (RepK.app q t)
theorem RepK.rpl {k : Key} {v : V} {d : D} (q : Rep K F v d) : ∀ {fs : List (Key × V)} {gs : List (Key × D)}, RepK K F fs gs → RepK K F (fs.map fun kv => if kv.1 = k then (kv.1, v) else kv) (gs.map fun kv => if kv.1 = k then (kv.1, d) else kv)
  | [], [], .nil => .nil
  | (f, _) :: _, (_, _) :: _, .cons r t => by
    rw [List.map_cons, List.map_cons]
    by_cases h : f = k
    · simp only [h, if_true]
      exact .cons q (h ▸ RepK.rpl q t)
    · simp only [h, if_false]
      exact .cons r (RepK.rpl q t)
theorem RepK.put {k : Key} {v : V} {d : D} (q : Rep K F v d) {fs : List (Key × V)} {gs : List (Key × D)} (r : RepK K F fs gs) : RepK K F (putK fs k v) (storeD gs k d) := by
  unfold putK storeD
  rw [r.has]
  split
  · exact r.rpl q
  · exact r.app q
end
/-- a dict, frozen, lent or in a name -/
def X.DK : X → Option (List (Key × D))
  | .f (.dk gs) => some gs
  | .b (.dk gs) => some gs
  | .q (.dk gs) => some gs
  | .b (.dkl gs) => some gs
  | .q (.dkl gs) => some gs
  | .b (.dkm gs) => some gs
  | .q (.dkm gs) => some gs
  | _ => none
section
variable {K : PySem.W.Frag} {c : Ct} {F H : Hp} {O : Ow} {ρ : Env} {σ : L2.St}
theorem dk_ {M : MR} {a : Addr} {es : List (Key × D)} {h : HO} (r : ObjR K F M a (.dk es) h) : ∃ fs, h = .dK fs ∧ RepK K F fs es := by
  cases h <;> first | exact r.elim | exact ⟨_, rfl, r⟩
theorem dkS_ {G : Hp} {M : MR} {a : Addr} {es : List (Key × D)} {h : HO} (e : H a = some h) (r : ObjS K G F M a (.dk es) h) : ∃ fs, Rd H a (.dK fs) ∧ RepK K F fs es ∧ G a = none := by
  obtain ⟨fs, rfl, r⟩ := r
  exact ⟨fs, .inl e, r⟩
theorem dkSl_ {G : Hp} {M : MR} {a : Addr} {es : List (Key × D)} {h : HO} (e : H a = some h) (r : ObjS K G F M a (.dkl es) h) : ∃ fs, Rd H a (.dK fs) ∧ RepK K F fs es ∧ G a = none := by
  obtain ⟨fs, ⟨ob, rfl⟩, r⟩ := r
  exact ⟨fs, .inr ⟨ob, e⟩, r⟩
theorem dkSm_ {G : Hp} {M : MR} {a : Addr} {es : List (Key × D)} {h : HO} (e : H a = some h) (r : ObjS K G F M a (.dkm es) h) : ∃ fs, Rd H a (.dK fs) ∧ RepK K F fs es ∧ G a = none := by
  obtain ⟨fs, rfl | ⟨ob, rfl⟩, r⟩ := r
  · exact ⟨fs, .inl e, r⟩
  · exact ⟨fs, .inr ⟨ob, e⟩, r⟩
theorem xm_K {x : X} {v : V} {gs : List (Key × D)} (S : Sim K c F O ρ σ H) (r : XM K c F H x v) (e : x.DK = some gs) : ∃ a fs, v = .ref a ∧ Rd H a (.dK fs) ∧ RepK K F fs gs := by
  cases x with
  | f d =>
    cases d with
    | dk es => cases e; cases r with | dk h1 h2 => exact ⟨_, _, rfl, .inl (S.fh _ _ h1), h2⟩
    | _ => cases e
  | b es =>
    cases es with
    | dk es =>
      cases e
      obtain ⟨a, h, rfl, h1, _, h3⟩ := r
      obtain ⟨fs, h3, h4, _⟩ := dkS_ h1 h3
      exact ⟨a, fs, rfl, h3, h4⟩
    | dkl es =>
      cases e
      obtain ⟨a, h, rfl, h1, _, h3⟩ := r
      obtain ⟨fs, h3, h4, _⟩ := dkSl_ h1 h3
      exact ⟨a, fs, rfl, h3, h4⟩
    | dkm es =>
      cases e
      obtain ⟨a, h, rfl, h1, _, h3⟩ := r
      obtain ⟨fs, h3, h4, _⟩ := dkSm_ h1 h3
      exact ⟨a, fs, rfl, h3, h4⟩
    | _ => cases e
  | q es =>
    cases es with
    | dk es =>
      cases e
      obtain ⟨a, h, rfl, h1, h2, h3⟩ := r
      obtain ⟨fs, h3, h4, _⟩ := dkS_ (S.gr.h _ _ h2 h1) h3
      exact ⟨a, fs, rfl, h3, h4⟩
    | dkl es =>
      cases e
      obtain ⟨a, h, rfl, h1, h2, h3⟩ := r
      obtain ⟨fs, h3, h4, _⟩ := dkSl_ (S.gr.h _ _ h2 h1) h3
      exact ⟨a, fs, rfl, h3, h4⟩
    | dkm es =>
      cases e
      obtain ⟨a, h, rfl, h1, h2, h3⟩ := r
      obtain ⟨fs, h3, h4, _⟩ := dkSm_ (S.gr.h _ _ h2 h1) h3
      exact ⟨a, fs, rfl, h3, h4⟩
    | _ => cases e
  | _ => cases e
theorem DGet.rd {a : Addr} {kvs : List (Key × V)} {k : Key} (e : Rd H a (.dK kvs)) : DGet H a (kV k) (valV kvs k) := .inl ⟨kvs, k, e, rfl, rfl⟩
end
section
variable {K : PySem.W.Frag}
def mDNew : ME := fun _ Q => Q (.o (.dk []))
theorem e_dnew : PurE K tDNewK mDNew := by
  intro c F O ρ σ H Q Q' S hm hp
  exact fun p np => hp _ _ (.o (.dk [])) _ (Gr.newH np) (S.newH np) ⟨p, _, rfl, np, upd_same, S.fh.free np, .nil⟩ hm
def mDGet (me mk : ME) : ME := fun ρ Q => me ρ fun x => mk ρ fun y => ∃ gs yd k d, x.n.DK = some gs ∧ y.n = .f yd ∧ keyD yd = some k ∧ atD gs k = some d ∧ Q (.f d)
theorem e_dget {te tk : TE} {me mk : ME} (h1 : PurE K te me) (h2 : PurE K tk mk) : PurE K (tDGet te tk) (mDGet me mk) := by
  intro c F O ρ σ H Q Q' S hm hp
  refine h1.mid S hm fun F1 H1 x v g1 S1 r1 q => ?_
  refine h2.mid S1 q fun F2 H2 y w g2 S2 r2 q => ?_
  obtain ⟨gs, yd, k, d, e1, e2, e3, e4, q⟩ := q
  rw [e2] at r2
  obtain ⟨a, fs, rfl, hH, rk⟩ := xm_K S2 (r1.grow g2) e1
  obtain rfl := keyD_v r2 e3
  have z := rk.at (k := k)
  rw [e4] at z
  obtain ⟨u, hu, ru⟩ := z
  exact ⟨a, u, rfl, by rw [← hu]; exact DGet.rd hH, (hp.trans (g1.trans g2)).here (x := .f _) S2 ru q⟩
def mDGet2 (me mk mz : ME) : ME := fun ρ Q => me ρ fun x => ∃ gs, x.n.DK = some gs ∧ mk ρ fun y => ∃ yd k, y.n = .f yd ∧ keyD yd = some k ∧ mz ρ fun z => ∃ zd, z.n = .f zd ∧ Q (.f ((atD gs k).getD zd))
theorem e_dget2 {te tk tz : TE} {me mk mz : ME} (h1 : PurE K te me) (h2 : PurE K tk mk) (h3 : PurE K tz mz) : PurE K (tDGet2 te tk tz) (mDGet2 me mk mz) := by
  intro c F O ρ σ H Q Q' S hm hp
  refine h1.mid S hm fun F1 H1 x v g1 S1 r1 q => ?_
  obtain ⟨gs, e1, q⟩ := q
  obtain ⟨a, fs, rfl, hH, rk⟩ := xm_K S1 r1 e1
  refine ⟨a, rfl, .inl ⟨_, hH⟩, ?_⟩
  refine h2.mid S1 q fun F2 H2 y w g2 S2 r2 q => ?_
  obtain ⟨yd, k, e2, e3, q⟩ := q
  rw [e2] at r2
  obtain rfl := keyD_v r2 e3
  refine h3.mid S2 q fun F3 H3 z u g3 S3 r3 q => ?_
  obtain ⟨zd, e4, q⟩ := q
  rw [e4] at r3
  obtain ⟨b, fs', e5, hH3, rk3⟩ := xm_K S3 ((r1.grow g2).grow g3) e1
  cases e5
  refine ⟨_, DGet.rd hH3, ?_⟩
  have t := rk3.at (k := k)
  have hp := hp.trans ((g1.trans g2).trans g3)
  cases e : atD gs k with
  | none =>
    rw [e] at t q
    rw [t]
    exact hp.here (x := .f _) S3 r3 q
  | some d =>
    rw [e] at t q
    obtain ⟨v, hv, rv⟩ := t
    rw [hv]
    exact hp.here (x := .f _) S3 rv q
def mDSet (i : Nat) (mk me : ME) : MS := fun D ρ => me ρ fun x => ∃ d gs, x.n = .f d ∧ getS ρ i = .own (.dk gs) ∧ mk ρ fun y => ∃ yd k, y.n = .f yd ∧ keyD yd = some k ∧ gs.length < sizeLine ∧ D.nx (ρ.set i (.own (.dk (storeD gs k d))))
theorem s_dset {i : Nat} {te tk : TE} {me mk : ME} (h1 : PurE K te me) (h2 : PurE K tk mk) : PurS K (sDPut (tVar i) tk te) (mDSet i mk me) := by
  intro c F O ρ σ H D D' S R hm
  refine h1.mid S hm fun F1 H1 x v g1 S1 r1 q => ?_
  obtain ⟨d, gs, e1, hs, q⟩ := q
  rw [e1] at r1
  obtain ⟨a, h, h0, ho, hH, ob⟩ := S1.ownO hs
  refine ⟨_, h0, ?_⟩
  refine h2.mid S1 q fun F2 H2 y w g2 S2 r2 q => ?_
  obtain ⟨yd, k, e2, e3, e4, q⟩ := q
  rw [e2] at r2
  obtain rfl := keyD_v r2 e3
  have hH2 := g2.h _ _ (S1.own_np ho) hH
  cases h with
  | dK fs =>
    have rk : RepK K F2 fs gs := RepK.mono g2.f ob
    exact ⟨a, _, rfl, DPut.k hH2 (by rw [rk.len]; exact e4), R.nx _ _ _ _ _ (g1.f.trans g2.f) (S2.mutO (ds := .dk _) ho h0 (rk.put (Rep.mono g2.f r1))) q⟩
  | _ => exact ob.elim
def mDIn (neg : Bool) (mk me : ME) : ME := fun ρ Q => mk ρ fun y => me ρ fun x => ∃ gs yd k, x.n.DK = some gs ∧ y.n = .f yd ∧ keyD yd = some k ∧ Q (.f (.bl (if neg then !(atD gs k).isSome else (atD gs k).isSome)))
theorem at_isSome {F : Hp} {fs : List (Key × V)} {gs : List (Key × D)} {k : Key} (r : RepK K F fs gs) : (valV fs k).isSome = (atD gs k).isSome := by
  have t := r.at (k := k)
  cases e : atD gs k with
  | none => rw [e] at t; rw [t]; rfl
  | some d => rw [e] at t; obtain ⟨v, hv, _⟩ := t; rw [hv]; rfl
theorem e_din {te tk : TE} {me mk : ME} (h1 : PurE K te me) (h2 : PurE K tk mk) : PurE K (tDIn tk te) (mDIn false mk me) := by
  intro c F O ρ σ H Q Q' S hm hp
  refine h2.mid S hm fun F1 H1 y w g1 S1 r1 q => ?_
  refine h1.mid S1 q fun F2 H2 x v g2 S2 r2 q => ?_
  obtain ⟨gs, yd, k, e1, e2, e3, q⟩ := q
  rw [e2] at r1
  obtain rfl := keyD_v r1 e3
  obtain ⟨a, fs, rfl, hH, rk⟩ := xm_K S2 r2 e1
  refine ⟨a, _, rfl, DGet.rd hH, ?_⟩
  rw [at_isSome rk]
  exact (hp.trans (g1.trans g2)).here (x := .f _) S2 (.bl _) q
theorem e_dnin {te tk : TE} {me mk : ME} (h1 : PurE K te me) (h2 : PurE K tk mk) : PurE K (tDNotIn tk te) (mDIn true mk me) := by
  intro c F O ρ σ H Q Q' S hm hp
  refine h2.mid S hm fun F1 H1 y w g1 S1 r1 q => ?_
  refine h1.mid S1 q fun F2 H2 x v g2 S2 r2 q => ?_
  obtain ⟨gs, yd, k, e1, e2, e3, q⟩ := q
  rw [e2] at r1
  obtain rfl := keyD_v r1 e3
  obtain ⟨a, fs, rfl, hH, rk⟩ := xm_K S2 r2 e1
  refine ⟨a, _, rfl, DGet.rd hH, ?_⟩
  rw [at_isSome rk]
  exact (hp.trans (g1.trans g2)).here (x := .f _) S2 (.bl _) q
theorem w_dnew {ρ : Env} {Q : X → Prop} : mDNew ρ Q = Q (.o (.dk [])) := rfl
theorem w_dget {me mk : ME} {ρ : Env} {Q : X → Prop} : mDGet me mk ρ Q = me ρ fun x => mk ρ fun y => ∃ gs yd k d, x.n.DK = some gs ∧ y.n = .f yd ∧ keyD yd = some k ∧ atD gs k = some d ∧ Q (.f d) := rfl
theorem w_dget2 {me mk mz : ME} {ρ : Env} {Q : X → Prop} : mDGet2 me mk mz ρ Q = me ρ fun x => ∃ gs, x.n.DK = some gs ∧ mk ρ fun y => ∃ yd k, y.n = .f yd ∧ keyD yd = some k ∧ mz ρ fun z => ∃ zd, z.n = .f zd ∧ Q (.f ((atD gs k).getD zd)) := rfl
theorem w_din {neg : Bool} {me mk : ME} {ρ : Env} {Q : X → Prop} : mDIn neg mk me ρ Q = mk ρ fun y => me ρ fun x => ∃ gs yd k, x.n.DK = some gs ∧ y.n = .f yd ∧ keyD yd = some k ∧ Q (.f (.bl (if neg then !(atD gs k).isSome else (atD gs k).isSome))) := rfl
theorem w_dset {i : Nat} {me mk : ME} {D : Pd} {ρ : Env} : mDSet i mk me D ρ = me ρ fun x => ∃ d gs, x.n = .f d ∧ getS ρ i = .own (.dk gs) ∧ mk ρ fun y => ∃ yd k, y.n = .f yd ∧ keyD yd = some k ∧ gs.length < sizeLine ∧ D.nx (ρ.set i (.own (.dk (storeD gs k d)))) := rfl
theorem key_i {i : Int} : keyD (.int i) = some (.inl i) := rfl
theorem key_s {i : Str} : keyD (.str i) = some (.inr i) := rfl
theorem dk_q {gs : List (Key × D)} : ((X.q (.dk gs)).n).DK = some gs := rfl
theorem dk_b {gs : List (Key × D)} : ((X.b (.dk gs)).n).DK = some gs := rfl
theorem dkl_q {gs : List (Key × D)} : ((X.q (.dkl gs)).n).DK = some gs := rfl
theorem dkl_b {gs : List (Key × D)} : ((X.b (.dkl gs)).n).DK = some gs := rfl
theorem dkm_q {gs : List (Key × D)} : ((X.q (.dkm gs)).n).DK = some gs := rfl
theorem dkm_b {gs : List (Key × D)} : ((X.b (.dkm gs)).n).DK = some gs := rfl
theorem dk_f {gs : List (Key × D)} : ((X.f (.dk gs)).n).DK = some gs := rfl
theorem n_d {d : OD} : (X.o d).n = .f d.fr := rfl
theorem inj_f {d e : D} : (X.f d = X.f e) = (d = e) := propext ⟨fun h => by cases h; rfl, fun h => by rw [h]⟩
theorem inj_dk {a b : List (Key × D)} : (OD.dk a = OD.dk b) = (a = b) := propext ⟨fun h => by cases h; rfl, fun h => by rw [h]⟩
end
end Pl
/-! Pl10: sorted of tuples of ints. -/
namespace SrtO
open PySem PyProof.Rows Srt
section
variable {prog : Program} {w : World} {A : Around} {E : Value → Shared → Prop} {s : Shared}
def IsTI (h : Heap) (v : Value) (ns : List Int) : Prop := ∃ a o its n, v = .ref a ∧ h.get? a = some o ∧ o.cls = .type "tuple" ∧ o.data = .seq its n ∧ IntsAre its.toList ns
theorem IsTI.keeps {h h' : Heap} {v : Value} {ns : List Int} (p : IsTI h v ns) (k : ∀ b o, h.get? b = some o → o.cls = .type "tuple" → h'.get? b = some o) : IsTI h' v ns := by
  obtain ⟨a, o, t, n, e, ho, hc, hd, hi⟩ := p
  exact ⟨a, o, t, n, e, k _ _ ho hc, hc, hd, hi⟩
theorem lex_kat {Q : Bool → Shared → Prop} {b fin : Bool} : ∀ (xs ys : List Value) (ns ms : List Int) (i : Nat), IntsAre xs ns → IntsAre ys ms → (fin = decide (ns.length < ms.length) ∨ ns.length = ms.length ∧ fin = false) → Q (HT.lexLt ns ms) s → PySem.W.KatLex prog w A b fin Q (xs.zip ys) i s
  | _, _, _, _, i, .nil, .nil, hf, h => by
    refine PySem.W.kat_nil ?_
    rw [HT.lexLt_nil_nil] at h
    rcases hf with hf | hf
    · rw [hf]; exact h
    · rw [hf.2]; exact h
  | _, _, _, _, i, .nil, .cons m u hy, hf, h => by
    rw [List.zip_nil_left]
    refine PySem.W.kat_nil ?_
    rw [HT.lexLt_nil_cons] at h
    rcases hf with hf | hf
    · rw [hf]; exact h
    · exact absurd hf.1 (by simp)
  | _, _, _, _, i, .cons m u hx, .nil, hf, h => by
    rw [List.zip_nil_right]
    refine PySem.W.kat_nil ?_
    rw [HT.lexLt_cons_nil] at h
    rcases hf with hf | hf
    · rw [hf]; exact h
    · exact absurd hf.1 (by simp)
  | _, _, _, _, i, .cons x t hx, .cons y u hy, hf, h => by
    rw [List.zip_cons_cons]
    rw [HT.lexLt_cons] at h
    refine PySem.W.kat_cons (SeqAt.EqAt.int_int x t y u prog w _ _ ?_)
    refine PySem.W.kat_go (fun e1 => ?_) (fun e1 => ?_)
    · have ex : x = y := by simpa using e1
      rw [if_pos ex] at h
      refine PySem.W.kat_yes (lex_kat _ _ _ _ (i + 1) hx hy ?_ h)
      simp only [List.length_cons] at hf
      rcases hf with hf | hf
      · exact .inl (by rw [hf]; congr 1; simp)
      · exact .inr ⟨by omega, hf.2⟩
    · have ex : ¬ x = y := by simpa using e1
      rw [if_neg ex] at h
      refine PySem.W.kat_no ?_
      cases (b && i == 0) with
      | true => exact oneLt_int h
      | false => exact PySem.W.kat_one _ _ (PyProof.Rows.lt_int h)
theorem tups_cmp {vs : List Value} {k : Value → List Int} (hp : ∀ v ∈ vs, IsTI s.heap v (k v)) : Cmp prog w A s (tuples' true) (fun p => p.1 ∈ vs) (lt2 fun v u => HT.lexLt (k v) (k u)) := by
  intro p q hm hm'
  obtain ⟨a, o, its, n, e, ho, hc, hd, hi⟩ := hp _ hm
  obtain ⟨a', o', its', n', e', ho', hc', hd', hi'⟩ := hp _ hm'
  show wpAny (model prog w) A (keyLt' (tuples' true) p.1 q.1) (fun r s' => s' = s ∧ r = HT.lexLt (k p.1) (k q.1)) (fun _ _ => False) s
  generalize k p.1 = x at hi ⊢
  generalize k q.1 = y at hi' ⊢
  rw [e, e']
  refine PySem.W.kat_lt ho hd ho' hd' (lex_kat _ _ x y 0 hi hi' (.inl ?_) ⟨rfl, rfl⟩)
  rw [← hi.length, ← hi'.length]
  simp
theorem firstsI_of {h : Heap} {k : Value → List Int} : ∀ {vs : List Value}, (∀ v ∈ vs, IsTI h v (k v) ∧ 0 < (k v).length) → ∃ fs : List Value, PySem.W.KatTups h vs fs ∧ fs.length = vs.length ∧ ∀ f ∈ fs, ∃ x t, f = Value.int x t
  | [], _ => ⟨[], PySem.W.KatTups.nil, rfl, fun _ hm => by simp at hm⟩
  | v :: vs, hp => by
    obtain ⟨fs, h1, h2, h3⟩ := firstsI_of (vs := vs) fun v' hm => hp v' (List.mem_cons_of_mem _ hm)
    obtain ⟨⟨a, o, its, n, e, ho, hc, hd, hi⟩, hz⟩ := hp v (List.mem_cons_self ..)
    generalize k v = ns at hi hz
    subst e
    generalize hl : its.toList = l at hi
    cases hi with
    | nil => exact absurd hz (by simp)
    | cons x t r =>
      refine ⟨.int x t :: fs, PySem.W.KatTups.cons ho hc hd ?_ h1, by rw [List.length_cons, List.length_cons, h2], fun f hm => ?_⟩
      · rw [← Array.getElem?_toList, hl]; rfl
      · rcases List.mem_cons.mp hm with rfl | hm
        · exact ⟨x, t, rfl⟩
        · exact h3 f hm
theorem tups_sortableO {a : Addr} {vs : List Value} {k : Value → List Int} (h0 : 0 < vs.length) (hp : ∀ v ∈ vs, IsTI s.heap v (k v) ∧ 0 < (k v).length) (ha : ∀ o, s.heap.get? a = some o → o.cls ≠ .type "tuple") : SortableO prog w A s a vs fun v u => HT.lexLt (k v) (k u) := by
  intro h' keep
  have hp' : ∀ v ∈ vs, IsTI h' v (k v) ∧ 0 < (k v).length := fun v hm => ⟨(hp v hm).1.keeps fun b o e c => keep b o (fun z => by subst z; exact ha o e c) e, (hp v hm).2⟩
  obtain ⟨fs, h1, h2, h3⟩ := firstsI_of hp'
  refine ⟨tuples' true, fun Q E hq => ?_, tups_cmp fun v hm => (hp' v hm).1⟩
  refine PySem.W.kat_kind (T := .type "int") h1 (by omega) (fun f hm => ?_) (by rfl) ?_
  · obtain ⟨x, t, rfl⟩ := h3 f hm
    exact PySem.W.Looks.now
  · have e : (Value.type "int" != Value.type "tuple") = true := by first | decide +kernel | rfl | decide
    rw [e]
    exact hq
theorem sorted_tupsO {l : Addr} {vs : List Value} {k : Value → List Int} {Q : Value → Shared → Prop} (hl : s.heap.IsList l vs.toArray) (hz : vs.length ≤ sizeLine) (hp : ∀ v ∈ vs, IsTI s.heap v (k v) ∧ 0 < (k v).length)
    (h : ∀ (h' : Heap) (d : Addr) (out : List Value), Srtd (fun v u => HT.lexLt (k v) (k u)) out → Stb (fun v u => HT.lexLt (k v) (k u)) out vs → (∀ b o, s.heap.get? b = some o → h'.get? b = some o) → s.heap.objs.size ≤ d → (∃ n, h'.get? d = some (seqObj "list" out.toArray n)) → Q (.ref d) { s with heap := h' }) :
    wpAny (model prog w) A (call (.builtin "sorted") [.ref l]) Q E s := by
  refine sorted_ord (NtL.swo_lexL k) hl hz (fun h2 h₁ a ha kk => ?_) fun out hs hb => ?_
  · refine tups_sortableO (s := { s with heap := h₁ }) (by omega) (fun v hm => ⟨(hp v hm).1.keeps fun b o e _ => (kk b o e).2, (hp v hm).2⟩) fun o e => ?_
    have e' : some o = some (seqObj "list" vs.toArray 0) := e.symm.trans ha
    cases e'
    intro c
    exact absurd (Value.type.inj c) (by decide)
  · exact h _ _ out hs hb (fun b o e => sortedAll_old e) (Nat.le_succ _) (sortedAll_at s.heap vs out.toArray)
end
end SrtO
namespace Pl
open PySem L2 Wp PyProof.Rows
theorem perm_lift {α β : Type} (f : α → β) : ∀ {l : List β} {m : List α}, l.Perm (m.map f) → ∃ u : List α, u.Perm m ∧ u.map f = l
  | [], m, h => by
    have e := h.length_eq
    rw [List.length_map] at e
    have : m = [] := List.eq_nil_of_length_eq_zero e.symm
    subst this
    exact ⟨[], .refl _, rfl⟩
  | b :: l, m, h => by
    have hb : b ∈ m.map f := h.mem_iff.mp List.mem_cons_self
    obtain ⟨a, ha, rfl⟩ := List.mem_map.mp hb
    obtain ⟨s, t, rfl⟩ := List.append_of_mem ha
    have h2 : (f a :: l).Perm (f a :: (s ++ t).map f) := by
      refine h.trans ?_
      rw [List.map_append, List.map_cons, List.map_append]
      exact List.perm_middle
    obtain ⟨u, hu, e⟩ := perm_lift f h2.cons_inv
    exact ⟨a :: u, (hu.cons a).trans List.perm_middle.symm, by rw [List.map_cons, e]⟩
/-- sorted(xs), xs a list of tuples of ints -/
def rSortTI (K : PySem.W.Frag) : List V → Hp → VK → Prop := fun vs H Q => ∃ (a : Addr) (ts : List (Addr × List Int)), vs = [.ref a] ∧ SqL K H a (ts.map fun p => V.ref p.1) ∧ (∀ p ∈ ts, SqT K H p.1 (p.2.map V.int) ∧ 0 < p.2.length) ∧
  ∀ (us : List (Addr × List Int)) (p : Addr), us.Perm ts → us.Pairwise (fun x y => HT.lexLt y.2 x.2 = false) → H p = none → Q (.ref p) (upd H p (.lst (us.map fun p => V.ref p.1)))
theorem cr_sortTI {X : L2.Cx} : CallR X (.builtin "sorted") (rSortTI X.K) := by
  intro pins s σ H vs us Q I r h
  obtain ⟨a, ts, rfl, hs, ht, q⟩ := h
  obtain ⟨its, rv, hl, hz⟩ := I.list hs
  rw [Vals.ref1 r]
  obtain ⟨e1, e2⟩ := refs_back rv fun x m => by
    obtain ⟨p, _, rfl⟩ := List.mem_map.mp m
    exact ⟨_, rfl⟩
  have e3 : its = ts.map fun p => Value.ref p.1 := by
    have z : ∀ {xs : List V} {us : List Value} {ls : List Addr}, Vals xs us → xs = ls.map V.ref → us = ls.map Value.ref := by
      intro xs us ls v
      induction v generalizing ls with
      | nil => intro e; cases ls with
        | nil => rfl
        | cons => cases e
      | cons r t ih => intro e; cases ls with
        | nil => cases e
        | cons a ls =>
          rw [List.map_cons] at e
          injection e with h1 h2
          subst h1
          cases r
          rw [List.map_cons, ih h2]
    have := z (ls := ts.map Prod.fst) rv (by rw [List.map_map]; rfl)
    rw [this, List.map_map]
    rfl
  have hk : ∀ p ∈ ts, TS.intsOf s.heap (.ref p.1) = p.2 := fun p hp => (tupI_raw I (ht p hp).1).ints
  refine SrtO.sorted_tupsO (k := TS.intsOf s.heap) hl.isList (by rw [← rv.length]; exact hz) (fun v hv => ?_) fun h' d out h1 h2 kp hd hn => ?_
  · rw [e3] at hv
    obtain ⟨p, hp, rfl⟩ := List.mem_map.mp hv
    rw [hk p hp]
    obtain ⟨b, xs, e, ⟨o, ho, hc, n, hd⟩, hi⟩ := tupI_raw I (ht p hp).1
    cases e
    exact ⟨⟨_, o, xs, n, rfl, ho, hc, hd, hi⟩, (ht p hp).2⟩
  · obtain ⟨us', hu, e4⟩ := perm_lift (f := fun p : Addr × List Int => Value.ref p.1) (l := out) (m := ts) (by rw [← e3]; exact h2.perm)
    have h3 : ∀ u ∈ out, ∃ a, u = Value.ref a := fun u hu => e2 u (h2.perm.mem_iff.mp hu)
    obtain ⟨n, hn⟩ := hn
    have e5 : out.map backV = us'.map fun p => V.ref p.1 := by rw [← e4, List.map_map]; rfl
    refine ⟨.ref d, upd H d (.lst (us'.map fun p => V.ref p.1)), I.laid (t' := s.toks) kp hd ⟨?_, out, n, by rw [← e5]; exact vals_back h3, hn⟩, rfl, q us' d hu ?_ (I.hok.fresh hd)⟩
    · rw [List.length_map, hu.length_eq]
      rw [List.length_map] at hz
      exact hz
    · unfold SrtO.Srtd at h1
      rw [← e4, List.pairwise_map] at h1
      refine List.Pairwise.imp_of_mem (fun {x y} hx hy hxy => ?_) h1
      dsimp only at hxy
      rw [hk x (hu.mem_iff.mp hx), hk y (hu.mem_iff.mp hy)] at hxy
      exact hxy
theorem c_sortTK {X : L2.Cx} {K : PySem.W.Frag} (h : X.K = K) : CallR X (.builtin "sorted") (rSortTI K) := h ▸ cr_sortTI
abbrev tI (ns : List Int) : D := .tup (ns.map .int)
def pSortT (xs : List X) (Q : X → Prop) : Prop := ∃ x nss, xs = [x] ∧ x.L = some (nss.map tI) ∧ (∀ ns ∈ nss, 0 < ns.length) ∧ ∀ mss : List (List Int), mss.Perm nss → mss.Pairwise (fun x y => HT.lexLt y x = false) → Q (.o (.lst (mss.map tI)))
theorem reps_ti {K : PySem.W.Frag} {F : Hp} : ∀ {vs : List V} {nss : List (List Int)}, Reps K F vs (nss.map tI) → ∃ ts : List (Addr × List Int), vs = ts.map (fun p => V.ref p.1) ∧ ts.map Prod.snd = nss ∧ ∀ p ∈ ts, SqT K F p.1 (p.2.map V.int)
  | _, [], .nil => ⟨[], rfl, rfl, fun p m => by cases m⟩
  | _, n :: ns, .cons h r => by
    obtain ⟨ts, rfl, e2, m⟩ := reps_ti r
    cases h with
    | tup h1 h2 =>
      rw [h2.ints] at h1
      exact ⟨(_, n) :: ts, rfl, by rw [List.map_cons, e2], fun p hp => by
        rcases List.mem_cons.mp hp with rfl | hp
        · exact h1
        · exact m p hp⟩
theorem ti_reps {K : PySem.W.Frag} {F : Hp} : ∀ {ts : List (Addr × List Int)}, (∀ p ∈ ts, SqT K F p.1 (p.2.map V.int)) → Reps K F (ts.map fun p => V.ref p.1) ((ts.map Prod.snd).map tI)
  | [], _ => .nil
  | p :: ts, h => .cons (.tup (h p List.mem_cons_self) (Reps.ofInts _)) (ti_reps fun q hq => h q (List.mem_cons_of_mem _ hq))
theorem c_sortT {K : PySem.W.Frag} : PurRL K (rSortTI K) pSortT := by
  intro c F O ρ σ H Q Q' xs vs S r hm hp
  obtain ⟨x, nss, rfl, h1, h2, q⟩ := hm
  obtain ⟨v, rfl, r1⟩ := xms1 r
  obtain ⟨a, vs, rfl, hs, rs⟩ := xm_L S r1 h1
  obtain ⟨ts, rfl, rfl, ht⟩ := reps_ti rs
  refine ⟨a, ts, rfl, SqL.of hs, fun p hp => ⟨sqt_ex S.fh (ht p hp), h2 _ (List.mem_map_of_mem hp)⟩, fun us p hu hs np => ?_⟩
  exact hp.newL S np (ti_reps fun p hp => ht p (hu.mem_iff.mp hp)) (q _ (hu.map _) (List.pairwise_map.mpr hs))
theorem w_sortT {x : X} {Q : X → Prop} : pSortT [x] Q = ∃ nss, x.L = some (nss.map tI) ∧ (∀ ns ∈ nss, 0 < ns.length) ∧ ∀ mss : List (List Int), mss.Perm nss → mss.Pairwise (fun x y => HT.lexLt y x = false) → Q (.o (.lst (mss.map tI))) := propext ⟨fun ⟨_, ns, e, h⟩ => by cases e; exact ⟨ns, h⟩, fun ⟨ns, h⟩ => ⟨_, ns, rfl, h⟩⟩
end Pl
/-! Hqp: heaps as lists. -/
namespace Hq
section
variable {α : Type} {lt : α → α → Bool}
def sw (l : List α) (i j : Nat) (x y : α) : List α := (l.set i y).set j x
theorem sw_get {l : List α} {i j : Nat} {x y : α} (hi : i < l.length) (hj : j < l.length) (k : Nat) : (sw l i j x y)[k]? = if k = j then some x else if k = i then some y else l[k]? := by
  unfold sw
  rw [List.getElem?_set, List.getElem?_set, List.length_set]
  by_cases h1 : j = k
  · rw [if_pos h1, if_pos hj, if_pos h1.symm]
  · rw [if_neg h1, if_neg (c := k = j) (fun q => h1 q.symm)]
    by_cases h2 : i = k
    · rw [if_pos h2, if_pos hi, if_pos h2.symm]
    · rw [if_neg h2, if_neg (c := k = i) (fun q => h2 q.symm)]
theorem sw_perm {l : List α} {i j : Nat} {x y : α} (hx : l[i]? = some x) (hy : l[j]? = some y) : (sw l i j x y).Perm l := by
  obtain ⟨hi, rfl⟩ := List.getElem?_eq_some_iff.mp hx
  obtain ⟨hj, rfl⟩ := List.getElem?_eq_some_iff.mp hy
  exact List.set_set_perm hi hj
theorem sw_len {l : List α} {i j : Nat} {x y : α} : (sw l i j x y).length = l.length := by unfold sw; rw [List.length_set, List.length_set]
def IsHp (lt : α → α → Bool) (l : List α) : Prop := ∀ i x y, 0 < i → l[i]? = some x → l[(i - 1) / 2]? = some y → lt x y = false
structure Up (lt : α → α → Bool) (l : List α) (pos : Nat) : Prop where
  e : ∀ i x y, 0 < i → i ≠ pos → l[i]? = some x → l[(i - 1) / 2]? = some y → lt x y = false
  g : ∀ c x y, 0 < pos → 0 < c → (c - 1) / 2 = pos → l[c]? = some x → l[(pos - 1) / 2]? = some y → lt x y = false
structure Dn (lt : α → α → Bool) (l : List α) (pos : Nat) : Prop where
  e : ∀ i x y, 0 < i → i ≠ pos → (i - 1) / 2 ≠ pos → l[i]? = some x → l[(i - 1) / 2]? = some y → lt x y = false
  g : ∀ c x y, 0 < pos → 0 < c → (c - 1) / 2 = pos → l[c]? = some x → l[(pos - 1) / 2]? = some y → lt x y = false
theorem Up.zero {l : List α} (U : Up lt l 0) : IsHp lt l := fun i x y h hx hy => U.e i x y h (by omega) hx hy
theorem Up.stop {l : List α} {pos : Nat} {x p : α} (U : Up lt l pos) (hx : l[pos]? = some x) (hp : l[(pos - 1) / 2]? = some p) (h : lt x p = false) : IsHp lt l := fun i a b h0 ha hb => by
  by_cases e : i = pos
  · subst e; rw [hx] at ha; rw [hp] at hb; cases ha; cases hb; exact h
  · exact U.e i a b h0 e ha hb
theorem Up.step (O : SrtO.Swo lt) {l : List α} {pos : Nat} {x p : α} (U : Up lt l pos) (h0 : 0 < pos) (hx : l[pos]? = some x) (hp : l[(pos - 1) / 2]? = some p) (h : lt x p = true) : Up lt (sw l ((pos - 1) / 2) pos p x) ((pos - 1) / 2) := by
  have li := (List.getElem?_eq_some_iff.mp hp).1
  have lj := (List.getElem?_eq_some_iff.mp hx).1
  have as := O.asym x p h
  have G := sw_get (x := p) (y := x) li lj
  refine ⟨fun i a b i0 ne ha hb => ?_, fun c a b p0 c0 ec ha hb => ?_⟩
  · rw [G] at ha hb
    by_cases e1 : i = pos
    · rw [if_pos e1] at ha
      cases ha
      rw [e1, if_neg (by omega), if_pos rfl] at hb
      cases hb
      exact as
    · rw [if_neg e1, if_neg ne] at ha
      by_cases e2 : (i - 1) / 2 = pos
      · rw [if_pos e2] at hb
        cases hb
        exact U.g i a p h0 i0 e2 ha hp
      · rw [if_neg e2] at hb
        by_cases e3 : (i - 1) / 2 = (pos - 1) / 2
        · rw [if_pos e3] at hb
          cases hb
          have := U.e i a p i0 e1 ha (by rw [e3]; exact hp)
          cases q : lt a x with
          | false => rfl
          | true => rw [O.ltle q as] at this; cases this
        · rw [if_neg e3] at hb
          exact U.e i a b i0 e1 ha hb
  · rw [G] at ha hb
    rw [if_neg (by omega), if_neg (by omega)] at hb
    have pe := U.e ((pos - 1) / 2) p b p0 (by omega) hp hb
    by_cases e1 : c = pos
    · rw [if_pos e1] at ha
      cases ha
      exact pe
    · rw [if_neg e1, if_neg (by omega)] at ha
      have := U.e c a p c0 e1 ha (by rw [ec]; exact hp)
      exact O.tr b p a pe this
theorem Dn.leaf {l : List α} {pos : Nat} (D : Dn lt l pos) (h : l.length / 2 ≤ pos) : Up lt l pos := by
  refine ⟨fun i x y i0 ne hx hy => ?_, D.g⟩
  have := (List.getElem?_eq_some_iff.mp hx).1
  exact D.e i x y i0 ne (by omega) hx hy
/-- c is the child that is not greater -/
theorem Dn.step (O : SrtO.Swo lt) {l : List α} {pos c : Nat} {x y : α} (D : Dn lt l pos) (c0 : 0 < c) (ec : (c - 1) / 2 = pos) (hy : l[c]? = some y) (hx : l[pos]? = some x)
    (hs : ∀ d z, 0 < d → d ≠ c → (d - 1) / 2 = pos → l[d]? = some z → lt z y = false) : Dn lt (sw l c pos y x) c := by
  have li := (List.getElem?_eq_some_iff.mp hy).1
  have lj := (List.getElem?_eq_some_iff.mp hx).1
  have G := sw_get (x := y) (y := x) li lj
  refine ⟨fun i a b i0 n1 n2 ha hb => ?_, fun d a b _ d0 ed ha hb => ?_⟩
  · rw [G] at ha hb
    by_cases e1 : i = pos
    · rw [if_pos e1] at ha
      cases ha
      rw [if_neg (by omega), if_neg (by omega)] at hb
      exact D.g c _ b (by omega) c0 ec hy (by rw [← e1]; exact hb)
    · rw [if_neg e1, if_neg n1] at ha
      by_cases e2 : (i - 1) / 2 = pos
      · rw [if_pos e2] at hb
        cases hb
        exact hs i a i0 n1 e2 ha
      · rw [if_neg e2, if_neg n2] at hb
        exact D.e i a b i0 e1 e2 ha hb
  · rw [G] at ha hb
    rw [if_neg (by omega), if_neg (by omega)] at ha
    rw [ec, if_pos rfl] at hb
    cases hb
    exact D.e d a _ d0 (by omega) (by omega) ha (by rw [ed]; exact hy)
theorem IsHp.least (O : SrtO.Swo lt) {l : List α} {m : α} (H : IsHp lt l) (h0 : l[0]? = some m) : ∀ (i : Nat) (x : α), l[i]? = some x → lt x m = false := by
  intro i
  induction i using Nat.strongRecOn with
  | _ i ih =>
    intro x hx
    by_cases e : i = 0
    · subst e; rw [h0] at hx; cases hx; exact O.refl m
    · have li := (List.getElem?_eq_some_iff.mp hx).1
      obtain ⟨y, hy⟩ : ∃ y, l[(i - 1) / 2]? = some y := ⟨_, List.getElem?_eq_getElem (by omega)⟩
      exact O.tr m y x (ih _ (by omega) y hy) (H i x y (by omega) hx hy)
/-- a new last one -/
theorem IsHp.push {l : List α} {y : α} (H : IsHp lt l) : Up lt (l ++ [y]) l.length := by
  refine ⟨fun i a b i0 ne ha hb => ?_, fun c a b p0 c0 ec ha hb => ?_⟩
  · have il := (List.getElem?_eq_some_iff.mp ha).1
    rw [List.length_append, List.length_singleton] at il
    rw [List.getElem?_append_left (by omega)] at ha hb
    exact H i a b i0 ha hb
  · have il := (List.getElem?_eq_some_iff.mp ha).1
    rw [List.length_append, List.length_singleton] at il
    omega
/-- the last one in the first's place -/
theorem IsHp.pop {l : List α} {x z : α} (H : IsHp lt (l ++ [z])) : Dn lt (l.set 0 z) 0 := by
  refine ⟨fun i a b i0 ne n2 ha hb => ?_, fun c a b p0 => absurd p0 (Nat.lt_irrefl _)⟩
  have il := (List.getElem?_eq_some_iff.mp ha).1
  rw [List.length_set] at il
  rw [List.getElem?_set_ne (by omega)] at ha hb
  exact H i a b i0 (by rw [List.getElem?_append_left (by omega)]; exact ha) (by rw [List.getElem?_append_left (by omega)]; exact hb)
end
end Hq
/-! Hq0: heappush, heappop. -/
namespace HqF
open PySem PyProof.Rows
theorem kind_push : builtinKind "_heapq.heappush" = none := by decide +kernel
theorem plain_push : plainId "_heapq.heappush" = true := by decide +kernel
theorem entry_push : entryFor table "_heapq.heappush" = some Builtin.«_heapq.heappush» := entryFor_of_fast (by kernel_rfl)
theorem args_push (a b : Value) : argsOk "_heapq.heappush" ⟨[a, b], []⟩ := by unfold argsOk; kernel_rfl
theorem kind_pop : builtinKind "_heapq.heappop" = none := by decide +kernel
theorem plain_pop : plainId "_heapq.heappop" = true := by decide +kernel
theorem entry_pop : entryFor table "_heapq.heappop" = some Builtin.«_heapq.heappop» := entryFor_of_fast (by kernel_rfl)
theorem args_pop (a : Value) : argsOk "_heapq.heappop" ⟨[a], []⟩ := by unfold argsOk; kernel_rfl
theorem plain_sift : plainId "_heapq.heapify.sift" = true := by decide +kernel
theorem entry_sift : entryFor table "_heapq.heapify.sift" = some Builtin.«_heapq.heapify.sift» := entryFor_of_fast (by kernel_rfl)
end HqF
namespace Hq
open PySem PyProof.Rows
def hat (xs : Array Value) (i : Nat) : Sem Value := match xs[i]? with | some v => pure v | none => unsupported "internal:_heapq.index"
section
variable {prog : Program} {w : World} {A : Around} {R : Result → Shared → Prop} {s : Shared}
abbrev lobj (its : List Value) (n : Nat) : Obj := { cls := .type "list", data := .seq its.toArray n }
theorem hat_ok {M : Model} {E : Value → Shared → Prop} {its : List Value} {i : Nat} {v : Value} {Q : Value → Shared → Prop} (h : its[i]? = some v) (q : Q v s) : wpAny M A (hat its.toArray i) Q E s := by
  have : hat its.toArray i = pure v := by
    unfold hat
    rw [List.getElem?_toArray, h]
  rw [this]
  exact wpAny_pure q
abbrev Kp (a : Addr) (h h' : Heap) : Prop := ∀ b o, b ≠ a → h.get? b = some o → h'.get? b = some o
abbrev Cm (A : Around) (s : Shared) (a : Addr) (its : List Value) (lt : Value → Value → Bool) : Prop := ∀ h' : Heap, Kp a s.heap h' → ∀ x ∈ its, ∀ y ∈ its, Ob.RcOp .Lt A.in1 { s with heap := h' } x y (lt x y)
theorem upd_sw {a : Addr} {its : List Value} {n i j : Nat} {x y : Value} (ho : s.heap.get? a = some (lobj its n)) : ∃ n', (s.heap.update a (Obj.mapSeq fun xs => (xs.setIfInBounds i y).setIfInBounds j x)).get? a = some (lobj (sw its i j x y) n') := by
  have q := PySem.IsL.update ho fun xs => (xs.setIfInBounds i y).setIfInBounds j x
  rw [List.setIfInBounds_toArray, List.setIfInBounds_toArray] at q
  exact ⟨_, q⟩
theorem up_wp {a : Addr} {res : Value} {lt : Value → Value → Bool} (O : SrtO.Swo lt) : ∀ (pos : Nat) (its : List Value) (n : Nat) (s : Shared), s.heap.get? a = some (lobj its n) → its.length ≤ sizeLine → pos < its.length → Up lt its pos → Cm A s a its lt →
    (∀ (h' : Heap) (its' : List Value) (n' : Nat), its'.Perm its → IsHp lt its' → h'.get? a = some (lobj its' n') → Kp a s.heap h' → R (.ok (.ret res)) { s with heap := h' }) →
    codeAny (model prog w) A (.builtin "_heapq.heapify.sift" ⟨[.ref a, .bool false, .bool false, rawInt pos, rawInt 0, res, rawInt (-1)], []⟩) R s := by
  intro pos
  induction pos using Nat.strongRecOn with
  | _ pos ih =>
  intro its n s ho hz hp U hc hR
  refine codeAny_builtin HqF.entry_sift ?_
  rw [Around.under_plainId HqF.plain_sift _]
  show wpAny _ A.in1 ((seqItems? (.ref a) >>= _) >>= _) _ _ s
  refine wpAny_bind (wpAny_bind (wpAny_seqItems ho rfl (wpAny_pure ?_)))
  dsimp only
  rw [if_neg (by decide), show ((pos : Int)).toNat = pos from rfl, show Int.toNat 0 = 0 from rfl]
  by_cases h0 : pos = 0
  · rw [if_neg (by omega), if_pos (by decide)]
    subst h0
    exact wpAny_pure (hR s.heap its n (.refl _) U.zero ho fun _ _ _ q => q)
  · rw [if_pos (by omega)]
    obtain ⟨x, ex⟩ : ∃ x, its[pos]? = some x := ⟨_, List.getElem?_eq_getElem hp⟩
    obtain ⟨p, ep⟩ : ∃ p, its[(pos - 1) / 2]? = some p := ⟨_, List.getElem?_eq_getElem (by omega)⟩
    have mx := List.mem_of_getElem? ex
    have mp := List.mem_of_getElem? ep
    show wpAny _ _ (hat its.toArray pos >>= _) _ _ s
    refine wpAny_bind (hat_ok ex ?_)
    show wpAny _ _ (hat its.toArray ((pos - 1) / 2) >>= _) _ _ s
    refine wpAny_bind (hat_ok ep ?_)
    rw [if_neg (by decide)]
    show wpAny _ _ ((holding [x, p] (richCompare .Lt x p >>= _) >>= _) >>= _) _ _ s
    refine wpAny_bind (wpAny_bind (wpAny_holding (wpAny_bind (hc s.heap (fun _ _ _ q => q) x mx p mp prog w _ _ ?_))))
    show wpAny _ _ (truthy (.bool (lt x p))) _ _ s
    refine wpAny_truthy_bool ?_
    show wpAny _ _ ((seqItems? (.ref a) >>= _) >>= _) _ _ s
    refine wpAny_bind (wpAny_bind (wpAny_seqItems ho rfl (wpAny_pure ?_)))
    dsimp only
    rw [if_neg (by simp)]
    refine wpAny_pure ?_
    cases hl : lt x p with
    | false =>
      rw [if_neg (by decide), if_pos (by decide)]
      exact wpAny_pure (hR s.heap its n (.refl _) (U.stop ex ep hl) ho fun _ _ _ q => q)
    | true =>
      rw [if_pos rfl]
      refine wpAny_bind ?_
      show wpAny _ _ ((seqItems? (.ref a) >>= _) >>= _) _ _ s
      refine wpAny_bind (wpAny_bind (wpAny_seqItems ho rfl (wpAny_pure ?_)))
      show wpAny _ _ (hat its.toArray ((pos - 1) / 2) >>= _) _ _ s
      refine wpAny_bind (hat_ok ep ?_)
      show wpAny _ _ (hat its.toArray pos >>= _) _ _ s
      refine wpAny_bind (hat_ok ex ?_)
      show wpAny _ _ (updateSeq a fun xs => (xs.setIfInBounds ((pos - 1) / 2) x).setIfInBounds pos p) _ _ s
      refine wpAny_updateSeq ho rfl ?_ (by rw [List.size_toArray]; exact hz) (by simp; omega)
      show wpAny _ _ (pure (PySem.Fin.again _)) _ _ _
      refine wpAny_pure ⟨plainId_quiet HqF.plain_sift _, ?_⟩
      obtain ⟨n', hn⟩ := upd_sw (i := (pos - 1) / 2) (j := pos) (x := p) (y := x) ho
      have kp : Kp a s.heap (s.heap.update a (Obj.mapSeq fun xs => (xs.setIfInBounds ((pos - 1) / 2) x).setIfInBounds pos p)) := fun b o hb q => (Heap.get?_update_other s.heap _ (Ne.symm hb)).trans q
      have pm : (sw its ((pos - 1) / 2) pos p x).Perm its := sw_perm ep ex
      refine ih _ (by omega) _ n' _ hn (by rw [sw_len]; exact hz) (by rw [sw_len]; omega) (U.step O (by omega) ex ep hl) (fun h' k y my z mz => hc h' (fun b o hb q => k b o hb (kp b o hb q)) y (pm.mem_iff.mp my) z (pm.mem_iff.mp mz)) ?_
      exact fun h' its' m p1 p2 p3 p4 => hR h' its' m (p1.trans pm) p2 p3 fun b o hb q => p4 b o hb (kp b o hb q)
theorem dn_wp {a : Addr} {res : Value} {lt : Value → Value → Bool} (O : SrtO.Swo lt) : ∀ (m pos : Nat) (its : List Value) (n : Nat) (s : Shared), its.length - pos = m → s.heap.get? a = some (lobj its n) → its.length ≤ sizeLine → pos < its.length → Dn lt its pos → Cm A s a its lt →
    (∀ (h' : Heap) (its' : List Value) (n' : Nat), its'.Perm its → IsHp lt its' → h'.get? a = some (lobj its' n') → Kp a s.heap h' → R (.ok (.ret res)) { s with heap := h' }) →
    codeAny (model prog w) A (.builtin "_heapq.heapify.sift" ⟨[.ref a, .bool false, .bool true, rawInt pos, rawInt 0, res, rawInt (-1)], []⟩) R s := by
  intro m
  induction m using Nat.strongRecOn with
  | _ m ih =>
  intro pos its n s hm ho hz hp D hc hR
  refine codeAny_builtin HqF.entry_sift ?_
  rw [Around.under_plainId HqF.plain_sift _]
  show wpAny _ A.in1 ((seqItems? (.ref a) >>= _) >>= _) _ _ s
  refine wpAny_bind (wpAny_bind (wpAny_seqItems ho rfl (wpAny_pure ?_)))
  dsimp only
  rw [if_pos rfl, show ((pos : Int)).toNat = pos from rfl, show Int.toNat 0 = 0 from rfl, List.size_toArray]
  obtain ⟨x, ex⟩ : ∃ x, its[pos]? = some x := ⟨_, List.getElem?_eq_getElem hp⟩
  by_cases h0 : pos < its.length / 2
  · rw [if_pos h0]
    obtain ⟨l, el⟩ : ∃ l, its[2 * pos + 1]? = some l := ⟨_, List.getElem?_eq_getElem (by omega)⟩
    by_cases h1 : 2 * pos + 1 + 1 < its.length
    · rw [if_pos h1]
      obtain ⟨r, er⟩ : ∃ r, its[2 * pos + 1 + 1]? = some r := ⟨_, List.getElem?_eq_getElem h1⟩
      have ml := List.mem_of_getElem? el
      have mr := List.mem_of_getElem? er
      show wpAny _ _ (hat its.toArray (2 * pos + 1) >>= _) _ _ s
      refine wpAny_bind (hat_ok el ?_)
      show wpAny _ _ (hat its.toArray (2 * pos + 1 + 1) >>= _) _ _ s
      refine wpAny_bind (hat_ok er ?_)
      rw [if_neg (by decide)]
      show wpAny _ _ ((holding [l, r] (richCompare .Lt l r >>= _) >>= _) >>= _) _ _ s
      refine wpAny_bind (wpAny_bind (wpAny_holding (wpAny_bind (hc s.heap (fun _ _ _ q => q) l ml r mr prog w _ _ ?_))))
      show wpAny _ _ (truthy (.bool (lt l r))) _ _ s
      refine wpAny_truthy_bool ?_
      show wpAny _ _ ((seqItems? (.ref a) >>= _) >>= _) _ _ s
      refine wpAny_bind (wpAny_bind (wpAny_seqItems ho rfl (wpAny_pure ?_)))
      dsimp only
      rw [if_neg (by simp)]
      refine wpAny_pure ?_
      cases hl : lt l r with
      | false =>
        rw [if_pos (by decide)]
        refine wpAny_bind ?_
        have hs : ∀ d z, 0 < d → d ≠ 2 * pos + 1 + 1 → (d - 1) / 2 = pos → its[d]? = some z → lt z r = false := fun d z d0 n2 ed ez => by
          obtain rfl : d = 2 * pos + 1 := by omega
          rw [el] at ez
          cases ez
          exact hl
        show wpAny _ _ ((seqItems? (.ref a) >>= _) >>= _) _ _ s
        refine wpAny_bind (wpAny_bind (wpAny_seqItems ho rfl (wpAny_pure ?_)))
        show wpAny _ _ (hat its.toArray (2 * pos + 1 + 1) >>= _) _ _ s
        refine wpAny_bind (hat_ok er ?_)
        show wpAny _ _ (hat its.toArray pos >>= _) _ _ s
        refine wpAny_bind (hat_ok ex ?_)
        show wpAny _ _ (updateSeq a fun zs => (zs.setIfInBounds (2 * pos + 1 + 1) x).setIfInBounds pos r) _ _ s
        refine wpAny_updateSeq ho rfl ?_ (by rw [List.size_toArray]; exact hz) (by simp; omega)
        show wpAny _ _ (pure (PySem.Fin.again _)) _ _ _
        refine wpAny_pure ⟨plainId_quiet HqF.plain_sift _, ?_⟩
        obtain ⟨n', hn⟩ := upd_sw (i := 2 * pos + 1 + 1) (j := pos) (x := r) (y := x) ho
        have kp : Kp a s.heap (s.heap.update a (Obj.mapSeq fun xs => (xs.setIfInBounds (2 * pos + 1 + 1) x).setIfInBounds pos r)) := fun b o hb q => (Heap.get?_update_other s.heap _ (Ne.symm hb)).trans q
        have pm : (sw its (2 * pos + 1 + 1) pos r x).Perm its := sw_perm er ex
        refine ih (its.length - (2 * pos + 1 + 1)) (by omega) (2 * pos + 1 + 1) _ n' _ (by rw [sw_len]) hn (by rw [sw_len]; exact hz) (by rw [sw_len]; exact (List.getElem?_eq_some_iff.mp er).1) (D.step O (by omega) (by omega) er ex hs) (fun h' k y my z mz => hc h' (fun b o hb q => k b o hb (kp b o hb q)) y (pm.mem_iff.mp my) z (pm.mem_iff.mp mz)) ?_
        exact fun h' its' m p1 p2 p3 p4 => hR h' its' m (p1.trans pm) p2 p3 fun b o hb q => p4 b o hb (kp b o hb q)
      | true =>
        rw [if_neg (by decide)]
        refine wpAny_bind ?_
        have hs : ∀ d z, 0 < d → d ≠ 2 * pos + 1 → (d - 1) / 2 = pos → its[d]? = some z → lt z l = false := fun d z d0 n2 ed ez => by
          obtain rfl : d = 2 * pos + 1 + 1 := by omega
          rw [er] at ez
          cases ez
          exact O.asym _ _ hl
        show wpAny _ _ ((seqItems? (.ref a) >>= _) >>= _) _ _ s
        refine wpAny_bind (wpAny_bind (wpAny_seqItems ho rfl (wpAny_pure ?_)))
        show wpAny _ _ (hat its.toArray (2 * pos + 1) >>= _) _ _ s
        refine wpAny_bind (hat_ok el ?_)
        show wpAny _ _ (hat its.toArray pos >>= _) _ _ s
        refine wpAny_bind (hat_ok ex ?_)
        show wpAny _ _ (updateSeq a fun zs => (zs.setIfInBounds (2 * pos + 1) x).setIfInBounds pos l) _ _ s
        refine wpAny_updateSeq ho rfl ?_ (by rw [List.size_toArray]; exact hz) (by simp; omega)
        show wpAny _ _ (pure (PySem.Fin.again _)) _ _ _
        refine wpAny_pure ⟨plainId_quiet HqF.plain_sift _, ?_⟩
        obtain ⟨n', hn⟩ := upd_sw (i := 2 * pos + 1) (j := pos) (x := l) (y := x) ho
        have kp : Kp a s.heap (s.heap.update a (Obj.mapSeq fun xs => (xs.setIfInBounds (2 * pos + 1) x).setIfInBounds pos l)) := fun b o hb q => (Heap.get?_update_other s.heap _ (Ne.symm hb)).trans q
        have pm : (sw its (2 * pos + 1) pos l x).Perm its := sw_perm el ex
        refine ih (its.length - (2 * pos + 1)) (by omega) (2 * pos + 1) _ n' _ (by rw [sw_len]) hn (by rw [sw_len]; exact hz) (by rw [sw_len]; exact (List.getElem?_eq_some_iff.mp el).1) (D.step O (by omega) (by omega) el ex hs) (fun h' k y my z mz => hc h' (fun b o hb q => k b o hb (kp b o hb q)) y (pm.mem_iff.mp my) z (pm.mem_iff.mp mz)) ?_
        exact fun h' its' m p1 p2 p3 p4 => hR h' its' m (p1.trans pm) p2 p3 fun b o hb q => p4 b o hb (kp b o hb q)
    · rw [if_neg h1]
      refine wpAny_bind ?_
      have hs : ∀ d z, 0 < d → d ≠ 2 * pos + 1 → (d - 1) / 2 = pos → its[d]? = some z → lt z l = false := fun d z d0 n2 ed ez => by
        have := (List.getElem?_eq_some_iff.mp ez).1
        omega
      show wpAny _ _ ((seqItems? (.ref a) >>= _) >>= _) _ _ s
      refine wpAny_bind (wpAny_bind (wpAny_seqItems ho rfl (wpAny_pure ?_)))
      show wpAny _ _ (hat its.toArray (2 * pos + 1) >>= _) _ _ s
      refine wpAny_bind (hat_ok el ?_)
      show wpAny _ _ (hat its.toArray pos >>= _) _ _ s
      refine wpAny_bind (hat_ok ex ?_)
      show wpAny _ _ (updateSeq a fun zs => (zs.setIfInBounds (2 * pos + 1) x).setIfInBounds pos l) _ _ s
      refine wpAny_updateSeq ho rfl ?_ (by rw [List.size_toArray]; exact hz) (by simp; omega)
      show wpAny _ _ (pure (PySem.Fin.again _)) _ _ _
      refine wpAny_pure ⟨plainId_quiet HqF.plain_sift _, ?_⟩
      obtain ⟨n', hn⟩ := upd_sw (i := 2 * pos + 1) (j := pos) (x := l) (y := x) ho
      have kp : Kp a s.heap (s.heap.update a (Obj.mapSeq fun xs => (xs.setIfInBounds (2 * pos + 1) x).setIfInBounds pos l)) := fun b o hb q => (Heap.get?_update_other s.heap _ (Ne.symm hb)).trans q
      have pm : (sw its (2 * pos + 1) pos l x).Perm its := sw_perm el ex
      refine ih (its.length - (2 * pos + 1)) (by omega) (2 * pos + 1) _ n' _ (by rw [sw_len]) hn (by rw [sw_len]; exact hz) (by rw [sw_len]; exact (List.getElem?_eq_some_iff.mp el).1) (D.step O (by omega) (by omega) el ex hs) (fun h' k y my z mz => hc h' (fun b o hb q => k b o hb (kp b o hb q)) y (pm.mem_iff.mp my) z (pm.mem_iff.mp mz)) ?_
      exact fun h' its' m p1 p2 p3 p4 => hR h' its' m (p1.trans pm) p2 p3 fun b o hb q => p4 b o hb (kp b o hb q)
  · rw [if_neg h0]
    show wpAny _ _ (pure (PySem.Fin.again _)) _ _ _
    refine wpAny_pure ⟨plainId_quiet HqF.plain_sift _, ?_⟩
    exact up_wp O pos its n s ho hz hp (D.leaf (by omega)) hc hR
variable {E : Value → Shared → Prop}
theorem call_again {id : String} {b : Builtin} {args : List Value} {Q : Value → Shared → Prop} (hk : builtinKind id = none) (hp : plainId id = true) (hb : entryFor table id = some b) (ha : argsOk id ⟨args, []⟩)
    (hc : wpAny (model prog w) A.in1 (b ⟨args, []⟩) (fun fin s' => match fin with
      | .done f => ∃ v, f = .ret v ∧ Q v s'
      | .again c' => c'.quiet = true ∧ codeAny (model prog w) A c' (fun r s' => match r with | .ok (.ret v) => Q v s' | .ok _ => False | .error e => E e s') s') E s) : wpAny (model prog w) A (call (.builtin id) args) Q E s := by
  refine wpAny_call (codeAny_call_builtin hp hb ?_)
  have hfin := wpAny_mono hc (Q' := fun fin s' => match fin with
      | .done f => (match (Except.ok f : Result) with | .ok (.ret v) => Q v s' | .ok _ => False | .error e => E e s')
      | .again c' => c'.quiet = true ∧ codeAny (model prog w) A c' (fun r s' => match r with | .ok (.ret v) => Q v s' | .ok _ => False | .error e => E e s') s')
    (fun fin s' h' => by
      cases fin with
      | done f => obtain ⟨v, rfl, hv⟩ := h'; exact hv
      | again c => exact h') fun _ _ h' => h'
  simp only [checkBuiltinCall, hk]
  cases hsig : Manifest.signature? id with
  | none => exact wpAny_pure hfin
  | some sig =>
    simp only [argsOk, hsig] at ha
    have h2 : Bind.checkArgs id sig ⟨args, []⟩ = pure () := ha
    show wpAny _ A.in1 (Bind.checkArgs id sig ⟨args, []⟩) _ _ s
    rw [h2]; exact wpAny_pure hfin
theorem push_wp {a : Addr} {its : List Value} {n : Nat} {y : Value} {lt : Value → Value → Bool} {Q : Value → Shared → Prop} (O : SrtO.Swo lt) (ho : s.heap.get? a = some (lobj its n)) (hz : its.length < sizeLine) (hh : IsHp lt its) (hc : Cm A s a (its ++ [y]) lt)
    (hR : ∀ (h' : Heap) (its' : List Value) (n' : Nat), its'.Perm (its ++ [y]) → IsHp lt its' → h'.get? a = some (lobj its' n') → Kp a s.heap h' → Q .none { s with heap := h' }) : wpAny (model prog w) A (call (.builtin "_heapq.heappush") [.ref a, y]) Q E s := by
  refine call_again HqF.kind_push HqF.plain_push HqF.entry_push (HqF.args_push _ _) ?_
  have hi : ∀ (Q' : Bool → Shared → Prop) (E' : Value → Shared → Prop), Q' true s → wpAny (model prog w) A.in1 (isInstance (.ref a) (.type "list")) Q' E' s := fun Q' E' q => wpAny_isInstance (T := "list") ⟨_, ho, rfl⟩ AutoSeq1.sub_list_list q
  unfold Builtin.«_heapq.heappush»
  wp_walk using hi
  have hz' : (its.toArray.push y).size ≤ sizeLine + 1 := by rw [Array.size_push, List.size_toArray]; omega
  rw [show (Obj.mapSeq (fun x => x.push y) (lobj its n)).data.pastItsLine = none from pastItsLine_seq hz']
  refine wpAny_pure ?_
  have hn := PySem.IsL.update ho fun x => x.push y
  rw [List.push_toArray] at hn
  refine wpAny_bind ?_
  show wpAny _ _ (seqItems? (.ref a) >>= _) _ _ _
  refine wpAny_bind (wpAny_seqItems hn rfl (wpAny_pure ?_))
  show wpAny _ _ (pure (PySem.Fin.again _)) _ _ _
  refine wpAny_pure ⟨plainId_quiet HqF.plain_sift _, ?_⟩
  have kp : Kp a s.heap (s.heap.update a (Obj.mapSeq fun x => x.push y)) := fun b o hb q => (Heap.get?_update_other s.heap _ (Ne.symm hb)).trans q
  have e : (its ++ [y]).toArray.size - 1 = its.length := by rw [List.size_toArray, List.length_append, List.length_singleton]; omega
  rw [e]
  refine up_wp O its.length (its ++ [y]) _ _ hn (by rw [List.length_append, List.length_singleton]; omega) (by rw [List.length_append, List.length_singleton]; omega) hh.push (fun h' k => hc h' (fun b o hb q => k b o hb (kp b o hb q))) ?_
  exact fun h' its' m p1 p2 p3 p4 => hR h' its' m p1 p2 p3 fun b o hb q => p4 b o hb (kp b o hb q)
theorem pop_wp {a : Addr} {l : List Value} {z : Value} {n : Nat} {lt : Value → Value → Bool} {Q : Value → Shared → Prop} (O : SrtO.Swo lt) (ho : s.heap.get? a = some (lobj (l ++ [z]) n)) (hz : (l ++ [z]).length ≤ sizeLine) (hh : IsHp lt (l ++ [z])) (hc : Cm A s a (l ++ [z]) lt)
    (hR : ∀ (h' : Heap) (m : Value) (its' : List Value) (n' : Nat), (l ++ [z])[0]? = some m → (m :: its').Perm (l ++ [z]) → IsHp lt its' → h'.get? a = some (lobj its' n') → Kp a s.heap h' → Q m { s with heap := h' }) : wpAny (model prog w) A (call (.builtin "_heapq.heappop") [.ref a]) Q E s := by
  refine call_again HqF.kind_pop HqF.plain_pop HqF.entry_pop (HqF.args_pop _) ?_
  have hi : ∀ (Q' : Bool → Shared → Prop) (E' : Value → Shared → Prop), Q' true s → wpAny (model prog w) A.in1 (isInstance (.ref a) (.type "list")) Q' E' s := fun Q' E' q => wpAny_isInstance (T := "list") ⟨_, ho, rfl⟩ AutoSeq1.sub_list_list q
  unfold Builtin.«_heapq.heappop»
  have hb : (l ++ [z]).toArray.back? = some z := by simp
  wp_walk using hi
  rw [hb]
  dsimp only
  refine wpAny_bind (wpAny_updateSeq ho rfl ?_ (by rw [List.size_toArray]; exact hz) (by simp at hz ⊢; omega))
  have hn := PySem.IsL.update ho fun x => x.pop
  rw [List.pop_toArray, List.dropLast_concat] at hn
  have kp : Kp a s.heap (s.heap.update a (Obj.mapSeq fun x => x.pop)) := fun b o hb q => (Heap.get?_update_other s.heap _ (Ne.symm hb)).trans q
  cases l with
  | nil =>
    rw [if_pos (by simp)]
    exact wpAny_pure ⟨z, rfl, hR _ z [] _ rfl (.refl _) (fun i x y _ h => by simp at h) hn kp⟩
  | cons m r =>
    rw [if_neg (by simp)]
    have hm : (m :: r)[0]? = some m := rfl
    have hz2 : ((m :: r) ++ [z]).length = r.length + 2 := by simp
    rw [hz2] at hz
    show wpAny _ _ (hat ((m :: r) ++ [z]).toArray 0 >>= _) _ _ _
    refine wpAny_bind (hat_ok (v := m) rfl ?_)
    refine wpAny_bind (wpAny_updateSeq hn rfl ?_ (by rw [List.size_toArray, List.length_cons]; omega) (by simp; omega))
    have hn2 := PySem.IsL.update hn fun x => x.setIfInBounds 0 z
    rw [List.setIfInBounds_toArray] at hn2
    have kp2 : Kp a (s.heap.update a (Obj.mapSeq fun x => x.pop)) ((s.heap.update a (Obj.mapSeq fun x => x.pop)).update a (Obj.mapSeq fun x => x.setIfInBounds 0 z)) := fun b o hb q => (Heap.get?_update_other _ _ (Ne.symm hb)).trans q
    show wpAny _ _ (pure (PySem.Fin.again _)) _ _ _
    refine wpAny_pure ⟨plainId_quiet HqF.plain_sift _, ?_⟩
    have mem : ∀ y, y ∈ (m :: r).set 0 z → y ∈ (m :: r) ++ [z] := fun y h => by
      rw [List.set_cons_zero] at h
      rcases List.mem_cons.mp h with rfl | h
      · simp
      · exact List.mem_append_left _ (List.mem_cons_of_mem _ h)
    refine dn_wp O (((m :: r).set 0 z).length - 0) 0 ((m :: r).set 0 z) _ _ rfl hn2 (by simp; omega) (by simp) (IsHp.pop (x := z) hh) (fun h' k y my x mx => hc h' (fun b o hb q => k b o hb (kp2 b o hb (kp b o hb q))) y (mem y my) x (mem x mx)) ?_
    intro h' its' n' p1 p2 p3 p4
    refine hR h' m its' n' rfl ?_ p2 p3 fun b o hb q => p4 b o hb (kp2 b o hb (kp b o hb q))
    rw [List.set_cons_zero] at p1
    refine (p1.cons m).trans ?_
    rw [List.cons_append]
    exact (List.perm_append_comm (l₁ := [z]) (l₂ := r)).cons m
end
end Hq
/-! Pl11: heappush, heappop. -/
namespace Pl
open PySem L2 Wp PyProof.Rows
abbrev ltI (x y : List Int) : Bool := HT.lexLt x y
theorem ltI_swo : SrtO.Swo ltI := NtL.swo_lexL (fun x : List Int => x)
theorem hp_map {α β : Type} {lt : β → β → Bool} {f : α → β} {l : List α} : Hq.IsHp (fun x y => lt (f x) (f y)) l ↔ Hq.IsHp lt (l.map f) := by
  constructor
  · intro h i x y i0 hx hy
    rw [List.getElem?_map] at hx hy
    obtain ⟨a, ha, rfl⟩ := Option.map_eq_some_iff.mp hx
    obtain ⟨b, hb, rfl⟩ := Option.map_eq_some_iff.mp hy
    exact h i a b i0 ha hb
  · intro h i x y i0 hx hy
    exact h i _ _ i0 (by rw [List.getElem?_map, hx]; rfl) (by rw [List.getElem?_map, hy]; rfl)
theorem hp_congr {α : Type} {lt lt' : α → α → Bool} {l : List α} (h : ∀ x ∈ l, ∀ y ∈ l, lt x y = lt' x y) (H : Hq.IsHp lt l) : Hq.IsHp lt' l := fun i x y i0 hx hy => by
  rw [← h x (List.mem_of_getElem? hx) y (List.mem_of_getElem? hy)]
  exact H i x y i0 hx hy
abbrev TsOk (K : PySem.W.Frag) (H : Hp) (ts : List (Addr × List Int)) : Prop := ∀ p ∈ ts, SqT K H p.1 (p.2.map V.int)
abbrev rf (ts : List (Addr × List Int)) : List V := ts.map fun p => V.ref p.1
def rHPush (K : PySem.W.Frag) : List V → Hp → VK → Prop := fun vs H Q => ∃ (a : Addr) (t : Addr × List Int) (ts : List (Addr × List Int)), vs = [.ref a, .ref t.1] ∧ H a = some (.lst (rf ts)) ∧ TsOk K H (ts ++ [t]) ∧ ts.length < sizeLine ∧ Hq.IsHp ltI (ts.map Prod.snd) ∧
  ∀ us : List (Addr × List Int), us.Perm (ts ++ [t]) → Hq.IsHp ltI (us.map Prod.snd) → Q .non (upd H a (.lst (rf us)))
def rHPop (K : PySem.W.Frag) : List V → Hp → VK → Prop := fun vs H Q => ∃ (a : Addr) (ts : List (Addr × List Int)), vs = [.ref a] ∧ H a = some (.lst (rf ts)) ∧ TsOk K H ts ∧ 0 < ts.length ∧ Hq.IsHp ltI (ts.map Prod.snd) ∧
  ∀ (m : Addr × List Int) (us : List (Addr × List Int)), (m :: us).Perm ts → (∀ p ∈ us, ltI p.2 m.2 = false) → Hq.IsHp ltI (us.map Prod.snd) → Q (.ref m.1) (upd H a (.lst (rf us)))
theorem refs_vals : ∀ {xs : List V} {us : List Value} {ls : List Addr}, Vals xs us → xs = ls.map V.ref → us = ls.map Value.ref := by
  intro xs us ls v
  induction v generalizing ls with
  | nil => intro e; cases ls with
    | nil => rfl
    | cons => cases e
  | cons r t ih => intro e; cases ls with
    | nil => cases e
    | cons a ls =>
      rw [List.map_cons] at e
      injection e with h1 h2
      subst h1
      cases r
      rw [List.map_cons, ih h2]
theorem vals_refs : ∀ ls : List Addr, Vals (ls.map V.ref) (ls.map Value.ref)
  | [] => .nil
  | a :: ls => .cons (show RelV (.ref a) (.ref a) from rfl) (vals_refs ls)
section
variable {X : L2.Cx} {pins : List (Addr × Obj)} {σ : L2.St} {H : Hp} {s : Shared}
theorem cm_of (I : L2.Inv X pins σ H s) (hu : X.A.units + 64 < cLine) {a : Addr} {ts : List (Addr × List Int)} {its : List Value} {n : Nat} (ho : s.heap.get? a = some (Hq.lobj its n)) (ht : TsOk X.K H ts) : Hq.Cm X.A s a (ts.map fun p => Value.ref p.1) (fun v u => ltI (TS.intsOf s.heap v) (TS.intsOf s.heap u)) := by
  intro h' kp x hx y hy
  obtain ⟨p, hp, rfl⟩ := List.mem_map.mp hx
  obtain ⟨q, hq, rfl⟩ := List.mem_map.mp hy
  have k : ∀ b o, s.heap.get? b = some o → o.cls = .type "tuple" → h'.get? b = some o := fun b o e c => kp b o (fun z => by
    subst z
    rw [ho] at e
    cases e
    exact absurd (Value.type.inj c) (by decide)) e
  have tp := tupI_raw I (ht p hp)
  have tq := tupI_raw I (ht q hq)
  dsimp only
  rw [tp.ints, tq.ints]
  obtain ⟨b1, x1, e1, t1, i1⟩ := tp.keeps k
  obtain ⟨b2, x2, e2, t2, i2⟩ := tq.keeps k
  cases e1
  cases e2
  intro prog w E Q hQ
  exact HT.lt_tupInts (s := { s with heap := h' }) t1 t2 i1 i2 (by show X.A.units + 1 < cLine; omega) hQ
theorem hp_its (I : L2.Inv X pins σ H s) {ts : List (Addr × List Int)} (ht : TsOk X.K H ts) : Hq.IsHp ltI (ts.map Prod.snd) ↔ Hq.IsHp (fun v u => ltI (TS.intsOf s.heap v) (TS.intsOf s.heap u)) (ts.map fun p => Value.ref p.1) := by
  rw [← hp_map, ← hp_map]
  have e : ∀ p ∈ ts, TS.intsOf s.heap (.ref p.1) = p.2 := fun p hp => (tupI_raw I (ht p hp)).ints
  constructor
  · exact hp_congr fun x hx y hy => by rw [e x hx, e y hy]
  · exact hp_congr fun x hx y hy => by rw [e x hx, e y hy]
theorem ref_its {xs : List V} {its : List Value} {ts : List (Addr × List Int)} (r : Vals xs its) (e : xs = rf ts) : its = ts.map fun p => Value.ref p.1 := by
  have := refs_vals (ls := ts.map Prod.fst) r (by rw [e, List.map_map]; rfl)
  rw [this, List.map_map]
  rfl
theorem its_ref (ts : List (Addr × List Int)) : Vals (rf ts) (ts.map fun p => Value.ref p.1) := by
  have := vals_refs (ts.map Prod.fst)
  rw [List.map_map, List.map_map] at this
  exact this
theorem cr_hpush (hu : X.A.units + 64 < cLine) : CallR X (.builtin "_heapq.heappush") (rHPush X.K) := by
  intro pins s σ H vs us Q I r h
  obtain ⟨a, t, ts, rfl, hH, ht, hl, hh, q⟩ := h
  obtain ⟨u1, u2, rfl, r1, r2⟩ := r.two
  cases r1
  cases r2
  obtain ⟨z, its, n, rv, hlen, e⟩ := I.lstM hH
  obtain rfl := ref_its rv rfl
  have hts : TsOk X.K H ts := fun p hp => ht p (List.mem_append_left _ hp)
  have ce : (ts.map fun p => Value.ref p.1) ++ [Value.ref t.1] = (ts ++ [t]).map fun p => Value.ref p.1 := by rw [List.map_append]; rfl
  refine Hq.push_wp (lt := fun v u => ltI (TS.intsOf s.heap v) (TS.intsOf s.heap u)) (NtL.swo_lexL _) e (by rw [List.length_map]; exact hl) ((hp_its I hts).mp hh) (by rw [ce]; exact cm_of I hu e ht) fun h' its' n' p1 p2 p3 p4 => ?_
  rw [ce] at p1
  obtain ⟨us, hus, rfl⟩ := Pl.perm_lift (fun p : Addr × List Int => Value.ref p.1) p1
  have hus' : TsOk X.K H us := fun p hp => ht p (hus.mem_iff.mp hp)
  have lu : us.length = ts.length + 1 := by rw [hus.length_eq, List.length_append, List.length_singleton]
  refine ⟨.non, upd H a (.lst (rf us)), I.write (x := a) (e := a) (t' := s.toks) (by rw [hH]; exact trivial) (.inl rfl) (fun b' u hb hu => p4 b' u hb hu) ⟨_, p3⟩ ?_, rfl, q us hus ((hp_its I hus').mpr p2)⟩
  exact ⟨by rw [List.length_map]; omega, _, n', its_ref us, p3⟩
theorem cr_hpop (hu : X.A.units + 64 < cLine) : CallR X (.builtin "_heapq.heappop") (rHPop X.K) := by
  intro pins s σ H vs us Q I r h
  obtain ⟨a, ts, rfl, hH, ht, hl, hh, q⟩ := h
  rw [Vals.ref1 r]
  obtain ⟨z, its, n, rv, hlen, e⟩ := I.lstM hH
  obtain rfl := ref_its rv rfl
  rcases List.eq_nil_or_concat ts with rfl | ⟨l, w, rfl⟩
  · cases hl
  rw [List.concat_eq_append] at *
  have ce : (l ++ [w]).map (fun p : Addr × List Int => Value.ref p.1) = (l.map fun p => Value.ref p.1) ++ [Value.ref w.1] := by rw [List.map_append]; rfl
  have hp0 := (hp_its I ht).mp hh
  have cm0 := cm_of I hu e ht
  rw [ce] at e hp0 cm0
  refine Hq.pop_wp (lt := fun v u => ltI (TS.intsOf s.heap v) (TS.intsOf s.heap u)) (NtL.swo_lexL _) e (by rw [← ce, List.length_map]; rw [List.length_map] at z; exact z) hp0 cm0 fun h' m its' n' m1 p1 p2 p3 p4 => ?_
  have least := hp0.least (NtL.swo_lexL _) m1
  rw [← ce] at p1 m1 least
  obtain ⟨ms, hms, em⟩ := Pl.perm_lift (fun p : Addr × List Int => Value.ref p.1) p1
  cases ms with
  | nil => cases em
  | cons mm us =>
    rw [List.map_cons] at em
    injection em with em1 em2
    subst em1
    subst em2
    have hmm : mm ∈ l ++ [w] := hms.mem_iff.mp List.mem_cons_self
    have hus' : TsOk X.K H us := fun p hp => ht p (hms.mem_iff.mp (List.mem_cons_of_mem _ hp))
    have lu : us.length + 1 = (l ++ [w]).length := by rw [← hms.length_eq, List.length_cons]
    rw [List.length_map] at z
    refine ⟨.ref mm.1, upd H a (.lst (rf us)), I.write (x := a) (e := a) (t' := s.toks) (by rw [hH]; exact trivial) (.inl rfl) (fun b' u hb hu => p4 b' u hb hu) ⟨_, p3⟩ ?_, rfl, q mm us hms (fun p hp => ?_) ((hp_its I hus').mpr p2)⟩
    · exact ⟨by rw [List.length_map]; omega, _, n', its_ref us, p3⟩
    · have hp2 : p ∈ l ++ [w] := hms.mem_iff.mp (List.mem_cons_of_mem _ hp)
      obtain ⟨i, hi⟩ := List.getElem?_of_mem hp2
      have := least i (.ref p.1) (by rw [List.getElem?_map, hi]; rfl)
      rw [(tupI_raw I (ht p hp2)).ints, (tupI_raw I (ht mm hmm)).ints] at this
      exact this
end
end Pl
/-! Pl12: own lists of own lists; heaps; more of lists. -/
namespace Pl
open PySem L2 Wp PyProof.Rows
section
variable {K : PySem.W.Frag} {F : Hp} {M : MR} {bs : List Addr} {dss : List (List D)}
theorem Inn.at (h : Inn K F M bs dss) {j : Nat} {ds : List D} (e : dss[j]? = some ds) : ∃ b ws, bs[j]? = some b ∧ M b (.lst ws) ∧ Reps K F ws ds := by
  have hj : j < bs.length := by rw [h.1]; exact (List.getElem?_eq_some_iff.mp e).1
  have e2 : bs[j]? = some bs[j] := List.getElem?_eq_getElem hj
  obtain ⟨ws, k1, k2⟩ := h.2 j _ _ e2 e
  exact ⟨_, ws, e2, k1, k2⟩
theorem Inn.app (h : Inn K F M bs dss) {b : Addr} {ws : List V} {ds : List D} (m : M b (.lst ws)) (r : Reps K F ws ds) : Inn K F M (bs ++ [b]) (dss ++ [ds]) := by
  refine ⟨by rw [List.length_append, List.length_append, h.1]; rfl, fun i x es h1 h2 => ?_⟩
  by_cases hi : i < bs.length
  · rw [List.getElem?_append_left hi] at h1
    rw [List.getElem?_append_left (by rw [← h.1]; exact hi)] at h2
    exact h.2 i x es h1 h2
  · rw [List.getElem?_append_right (by omega)] at h1
    rw [List.getElem?_append_right (by rw [← h.1]; omega), ← h.1] at h2
    have e : i - bs.length = 0 := by
      have := (List.getElem?_eq_some_iff.mp h1).1
      simp at this
      omega
    rw [e] at h1 h2
    cases h1; cases h2
    exact ⟨ws, m, r⟩
end
section
variable {K : PySem.W.Frag} {c : Ct} {F H : Hp} {O : Ow} {ρ : Env} {σ : L2.St}
theorem Sim.nest (S : Sim K c F O ρ σ H) {i : Nat} {dss : List (List D)} (h : getS ρ i = .own (.lls dss)) : ∃ (a : Addr) (bs : List Addr), σ[i]? = some (some (.ref a)) ∧ O a = some i ∧ H a = some (.lst (bs.map V.ref)) ∧ (a :: bs).Nodup ∧ Inn K F (oR O H i) bs dss := by
  obtain ⟨a, h, h0, h1, h2, h3⟩ := S.ownO h
  obtain ⟨bs, rfl, nd, q⟩ := h3.lls_
  exact ⟨a, bs, h0, h1, h2, nd, q⟩
/-- one inner list is changed -/
theorem Sim.nmut (S : Sim K c F O ρ σ H) {i j : Nat} {a b : Addr} {bs : List Addr} {dss : List (List D)} {vs : List V} {ds : List D} (h0 : σ[i]? = some (some (.ref a))) (h1 : O a = some i) (h2 : H a = some (.lst (bs.map V.ref))) (nd : (a :: bs).Nodup) (q : Inn K F (oR O H i) bs dss)
    (hb : bs[j]? = some b) (r : Reps K F vs ds) : Sim K c F O (ρ.set i (.own (.lls (dss.set j ds)))) σ (upd H b (.lst vs)) := by
  have hj : j < dss.length := by rw [← q.1]; exact (List.getElem?_eq_some_iff.mp hb).1
  obtain ⟨b', ws, e1, m1, _⟩ := q.at (List.getElem?_eq_getElem hj)
  rw [hb] at e1
  cases e1
  have nd' := List.nodup_cons.mp nd
  have ab : a ≠ b := fun e => nd'.1 (by rw [e]; exact List.mem_of_getElem? hb)
  refine S.mutG (h' := .lst (bs.map V.ref)) m1.1 h1 h0 (by rw [upd_ne ab]; exact h2) ⟨bs, rfl, nd, by rw [List.length_set]; exact q.1, fun k x es k1 k2 => ?_⟩
  by_cases e : j = k
  · subst e
    rw [hb] at k1
    cases k1
    rw [List.getElem?_set_self hj] at k2
    cases k2
    exact ⟨vs, ⟨m1.1, upd_same⟩, r⟩
  · rw [List.getElem?_set_ne e] at k2
    obtain ⟨us, l1, l2⟩ := q.2 k x es k1 k2
    have xb : x ≠ b := fun z => e (by
      subst z
      obtain ⟨i1, e1⟩ := List.getElem?_eq_some_iff.mp hb
      obtain ⟨i2, e2⟩ := List.getElem?_eq_some_iff.mp k1
      exact (List.getElem_inj nd'.2).mp (e1.trans e2.symm))
    exact ⟨us, ⟨l1.1, by rw [upd_ne xb]; exact l1.2⟩, l2⟩
/-- what is new becomes slot i's own -/
theorem Sim.adopt (S : Sim K c F O ρ σ H) {H1 : Hp} (hb : ∀ b, H1 b = none → c.H0 b = none) (hw : ∀ b j, O b = some j → H1 b ≠ none) (i : Nat) : Sim K c F (ownN O F H1 H i) ρ σ H := by
  have keep : ∀ b j, O b = some j → ownN O F H1 H i b = some j := fun b j h => (ownN_old (hw b j h)).trans h
  have km : ∀ j b o, oR O H j b o → oR (ownN O F H1 H i) H j b o := fun j b o z => ⟨keep b j z.1, z.2⟩
  refine ⟨S.gr, S.fh, S.po, S.pd, fun b j h => ?_, S.len, fun j t o h1 h2 => ?_⟩
  · rcases ownN_or h with h | ⟨_, h1, h2, h3⟩
    · exact S.ow b j h
    · exact ⟨hb b h1, h2, h3⟩
  · have q := S.sl j t o h1 h2
    cases t with
    | own es => obtain ⟨b, ws, e, k1, k2, k3⟩ := q; exact ⟨b, ws, e, keep _ _ k1, k2, k3.mono Ex.refl (km j)⟩
    | len es => obtain ⟨b, ws, e, k0, k1, k2, k3⟩ := q; exact ⟨b, ws, e, k0, keep _ _ k1, k2, k3.mono Ex.refl (km j) id⟩
    | slf C gs => obtain ⟨b, dx, fs, e, e2, k1, k2, k3⟩ := q; exact ⟨b, dx, fs, e, e2, keep _ _ k1, k2, k3⟩
    | no => exact q
    | fz d => exact q
    | bor d => exact q
    | pool => exact q
end
section
variable {K : PySem.W.Frag}
/-- [e], e a new list -/
def mLstN (me : ME) : ME := fun ρ Q => me ρ fun x => ∃ ds, x = .o (.lst ds) ∧ Q (.o (.lls [ds]))
theorem e_lstN {te : TE} {me : ME} (h : PurE K te me) : PurE K (tLst (tCons te tNil)) (mLstN me) := by
  intro c F O ρ σ H Q Q' S hm hp
  refine h c F O ρ σ H _ _ S hm fun F1 H1 x v g S1 r q => ?_
  obtain ⟨ds, rfl, q⟩ := q
  obtain ⟨b, o, rfl, h1, h2, h3, r⟩ := r
  obtain ⟨vs, rfl, r⟩ := r.lst_
  refine ⟨(by decide : 1 ≤ sizeLine), fun p np => ?_⟩
  have pb : p ≠ b := fun e => by subst e; rw [h2] at np; cases np
  refine hp F1 (upd H1 p (.lst [.ref b])) (.o (.lls [ds])) (.ref p) (g.trans (Gr.newH np)) (S1.newH np) ⟨p, _, rfl, g.back np, upd_same, S1.fh.free np, [b], rfl, by simp [pb], rfl, fun i x es k1 k2 => ?_⟩ q
  cases i with
  | zero => cases k1; cases k2; exact ⟨vs, ⟨h1, h3, by rw [upd_ne (Ne.symm pb)]; exact h2⟩, r⟩
  | succ i => cases k1
/-- x.append(e), e a new list -/
def mApdN (i : Nat) (me : ME) : MS := fun D ρ => ∃ dss, getS ρ i = .own (.lls dss) ∧ me ρ fun x => ∃ ds, x = .o (.lst ds) ∧ dss.length < sizeLine ∧ D.nx (ρ.set i (.own (.lls (dss ++ [ds]))))
theorem s_apdN {i : Nat} {te : TE} {me : ME} (h : PurE K te me) : PurS K (tDrop (tBM K "list" rAppend (tVar i) (tCons te tNil))) (mApdN i me) := by
  intro c F O ρ σ H D D' S R hm
  obtain ⟨dss, hs, hm⟩ := hm
  obtain ⟨a, bs, h0, h1, h2, nd, inn⟩ := S.nest hs
  refine ⟨_, h0, .inl ⟨rfl, _, SqL.of h2⟩, ?_⟩
  refine h c F O ρ σ H _ _ S hm fun F1 H1 x v g S1 r q => ?_
  obtain ⟨ds, rfl, hz, q⟩ := q
  obtain ⟨b, o, rfl, k1, k2, k3, r⟩ := r
  obtain ⟨vs, rfl, r⟩ := r.lst_
  have h2' := g.h _ _ (S.own_np h1) h2
  refine ⟨a, bs.map V.ref, .ref b, rfl, rfl, h2', by rw [List.length_map, inn.1]; exact hz, ?_⟩
  have hw : ∀ b j, O b = some j → H b ≠ none := fun b j z => (S.ow b j z).2.2
  have S2 := S1.adopt (H1 := H) (fun b z => S.gr.back z) hw i
  have keep : ∀ b j, O b = some j → ownN O F1 H H1 i b = some j := fun b j z => (ownN_old (hw b j z)).trans z
  have hb : ownN O F1 H H1 i b = some i := ownN_new k1 k3 (some_ne k2)
  have ha : ownN O F1 H H1 i a = some i := keep a i h1
  have ab : b ≠ a := fun e => hw a i h1 (by rw [← e]; exact k1)
  have nb : ∀ x ∈ bs, x ≠ b := fun x hx e => by
    subst e
    obtain ⟨k, hk⟩ := List.getElem?_of_mem hx
    obtain ⟨ws, l1, _⟩ := inn.2 k x _ hk (List.getElem?_eq_getElem (by rw [← inn.1]; exact (List.getElem?_eq_some_iff.mp hk).1))
    cases k1.symm.trans l1.2
  have nd' := List.nodup_cons.mp nd
  refine R.nx _ _ _ _ _ g.f (S2.mutG (vs := .lst (bs.map V.ref ++ [.ref b])) (ds := .lls (dss ++ [ds])) ha ha h0 upd_same ⟨bs ++ [b], by rw [List.map_append]; rfl, ?_, ?_⟩) q
  · refine List.nodup_cons.mpr ⟨fun m => ?_, List.nodup_append.mpr ⟨nd'.2, by simp, fun x hx y hy => ?_⟩⟩
    · rcases List.mem_append.mp m with m | m
      · exact nd'.1 m
      · exact ab (List.mem_singleton.mp m).symm
    · rw [List.mem_singleton.mp hy]; exact nb x hx
  · have inn2 : Inn K F1 (oR (ownN O F1 H H1 i) (upd H1 a (.lst (bs.map V.ref ++ [.ref b]))) i) bs dss := inn.mono g.f fun x hx o z => ⟨keep x i z.1, by
      rw [upd_ne (fun e => nd'.1 (by rw [← e]; exact hx))]
      exact g.h _ _ (S.own_np z.1) z.2⟩
    exact inn2.app ⟨hb, by rw [upd_ne ab]; exact k2⟩ r
/-- x[j] of own or lent lists in a list -/
def X.LL : X → Option (List (List D))
  | .b (.lls dss) => some dss
  | .q (.lls dss) => some dss
  | _ => none
def X.inr (x : X) (ds : List D) : X := match x with
  | .q _ => .q (.lst ds)
  | _ => .b (.lst ds)
def mNix (me mj : ME) : ME := fun ρ Q => me ρ fun x => ∃ dss, x.LL = some dss ∧ mj ρ fun y => ∃ k j ds, y.n = .f (.int k) ∧ ixN dss.length k = some j ∧ dss[j]? = some ds ∧ Q (x.inr ds)
theorem xm_LL {c : Ct} {F H : Hp} {O : Ow} {ρ : Env} {σ : L2.St} {x : X} {v : V} {dss : List (List D)} (S : Sim K c F O ρ σ H) (r : XM K c F H x v) (e : x.LL = some dss) : ∃ (a : Addr) (bs : List Addr), v = .ref a ∧ H a = some (.lst (bs.map V.ref)) ∧ bs.length = dss.length ∧ ∀ (i : Nat) b ds, bs[i]? = some b → dss[i]? = some ds → XM K c F H (x.inr ds) (.ref b) := by
  cases x with
  | f d => cases e
  | o ds => cases e
  | pl => cases e
  | b es =>
    cases es with
    | lls es =>
      cases e
      obtain ⟨a, h, rfl, h1, _, h3⟩ := r
      obtain ⟨bs, rfl, _, q⟩ := h3.lls_
      exact ⟨a, bs, rfl, h1, q.1, fun i b ds k1 k2 => by obtain ⟨ws, l1, l2⟩ := q.2 i b ds k1 k2; exact ⟨b, _, rfl, l1.2, l1.1, l2⟩⟩
    | _ => cases e
  | q es =>
    cases es with
    | lls es =>
      cases e
      obtain ⟨a, h, rfl, h1, h2, h3⟩ := r
      obtain ⟨bs, rfl, _, q⟩ := h3.lls_
      exact ⟨a, bs, rfl, S.gr.h _ _ h2 h1, q.1, fun i b ds k1 k2 => by obtain ⟨ws, l1, l2⟩ := q.2 i b ds k1 k2; exact ⟨b, _, rfl, l1.2, l1.1, l2⟩⟩
    | _ => cases e
theorem LL_n {x : X} {dss : List (List D)} (e : x.LL = some dss) : x.n = x := by cases x <;> first | rfl | cases e
theorem inr_n {x : X} {ds : List D} : (x.inr ds).n = x.inr ds := by cases x <;> rfl
theorem e_nix {te tj : TE} {me mj : ME} (h : PurE K te me) (hj : PurE K tj mj) : PurE K (tOp (rIxU K) te tj) (mNix me mj) := by
  intro c F O ρ σ H Q Q' S hm hp
  refine h.mid S hm fun F1 H1 x v g1 S1 r1 q => ?_
  obtain ⟨dss, e1, q⟩ := q
  rw [LL_n e1] at r1
  refine hj.mid S1 q fun F2 H2 y w g2 S2 r2 q => ?_
  obtain ⟨k, j, ds, e2, e3, e4, q⟩ := q
  rw [e2] at r2
  cases r2
  obtain ⟨a, bs, rfl, hH, hl, hi⟩ := xm_LL S2 (r1.grow g2) e1
  have hj : j < bs.length := by rw [hl]; exact (List.getElem?_eq_some_iff.mp e4).1
  have eb : bs[j]? = some bs[j] := List.getElem?_eq_getElem hj
  have rx := hi j _ ds eb e4
  refine .inl ⟨a, bs.map V.ref, k, .ref bs[j], rfl, rfl, SqL.of hH, ?_, (hp.trans (g1.trans g2)).here S2 (XM.xr rx) q⟩
  unfold atI
  rw [List.length_map, hl, e3]
  show (bs.map V.ref)[j]? = _
  rw [List.getElem?_map, eb]
  rfl
def pLenN (xs : List X) (Q : X → Prop) : Prop := ∃ x dss, xs = [x] ∧ x.LL = some dss ∧ Q (.f (.int dss.length))
theorem c_lenN : PurRL K (rLenU K) pLenN := by
  intro c F O ρ σ H Q Q' xs vs S r hm hp
  obtain ⟨x, dss, rfl, e, q⟩ := hm
  obtain ⟨v, rfl, r1⟩ := xms1 r
  obtain ⟨a, bs, rfl, hH, hl, _⟩ := xm_LL S r1 e
  exact ⟨_, _, rfl, .inl ⟨_, SqL.of hH, rfl⟩, hp.here (x := .f _) S (by rw [List.length_map, hl]; exact .int _) q⟩
/-- [e for ..], each e a new list -/
def mCompN (ds : List D) (mg : MG) (mt : MT) (me : ME) (ρ : Env) (Q : X → Prop) : Prop := ∃ Pv : Nat → List (List D) → Prop, Pv 0 [] ∧ (∀ i d acc, ds[i]? = some d → Pv i acc → mg d ρ fun ρ2 => mt ρ2 fun b => pIf b (me ρ2 fun x => ∃ e, x = .o (.lst e) ∧ acc.length < sizeLine ∧ Pv (i + 1) (acc ++ [e])) (Pv (i + 1) acc)) ∧ ∀ acc, Pv ds.length acc → Q (.o (.lls acc))
def kLcN (mg : MG) (mt : MT) (me : ME) (vs : List Nat) (ρ : Env) (Q : X → Prop) (ds : List D) (_ : Bool) : Prop := mCompN ds mg mt me (wipeE ρ vs) Q
def mLcN (mi : MI) (mg : MG) (mt : MT) (me : ME) (vs : List Nat) : ME := fun ρ Q => mi ρ (kLcN mg mt me vs ρ Q)
theorem e_lcN {wi : TI} {g : TG} {tt : TT} {te : TE} {vs : List Nat} {mi : MI} {ts : List Nat} {mg : MG} {mt : MT} {me : ME} (hi : PurI K wi mi) (hg : PurG K ts g mg) (ht : PurT K tt mt) (he : PurE K te me) (hs : ∀ t, t ∈ ts → t ∈ vs) : PurE K (tLc wi g tt te vs) (mLcN mi mg mt me vs) := by
  intro c F O ρ σ H Q Q' S hm hp
  refine hi c F O ρ σ H _ _ S hm fun F1 H1 J ds st g1 S1 hJ q => ?_
  obtain ⟨Pv, h0, hstep, hd⟩ := q
  intro Dl hDl
  have np := S1.new_np hDl
  refine ⟨fun i m H => m = ds.length - i ∧ i ≤ ds.length ∧ ∃ F acc bs, Gr c.P F1 H1 F H ∧ Sim K c F O ρ σ H ∧ F Dl = none ∧ H Dl = some (.lst (bs.map V.ref)) ∧ (Dl :: bs).Nodup ∧ (∀ b ∈ bs, H1 b = none ∧ F b = none) ∧ Inn K F (fun b o => H b = some o) bs acc ∧ Pv i acc, ⟨_, rfl, Nat.zero_le _, F1, [], [], Gr.newH hDl, S1.newH hDl, S1.fh.free hDl, upd_same, by simp, fun b hb => by (cases hb), ⟨rfl, fun i b ds h1 => by (cases h1)⟩, h0⟩, ?_⟩
  rintro i m H ⟨rfl, hi, F2, acc, bs, g2, S2, fD, hD, nd, hn, inn, p⟩
  have SW := S2.wipe vs
  obtain ⟨j1, j2, j3⟩ := hJ F2 O _ _ H SW (by cases st <;> simp <;> first | exact g2.f | exact g2) i
  have npb : ∀ b ∈ bs, NP c.P b := fun b hb => S1.new_np (hn b hb).1
  have hbs : ∀ b ∈ bs, H b ≠ none := fun b hb => by
    obtain ⟨k, hk⟩ := List.getElem?_of_mem hb
    obtain ⟨ws, l1, _⟩ := inn.2 k b _ hk (List.getElem?_eq_getElem (by rw [← inn.1]; exact (List.getElem?_eq_some_iff.mp hk).1))
    exact some_ne l1
  have nd' := List.nodup_cons.mp nd
  by_cases hlt : i < ds.length
  · refine .inr ⟨j1 hlt, fun H' => i + 1 ≤ ds.length ∧ ∃ F acc bs, Gr c.P F1 H1 F H' ∧ Sim K c F O ρ σ H' ∧ F Dl = none ∧ H' Dl = some (.lst (bs.map V.ref)) ∧ (Dl :: bs).Nodup ∧ (∀ b ∈ bs, H1 b = none ∧ F b = none) ∧ Inn K F (fun b o => H' b = some o) bs acc ∧ Pv (i + 1) acc, fun H' n => ⟨ds.length - (i + 1), by omega, rfl, n.1, n.2⟩, fun x H' y => ?_⟩
    obtain ⟨F3, g3, S3, r3⟩ := j3 _ x H' (List.getElem?_eq_getElem hlt) y
    refine hg.run c F3 O _ _ H' x _ _ _ S3 r3 (hstep i _ acc (List.getElem?_eq_getElem hlt) p) fun ρ4 σ4 S4 t4 l4 q => ?_
    refine ⟨(wipe_touch t4 l4 hs).trans wipe_wipe, ?_⟩
    refine ht c F3 O ρ4 σ4 H' _ _ S4 q fun F5 H5 b g5 S5 q => ?_
    have g35 := g3.trans g5
    cases b with
    | false =>
      replace q := pif_F' q
      have gg : Gr c.P F2 H F5 H5 := g35
      exact ⟨by omega, F5, acc, bs, g2.trans gg, S2.grow gg S5.fh S5.po, (gg.n _ (some_ne hD)).trans fD, gg.h _ _ np hD, nd, fun b hb => ⟨(hn b hb).1, (gg.n b (hbs b hb)).trans (hn b hb).2⟩, inn.mono gg.f fun b hb o z => gg.h _ _ (npb b hb) z, q⟩
    | true =>
      refine he c F5 O ρ4 σ4 H5 _ _ S5 q fun F6 H6 z u g6 S6 r6 q => ?_
      obtain ⟨e, rfl, hz, q⟩ := q
      obtain ⟨nb, o, rfl, k1, k2, k3, r⟩ := r6
      obtain ⟨ws, rfl, r⟩ := r.lst_
      have gg : Gr c.P F2 H F6 H6 := g35.trans g6
      have S6' := S2.grow gg S6.fh S6.po
      have hD6 := gg.h _ _ np hD
      have fD6 := (gg.n _ (some_ne hD)).trans fD
      have hnb : H nb = none := g35.back k1
      have h1nb : H1 nb = none := g2.back hnb
      have nbD : nb ≠ Dl := fun e => by rw [e, hD] at hnb; cases hnb
      have inn6 : Inn K F6 (fun b o => upd H6 Dl (.lst (bs.map V.ref ++ [.ref nb])) b = some o) bs acc := inn.mono gg.f fun b hb o z => by
        rw [upd_ne (fun e => nd'.1 (by rw [← e]; exact hb))]
        exact gg.h _ _ (npb b hb) z
      refine ⟨bs.map V.ref, hD6, by rw [List.length_map, inn.1]; exact hz, by omega, F6, acc ++ [e], bs ++ [nb], ?_, ?_, fD6, by rw [List.map_append]; exact upd_same, ?_, ?_, inn6.app (ws := ws) (by rw [upd_ne nbD]; exact k2) r, q⟩
      · have g16 := g2.trans gg
        refine ⟨g16.f, g16.n, fun b o n h => u_ne (ne_of_none h hDl) (g16.h b o n h), fun b h => ?_⟩
        unfold upd
        split
        · exact some_ne rfl
        · exact g16.d b h
      · have g16 := g2.trans gg
        have c0 : c.H0 Dl = none := S1.gr.back hDl
        refine ⟨⟨S6'.gr.f, S6'.gr.n, fun b o n h => u_ne (ne_of_none h c0) (S6'.gr.h b o n h), fun b h => ?_⟩, fun b o h => u_ne (fun z => by rw [z, fD6] at h; cases h) (S6'.fh b o h), fun p l e => ⟨(S6'.po p l e).1.upd (np p l e) (fun z => (S6'.pd p l e).2 (by rw [← z]; exact c0)), (S6'.po p l e).2⟩, S6'.pd, fun a j h => ?_, S6'.len, fun i s o a b => ?_⟩
        · unfold upd
          split
          · exact some_ne rfl
          · exact S6'.gr.d b h
        · obtain ⟨m1, m2, m3⟩ := S6'.ow a j h
          refine ⟨m1, m2, ?_⟩
          unfold upd
          split
          · exact some_ne rfl
          · exact m3
        · have q := S6'.sl i s o a b
          cases s with
          | own es =>
            obtain ⟨b, ws, e, k1, k2, k3⟩ := q
            exact ⟨b, ws, e, k1, u_ne (fun z => (S1.ow b i k1).2.2 (by rw [z]; exact hDl)) k2, k3.mono Ex.refl fun b' o' z => ⟨z.1, u_ne (fun y => (S1.ow b' i z.1).2.2 (by rw [y]; exact hDl)) z.2⟩⟩
          | len es =>
            obtain ⟨b, ws, e, k0, k1, k2, k3⟩ := q
            exact ⟨b, ws, e, k0, k1, u_ne (fun z => (S1.ow b i k1).2.2 (by rw [z]; exact hDl)) k2, k3.mono Ex.refl (fun b' o' z => ⟨z.1, u_ne (fun y => (S1.ow b' i z.1).2.2 (by rw [y]; exact hDl)) z.2⟩) id⟩
          | slf C gs =>
            obtain ⟨b, dx, fs, e, e2, k1, k2, k3⟩ := q
            exact ⟨b, dx, fs, e, e2, k1, u_ne (fun z => (S1.ow b i k1).2.2 (by rw [z]; exact hDl)) k2, k3⟩
          | no => exact q
          | fz d => exact q
          | bor d => exact q
          | pool => exact q
      · refine List.nodup_cons.mpr ⟨fun m => ?_, List.nodup_append.mpr ⟨nd'.2, by simp, fun x hx y hy e => ?_⟩⟩
        · rcases List.mem_append.mp m with m | m
          · exact nd'.1 m
          · exact nbD (List.mem_singleton.mp m).symm
        · rw [List.mem_singleton.mp hy] at e
          exact hbs x hx (by rw [e]; exact hnb)
      · intro b hb
        rcases List.mem_append.mp hb with hb | hb
        · exact ⟨(hn b hb).1, (gg.n b (hbs b hb)).trans (hn b hb).2⟩
        · rw [List.mem_singleton.mp hb]
          exact ⟨h1nb, k3⟩
  · have e : i = ds.length := by omega
    subst e
    refine .inl ⟨j2 (Nat.le_refl _), ?_⟩
    exact (hp.trans g1) F2 H (.o (.lls acc)) _ g2 S2 ⟨Dl, _, rfl, hDl, hD, fD, bs, rfl, nd, inn.mono Ex.refl fun b hb o z => ⟨(hn b hb).1, (hn b hb).2, z⟩⟩ (hd acc p)
mutual
def noL : D → Bool
  | .lst _ => false
  | .tup xs => noLs xs
  | .ins _ fs => noLf fs
  | .dk _ => false
  | .dt _ => false
  | _ => true
def noLs : List D → Bool
  | [] => true
  | d :: r => noL d && noLs r
def noLf : List (Str × D) → Bool
  | [] => true
  | p :: r => noL p.2 && noLf r
end
theorem noLs_all {xs : List D} (h : ∀ d ∈ xs, noL d = true) : noLs xs = true := by
  induction xs with
  | nil => rfl
  | cons d r ih => rw [noLs, h d List.mem_cons_self, ih fun x m => h x (List.mem_cons_of_mem _ m)]; rfl
/-- F without the lists at bs -/
def cutF (bs : List Addr) (F : Hp) : Hp := fun b => if b ∈ bs then none else F b
mutual
theorem Rep.cutL {F : Hp} {bs : List Addr} (hb : ∀ b ∈ bs, ∃ vs, F b = some (.lst vs)) : ∀ {v : V} {d : D}, Rep K F v d → noL d = true → Rep K (cutF bs F) v d
  | _, _, .non, _ => .non
  | _, _, .bl b, _ => .bl b
  | _, _, .int b, _ => .int b
  | _, _, .str b, _ => .str b
  | _, _, .obj b, _ => .obj b
  | _, _, .ty b, _ => .ty b
  | _, _, .lst h r, e => by rw [noL] at e; cases e
  | _, _, .tup (a := a) (vs := vs) h r, e => by
    rw [noL] at e
    refine .tup ?_ (Reps.cutL hb r e)
    have keep : ∀ o, (∀ ws, o ≠ .lst ws) → F a = some o → cutF bs F a = some o := fun o no ho => by
      unfold cutF
      rw [if_neg fun m => ?_]
      · exact ho
      · obtain ⟨ws, hw⟩ := hb a m
        rw [ho] at hw
        exact no ws (Option.some.inj hw)
    rcases h with (h | ⟨o, h⟩) | h
    · exact .inl (.inl (keep _ (fun ws q => by cases q) h))
    · exact .inl (.inr ⟨o, keep _ (fun ws q => by cases q) h⟩)
    · exact .inr h
  | _, _, .ins (dx := dx) h r, e => by
    rw [noL] at e
    refine .ins (dx := dx) ?_ (RepF.cutL hb r e)
    unfold cutF
    rw [if_neg fun m => ?_]
    · exact h
    · obtain ⟨ws, hw⟩ := hb _ m
      rw [h] at hw
      cases hw
  | _, _, .dk h r, e => by rw [noL] at e; cases e
  | _, _, .dt h r, e => by rw [noL] at e; cases e
theorem Reps.cutL {F : Hp} {bs : List Addr} (hb : ∀ b ∈ bs, ∃ vs, F b = some (.lst vs)) : ∀ {vs : List V} {ds : List D}, Reps K F vs ds → noLs ds = true → Reps K (cutF bs F) vs ds
  | _, _, .nil, _ => .nil
  | _, _, .cons h r, e => by
    rw [noLs, Bool.and_eq_true] at e
    exact .cons (Rep.cutL hb h e.1) (Reps.cutL hb r e.2)
theorem RepF.cutL {F : Hp} {bs : List Addr} (hb : ∀ b ∈ bs, ∃ vs, F b = some (.lst vs)) : ∀ {vs : List (Str × V)} {ds : List (Str × D)}, RepF K F vs ds → noLf ds = true → RepF K (cutF bs F) vs ds
  | _, _, .nil, _ => .nil
  | _, _, .cons h r, e => by
    rw [noLf, Bool.and_eq_true] at e
    exact .cons (Rep.cutL hb h e.1) (RepF.cutL hb r e.2)
end
/-- F with the lists at bs -/
def putF2 (bs : List Addr) (F H : Hp) : Hp := fun b => if b ∈ bs then H b else F b
/-- slot i's lists are as if frozen while e is evaluated; its value holds no list -/
def mTmp (i : Nat) (me : ME) : ME := fun ρ Q => ∃ dss, getS ρ i = .own (.lls dss) ∧ me (ρ.set i (.fz (.lst (dss.map .lst)))) fun x => ∃ d, x.n = .f d ∧ noL d = true ∧ Q (.f d)
theorem e_tmp (i : Nat) {te : TE} {me : ME} (h : PurE K te me) : PurE K te (mTmp i me) := by
  intro c F O ρ σ H Q Q' S hm hp
  obtain ⟨dss, hs, hm⟩ := hm
  obtain ⟨a, bs, h0, h1, h2, nd, inn⟩ := S.nest hs
  have own : ∀ b ∈ a :: bs, O b = some i := fun b hb => by
    rcases List.mem_cons.mp hb with rfl | hb
    · exact h1
    · obtain ⟨k, hk⟩ := List.getElem?_of_mem hb
      obtain ⟨ws, l1, _⟩ := inn.2 k b _ hk (List.getElem?_eq_getElem (by rw [← inn.1]; exact (List.getElem?_eq_some_iff.mp hk).1))
      exact l1.1
  have isl : ∀ b ∈ a :: bs, ∃ vs, H b = some (.lst vs) := fun b hb => by
    rcases List.mem_cons.mp hb with rfl | hb
    · exact ⟨_, h2⟩
    · obtain ⟨k, hk⟩ := List.getElem?_of_mem hb
      obtain ⟨ws, l1, _⟩ := inn.2 k b _ hk (List.getElem?_eq_getElem (by rw [← inn.1]; exact (List.getElem?_eq_some_iff.mp hk).1))
      exact ⟨ws, l1.2⟩
  have fn : ∀ b ∈ a :: bs, F b = none := fun b hb => (S.ow b i (own b hb)).2.1
  have x1 : Ex F (putF2 (a :: bs) F H) := fun b o hb => by
    unfold putF2
    rw [if_neg fun m => ?_]
    · exact hb
    · rw [fn b m] at hb; cases hb
  have hi : i < ρ.length := (List.getElem?_eq_some_iff.mp (getS_some hs (fun z => by cases z))).1
  have p1 : ∀ b ∈ a :: bs, putF2 (a :: bs) F H b = H b := fun b hb => if_pos hb
  have p2 : ∀ b, b ∉ a :: bs → putF2 (a :: bs) F H b = F b := fun b hb => if_neg hb
  have S1 : Sim K c (putF2 (a :: bs) F H) (fun b => if b ∈ a :: bs then none else O b) (ρ.set i (.fz (.lst (dss.map .lst)))) σ H := by
    refine ⟨⟨S.gr.f.trans x1, fun b hb => (p2 b fun m => hb (S.ow b i (own b m)).1).trans (S.gr.n b hb), S.gr.h, S.gr.d⟩, fun b o hb => ?_, fun p l e => ⟨(S.po p l e).1, (p2 p fun m => S.own_np (own p m) p l e rfl).trans (S.po p l e).2⟩, S.pd, fun b j hb => ?_, by rw [List.length_set, S.len], fun j t o ht ho => ?_⟩
    · unfold putF2 at hb
      split at hb
      · exact hb
      · exact S.fh _ _ hb
    · split at hb
      · cases hb
      · rename_i q
        obtain ⟨m1, m2, m3⟩ := S.ow b j hb
        exact ⟨m1, (p2 b q).trans m2, m3⟩
    · by_cases e0 : i = j
      · subst e0
        rw [List.getElem?_set_self hi] at ht
        cases ht
        rw [h0] at ho
        cases ho
        refine ⟨_, rfl, .lst ((p1 a List.mem_cons_self).trans h2) (Reps.inn (inn.mono x1 fun b hb o z => (p1 b (List.mem_cons_of_mem _ hb)).trans z.2))⟩
      · rw [List.getElem?_set_ne e0] at ht
        have q := S.sl j t o ht ho
        have kp : ∀ b, O b = some j → (if b ∈ a :: bs then none else O b) = some j := fun b z => (if_neg (fun m => e0 (Option.some.inj ((own b m).symm.trans z)))).trans z
        cases t with
        | own es =>
          obtain ⟨b, ws, e, k1, k2, k3⟩ := q
          exact ⟨b, ws, e, kp b k1, k2, k3.mono x1 fun b o z => ⟨kp b z.1, z.2⟩⟩
        | len es =>
          obtain ⟨b, ws, e, k0, k1, k2, k3⟩ := q
          exact ⟨b, ws, e, k0, kp b k1, k2, k3.mono x1 (fun b o z => ⟨kp b z.1, z.2⟩) fun z => (p2 b (fun m => e0 (Option.some.inj ((own b m).symm.trans k1)))).trans z⟩
        | slf C gs =>
          obtain ⟨b, dx, fs, e, e2, k1, k2, k3⟩ := q
          exact ⟨b, dx, fs, e, e2, kp b k1, k2, k3.mono x1⟩
        | no => exact q
        | fz d => obtain ⟨v, e, r⟩ := q; exact ⟨v, e, r.mono x1⟩
        | bor d => obtain ⟨b, ws, e, k1, k2, k3⟩ := q; exact ⟨b, ws, e, k1, k2, k3.mono x1 (fun _ _ z => z) id⟩
        | pool => exact q
  refine h.mid S1 hm fun F2 H2 x v g S2 r q => ?_
  obtain ⟨d, e, nl, q⟩ := q
  rw [e] at r
  have r : Rep K F2 v d := r
  have isl2 : ∀ b ∈ a :: bs, ∃ vs, F2 b = some (.lst vs) := fun b hb => by
    obtain ⟨vs, hv⟩ := isl b hb
    exact ⟨vs, g.f b _ ((p1 b hb).trans hv)⟩
  have r2 := r.cutL isl2 nl
  have c1 : ∀ b ∈ a :: bs, cutF (a :: bs) F2 b = none := fun b hb => if_pos hb
  have c2 : ∀ b, b ∉ a :: bs → cutF (a :: bs) F2 b = F2 b := fun b hb => if_neg hb
  have gg : Gr c.P F H (cutF (a :: bs) F2) H2 := by
    refine ⟨fun b o hb => ?_, fun b hb => ?_, g.h, g.d⟩
    · have nb : b ∉ a :: bs := fun m => by rw [fn b m] at hb; cases hb
      rw [c2 b nb]
      exact g.f b o ((p2 b nb).trans hb)
    · by_cases m : b ∈ a :: bs
      · rw [c1 b m, fn b m]
      · rw [c2 b m, g.n b hb, p2 b m]
  have fh : Ex (cutF (a :: bs) F2) H2 := fun b o hb => by
    unfold cutF at hb
    split at hb
    · cases hb
    · exact S2.fh _ _ hb
  have po : PO c.P (cutF (a :: bs) F2) H2 := fun p l e => ⟨(S2.po p l e).1, (c2 p fun m => S.own_np (own p m) p l e rfl).trans (S2.po p l e).2⟩
  exact hp _ H2 (.f d) v gg (S.grow gg fh po) r2 q
/-- x[e].append(v), x[e].insert(k, v), x[e].clear(): an inner list -/
def inS (i : Nat) (dss : List (List D)) (N : Env → Prop) (ρ : Env) (j : Nat) (ds : List D) : Prop := N (ρ.set i (.own (.lls (dss.set j ds))))
def mNapd (i : Nat) (mj me : ME) : MS := fun D ρ => ∃ dss, getS ρ i = .own (.lls dss) ∧ mj ρ fun z => ∃ k j ds, z.n = .f (.int k) ∧ ixN dss.length k = some j ∧ dss[j]? = some ds ∧ me ρ fun y => ∃ d, y.n = .f d ∧ ds.length < sizeLine ∧ D.nx (ρ.set i (.own (.lls (dss.set j (ds ++ [d])))))
theorem nix_run {c : Ct} {F H : Hp} {O : Ow} {ρ : Env} {σ : L2.St} (S : Sim K c F O ρ σ H) {i : Nat} {dss : List (List D)} (hs : getS ρ i = .own (.lls dss)) {tj : TE} {mj : ME} (hj : PurE K tj mj) {Q : VK} {R : Nat → List D → Prop}
    (hm : mj ρ fun z => ∃ k j ds, z.n = .f (.int k) ∧ ixN dss.length k = some j ∧ dss[j]? = some ds ∧ R j ds)
    (k : ∀ F1 H1 a bs j b ws ds, Gr c.P F H F1 H1 → Sim K c F1 O ρ σ H1 → σ[i]? = some (some (.ref a)) → O a = some i → H1 a = some (.lst (bs.map V.ref)) → (a :: bs).Nodup → Inn K F1 (oR O H1 i) bs dss → bs[j]? = some b → dss[j]? = some ds → O b = some i → H1 b = some (.lst ws) → Reps K F1 ws ds → R j ds → Q (.ref b) H1) : tOp (rIxU K) (tVar i) tj σ H Q := by
  obtain ⟨a, bs, h0, h1, h2, nd, inn⟩ := S.nest hs
  refine ⟨_, h0, ?_⟩
  refine hj.mid S hm fun F1 H1 z w g1 S1 r1 q => ?_
  obtain ⟨kk, j, ds, e2, e3, e4, q⟩ := q
  rw [e2] at r1
  cases r1
  have hl : j < bs.length := by rw [inn.1]; exact (List.getElem?_eq_some_iff.mp e4).1
  have eb : bs[j]? = some bs[j] := List.getElem?_eq_getElem hl
  have inn1 : Inn K F1 (oR O H1 i) bs dss := inn.mono g1.f fun b hb o z => ⟨z.1, g1.h _ _ (S.own_np z.1) z.2⟩
  obtain ⟨ws, l1, l2⟩ := inn1.2 j _ ds eb e4
  have hH := g1.h _ _ (S.own_np h1) h2
  refine .inl ⟨a, bs.map V.ref, kk, .ref bs[j], rfl, rfl, SqL.of hH, ?_, k F1 H1 a bs j bs[j] ws ds g1 S1 h0 h1 hH nd inn1 eb e4 l1.1 l1.2 l2 q⟩
  unfold atI
  rw [List.length_map, inn.1, e3]
  show (bs.map V.ref)[j]? = _
  rw [List.getElem?_map, eb]
  rfl
theorem s_napd {i : Nat} {tj te : TE} {mj me : ME} (hj : PurE K tj mj) (h : PurE K te me) : PurS K (tDrop (tBM K "list" rAppend (tOp (rIxU K) (tVar i) tj) (tCons te tNil))) (mNapd i mj me) := by
  intro c F O ρ σ H D D' S R hm
  obtain ⟨dss, hs, hm⟩ := hm
  refine nix_run S hs hj (R := fun j ds => me ρ fun y => ∃ d, y.n = .f d ∧ ds.length < sizeLine ∧ D'.nx (ρ.set i (.own (.lls (dss.set j (ds ++ [d])))))) hm fun F1 H1 a bs j b ws ds g1 S1 h0 h1 hH nd inn1 eb e4 ob hb rb q => ?_
  refine ⟨.inl ⟨rfl, _, SqL.of hb⟩, ?_⟩
  refine h.mid S1 q fun F2 H2 y w g2 S2 r2 q => ?_
  obtain ⟨d, e5, hz, q⟩ := q
  rw [e5] at r2
  have hb2 := g2.h _ _ (S1.own_np ob) hb
  have inn2 : Inn K F2 (oR O H2 i) bs dss := inn1.mono g2.f fun b hb o z => ⟨z.1, g2.h _ _ (S1.own_np z.1) z.2⟩
  have rb2 := rb.mono g2.f
  exact ⟨b, ws, w, rfl, rfl, hb2, by rw [rb2.length]; exact hz, R.nx _ _ _ _ _ (g1.f.trans g2.f) (S2.nmut h0 h1 (g2.h _ _ (S1.own_np h1) hH) nd inn2 eb (rb2.append (.cons r2 .nil))) q⟩
def mNins (i : Nat) (mj mk me : ME) : MS := fun D ρ => ∃ dss, getS ρ i = .own (.lls dss) ∧ mj ρ fun z => ∃ k j ds, z.n = .f (.int k) ∧ ixN dss.length k = some j ∧ dss[j]? = some ds ∧ mk ρ fun u => ∃ p, u.n = .f (.int p) ∧ me ρ fun y => ∃ d, y.n = .f d ∧ ds.length < sizeLine ∧ 0 ≤ p ∧ p < 2 ^ 63 ∧ D.nx (ρ.set i (.own (.lls (dss.set j (ds.take p.toNat ++ [d] ++ ds.drop p.toNat)))))
theorem s_nins {i : Nat} {tj tk te : TE} {mj mk me : ME} (hj : PurE K tj mj) (hk : PurE K tk mk) (h : PurE K te me) : PurS K (tDrop (tBM K "list" rInsert (tOp (rIxU K) (tVar i) tj) (tCons tk (tCons te tNil)))) (mNins i mj mk me) := by
  intro c F O ρ σ H D D' S R hm
  obtain ⟨dss, hs, hm⟩ := hm
  refine nix_run S hs hj (R := fun j ds => mk ρ fun u => ∃ p, u.n = .f (.int p) ∧ me ρ fun y => ∃ d, y.n = .f d ∧ ds.length < sizeLine ∧ 0 ≤ p ∧ p < 2 ^ 63 ∧ D'.nx (ρ.set i (.own (.lls (dss.set j (ds.take p.toNat ++ [d] ++ ds.drop p.toNat)))))) hm fun F1 H1 a bs j b ws ds g1 S1 h0 h1 hH nd inn1 eb e4 ob hb rb q => ?_
  refine ⟨.inl ⟨rfl, _, SqL.of hb⟩, ?_⟩
  refine hk.mid S1 q fun F3 H3 u v3 g3 S3 r3 q => ?_
  obtain ⟨p, e6, q⟩ := q
  rw [e6] at r3
  cases r3
  refine h.mid S3 q fun F2 H2 y w g2' S2 r2 q => ?_
  obtain ⟨d, e5, hz, p0, p9, q⟩ := q
  rw [e5] at r2
  have r2 : Rep K F2 w d := r2
  have g2 := g3.trans g2'
  have hb2 := g2.h _ _ (S1.own_np ob) hb
  have inn2 : Inn K F2 (oR O H2 i) bs dss := inn1.mono g2.f fun b hb o z => ⟨z.1, g2.h _ _ (S1.own_np z.1) z.2⟩
  have rb2 := rb.mono g2.f
  exact ⟨b, ws, p, w, rfl, rfl, hb2, by rw [rb2.length]; exact hz, p0, p9, R.nx _ _ _ _ _ (g1.f.trans g2.f) (S2.nmut h0 h1 (g2.h _ _ (S1.own_np h1) hH) nd inn2 eb (((rb2.take p.toNat).append (.cons r2 .nil)).append (rb2.drop p.toNat))) q⟩
def mNclr (i : Nat) (mj : ME) : MS := fun D ρ => ∃ dss, getS ρ i = .own (.lls dss) ∧ mj ρ fun z => ∃ k j ds, z.n = .f (.int k) ∧ ixN dss.length k = some j ∧ dss[j]? = some ds ∧ D.nx (ρ.set i (.own (.lls (dss.set j []))))
theorem s_nclr {i : Nat} {tj : TE} {mj : ME} (hj : PurE K tj mj) : PurS K (tDrop (tBM0 K "list" rClear (tOp (rIxU K) (tVar i) tj))) (mNclr i mj) := by
  intro c F O ρ σ H D D' S R hm
  obtain ⟨dss, hs, hm⟩ := hm
  refine nix_run S hs hj (R := fun j _ => D'.nx (ρ.set i (.own (.lls (dss.set j []))))) hm fun F1 H1 a bs j b ws ds g1 S1 h0 h1 hH nd inn1 eb e4 ob hb rb q => ?_
  refine ⟨.inl ⟨rfl, _, SqL.of hb⟩, b, ws, rfl, rfl, hb, R.nx _ _ _ _ _ g1.f (S1.nmut h0 h1 hH nd inn1 eb .nil) q⟩
/-- r = x[e]; r[k] = v -/
def mRowSet (i r : Nat) (mj me mk : ME) (n : MS) : MS := fun D ρ => ∃ dss, getS ρ i = .own (.lls dss) ∧ r ≠ i ∧ r < ρ.length ∧ mj ρ fun z => ∃ k j ds, z.n = .f (.int k) ∧ ixN dss.length k = some j ∧ dss[j]? = some ds ∧ me (ρ.set r .no) fun y => ∃ d, y.n = .f d ∧ mk (ρ.set r .no) fun w => ∃ k2 j2, w.n = .f (.int k2) ∧ ixN ds.length k2 = some j2 ∧ n D ((ρ.set r .no).set i (.own (.lls (dss.set j (ds.set j2 d)))))
theorem s_rowset {i r : Nat} {tj te tk : TE} {mj me mk : ME} {u : TS} {n : MS} (hj : PurE K tj mj) (h : PurE K te me) (hk : PurE K tk mk) (hu : PurS K u n) : PurS K (tSeq (tAsg (tOp (rIxU K) (tVar i) tj) (gName r)) (tSeq (tAsg te (gSub (tVar r) tk rSetL)) u)) (mRowSet i r mj me mk n) := by
  intro c F O ρ σ H D D' S R hm
  obtain ⟨dss, hs, ne, hr, hm⟩ := hm
  refine nix_run S hs hj (R := fun j ds => me (ρ.set r .no) fun y => ∃ d, y.n = .f d ∧ mk (ρ.set r .no) fun w => ∃ k2 j2, w.n = .f (.int k2) ∧ ixN ds.length k2 = some j2 ∧ n D' ((ρ.set r .no).set i (.own (.lls (dss.set j (ds.set j2 d)))))) hm fun F1 H1 a bs j b ws ds g1 S1 h0 h1 hH nd inn1 eb e4 ob hb rb q => ?_
  have Sr := S1.setF (i := r) (s := .no) (v := some (.ref b)) trivial
  have h0' : (σ.set r (some (.ref b)))[i]? = some (some (.ref a)) := by rw [List.getElem?_set_ne ne]; exact h0
  have hr' : (σ.set r (some (.ref b)))[r]? = some (some (.ref b)) := by rw [List.getElem?_set_self (by rw [← S.len]; exact hr)]
  refine h.mid Sr q fun F2 H2 y w g2 S2 r2 q => ?_
  obtain ⟨d, e5, q⟩ := q
  rw [e5] at r2
  refine ⟨_, hr', ?_⟩
  refine hk.mid S2 q fun F3 H3 z v3 g3 S3 r3 q => ?_
  obtain ⟨k2, j2, e6, e7, q⟩ := q
  rw [e6] at r3
  cases r3
  have g23 := g2.trans g3
  have hb3 := g23.h _ _ (S1.own_np ob) hb
  have inn3 : Inn K F3 (oR O H3 i) bs dss := inn1.mono g23.f fun b hb o z => ⟨z.1, g23.h _ _ (S1.own_np z.1) z.2⟩
  have rb3 := rb.mono g23.f
  have r2' : Rep K F3 w d := Rep.mono g3.f r2
  refine ⟨b, ws, k2, j2, rfl, rfl, hb3, by rw [rb3.length]; exact e7, ?_⟩
  exact hu c F3 O _ _ _ D D' (S3.nmut h0' h1 (g23.h _ _ (S1.own_np h1) hH) nd inn3 eb (rb3.set r2' j2)) (R.mono (g1.f.trans g23.f)) q
end
end Pl
/-! Pl13: heaps; clear, pop; readings of Pl12. -/
namespace Pl
open PySem L2 Wp PyProof.Rows
section
variable {K : PySem.W.Frag}
theorem ti_rf {F : Hp} {vs : List V} {nss : List (List Int)} (r : Reps K F vs (nss.map tI)) : ∃ ts : List (Addr × List Int), vs = rf ts ∧ ts.map Prod.snd = nss ∧ ∀ p ∈ ts, SqT K F p.1 (p.2.map V.int) := reps_ti r
/-- a, b = heappop(x) -/
def mHPop (i : Nat) (mg : MG) : MS := fun D ρ => ∃ nss, getS ρ i = .own (.lst (nss.map tI)) ∧ 0 < nss.length ∧ Hq.IsHp ltI nss ∧ ∀ m mss, (m :: mss).Perm nss → (∀ p ∈ mss, ltI p m = false) → Hq.IsHp ltI mss → mg (tI m) (ρ.set i (.own (.lst (mss.map tI)))) D.nx
theorem s_hpop {i : Nat} {ts : List Nat} {g : TG} {mg : MG} (hg : PurG K ts g mg) : PurS K (tAsg (tCB (rHPop K) (tCons (tVar i) tNil)) g) (mHPop i mg) := by
  intro c F O ρ σ H D D' S R hm
  obtain ⟨nss, hs, h0, hh, q⟩ := hm
  obtain ⟨a, vs, s0, s1, s2, s3⟩ := S.own hs
  obtain ⟨tt, rfl, rfl, ht⟩ := ti_rf s3
  refine ⟨_, s0, a, tt, rfl, s2, fun p hp => sqt_ex S.fh (ht p hp), by rw [List.length_map] at h0; exact h0, hh, fun m us hu hl hus => ?_⟩
  have hus' : ∀ p ∈ us, SqT K F p.1 (p.2.map V.int) := fun p hp => ht p (hu.mem_iff.mp (List.mem_cons_of_mem _ hp))
  have S2 := S.mutO (vs := .lst (rf us)) (ds := .lst ((us.map Prod.snd).map tI)) s1 s0 (ti_reps hus')
  have rm : Rep K F (.ref m.1) (tI m.2) := .tup (ht m (hu.mem_iff.mp List.mem_cons_self)) (Reps.ofInts _)
  refine hg.run c F O _ _ _ _ _ _ _ S2 rm (q m.2 (us.map Prod.snd) (hu.map Prod.snd) (fun p hp => ?_) hus) fun ρ' σ' S' _ _ q' => R.nx _ _ _ _ _ Ex.refl S' q'
  obtain ⟨p', hp', rfl⟩ := List.mem_map.mp hp
  exact hl p' hp'
/-- heappush(x, e) -/
def kHPush (i : Nat) (N : Env → Prop) (ρ : Env) (y : X) : Prop := ∃ ns nss, y.n = .f (tI ns) ∧ getS ρ i = .own (.lst (nss.map tI)) ∧ nss.length < sizeLine ∧ Hq.IsHp ltI nss ∧ ∀ mss : List (List Int), mss.Perm (nss ++ [ns]) → Hq.IsHp ltI mss → N (ρ.set i (.own (.lst (mss.map tI))))
def mHPush (i : Nat) (me : ME) : MS := fun D ρ => ∃ ds, getS ρ i = .own (.lst ds) ∧ me ρ (kHPush i D.nx ρ)
theorem s_hpush {i : Nat} {te : TE} {me : ME} (h : PurE K te me) : PurS K (tDrop (tCB (rHPush K) (tCons (tVar i) (tCons te tNil)))) (mHPush i me) := by
  intro c F O ρ σ H D D' S R hm
  obtain ⟨ds, hs, hm⟩ := hm
  obtain ⟨a, vs, s0, s1, s2, s3⟩ := S.own hs
  refine ⟨_, s0, ?_⟩
  refine h.mid S hm fun F1 H1 x v g S1 r q => ?_
  obtain ⟨ns, nss, e, hs2, hz, hh, q⟩ := q
  rw [hs] at hs2
  cases hs2
  rw [e] at r
  obtain ⟨k4, k5⟩ := S.ownG g s1 s2 s3
  obtain ⟨tt, rfl, rfl, ht⟩ := ti_rf k5
  have r : Rep K F1 v (tI ns) := r
  cases r with
  | tup hv rv =>
    rw [rv.ints] at hv
    rename_i va vvs
    have ht2 : ∀ p ∈ tt ++ [(va, ns)], SqT K F1 p.1 (p.2.map V.int) := fun p hp => by
      rcases List.mem_append.mp hp with hp | hp
      · exact ht p hp
      · rw [List.mem_singleton.mp hp]; exact hv
    refine ⟨a, (va, ns), tt, rfl, k4, fun p hp => sqt_ex S1.fh (ht2 p hp), by rw [List.length_map] at hz; exact hz, hh, fun us hu hus => ?_⟩
    have hus' : ∀ p ∈ us, SqT K F1 p.1 (p.2.map V.int) := fun p hp => ht2 p (hu.mem_iff.mp hp)
    refine R.nx _ _ _ _ _ g.f (S1.mutO (vs := .lst (rf us)) (ds := .lst ((us.map Prod.snd).map tI)) s1 s0 (ti_reps hus')) (q _ ?_ hus)
    have := hu.map Prod.snd
    rw [List.map_append] at this
    exact this
/-- x.clear(), an own list -/
def mClr (i : Nat) : MS := fun D ρ => ∃ ds, getS ρ i = .own (.lst ds) ∧ D.nx (ρ.set i (.own (.lst [])))
theorem s_clr {i : Nat} : PurS K (tDrop (tBM0 K "list" rClear (tVar i))) (mClr i) := by
  intro c F O ρ σ H D D' S R hm
  obtain ⟨ds, hs, q⟩ := hm
  obtain ⟨a, vs, h0, h1, h2, h3⟩ := S.own hs
  exact ⟨_, h0, .inl ⟨rfl, vs, SqL.of h2⟩, a, vs, rfl, rfl, h2, R.nx _ _ _ _ _ Ex.refl (S.mutO (vs := .lst []) (ds := .lst []) h1 h0 .nil) q⟩
/-- x.pop(e), its value dropped -/
def mPopAt (i : Nat) (mj : ME) : MS := fun D ρ => ∃ ds, getS ρ i = .own (.lst ds) ∧ mj ρ fun z => ∃ k j, z.n = .f (.int k) ∧ -(2 ^ 63) ≤ k ∧ k < 2 ^ 63 ∧ seqIndex? k ds.length = some j ∧ j < ds.length ∧ D.nx (ρ.set i (.own (.lst (ds.eraseIdx j))))
theorem Reps.ers {F : Hp} : ∀ {vs : List V} {ds : List Pl.D} (j : Nat), Reps K F vs ds → Reps K F (vs.eraseIdx j) (ds.eraseIdx j)
  | _, _, _, .nil => .nil
  | _, _, 0, .cons _ r => r
  | _, _, j + 1, .cons h r => .cons h (Reps.ers j r)
theorem s_popAt {i : Nat} {tj : TE} {mj : ME} (hj : PurE K tj mj) : PurS K (tDrop (tBM K "list" rPopAt (tVar i) (tCons tj tNil))) (mPopAt i mj) := by
  intro c F O ρ σ H D D' S R hm
  obtain ⟨ds, hs, hm⟩ := hm
  obtain ⟨a, vs, h0, h1, h2, h3⟩ := S.own hs
  refine ⟨_, h0, .inl ⟨rfl, vs, SqL.of h2⟩, ?_⟩
  refine hj.mid S hm fun F1 H1 x v g S1 r q => ?_
  obtain ⟨k, j, e, k0, k9, ei, jl, q⟩ := q
  rw [e] at r
  cases r
  obtain ⟨h4, h5⟩ := S.ownG g h1 h2 h3
  have jv : j < vs.length := by rw [h5.length]; exact jl
  exact ⟨a, vs, k, j, vs[j], rfl, rfl, h4, k0, k9, by rw [h5.length]; exact ei, List.getElem?_eq_getElem jv, R.nx _ _ _ _ _ g.f (S1.mutO (ds := .lst _) (vs := .lst _) h1 h0 (h5.ers j)) q⟩
/-- [] that will hold own lists -/
def mLst0N : ME := fun _ Q => Q (.o (.lls []))
theorem e_lst0N : PurE K (tLst tNil) mLst0N := by
  intro c F O ρ σ H Q Q' S hm hp
  refine ⟨Nat.zero_le _, fun p np => ?_⟩
  exact hp F (upd H p (.lst [])) (.o (.lls [])) (.ref p) (Gr.newH np) (S.newH np) ⟨p, _, rfl, np, upd_same, S.fh.free np, [], rfl, by simp, rfl, fun i x es k1 => by (cases k1)⟩ hm
end
/-! readings -/
theorem w_hpop {i : Nat} {mg : MG} {D : Pd} {ρ : Env} : mHPop i mg D ρ = ∃ nss, getS ρ i = .own (.lst (nss.map tI)) ∧ 0 < nss.length ∧ Hq.IsHp ltI nss ∧ ∀ m mss, (m :: mss).Perm nss → (∀ p ∈ mss, ltI p m = false) → Hq.IsHp ltI mss → mg (tI m) (ρ.set i (.own (.lst (mss.map tI)))) D.nx := rfl
theorem w_hpush {i : Nat} {me : ME} {D : Pd} {ρ : Env} : mHPush i me D ρ = ∃ ds, getS ρ i = .own (.lst ds) ∧ me ρ (kHPush i D.nx ρ) := rfl
theorem w_clr {i : Nat} {D : Pd} {ρ : Env} : mClr i D ρ = ∃ ds, getS ρ i = .own (.lst ds) ∧ D.nx (ρ.set i (.own (.lst []))) := rfl
theorem w_popAt {i : Nat} {mj : ME} {D : Pd} {ρ : Env} : mPopAt i mj D ρ = ∃ ds, getS ρ i = .own (.lst ds) ∧ mj ρ fun z => ∃ k j, z.n = .f (.int k) ∧ -(2 ^ 63) ≤ k ∧ k < 2 ^ 63 ∧ seqIndex? k ds.length = some j ∧ j < ds.length ∧ D.nx (ρ.set i (.own (.lst (ds.eraseIdx j)))) := rfl
theorem w_lst0N {ρ : Env} {Q : X → Prop} : mLst0N ρ Q = Q (.o (.lls [])) := rfl
def kLstN (Q : X → Prop) (x : X) : Prop := ∃ ds, x = .o (.lst ds) ∧ Q (.o (.lls [ds]))
theorem w_lstN {me : ME} {ρ : Env} {Q : X → Prop} : mLstN me ρ Q = me ρ (kLstN Q) := rfl
theorem w_lstN1 {Q : X → Prop} {ds : List D} : kLstN Q (.o (.lst ds)) = Q (.o (.lls [ds])) := propext ⟨fun ⟨_, e, h⟩ => by cases e; exact h, fun h => ⟨_, rfl, h⟩⟩
def kApdN (i : Nat) (dss : List (List D)) (N : Env → Prop) (ρ : Env) (x : X) : Prop := ∃ ds, x = .o (.lst ds) ∧ dss.length < sizeLine ∧ N (ρ.set i (.own (.lls (dss ++ [ds]))))
theorem w_apdN {i : Nat} {me : ME} {D : Pd} {ρ : Env} : mApdN i me D ρ = ∃ dss, getS ρ i = .own (.lls dss) ∧ me ρ (kApdN i dss D.nx ρ) := rfl
theorem w_apdN1 {i : Nat} {dss : List (List D)} {N : Env → Prop} {ρ : Env} {ds : List D} : kApdN i dss N ρ (.o (.lst ds)) = (dss.length < sizeLine ∧ N (ρ.set i (.own (.lls (dss ++ [ds]))))) := propext ⟨fun ⟨_, e, h⟩ => by cases e; exact h, fun h => ⟨_, rfl, h⟩⟩
theorem w_nix {me mj : ME} {ρ : Env} {Q : X → Prop} : mNix me mj ρ Q = me ρ fun x => ∃ dss, x.LL = some dss ∧ mj ρ fun y => ∃ k j ds, y.n = .f (.int k) ∧ ixN dss.length k = some j ∧ dss[j]? = some ds ∧ Q (x.inr ds) := rfl
theorem LL_b {dss : List (List D)} : (X.b (.lls dss)).LL = some dss := rfl
theorem LL_q {dss : List (List D)} : (X.q (.lls dss)).LL = some dss := rfl
theorem inr_b {o : OD} {ds : List D} : (X.b o).inr ds = .b (.lst ds) := rfl
theorem inr_q {o : OD} {ds : List D} : (X.q o).inr ds = .q (.lst ds) := rfl
theorem w_lenNb {dss : List (List D)} {Q : X → Prop} : pLenN [.b (.lls dss)] Q = Q (.f (.int dss.length)) := propext ⟨fun ⟨_, _, e, h1, h⟩ => by cases e; cases h1; exact h, fun h => ⟨_, _, rfl, rfl, h⟩⟩
theorem w_lenNq {dss : List (List D)} {Q : X → Prop} : pLenN [.q (.lls dss)] Q = Q (.f (.int dss.length)) := propext ⟨fun ⟨_, _, e, h1, h⟩ => by cases e; cases h1; exact h, fun h => ⟨_, _, rfl, rfl, h⟩⟩
theorem w_lcN {Q : X → Prop} {ρ : Env} {mi : MI} {mg : MG} {mt : MT} {me : ME} {vs : List Nat} : mLcN mi mg mt me vs ρ Q = mi ρ (kLcN mg mt me vs ρ Q) := rfl
theorem w_lcN1 {Q : X → Prop} {ρ : Env} {mg : MG} {mt : MT} {me : ME} {vs : List Nat} {d : List D} {s : Bool} : kLcN mg mt me vs ρ Q d s = mCompN d mg mt me (wipeE ρ vs) Q := rfl
def kTmp (Q : X → Prop) (x : X) : Prop := ∃ d, x.n = .f d ∧ noL d = true ∧ Q (.f d)
theorem w_tmp {i : Nat} {me : ME} {ρ : Env} {Q : X → Prop} : mTmp i me ρ Q = ∃ dss, getS ρ i = .own (.lls dss) ∧ me (ρ.set i (.fz (.lst (dss.map .lst)))) (kTmp Q) := rfl
theorem w_tmp1 {d : D} {Q : X → Prop} : kTmp Q (.f d) = (noL d = true ∧ Q (.f d)) := propext ⟨fun ⟨_, e, h⟩ => by cases e; exact h, fun h => ⟨_, rfl, h⟩⟩
theorem noL_bl {b : Bool} : noL (.bl b) = true := rfl
theorem w_napd {i : Nat} {mj me : ME} {D : Pd} {ρ : Env} : mNapd i mj me D ρ = ∃ dss, getS ρ i = .own (.lls dss) ∧ mj ρ fun z => ∃ k j ds, z.n = .f (.int k) ∧ ixN dss.length k = some j ∧ dss[j]? = some ds ∧ me ρ fun y => ∃ d, y.n = .f d ∧ ds.length < sizeLine ∧ D.nx (ρ.set i (.own (.lls (dss.set j (ds ++ [d]))))) := rfl
theorem w_nins {i : Nat} {mj mk me : ME} {D : Pd} {ρ : Env} : mNins i mj mk me D ρ = ∃ dss, getS ρ i = .own (.lls dss) ∧ mj ρ fun z => ∃ k j ds, z.n = .f (.int k) ∧ ixN dss.length k = some j ∧ dss[j]? = some ds ∧ mk ρ fun u => ∃ p, u.n = .f (.int p) ∧ me ρ fun y => ∃ d, y.n = .f d ∧ ds.length < sizeLine ∧ 0 ≤ p ∧ p < 2 ^ 63 ∧ D.nx (ρ.set i (.own (.lls (dss.set j (ds.take p.toNat ++ [d] ++ ds.drop p.toNat))))) := rfl
theorem w_nclr {i : Nat} {mj : ME} {D : Pd} {ρ : Env} : mNclr i mj D ρ = ∃ dss, getS ρ i = .own (.lls dss) ∧ mj ρ fun z => ∃ k j ds, z.n = .f (.int k) ∧ ixN dss.length k = some j ∧ dss[j]? = some ds ∧ D.nx (ρ.set i (.own (.lls (dss.set j [])))) := rfl
theorem w_rowset {i r : Nat} {mj me mk : ME} {n : MS} {D : Pd} {ρ : Env} : mRowSet i r mj me mk n D ρ = ∃ dss, getS ρ i = .own (.lls dss) ∧ r ≠ i ∧ r < ρ.length ∧ mj ρ fun z => ∃ k j ds, z.n = .f (.int k) ∧ ixN dss.length k = some j ∧ dss[j]? = some ds ∧ me (ρ.set r .no) fun y => ∃ d, y.n = .f d ∧ mk (ρ.set r .no) fun w => ∃ k2 j2, w.n = .f (.int k2) ∧ ixN ds.length k2 = some j2 ∧ n D ((ρ.set r .no).set i (.own (.lls (dss.set j (ds.set j2 d))))) := rfl
theorem fr_lls {dss : List (List D)} : (OD.lls dss).fr = .lst (dss.map .lst) := rfl
theorem compNL {ds : List D} {mg : MG} {mt : MT} {me : ME} {ρ : Env} {Q : X → Prop} (Pv : Nat → List (List D) → Prop) (h0 : Pv 0 []) (hs : ∀ i d acc, ds[i]? = some d → Pv i acc → mg d ρ fun ρ2 => mt ρ2 fun b => pIf b (me ρ2 fun x => ∃ e, x = .o (.lst e) ∧ acc.length < sizeLine ∧ Pv (i + 1) (acc ++ [e])) (Pv (i + 1) acc)) (hd : ∀ acc, Pv ds.length acc → Q (.o (.lls acc))) : mCompN ds mg mt me ρ Q := ⟨Pv, h0, hs, hd⟩
end Pl
/-! Pl14: texts sign by sign, index, a row popped into a tuple. -/
namespace Pl
open PySem L2 Wp PyProof.Rows
def signs (z : Str) : List D := z.cps.toList.map fun c => .str ⟨#[c]⟩
section
variable {K : PySem.W.Frag}
theorem str_ok {c F1 H1} {z : Str} : IterOk K c F1 H1 true (signs z) (Its z) := by
  intro F O ρ σ H S _ i
  unfold signs
  simp only [List.length_map, Array.length_toList]
  refine ⟨fun h => h, fun h => h, fun d x H' hd hy => ?_⟩
  obtain ⟨rfl, ch, hc, rfl⟩ := hy
  rw [List.getElem?_map, Array.getElem?_toList, hc] at hd
  cases hd
  exact ⟨F, Gr.refl, S, .str _⟩
def kIS (R : List D → Bool → Prop) (x : X) : Prop := ∃ z, x = .f (.str z) ∧ R (signs z) true
def mIS (me : ME) : MI := fun ρ R => me ρ (kIS R)
theorem i_str {te : TE} {me : ME} (h : PurE K te me) : PurI K (iStr te) (mIS me) := by
  intro c F O ρ σ H R R' S hm k
  refine h.mid S hm fun F1 H1 x v g S1 r q => ?_
  obtain ⟨z, rfl, q⟩ := q
  cases r
  exact ⟨z, rfl, k _ _ _ _ _ g S1 str_ok q⟩
/-- xs.index(t), a list of texts -/
def mIdx (me my : ME) : ME := fun ρ Q => me ρ fun x => ∃ ds ss, x.n.L = some ds ∧ sD ds = some ss ∧ my ρ fun y => ∃ c, y.n = .f (.str c) ∧ c ∈ ss ∧ Q (.f (.int (ss.idxOf c : Nat)))
theorem eqV_str {a b : Str} : eqV (.str a) (.str b) = (a == b) := rfl
theorem idx_no {ss : List Str} {c : Str} : ∀ (m : Nat) (z : Str), m < ss.idxOf c → ss[m]? = some z → (z == c) = false := by
  induction ss with
  | nil => intro m z h; cases h
  | cons a r ih =>
    intro m z h hz
    rw [List.idxOf_cons] at h
    cases e : a == c with
    | true => rw [e] at h; cases h
    | false =>
      rw [e] at h
      cases m with
      | zero => cases hz; exact e
      | succ m => exact ih m z (by simpa using h) hz
theorem e_idx {te ty : TE} {me my : ME} (h1 : PurE K te me) (h2 : PurE K ty my) : PurE K (tBM K "list" (rIndex K) te (tCons ty tNil)) (mIdx me my) := by
  intro c F O ρ σ H Q Q' S hm hp
  refine h1.mid S hm fun F1 H1 x v g1 S1 r1 q => ?_
  obtain ⟨ds, ss, hx, hs, q⟩ := q
  obtain ⟨a, vs, rfl, k1, _⟩ := xm_L S1 r1 hx
  refine ⟨.inl ⟨rfl, _, SqL.of k1⟩, ?_⟩
  refine h2.mid S1 q fun F2 H2 y w g2 S2 r2 q => ?_
  obtain ⟨z, e, hm, q⟩ := q
  rw [e] at r2
  cases r2
  obtain ⟨b, us, e1, k2, k3⟩ := xm_L S2 (r1.grow g2) hx
  cases e1
  rw [sD_map hs] at k3
  have hi : ss.idxOf z < ss.length := List.idxOf_lt_length_of_mem hm
  refine ⟨a, ss.map V.str, .str z, ss.idxOf z, .str z, rfl, rfl, by rw [← k3.strs]; exact SqL.of k2, rfl, by simp [flatV], ?_, by rw [eqV_str]; exact beq_self_eq_true _, fun m z' hm hz => ?_, (hp.trans (g1.trans g2)).here (x := .f _) S2 (.int _) q⟩
  · rw [List.getElem?_map, List.getElem?_eq_getElem hi, List.getElem_idxOf hi]; rfl
  · rw [List.getElem?_map] at hz
    cases ez : ss[m]? with
    | none => rw [ez] at hz; cases hz
    | some t =>
      rw [ez] at hz
      cases hz
      rw [eqV_str]
      exact idx_no m t hm ez
theorem mt_indexK {X : L2.Cx} {K : PySem.W.Frag} (h : X.K = K) : MtR X "list.index" (rIndex K) := h ▸ mt_index
/-- y = ('..', tuple(x.pop())), x an own list of own lists -/
def mPopTup (i k : Nat) (s : Str) : MS := fun D ρ => ∃ dss ds, getS ρ i = .own (.lls (dss ++ [ds])) ∧ D.nx ((ρ.set i (.own (.lls dss))).set k (.fz (.tup [.str s, .tup ds])))
theorem s_poptup {i k : Nat} {s : Str} : PurS K (tAsg (tTup (tCons (tC (.str s)) (tCons (tCB (rTupleO K) (tCons (tBM0 K "list" rPop (tVar i)) tNil)) tNil))) (gName k)) (mPopTup i k s) := by
  intro c F O ρ σ H D D' S R hm
  obtain ⟨dss, ds, hs, q⟩ := hm
  obtain ⟨a, bs, h0, h1, h2, nd, inn⟩ := S.nest hs
  obtain ⟨cs, b, rfl⟩ : ∃ cs b, bs = cs ++ [b] := by
    rcases List.eq_nil_or_concat bs with rfl | ⟨l, x, e⟩
    · have := inn.1; simp at this
    · exact ⟨l, x, by rw [e, List.concat_eq_append]⟩
  have lc : cs.length = dss.length := by have := inn.1; simpa using this
  obtain ⟨ws, l1, l2⟩ := inn.2 cs.length b ds (by simp) (by rw [lc]; simp)
  have nd' := List.nodup_cons.mp nd
  have ab : b ≠ a := fun e => nd'.1 (by rw [← e]; simp)
  have S1 : Sim K c F O (ρ.set i (.own (.lls dss))) σ (upd H a (.lst (cs.map V.ref))) := by
    refine S.mutG (ds := .lls dss) (h' := .lst (cs.map V.ref)) h1 h1 h0 upd_same ⟨cs, rfl, ?_, lc, fun j x es k1 k2 => ?_⟩
    · refine List.nodup_cons.mpr ⟨fun m => nd'.1 (List.mem_append_left _ m), ?_⟩
      exact (List.nodup_append.mp nd'.2).1
    · have jl : j < cs.length := (List.getElem?_eq_some_iff.mp k1).1
      obtain ⟨us, m1, m2⟩ := inn.2 j x es (by rw [List.getElem?_append_left jl]; exact k1) (by rw [List.getElem?_append_left (by omega)]; exact k2)
      have xa : x ≠ a := fun e => nd'.1 (by rw [← e]; exact List.mem_append_left _ (List.mem_of_getElem? k1))
      exact ⟨us, ⟨m1.1, by rw [upd_ne xa]; exact m1.2⟩, m2⟩
  have hb : upd H a (.lst (cs.map V.ref)) b = some (.lst ws) := by rw [upd_ne ab]; exact l1.2
  refine ⟨_, h0, .inl ⟨rfl, _, SqL.of h2⟩, a, (cs ++ [b]).map V.ref, .ref b, rfl, rfl, h2, by simp, ?_⟩
  rw [show ((cs ++ [b]).map V.ref).dropLast = cs.map V.ref by rw [List.map_append]; exact List.dropLast_concat]
  refine ⟨b, ws, rfl, .inl ⟨SqL.of hb, fun p np => ?_⟩⟩
  refine ⟨(by decide : 2 ≤ sizeLine), fun p2 np2 => ?_⟩
  have S2 := S1.new (o := .tup ws) np
  have fp : F p = none := S1.fh.free np
  have S3 := S2.new (o := .tup [.str s, .ref p]) np2
  have x1 : Ex F (upd F p (.tup ws)) := Ex.refl.new fp
  have fp2 : upd F p (.tup ws) p2 = none := S2.fh.free np2
  have x2 : Ex (upd F p (.tup ws)) (upd (upd F p (.tup ws)) p2 (.tup [.str s, .ref p])) := Ex.refl.new fp2
  refine R.nx _ _ _ _ _ (x1.trans x2) (S3.setF (i := k) (s := .fz (.tup [.str s, .tup ds])) (v := some (.ref p2)) ⟨_, rfl, .tup (SqT.of upd_same) (.cons (.str _) (.cons (.tup (SqT.of (x2 _ _ upd_same)) (l2.mono (x1.trans x2))) .nil))⟩) q
end
theorem w_is {R : List D → Bool → Prop} {ρ : Env} {me : ME} : mIS me ρ R = me ρ (kIS R) := rfl
theorem w_is1 {R : List D → Bool → Prop} {z : Str} : kIS R (.f (.str z)) = R (signs z) true := propext ⟨fun ⟨_, e, h⟩ => by cases e; exact h, fun h => ⟨_, rfl, h⟩⟩
theorem w_idx {me my : ME} {ρ : Env} {Q : X → Prop} : mIdx me my ρ Q = me ρ fun x => ∃ ds ss, x.n.L = some ds ∧ sD ds = some ss ∧ my ρ fun y => ∃ c, y.n = .f (.str c) ∧ c ∈ ss ∧ Q (.f (.int (ss.idxOf c : Nat))) := rfl
theorem w_poptup {i k : Nat} {s : Str} {D : Pd} {ρ : Env} : mPopTup i k s D ρ = ∃ dss ds, getS ρ i = .own (.lls (dss ++ [ds])) ∧ D.nx ((ρ.set i (.own (.lls dss))).set k (.fz (.tup [.str s, .tup ds]))) := rfl
theorem join_len {ys : List Str} : (Txt.join (Str.ofString "") ys).length = (ys.map (·.length)).sum := by
  rw [TL.join_eq]
  have en : ∀ x : Str, x.length = (TL.tl x).length := fun x => rfl
  have ej : ∀ l : List (List Nat), (TL.joinL (TL.tl (Str.ofString "")) l).length = (l.map List.length).sum := by
    intro l
    have e0 : TL.tl (Str.ofString "") = [] := rfl
    rw [e0]
    induction l with
    | nil => rfl
    | cons x l ih =>
      cases l with
      | nil => simp [TL.joinL]
      | cons y l => 
        have : TL.joinL [] (x :: y :: l) = x ++ ([] ++ TL.joinL [] (y :: l)) := rfl
        rw [this, List.nil_append, List.length_append, ih]; simp
  rw [en, TL.tl_join, ej, List.map_map]; rfl
end Pl
/-! Pl15: max, min of a list of pairs of ints. -/
namespace Mmp
open PySem PyProof.Rows
abbrev Old (h0 h : Heap) : Prop := ∀ b o, h0.get? b = some o → h.get? b = some o
/-- v is a best of vs -/
def Best (bt : Value → Value → Bool) (vs : List Value) (v : Value) : Prop := v ∈ vs ∧ ∀ u, u ∈ vs → bt u v = false
theorem Best.snoc {bt : Value → Value → Bool} (ir : ∀ x, bt x x = false) (tr : ∀ x y z, bt x y = false → bt y z = false → bt x z = false) (as : ∀ x y, bt x y = true → bt y x = false) {vs : List Value} {v x : Value} (h : Best bt vs v) : Best bt (vs ++ [x]) (if bt x v = true then x else v) := by
  cases e : bt x v with
  | true =>
    rw [if_pos rfl]
    refine ⟨by simp, fun u m => ?_⟩
    rcases List.mem_append.mp m with m | m
    · exact tr _ _ _ (h.2 u m) (as _ _ e)
    · rw [List.mem_singleton.mp m]; exact ir x
  | false =>
    rw [if_neg (by decide)]
    refine ⟨List.mem_append_left _ h.1, fun u m => ?_⟩
    rcases List.mem_append.mp m with m | m
    · exact h.2 u m
    · rw [List.mem_singleton.mp m]; exact e
section
variable {prog : Program} {w : World} {A : Around} {R : Result → Shared → Prop} {I : Addr} {fp wr : List Addr} {P : Nat → Value → Prop} {St : Nat → Heap → Prop}

theorem mx_loop {h0 : Heap} {vs : List Value} {bt : Value → Value → Bool} (ir : ∀ x, bt x x = false) (tr : ∀ x y z, bt x y = false → bt y z = false → bt x z = false) (as : ∀ x y, bt x y = true → bt y x = false)
    (W : Walks prog w A.in1 I fp wr vs.length P St) (hP : ∀ i v, P i v → vs[i]? = some v) (D : Addr) (dF : D ∉ fp) (dN : h0.get? D = none) (wN : ∀ b, b ∈ wr → h0.get? b = none)
    (hc : ∀ s : Shared, Old h0 s.heap → ∀ x ∈ vs, ∀ y ∈ vs, SeqAt.RcOp .Gt A.in1 s x y (bt x y)) : ∀ (m j : Nat) (s : Shared) (g : Value) (c : Nat), j + 1 + m = vs.length → Old h0 s.heap → St (j + 1) s.heap → Best bt (vs.take (j + 1)) g →
    s.heap.get? D = some { cls := .type "list", data := .seq #[g, g] c } → (∀ v h' tk, Best bt vs v → Old h0 h' → R (.ok (.ret v)) { s with heap := h', toks := tk }) → codeAny (model prog w) A (.builtin "max.loop" ⟨[.ref I, .none, .ref D], []⟩) R s := by
  have dW : D ∉ wr := fun q => dF (W.sub _ q)
  have nm : (toString "max" ++ toString ".loop" : String) = "max.loop" := by decide
  intro m
  induction m with
  | zero =>
    intro j s g c e K st B d r
    have e : j + 1 = vs.length := by omega
    refine codeAny_builtin PySem.F.entry_max_loop (?_); rw [Around.under_plainId PySem.F.plain_max_loop _]
    show wpAny _ A.in1 (seqItems? (Value.ref D) >>= fun _ => _) _ _ s
    refine wpAny_bind <| wpAny_seqItems d rfl ?_
    show wpAny _ A.in1 (tryCatch (pyNext (Value.ref I)) (fun _ => _) >>= fun _ => _) _ _ s
    refine wpAny_bind <| wpAny_tryCatch <| W.done s _ _ (e ▸ st) fun h' tk k => ?_
    show wpAny _ A.in1 (updateSeq D (fun _ => #[]) >>= fun _ => _) _ _ _
    refine wpAny_bind <| wpAny_updateSeq (k D _ dW d) rfl <| wpAny_bind <| wpAny_letGo <| wpAny_pure <| r g _ tk ?_ fun b o q => ?_
    · rw [e, List.take_length] at B; exact B
    · refine (Heap.get?_update_other _ _ fun z => ?_).trans (k b o (fun z => ?_) (K b o q))
      · rw [z, q] at dN; cases dN
      · rw [wN b z] at q; cases q
  | succ m ih =>
    intro j s g c e K st B d r
    refine codeAny_builtin PySem.F.entry_max_loop (?_); rw [Around.under_plainId PySem.F.plain_max_loop _]
    show wpAny _ A.in1 (seqItems? (Value.ref D) >>= fun _ => _) _ _ s
    refine wpAny_bind <| wpAny_seqItems d rfl ?_
    show wpAny _ A.in1 (tryCatch (pyNext (Value.ref I)) (fun _ => _) >>= fun _ => _) _ _ s
    refine wpAny_bind <| wpAny_tryCatch <| W.item (j + 1) s _ _ (by omega) st fun v h' tk pv st' k => ?_
    have ev := hP _ _ pv
    have K' : Old h0 h' := fun b o q => k b o (fun z => by rw [wN b z] at q; cases q) (K b o q)
    have d' := k D _ dW d
    have B' : Best bt (vs.take (j + 1 + 1)) (if bt v g = true then v else g) := by
      rw [List.take_succ, ev]; exact B.snoc ir tr as
    show wpAny _ A.in1 (tryCatch (holding [v, v] (richCompare .Gt v g >>= fun _ => _)) (fun _ => _) >>= fun _ => _) _ _ _
    refine wpAny_bind <| wpAny_tryCatch <| wpAny_holding <| wpAny_bind <| hc _ K' v (List.mem_of_getElem? ev) g (List.mem_of_mem_take B.1) prog w _ _ ?_
    refine wpAny_bind <| wpAny_holding <| wpAny_truthy_bool <| ?_
    refine wpAny_bind <| wpAny_letGo <| wpAny_pure <| ?_
    cases hb : bt v g with
    | true =>
      rw [hb, if_pos rfl] at B'
      simp only [if_true]
      refine wpAny_bind (?_)
      refine wpAny_updateSeq d' rfl <| wpAny_bind <| wpAny_letGo <| ?_
      rw [nm]
      refine wpAny_pure ⟨plainId_quiet PySem.F.plain_max_loop _, ih (j + 1) _ v _ (by omega) (fun b o q => ?_) (W.frame _ _ _ st' fun b hf o q => ?_) B' (Heap.get?_update_self _ d' rfl) fun v' h2 t2 b2 k2 => r v' h2 t2 b2 k2⟩
      · exact (Heap.get?_update_other _ _ fun z => by rw [z, q] at dN; cases dN).trans (K' b o q)
      · exact (Heap.get?_update_other _ _ fun z => dF (by rw [z]; exact hf)).trans q
    | false =>
      rw [hb, if_neg (by decide)] at B'
      simp only [Bool.false_eq_true, if_false]
      refine wpAny_bind <| wpAny_letGo <| ?_
      rw [nm]
      exact wpAny_pure ⟨plainId_quiet PySem.F.plain_max_loop _, ih (j + 1) _ g c (by omega) K' st' B' d' fun v' h2 t2 b2 k2 => r v' h2 t2 b2 k2⟩
theorem mx_first {h0 : Heap} {vs : List Value} {bt : Value → Value → Bool} (ir : ∀ x, bt x x = false) (tr : ∀ x y z, bt x y = false → bt y z = false → bt x z = false) (as : ∀ x y, bt x y = true → bt y x = false)
    (W : Walks prog w A.in1 I fp wr vs.length P St) (hP : ∀ i v, P i v → vs[i]? = some v) (D : Addr) (dF : D ∉ fp) (dN : h0.get? D = none) (wN : ∀ b, b ∈ wr → h0.get? b = none)
    (hc : ∀ s : Shared, Old h0 s.heap → ∀ x ∈ vs, ∀ y ∈ vs, SeqAt.RcOp .Gt A.in1 s x y (bt x y)) {s : Shared} {c : Nat} (n0 : 0 < vs.length) (K : Old h0 s.heap) (st : St 0 s.heap)
    (d : s.heap.get? D = some { cls := .type "list", data := .seq #[] c }) (r : ∀ v h' tk, Best bt vs v → Old h0 h' → R (.ok (.ret v)) { s with heap := h', toks := tk }) : codeAny (model prog w) A (.builtin "max.loop" ⟨[.ref I, .none, .ref D], []⟩) R s := by
  have dW : D ∉ wr := fun q => dF (W.sub _ q)
  have nm : (toString "max" ++ toString ".loop" : String) = "max.loop" := by decide
  refine codeAny_builtin PySem.F.entry_max_loop (?_); rw [Around.under_plainId PySem.F.plain_max_loop _]
  show wpAny _ A.in1 (seqItems? (Value.ref D) >>= fun _ => _) _ _ s
  refine wpAny_bind <| wpAny_seqItems d rfl ?_
  show wpAny _ A.in1 (tryCatch (pyNext (Value.ref I)) (fun _ => _) >>= fun _ => _) _ _ s
  refine wpAny_bind <| wpAny_tryCatch <| W.item 0 s _ _ n0 st fun v h' tk pv st' k => ?_
  have ev := hP _ _ pv
  have K' : Old h0 h' := fun b o q => k b o (fun z => by rw [wN b z] at q; cases q) (K b o q)
  have d' := k D _ dW d
  show wpAny _ A.in1 (updateSeq D (fun _ => #[v, v]) >>= fun _ => _) _ _ _
  refine wpAny_bind (?_)
  refine wpAny_updateSeq d' rfl (?_)
  rw [nm]
  refine wpAny_pure ⟨plainId_quiet PySem.F.plain_max_loop _, mx_loop ir tr as W hP D dF dN wN hc (vs.length - 1) 0 _ v _ (by omega) (fun b o q => ?_) (W.frame _ _ _ st' fun b hf o q => ?_) ⟨?_, fun u m => ?_⟩ (Heap.get?_update_self _ d' rfl) fun v' h2 t2 b2 k2 => r v' h2 t2 b2 k2⟩
  · exact (Heap.get?_update_other _ _ fun z => by rw [z, q] at dN; cases dN).trans (K' b o q)
  · exact (Heap.get?_update_other _ _ fun z => dF (by rw [z]; exact hf)).trans q
  · rw [List.take_succ, ev]; simp
  · rw [List.take_succ, ev] at m
    have m : u = v := by simpa using m
    rw [m]; exact ir v
theorem call_maxP {E : Value → Shared → Prop} {s : Shared} {l : Addr} {vs : List Value} {bt : Value → Value → Bool} {Q : Value → Shared → Prop} (ir : ∀ x, bt x x = false) (tr : ∀ x y z, bt x y = false → bt y z = false → bt x z = false) (as : ∀ x y, bt x y = true → bt y x = false)
    (hh : A.handled = none) (hl : s.heap.IsList l vs.toArray) (n0 : 0 < vs.length) (hc : ∀ s2 : Shared, Old s.heap s2.heap → ∀ x ∈ vs, ∀ y ∈ vs, SeqAt.RcOp .Gt A.in1 s2 x y (bt x y))
    (r : ∀ v h' tk, Best bt vs v → Old s.heap h' → Q v { s with heap := h', toks := tk }) : wpAny (model prog w) A (call (.builtin "max") [.ref l]) Q E s := by
  have nm : (toString "max" ++ toString ".loop" : String) = "max.loop" := by decide
  have ll : l < s.heap.objs.size := by obtain ⟨_, e, _⟩ := hl; exact Heap.lt_size e
  refine call_function_tree PySem.F.kind_max PySem.F.plain_max PySem.F.entry_max (PySem.F.args_max1 _) (?_)
  show wpAny _ A.in1 (Builtin.Builtins.bindParams "max" ["key", "default"] 0 ⟨[], []⟩ >>= fun _ => _) _ _ s
  refine wpAny_bind <| wpAny_of_eq (show Builtin.Builtins.bindParams "max" _ 0 ⟨[], []⟩ = pure [none, none] from rfl) ?_
  refine wpAny_bind <| wpAny_pure ?_
  refine wpAny_bind <| wpAny_pyIter_list hl ?_
  refine wpAny_bind <| wpAny_newObj_type ?_
  rw [nm]
  have hI : ∀ o, ∃ n, (s.heap.push o).objs.size = s.heap.objs.size + 1 ∧ n = 0 := fun o => ⟨0, Heap.size_push .., rfl⟩
  have gone : ∀ b, s.heap.objs.size ≤ b → s.heap.get? b = none := fun b hb => by
    cases q : s.heap.get? b with
    | none => rfl
    | some o => exact absurd (Heap.lt_size q) (Nat.not_lt.mpr hb)
  refine wpAny_pure ⟨plainId_quiet PySem.F.plain_max_loop _, mx_first (h0 := s.heap) ir tr as (Walks.list (A := A.in1) hh s.heap.objs.size l (Nat.ne_of_lt ll) vs.toArray) (fun i v q => ?_) _ ?_ ?_ ?_ ?_ n0 (fun b o q => Heap.get?_push_of_some _ (Heap.get?_push_of_some _ q)) ⟨?_, ?_⟩ (Heap.get?_push_size _ rfl) fun v h' tk b k => r v h' tk b k⟩
  · rw [← List.getElem?_toArray]; exact q
  · intro m
    have e : (s.heap.push { cls := .type "list_iterator", data := .fields #[.ref l, .int 0 0] }).objs.size = s.heap.objs.size + 1 := Heap.size_push ..
    rcases List.mem_cons.mp m with m | m
    · have := e.symm.trans m; omega
    · have h2 := e.symm.trans (List.mem_singleton.mp m)
      rw [← h2] at ll
      exact absurd ll (Nat.not_lt.mpr (Nat.le_succ _))
  · refine gone _ ?_
    show s.heap.objs.size ≤ (s.heap.push _).objs.size
    rw [Heap.size_push]; exact Nat.le_succ _
  · intro b m
    rw [List.mem_singleton.mp m]; exact gone _ (Nat.le_refl _)
  · exact fun s2 k x hx y hy => hc s2 k x (by simpa using hx) y (by simpa using hy)
  · exact ⟨_, Heap.get?_push_of_some _ (Heap.get?_push_size _ rfl), rfl, rfl⟩
  · exact (hl.push _).push _

theorem mn_loop {h0 : Heap} {vs : List Value} {bt : Value → Value → Bool} (ir : ∀ x, bt x x = false) (tr : ∀ x y z, bt x y = false → bt y z = false → bt x z = false) (as : ∀ x y, bt x y = true → bt y x = false)
    (W : Walks prog w A.in1 I fp wr vs.length P St) (hP : ∀ i v, P i v → vs[i]? = some v) (D : Addr) (dF : D ∉ fp) (dN : h0.get? D = none) (wN : ∀ b, b ∈ wr → h0.get? b = none)
    (hc : ∀ s : Shared, Old h0 s.heap → ∀ x ∈ vs, ∀ y ∈ vs, SeqAt.RcOp .Lt A.in1 s x y (bt x y)) : ∀ (m j : Nat) (s : Shared) (g : Value) (c : Nat), j + 1 + m = vs.length → Old h0 s.heap → St (j + 1) s.heap → Best bt (vs.take (j + 1)) g →
    s.heap.get? D = some { cls := .type "list", data := .seq #[g, g] c } → (∀ v h' tk, Best bt vs v → Old h0 h' → R (.ok (.ret v)) { s with heap := h', toks := tk }) → codeAny (model prog w) A (.builtin "min.loop" ⟨[.ref I, .none, .ref D], []⟩) R s := by
  have dW : D ∉ wr := fun q => dF (W.sub _ q)
  have nm : (toString "min" ++ toString ".loop" : String) = "min.loop" := by decide
  intro m
  induction m with
  | zero =>
    intro j s g c e K st B d r
    have e : j + 1 = vs.length := by omega
    refine codeAny_builtin PySem.F.entry_min_loop (?_); rw [Around.under_plainId PySem.F.plain_min_loop _]
    show wpAny _ A.in1 (seqItems? (Value.ref D) >>= fun _ => _) _ _ s
    refine wpAny_bind <| wpAny_seqItems d rfl ?_
    show wpAny _ A.in1 (tryCatch (pyNext (Value.ref I)) (fun _ => _) >>= fun _ => _) _ _ s
    refine wpAny_bind <| wpAny_tryCatch <| W.done s _ _ (e ▸ st) fun h' tk k => ?_
    show wpAny _ A.in1 (updateSeq D (fun _ => #[]) >>= fun _ => _) _ _ _
    refine wpAny_bind <| wpAny_updateSeq (k D _ dW d) rfl <| wpAny_bind <| wpAny_letGo <| wpAny_pure <| r g _ tk ?_ fun b o q => ?_
    · rw [e, List.take_length] at B; exact B
    · refine (Heap.get?_update_other _ _ fun z => ?_).trans (k b o (fun z => ?_) (K b o q))
      · rw [z, q] at dN; cases dN
      · rw [wN b z] at q; cases q
  | succ m ih =>
    intro j s g c e K st B d r
    refine codeAny_builtin PySem.F.entry_min_loop (?_); rw [Around.under_plainId PySem.F.plain_min_loop _]
    show wpAny _ A.in1 (seqItems? (Value.ref D) >>= fun _ => _) _ _ s
    refine wpAny_bind <| wpAny_seqItems d rfl ?_
    show wpAny _ A.in1 (tryCatch (pyNext (Value.ref I)) (fun _ => _) >>= fun _ => _) _ _ s
    refine wpAny_bind <| wpAny_tryCatch <| W.item (j + 1) s _ _ (by omega) st fun v h' tk pv st' k => ?_
    have ev := hP _ _ pv
    have K' : Old h0 h' := fun b o q => k b o (fun z => by rw [wN b z] at q; cases q) (K b o q)
    have d' := k D _ dW d
    have B' : Best bt (vs.take (j + 1 + 1)) (if bt v g = true then v else g) := by
      rw [List.take_succ, ev]; exact B.snoc ir tr as
    show wpAny _ A.in1 (tryCatch (holding [v, v] (richCompare .Lt v g >>= fun _ => _)) (fun _ => _) >>= fun _ => _) _ _ _
    refine wpAny_bind <| wpAny_tryCatch <| wpAny_holding <| wpAny_bind <| hc _ K' v (List.mem_of_getElem? ev) g (List.mem_of_mem_take B.1) prog w _ _ ?_
    refine wpAny_bind <| wpAny_holding <| wpAny_truthy_bool <| ?_
    refine wpAny_bind <| wpAny_letGo <| wpAny_pure <| ?_
    cases hb : bt v g with
    | true =>
      rw [hb, if_pos rfl] at B'
      simp only [if_true]
      refine wpAny_bind (?_)
      refine wpAny_updateSeq d' rfl <| wpAny_bind <| wpAny_letGo <| ?_
      rw [nm]
      refine wpAny_pure ⟨plainId_quiet PySem.F.plain_min_loop _, ih (j + 1) _ v _ (by omega) (fun b o q => ?_) (W.frame _ _ _ st' fun b hf o q => ?_) B' (Heap.get?_update_self _ d' rfl) fun v' h2 t2 b2 k2 => r v' h2 t2 b2 k2⟩
      · exact (Heap.get?_update_other _ _ fun z => by rw [z, q] at dN; cases dN).trans (K' b o q)
      · exact (Heap.get?_update_other _ _ fun z => dF (by rw [z]; exact hf)).trans q
    | false =>
      rw [hb, if_neg (by decide)] at B'
      simp only [Bool.false_eq_true, if_false]
      refine wpAny_bind <| wpAny_letGo <| ?_
      rw [nm]
      exact wpAny_pure ⟨plainId_quiet PySem.F.plain_min_loop _, ih (j + 1) _ g c (by omega) K' st' B' d' fun v' h2 t2 b2 k2 => r v' h2 t2 b2 k2⟩
theorem mn_first {h0 : Heap} {vs : List Value} {bt : Value → Value → Bool} (ir : ∀ x, bt x x = false) (tr : ∀ x y z, bt x y = false → bt y z = false → bt x z = false) (as : ∀ x y, bt x y = true → bt y x = false)
    (W : Walks prog w A.in1 I fp wr vs.length P St) (hP : ∀ i v, P i v → vs[i]? = some v) (D : Addr) (dF : D ∉ fp) (dN : h0.get? D = none) (wN : ∀ b, b ∈ wr → h0.get? b = none)
    (hc : ∀ s : Shared, Old h0 s.heap → ∀ x ∈ vs, ∀ y ∈ vs, SeqAt.RcOp .Lt A.in1 s x y (bt x y)) {s : Shared} {c : Nat} (n0 : 0 < vs.length) (K : Old h0 s.heap) (st : St 0 s.heap)
    (d : s.heap.get? D = some { cls := .type "list", data := .seq #[] c }) (r : ∀ v h' tk, Best bt vs v → Old h0 h' → R (.ok (.ret v)) { s with heap := h', toks := tk }) : codeAny (model prog w) A (.builtin "min.loop" ⟨[.ref I, .none, .ref D], []⟩) R s := by
  have dW : D ∉ wr := fun q => dF (W.sub _ q)
  have nm : (toString "min" ++ toString ".loop" : String) = "min.loop" := by decide
  refine codeAny_builtin PySem.F.entry_min_loop (?_); rw [Around.under_plainId PySem.F.plain_min_loop _]
  show wpAny _ A.in1 (seqItems? (Value.ref D) >>= fun _ => _) _ _ s
  refine wpAny_bind <| wpAny_seqItems d rfl ?_
  show wpAny _ A.in1 (tryCatch (pyNext (Value.ref I)) (fun _ => _) >>= fun _ => _) _ _ s
  refine wpAny_bind <| wpAny_tryCatch <| W.item 0 s _ _ n0 st fun v h' tk pv st' k => ?_
  have ev := hP _ _ pv
  have K' : Old h0 h' := fun b o q => k b o (fun z => by rw [wN b z] at q; cases q) (K b o q)
  have d' := k D _ dW d
  show wpAny _ A.in1 (updateSeq D (fun _ => #[v, v]) >>= fun _ => _) _ _ _
  refine wpAny_bind (?_)
  refine wpAny_updateSeq d' rfl (?_)
  rw [nm]
  refine wpAny_pure ⟨plainId_quiet PySem.F.plain_min_loop _, mn_loop ir tr as W hP D dF dN wN hc (vs.length - 1) 0 _ v _ (by omega) (fun b o q => ?_) (W.frame _ _ _ st' fun b hf o q => ?_) ⟨?_, fun u m => ?_⟩ (Heap.get?_update_self _ d' rfl) fun v' h2 t2 b2 k2 => r v' h2 t2 b2 k2⟩
  · exact (Heap.get?_update_other _ _ fun z => by rw [z, q] at dN; cases dN).trans (K' b o q)
  · exact (Heap.get?_update_other _ _ fun z => dF (by rw [z]; exact hf)).trans q
  · rw [List.take_succ, ev]; simp
  · rw [List.take_succ, ev] at m
    have m : u = v := by simpa using m
    rw [m]; exact ir v
theorem call_minP {E : Value → Shared → Prop} {s : Shared} {l : Addr} {vs : List Value} {bt : Value → Value → Bool} {Q : Value → Shared → Prop} (ir : ∀ x, bt x x = false) (tr : ∀ x y z, bt x y = false → bt y z = false → bt x z = false) (as : ∀ x y, bt x y = true → bt y x = false)
    (hh : A.handled = none) (hl : s.heap.IsList l vs.toArray) (n0 : 0 < vs.length) (hc : ∀ s2 : Shared, Old s.heap s2.heap → ∀ x ∈ vs, ∀ y ∈ vs, SeqAt.RcOp .Lt A.in1 s2 x y (bt x y))
    (r : ∀ v h' tk, Best bt vs v → Old s.heap h' → Q v { s with heap := h', toks := tk }) : wpAny (model prog w) A (call (.builtin "min") [.ref l]) Q E s := by
  have nm : (toString "min" ++ toString ".loop" : String) = "min.loop" := by decide
  have ll : l < s.heap.objs.size := by obtain ⟨_, e, _⟩ := hl; exact Heap.lt_size e
  refine call_function_tree PySem.F.kind_min PySem.F.plain_min PySem.F.entry_min (PySem.F.args_min1 _) (?_)
  show wpAny _ A.in1 (Builtin.Builtins.bindParams "min" ["key", "default"] 0 ⟨[], []⟩ >>= fun _ => _) _ _ s
  refine wpAny_bind <| wpAny_of_eq (show Builtin.Builtins.bindParams "min" _ 0 ⟨[], []⟩ = pure [none, none] from rfl) ?_
  refine wpAny_bind <| wpAny_pure ?_
  refine wpAny_bind <| wpAny_pyIter_list hl ?_
  refine wpAny_bind <| wpAny_newObj_type ?_
  rw [nm]
  have hI : ∀ o, ∃ n, (s.heap.push o).objs.size = s.heap.objs.size + 1 ∧ n = 0 := fun o => ⟨0, Heap.size_push .., rfl⟩
  have gone : ∀ b, s.heap.objs.size ≤ b → s.heap.get? b = none := fun b hb => by
    cases q : s.heap.get? b with
    | none => rfl
    | some o => exact absurd (Heap.lt_size q) (Nat.not_lt.mpr hb)
  refine wpAny_pure ⟨plainId_quiet PySem.F.plain_min_loop _, mn_first (h0 := s.heap) ir tr as (Walks.list (A := A.in1) hh s.heap.objs.size l (Nat.ne_of_lt ll) vs.toArray) (fun i v q => ?_) _ ?_ ?_ ?_ ?_ n0 (fun b o q => Heap.get?_push_of_some _ (Heap.get?_push_of_some _ q)) ⟨?_, ?_⟩ (Heap.get?_push_size _ rfl) fun v h' tk b k => r v h' tk b k⟩
  · rw [← List.getElem?_toArray]; exact q
  · intro m
    have e : (s.heap.push { cls := .type "list_iterator", data := .fields #[.ref l, .int 0 0] }).objs.size = s.heap.objs.size + 1 := Heap.size_push ..
    rcases List.mem_cons.mp m with m | m
    · have := e.symm.trans m; omega
    · have h2 := e.symm.trans (List.mem_singleton.mp m)
      rw [← h2] at ll
      exact absurd ll (Nat.not_lt.mpr (Nat.le_succ _))
  · refine gone _ ?_
    show s.heap.objs.size ≤ (s.heap.push _).objs.size
    rw [Heap.size_push]; exact Nat.le_succ _
  · intro b m
    rw [List.mem_singleton.mp m]; exact gone _ (Nat.le_refl _)
  · exact fun s2 k x hx y hy => hc s2 k x (by simpa using hx) y (by simpa using hy)
  · exact ⟨_, Heap.get?_push_of_some _ (Heap.get?_push_size _ rfl), rfl, rfl⟩
  · exact (hl.push _).push _

/-- pairs of ints -/
def bet (p q : Int × Int) : Bool := decide (q.1 < p.1) || (decide (q.1 = p.1) && decide (q.2 < p.2))
theorem bet_ir (p : Int × Int) : bet p p = false := by unfold bet; simp
theorem bet_tr (p q r : Int × Int) (h1 : bet p q = false) (h2 : bet q r = false) : bet p r = false := by
  unfold bet at *
  simp only [Bool.or_eq_false_iff, Bool.and_eq_false_iff, decide_eq_false_iff_not] at *
  omega
theorem bet_as (p q : Int × Int) (h : bet p q = true) : bet q p = false := by
  unfold bet at *
  simp only [Bool.or_eq_true, Bool.and_eq_true, decide_eq_true_eq, Bool.or_eq_false_iff, Bool.and_eq_false_iff, decide_eq_false_iff_not] at *
  omega
theorem rc_int (A : Around) (s : Shared) (a b : Int) (t u : Tok) : SeqAt.RcOp .Gt A s (.int a t) (.int b u) (decide (a > b)) := fun prog w E Q q =>
  CmpOf.ints_gt (P := fun i v => (i = 0 ∧ v = .int a t) ∨ (i = 1 ∧ v = .int b u)) (fun i => if i = 0 then a else b) (fun i v h => by
    rcases h with ⟨rfl, rfl⟩ | ⟨rfl, rfl⟩
    · exact ⟨_, rfl⟩
    · exact ⟨_, rfl⟩) 0 1 _ _ s Q E (.inl ⟨rfl, rfl⟩) (.inr ⟨rfl, rfl⟩) q
theorem ints2 {its : List Value} {a b : Int} (h : IntsAre its [a, b]) : ∃ t u, its = [.int a t, .int b u] := by
  cases h with
  | cons x t h =>
    cases h with
    | cons y u h =>
      cases h
      exact ⟨_, _, rfl⟩
theorem gt_pair {A : Around} {s : Shared} {x y : Value} {p q : Int × Int} (hx : TS.TupInts s.heap x [p.1, p.2]) (hy : TS.TupInts s.heap y [q.1, q.2]) (hu : A.units < cLine) : SeqAt.RcOp .Gt A s x y (bet p q) := by
  obtain ⟨b1, x1, rfl, t1, i1⟩ := hx
  obtain ⟨b2, x2, rfl, t2, i2⟩ := hy
  obtain ⟨c1, d1, e1⟩ := ints2 i1
  obtain ⟨c2, d2, e2⟩ := ints2 i2
  obtain ⟨x1⟩ := x1
  obtain ⟨x2⟩ := x2
  simp only at e1 e2
  subst e1 e2
  have h := SeqAt.RcOp.tuples_gt (A := A) (s := s) (e := fun j => if j = 0 then p.1 == q.1 else p.2 == q.2) (r := fun j => if j = 0 then decide (p.1 > q.1) else decide (p.2 > q.2)) t1 t2 hu (fun j h1 h2 => ?_) (fun j h1 h2 _ => ?_)
  · have e : SeqAt.firstLt (fun j => if j = 0 then p.1 == q.1 else p.2 == q.2) (fun j => if j = 0 then decide (p.1 > q.1) else decide (p.2 > q.2)) (decide (2 > 2)) (List.range (min 2 2)) = bet p q := by
      show (if (p.1 == q.1) = true then (if (p.2 == q.2) = true then decide (2 > 2) else decide (p.2 > q.2)) else decide (p.1 > q.1)) = bet p q
      unfold bet
      by_cases h1 : p.1 = q.1
      · rw [if_pos (by simp [h1]), h1]
        by_cases h2 : p.2 = q.2
        · rw [if_pos (by simp [h2]), h2]; simp
        · rw [if_neg (by simp [h2])]; simp
      · have h3 : ¬ q.1 = p.1 := fun e => h1 e.symm
        rw [if_neg (by simp [h1])]; simp [h3]
    exact e ▸ h
  · match j, h1, h2 with
    | 0, _, _ => exact SeqAt.EqAt.int_int _ _ _ _
    | 1, _, _ => exact SeqAt.EqAt.int_int _ _ _ _
    | _ + 2, h, _ => exact absurd h (by simp)
  · match j, h1, h2 with
    | 0, _, _ => exact rc_int A.in1 s _ _ _ _
    | 1, _, _ => exact rc_int A.in1 s _ _ _ _
    | _ + 2, h, _ => exact absurd h (by simp)
theorem lt_pair {A : Around} {s : Shared} {x y : Value} {p q : Int × Int} (hx : TS.TupInts s.heap x [p.1, p.2]) (hy : TS.TupInts s.heap y [q.1, q.2]) (hu : A.units < cLine) : SeqAt.RcOp .Lt A s x y (bet q p) := by
  obtain ⟨b1, x1, rfl, t1, i1⟩ := hx
  obtain ⟨b2, x2, rfl, t2, i2⟩ := hy
  intro prog w E Q h
  refine HT.lt_tupInts t1 t2 i1 i2 hu ?_
  have e : HT.lexLt [p.1, p.2] [q.1, q.2] = bet q p := by
    rw [HT.lexLt_cons, HT.lexLt_cons, HT.lexLt_nil_nil]
    unfold bet
    by_cases h1 : p.1 = q.1
    · rw [if_pos h1, h1]
      by_cases h2 : p.2 = q.2
      · rw [if_pos h2, h2]; simp
      · rw [if_neg h2]; simp
    · rw [if_neg h1]; simp [h1]
  rw [e]; exact h
end
end Mmp
namespace Pl
open PySem L2 Wp PyProof.Rows Mmp
def pr (ns : List Int) : Int × Int := (ns.getD 0 0, ns.getD 1 0)
theorem pr_two {ns : List Int} (h : ns.length = 2) : ns = [(pr ns).1, (pr ns).2] := by
  match ns, h with
  | [a, b], _ => rfl
def rMaxP (K : PySem.W.Frag) : List V → Hp → VK → Prop := fun vs H Q => ∃ (a : Addr) (ts : List (Addr × List Int)), vs = [.ref a] ∧ SqL K H a (rf ts) ∧ TsOk K H ts ∧ (∀ p ∈ ts, p.2.length = 2) ∧ 0 < ts.length ∧ ∀ p ∈ ts, (∀ q ∈ ts, bet (pr q.2) (pr p.2) = false) → Q (.ref p.1) H
theorem cr_maxP {X : L2.Cx} (hc : X.calm = true) (hu : X.A.units + 1 < cLine) : CallR X (.builtin "max") (rMaxP X.K) := by
  intro pins s σ H vs us Q I r h
  obtain ⟨a, ts, rfl, hs, ht, h2, n0, q⟩ := h
  obtain ⟨its, rv, hl, hz⟩ := I.list hs
  rw [Vals.ref1 r]
  have e3 := ref_its rv rfl
  subst e3
  have hk : ∀ p ∈ ts, TS.intsOf s.heap (.ref p.1) = p.2 := fun p hp => (tupI_raw I (ht p hp)).ints
  refine call_maxP (bt := fun u v => bet (pr (TS.intsOf s.heap u)) (pr (TS.intsOf s.heap v))) (fun x => bet_ir _) (fun x y z => bet_tr _ _ _) (fun x y => bet_as _ _) (I.ok.hd hc) hl.isList (by rw [List.length_map]; exact n0) (fun s2 k x hx y hy => ?_) fun v h' tk B k => ?_
  · obtain ⟨p, hp, rfl⟩ := List.mem_map.mp hx
    obtain ⟨g, hg, rfl⟩ := List.mem_map.mp hy
    try dsimp only
    rw [hk p hp, hk g hg]
    have tp := (tupI_raw I (ht p hp)).keeps (h' := s2.heap) fun b o e _ => k b o e
    have tg := (tupI_raw I (ht g hg)).keeps (h' := s2.heap) fun b o e _ => k b o e
    rw [pr_two (h2 p hp)] at tp
    rw [pr_two (h2 g hg)] at tg
    exact gt_pair tp tg (by show X.A.units + 1 < cLine; omega)
  · obtain ⟨p, hp, e⟩ := List.mem_map.mp B.1
    subst e
    refine ⟨.ref p.1, H, I.kept k, rfl, q p hp fun g hg => ?_⟩
    have := B.2 (.ref g.1) (List.mem_map_of_mem (f := fun p : Addr × List Int => Value.ref p.1) hg)
    try dsimp only at this
    rw [hk p hp, hk g hg] at this
    exact this
theorem c_maxPK {X : L2.Cx} {K : PySem.W.Frag} (h : X.K = K) (hc : X.calm = true) (hu : X.A.units + 1 < cLine) : CallR X (.builtin "max") (rMaxP K) := h ▸ cr_maxP hc hu
def rMinP (K : PySem.W.Frag) : List V → Hp → VK → Prop := fun vs H Q => ∃ (a : Addr) (ts : List (Addr × List Int)), vs = [.ref a] ∧ SqL K H a (rf ts) ∧ TsOk K H ts ∧ (∀ p ∈ ts, p.2.length = 2) ∧ 0 < ts.length ∧ ∀ p ∈ ts, (∀ q ∈ ts, bet (pr p.2) (pr q.2) = false) → Q (.ref p.1) H
theorem cr_minP {X : L2.Cx} (hc : X.calm = true) (hu : X.A.units + 1 < cLine) : CallR X (.builtin "min") (rMinP X.K) := by
  intro pins s σ H vs us Q I r h
  obtain ⟨a, ts, rfl, hs, ht, h2, n0, q⟩ := h
  obtain ⟨its, rv, hl, hz⟩ := I.list hs
  rw [Vals.ref1 r]
  have e3 := ref_its rv rfl
  subst e3
  have hk : ∀ p ∈ ts, TS.intsOf s.heap (.ref p.1) = p.2 := fun p hp => (tupI_raw I (ht p hp)).ints
  refine call_minP (bt := fun u v => bet (pr (TS.intsOf s.heap v)) (pr (TS.intsOf s.heap u))) (fun x => bet_ir _) (fun x y z h1 h2 => bet_tr _ _ _ h2 h1) (fun x y => bet_as _ _) (I.ok.hd hc) hl.isList (by rw [List.length_map]; exact n0) (fun s2 k x hx y hy => ?_) fun v h' tk B k => ?_
  · obtain ⟨p, hp, rfl⟩ := List.mem_map.mp hx
    obtain ⟨g, hg, rfl⟩ := List.mem_map.mp hy
    try dsimp only
    rw [hk p hp, hk g hg]
    have tp := (tupI_raw I (ht p hp)).keeps (h' := s2.heap) fun b o e _ => k b o e
    have tg := (tupI_raw I (ht g hg)).keeps (h' := s2.heap) fun b o e _ => k b o e
    rw [pr_two (h2 p hp)] at tp
    rw [pr_two (h2 g hg)] at tg
    exact lt_pair tp tg (by show X.A.units + 1 < cLine; omega)
  · obtain ⟨p, hp, e⟩ := List.mem_map.mp B.1
    subst e
    refine ⟨.ref p.1, H, I.kept k, rfl, q p hp fun g hg => ?_⟩
    have := B.2 (.ref g.1) (List.mem_map_of_mem (f := fun p : Addr × List Int => Value.ref p.1) hg)
    try dsimp only at this
    rw [hk p hp, hk g hg] at this
    exact this
theorem c_minPK {X : L2.Cx} {K : PySem.W.Frag} (h : X.K = K) (hc : X.calm = true) (hu : X.A.units + 1 < cLine) : CallR X (.builtin "min") (rMinP K) := h ▸ cr_minP hc hu
abbrev d2 (p : Int × Int) : D := .tup [.int p.1, .int p.2]
theorem d2_tI (ps : List (Int × Int)) : ps.map d2 = (ps.map fun p => [p.1, p.2]).map tI := by rw [List.map_map]; rfl
def pMaxP (xs : List X) (Q : X → Prop) : Prop := ∃ (x : X) (ps : List (Int × Int)), xs = [x] ∧ x.L = some (ps.map d2) ∧ 0 < ps.length ∧ ∀ p ∈ ps, (∀ q ∈ ps, bet q p = false) → Q (.f (d2 p))
theorem c_maxP {K : PySem.W.Frag} : PurRL K (rMaxP K) pMaxP := by
  intro c F O ρ σ H Q Q' xs vs S r hm hp
  obtain ⟨x, ps, rfl, h1, n0, q⟩ := hm
  obtain ⟨v, rfl, r1⟩ := xms1 r
  rw [d2_tI] at h1
  obtain ⟨a, vs, rfl, hs, rs⟩ := xm_L S r1 h1
  obtain ⟨ts, rfl, e2, ht⟩ := reps_ti rs
  have hl : ts.length = ps.length := by rw [← List.length_map (f := Prod.snd), e2, List.length_map]
  have mem : ∀ t ∈ ts, ∃ p ∈ ps, t.2 = [p.1, p.2] := fun t h => by
    have h := List.mem_map_of_mem (f := Prod.snd) h
    rw [e2] at h
    obtain ⟨p, hp, e⟩ := List.mem_map.mp h
    exact ⟨p, hp, e.symm⟩
  have meb : ∀ p ∈ ps, ∃ t ∈ ts, t.2 = [p.1, p.2] := fun p h => by
    have h := List.mem_map_of_mem (f := fun p : Int × Int => [p.1, p.2]) h
    rw [← e2] at h
    obtain ⟨t, ht, e⟩ := List.mem_map.mp h
    exact ⟨t, ht, e⟩
  refine ⟨a, ts, rfl, SqL.of hs, fun p hp => sqt_ex S.fh (ht p hp), fun t h => by obtain ⟨p, _, e⟩ := mem t h; rw [e]; rfl, by omega, fun t h hb => ?_⟩
  obtain ⟨p, hpp, e⟩ := mem t h
  have rp : Rep K F (.ref t.1) (d2 p) := by
    have := ht t h
    rw [e] at this
    exact .tup this (Reps.ofInts [p.1, p.2])
  refine hp.here (x := .f _) S rp (q p hpp fun g hg => ?_)
  obtain ⟨u, hu, eu⟩ := meb g hg
  have := hb u hu
  rw [e, eu] at this
  exact this
theorem w_maxP {x : X} {Q : X → Prop} : pMaxP [x] Q = ∃ ps : List (Int × Int), x.L = some (ps.map d2) ∧ 0 < ps.length ∧ ∀ p ∈ ps, (∀ q ∈ ps, bet q p = false) → Q (.f (d2 p)) := propext ⟨fun ⟨_, ps, e, h⟩ => by cases e; exact ⟨ps, h⟩, fun ⟨ps, h⟩ => ⟨_, ps, rfl, h⟩⟩
def pMinP (xs : List X) (Q : X → Prop) : Prop := ∃ (x : X) (ps : List (Int × Int)), xs = [x] ∧ x.L = some (ps.map d2) ∧ 0 < ps.length ∧ ∀ p ∈ ps, (∀ q ∈ ps, bet p q = false) → Q (.f (d2 p))
theorem c_minP {K : PySem.W.Frag} : PurRL K (rMinP K) pMinP := by
  intro c F O ρ σ H Q Q' xs vs S r hm hp
  obtain ⟨x, ps, rfl, h1, n0, q⟩ := hm
  obtain ⟨v, rfl, r1⟩ := xms1 r
  rw [d2_tI] at h1
  obtain ⟨a, vs, rfl, hs, rs⟩ := xm_L S r1 h1
  obtain ⟨ts, rfl, e2, ht⟩ := reps_ti rs
  have hl : ts.length = ps.length := by rw [← List.length_map (f := Prod.snd), e2, List.length_map]
  have mem : ∀ t ∈ ts, ∃ p ∈ ps, t.2 = [p.1, p.2] := fun t h => by
    have h := List.mem_map_of_mem (f := Prod.snd) h
    rw [e2] at h
    obtain ⟨p, hp, e⟩ := List.mem_map.mp h
    exact ⟨p, hp, e.symm⟩
  have meb : ∀ p ∈ ps, ∃ t ∈ ts, t.2 = [p.1, p.2] := fun p h => by
    have h := List.mem_map_of_mem (f := fun p : Int × Int => [p.1, p.2]) h
    rw [← e2] at h
    obtain ⟨t, ht, e⟩ := List.mem_map.mp h
    exact ⟨t, ht, e⟩
  refine ⟨a, ts, rfl, SqL.of hs, fun p hp => sqt_ex S.fh (ht p hp), fun t h => by obtain ⟨p, _, e⟩ := mem t h; rw [e]; rfl, by omega, fun t h hb => ?_⟩
  obtain ⟨p, hpp, e⟩ := mem t h
  have rp : Rep K F (.ref t.1) (d2 p) := by
    have := ht t h
    rw [e] at this
    exact .tup this (Reps.ofInts [p.1, p.2])
  refine hp.here (x := .f _) S rp (q p hpp fun g hg => ?_)
  obtain ⟨u, hu, eu⟩ := meb g hg
  have := hb u hu
  rw [e, eu] at this
  exact this
theorem w_minP {x : X} {Q : X → Prop} : pMinP [x] Q = ∃ ps : List (Int × Int), x.L = some (ps.map d2) ∧ 0 < ps.length ∧ ∀ p ∈ ps, (∀ q ∈ ps, bet p q = false) → Q (.f (d2 p)) := propext ⟨fun ⟨_, ps, e, h⟩ => by cases e; exact ⟨ps, h⟩, fun ⟨ps, h⟩ => ⟨_, ps, rfl, h⟩⟩
end Pl
/-! Pl16: zip of two or three, each a list or a tuple. -/
namespace Zn
open PySem PyProof.Rows
/-- a source: a tuple or a list at l, its iterator at it -/
structure Sc where
  tu : Bool
  it : Addr
  l : Addr
  xs : Array Value
def Sc.It (S : Sc) (h : Heap) (k : Nat) : Prop := if S.tu = true then h.IsTupleIter S.it S.l k else h.IsListIter S.it S.l k
def Sc.Sq (S : Sc) (h : Heap) : Prop := if S.tu = true then h.IsTuple S.l S.xs else h.IsList S.l S.xs
theorem Sc.It.at {S : Sc} {h h' : Heap} {k : Nat} (q : S.It h k) (e : ∀ o, h.get? S.it = some o → h'.get? S.it = some o) : S.It h' k := by
  unfold Sc.It at *
  split at q
  · rename_i c; rw [if_pos c]; exact Heap.IsTupleIter.at q e
  · rename_i c; rw [if_neg c]; exact Heap.IsListIter.at q e
theorem Sc.Sq.at {S : Sc} {h h' : Heap} (q : S.Sq h) (e : ∀ o, h.get? S.l = some o → h'.get? S.l = some o) : S.Sq h' := by
  unfold Sc.Sq at *
  split at q
  · rename_i c; rw [if_pos c]
    obtain ⟨o, ho, r⟩ := q
    exact ⟨o, e _ ho, r⟩
  · rename_i c; rw [if_neg c]
    obtain ⟨o, ho, r⟩ := q
    exact ⟨o, e _ ho, r⟩
theorem Sc.It.obj {S : Sc} {h : Heap} {k : Nat} (q : S.It h k) : ∃ o, h.get? S.it = some o ∧ ∃ ys, o.data = .fields ys := by
  unfold Sc.It at q
  split at q
  · obtain ⟨o, ho, _, d⟩ := q; exact ⟨o, ho, _, d⟩
  · obtain ⟨o, ho, _, d⟩ := q; exact ⟨o, ho, _, d⟩
section
variable {prog : Program} {w : World} {A : Around} {E : Value → Shared → Prop} {s : Shared}
theorem Sc.item {S : Sc} {k : Nat} {x : Value} {Q : Value → Shared → Prop} (hi : S.It s.heap k) (hl : S.Sq s.heap) (hx : S.xs[k]? = some x) (hQ : ∀ h', S.It h' (k + 1) → Heap.SameBut S.it s.heap h' → Q x { s with heap := h' }) : wpAny (model prog w) A (Builtin.SmallTypes.nextOf (.ref S.it)) Q E s := by
  unfold Sc.It at hi
  unfold Sc.Sq at hl
  split at hi
  · rename_i c; rw [if_pos c] at hl
    exact RZ.nextOf_tuple_item hi hl hx fun h' q sb => hQ h' (by unfold Sc.It; rw [if_pos c]; exact q) sb
  · rename_i c; rw [if_neg c] at hl
    exact wpAny_nextOf_list_item hi hl hx fun h' q sb => hQ h' (by unfold Sc.It; rw [if_neg c]; exact q) sb
theorem Sc.fin {S : Sc} {k : Nat} {Q : Value → Shared → Prop} (hh : A.handled = none) (hi : S.It s.heap k) (hl : S.Sq s.heap) (hx : S.xs[k]? = none) (hE : ∀ h' e, Heap.ExtBut S.it s.heap h' → (∃ o, h'.get? e = some o ∧ o.cls = .type "StopIteration") → E (.ref e) { s with heap := h' }) : wpAny (model prog w) A (Builtin.SmallTypes.nextOf (.ref S.it)) Q E s := by
  unfold Sc.It at hi
  unfold Sc.Sq at hl
  split at hi
  · rename_i c; rw [if_pos c] at hl
    exact RZ.nextOf_tuple_end hh hi hl hx hE
  · rename_i c; rw [if_neg c] at hl
    exact wpAny_nextOf_list_end hh hi hl hx hE
abbrev TupAt (h : Heap) (T : Addr) (vs : Array Value) : Prop := h.get? T = some { cls := .type "tuple", data := .seq vs }
theorem setAt {T : Addr} {vs : Array Value} {x : Value} {k : Nat} {Q : Unit → Shared → Prop} (hT : TupAt s.heap T vs) (hv : vs.size ≤ 100) (h : ∀ h', TupAt h' T (vs.setIfInBounds k x) → Heap.SameBut T s.heap h' → Q () { s with heap := h' }) : wpAny (model prog w) A (updateSeq T (fun ys => ys.setIfInBounds k x)) Q E s := by
  have hb : (100 : Nat) ≤ sizeLine := by decide
  refine wpAny_updateSeq hT rfl (h _ ?_ (Heap.SameBut.update ..)) (Nat.le_trans hv hb) (by rw [Array.size_setIfInBounds]; exact Nat.le_succ_of_le (Nat.le_trans hv hb))
  show Heap.get? _ _ = _
  rw [Heap.get?_update_self _ hT rfl]; simp [Obj.mapSeq]
/-- all but these stay -/
def Kp (cs : List Addr) (h h' : Heap) : Prop := ∀ c o, c ∉ cs → h.get? c = some o → h'.get? c = some o
theorem Kp.refl {cs : List Addr} {h : Heap} : Kp cs h h := fun _ _ _ e => e
theorem Kp.step {cs : List Addr} {h h1 h2 : Heap} {a : Addr} (k : Kp cs h h1) (b : Heap.ExtBut a h1 h2) (m : a ∈ cs) : Kp cs h h2 := fun c o n e => b c o (fun q => n (q ▸ m)) (k c o n e)
theorem Kp.mono {cs ds : List Addr} {h h' : Heap} (k : Kp cs h h') (m : ∀ a, a ∈ cs → a ∈ ds) : Kp ds h h' := fun c o n e => k c o (fun q => n (m c q)) e
structure Ap2 (z TI TO : Addr) (S1 S2 : Sc) : Prop where
  z_ti : z ≠ TI
  z_to : z ≠ TO
  z_i1 : z ≠ S1.it
  z_i2 : z ≠ S2.it
  ti_z : TI ≠ z
  ti_to : TI ≠ TO
  ti_i1 : TI ≠ S1.it
  ti_i2 : TI ≠ S2.it
  to_z : TO ≠ z
  to_ti : TO ≠ TI
  to_i1 : TO ≠ S1.it
  to_i2 : TO ≠ S2.it
  i1_z : S1.it ≠ z
  i1_ti : S1.it ≠ TI
  i1_to : S1.it ≠ TO
  i1_i2 : S1.it ≠ S2.it
  i2_z : S2.it ≠ z
  i2_ti : S2.it ≠ TI
  i2_to : S2.it ≠ TO
  i2_i1 : S2.it ≠ S1.it
  l1_z : S1.l ≠ z
  l1_to : S1.l ≠ TO
  l1_i1 : S1.l ≠ S1.it
  l1_i2 : S1.l ≠ S2.it
  l2_z : S2.l ≠ z
  l2_to : S2.l ≠ TO
  l2_i1 : S2.l ≠ S1.it
  l2_i2 : S2.l ≠ S2.it
theorem item2 {z TI TO : Addr} {S1 S2 : Sc} {k : Nat} {x1 x2 : Value} {Q : Value → Shared → Prop} (D : Ap2 z TI TO S1 S2) (hz : IsZip s.heap z TI TO .none) (hTI : TupAt s.heap TI #[.ref S1.it, .ref S2.it]) {vs : Array Value} (hs : vs.size = 2) (hTO : TupAt s.heap TO vs) (p1 : S1.It s.heap k) (q1 : S1.Sq s.heap) (p2 : S2.It s.heap k) (q2 : S2.Sq s.heap) (e1 : S1.xs[k]? = some x1) (e2 : S2.xs[k]? = some x2)
    (hQ : ∀ h', IsZip h' z TI TO (rawInt s.heap.objs.size) → (∃ ws : Array Value, ws.size = 2 ∧ TupAt h' TO ws) → S1.It h' (k + 1) → S2.It h' (k + 1) → TupAt h' s.heap.objs.size #[x1, x2] → h'.objs.size = s.heap.objs.size + 1 → Kp [z, TO, S1.it, S2.it] s.heap h' → Q (.ref s.heap.objs.size) { s with heap := h' }) :
    wpAny (model prog w) A (Builtin.«zip.__next__» ⟨[.ref z], []⟩) (fun fin s' => ∃ v, fin = .done (.ret v) ∧ Q v s') E s := by
  obtain ⟨vs⟩ := vs
  obtain ⟨a1, a2, rfl⟩ : ∃ a1 a2, vs = [a1, a2] := by
    match vs, hs with
    | [a1, a2], _ => exact ⟨a1, a2, rfl⟩
  show wpAny _ _ (field (.ref z) 2 >>= fun _ => _) _ _ _
  refine wpAny_bind <| wpAny_field hz rfl (x := .bool false) rfl ?_
  show wpAny _ _ (field (.ref z) 3 >>= fun _ => _) _ _ _
  refine wpAny_bind <| wpAny_field hz rfl (x := .ref TI) rfl ?_
  refine wpAny_bind <| wpAny_seqItems hTI rfl ?_
  show wpAny _ _ (Builtin.SmallTypes.ownedTupleIsFree (.ref z) >>= fun _ => _) _ _ _
  refine wpAny_bind (?_)
  unfold Builtin.SmallTypes.ownedTupleIsFree
  refine wpAny_bind <| wpAny_field hz rfl (x := .none) rfl <| wpAny_pure (?_)
  simp only [if_true]
  refine wpAny_bind <| wpAny_rule ?_
  refine wpAny_bind <| wpAny_field hz rfl (x := .ref TO) rfl ?_
  refine wpAny_bind <| wpAny_setField_rec hz (by simp) fun g0 z0 b0 => ?_
  replace z0 : IsZip g0 z TI TO .ellipsis := z0
  have K0 : Kp [z, TO, S1.it, S2.it] s.heap g0 := Kp.refl.step b0.extBut (by simp)
  have T0 : TupAt g0 TO #[a1, a2] := b0.extBut _ _ D.to_z hTO
  refine wpAny_bind (?_)
  simp only [List.zipIdx_cons, List.zipIdx_nil, List.forIn_cons, List.forIn_nil]
  refine wpAny_bind <| wpAny_bind <| wpAny_onRaise (?_)
  show wpAny _ _ (Builtin.SmallTypes.nextOf (.ref S1.it) >>= fun _ => _) _ _ _
  refine wpAny_bind <| Sc.item (p1.at fun o e => b0.extBut _ _ D.i1_z (e)) (q1.at fun o e => b0.extBut _ _ D.l1_z (e)) e1 fun f1 r1 c1 => wpAny_pure (?_)
  have U1 : TupAt f1 TO #[a1, a2] := c1.extBut _ _ D.to_i1 T0
  refine wpAny_bind <| wpAny_seqItems U1 rfl ?_
  refine wpAny_bind <| setAt U1 (by show 2 ≤ 100; decide) fun g1 T1 b1 => ?_
  replace T1 : TupAt g1 TO #[x1, a2] := T1
  have K1 : Kp [z, TO, S1.it, S2.it] s.heap g1 := (K0.step c1.extBut (by simp)).step b1.extBut (by simp)
  have z1 : IsZip g1 z TI TO .ellipsis := b1.extBut _ _ D.z_to (c1.extBut _ _ D.z_i1 z0)
  refine wpAny_bind <| wpAny_letGo <| wpAny_pure (?_)
  refine wpAny_bind <| wpAny_bind <| wpAny_onRaise (?_)
  show wpAny _ _ (Builtin.SmallTypes.nextOf (.ref S2.it) >>= fun _ => _) _ _ _
  refine wpAny_bind <| Sc.item (p2.at fun o e => b1.extBut _ _ D.i2_to (c1.extBut _ _ D.i2_i1 (b0.extBut _ _ D.i2_z (e)))) (q2.at fun o e => b1.extBut _ _ D.l2_to (c1.extBut _ _ D.l2_i1 (b0.extBut _ _ D.l2_z (e)))) e2 fun f2 r2 c2 => wpAny_pure (?_)
  have U2 : TupAt f2 TO #[x1, a2] := c2.extBut _ _ D.to_i2 T1
  refine wpAny_bind <| wpAny_seqItems U2 rfl ?_
  refine wpAny_bind <| setAt U2 (by show 2 ≤ 100; decide) fun g2 T2 b2 => ?_
  replace T2 : TupAt g2 TO #[x1, x2] := T2
  have K2 : Kp [z, TO, S1.it, S2.it] s.heap g2 := (K1.step c2.extBut (by simp)).step b2.extBut (by simp)
  have z2 : IsZip g2 z TI TO .ellipsis := b2.extBut _ _ D.z_to (c2.extBut _ _ D.z_i2 z1)
  refine wpAny_bind <| wpAny_letGo <| wpAny_pure <| wpAny_pure (?_)
  refine wpAny_bind <| wpAny_seqItems T2 rfl ?_
  refine wpAny_bind <| wpAny_newTuple ?_
  have sz : g2.objs.size = s.heap.objs.size := by rw [b2.1, c2.1, b1.1, c1.1, b0.1]
  have I1 : S1.It g2 (k + 1) := r1.at fun o e => b2.extBut _ _ D.i1_to (c2.extBut _ _ D.i1_i2 (b1.extBut _ _ D.i1_to e))
  have I2 : S2.It g2 (k + 1) := r2.at fun o e => b2.extBut _ _ D.i2_to e
  have zl : z < g2.objs.size := Heap.lt_size z2
  show wpAny _ _ (Builtin.SmallTypes.ownedTupleHandOut (.ref z) (.ref g2.objs.size) >>= fun _ => _) _ _ _
  refine wpAny_bind (?_)
  unfold Builtin.SmallTypes.ownedTupleHandOut
  have zp : IsZip (g2.push { cls := .type "tuple", data := .seq #[x1, x2] }) z TI TO .ellipsis := Heap.get?_push_of_some _ z2
  refine wpAny_bind <| wpAny_setField_rec zp (by simp) fun u zu bu => ?_
  replace zu : IsZip u z TI TO (rawInt g2.objs.size) := zu
  refine wpAny_setField_rec zu (by simp) fun v zv bv => ?_
  replace zv : IsZip v z TI TO (rawInt g2.objs.size) := zv
  have up : ∀ c o, c ≠ z → g2.get? c = some o → v.get? c = some o := fun c o h e => bv.extBut _ _ h (bu.extBut _ _ h (Heap.get?_push_of_some _ e))
  have tv : TupAt v g2.objs.size #[x1, x2] := bv.extBut _ _ (Nat.ne_of_gt zl) (bu.extBut _ _ (Nat.ne_of_gt zl) (Heap.get?_push_size _ rfl))
  have sv : v.objs.size = g2.objs.size + 1 := by rw [bv.1, bu.1, Heap.size_push]
  rw [sz] at zv tv sv
  refine wpAny_pure ⟨_, rfl, ?_⟩
  show Q (.ref g2.objs.size) _
  rw [sz]
  exact hQ v zv ⟨_, rfl, up _ _ D.to_z T2⟩ (I1.at fun o e => up _ o D.i1_z e) (I2.at fun o e => up _ o D.i2_z e) tv sv fun c o h e => up c o (fun q => h (by rw [q]; simp)) (K2 c o h e)
theorem end2 {z TI TO : Addr} {S1 S2 : Sc} {k : Nat} {Q : Fin → Shared → Prop} (hh : A.handled = none) (D : Ap2 z TI TO S1 S2) (hz : IsZip s.heap z TI TO .none) (hTI : TupAt s.heap TI #[.ref S1.it, .ref S2.it]) {vs : Array Value} (hs : vs.size = 2) (hTO : TupAt s.heap TO vs) (p1 : S1.It s.heap k) (q1 : S1.Sq s.heap) (p2 : S2.It s.heap k) (q2 : S2.Sq s.heap) (e1 : S1.xs[k]? = none)
    (hE : ∀ h' e, Kp [z, TO, S1.it, S2.it] s.heap h' → (∃ o, h'.get? e = some o ∧ o.cls = .type "StopIteration") → E (.ref e) { s with heap := h' }) : wpAny (model prog w) A (Builtin.«zip.__next__» ⟨[.ref z], []⟩) Q E s := by
  show wpAny _ _ (field (.ref z) 2 >>= fun _ => _) _ _ _
  refine wpAny_bind <| wpAny_field hz rfl (x := .bool false) rfl ?_
  show wpAny _ _ (field (.ref z) 3 >>= fun _ => _) _ _ _
  refine wpAny_bind <| wpAny_field hz rfl (x := .ref TI) rfl ?_
  refine wpAny_bind <| wpAny_seqItems hTI rfl ?_
  show wpAny _ _ (Builtin.SmallTypes.ownedTupleIsFree (.ref z) >>= fun _ => _) _ _ _
  refine wpAny_bind (?_)
  unfold Builtin.SmallTypes.ownedTupleIsFree
  refine wpAny_bind <| wpAny_field hz rfl (x := .none) rfl <| wpAny_pure (?_)
  simp only [if_true]
  refine wpAny_bind <| wpAny_rule ?_
  refine wpAny_bind <| wpAny_field hz rfl (x := .ref TO) rfl ?_
  refine wpAny_bind <| wpAny_setField_rec hz (by simp) fun g0 z0 b0 => ?_
  replace z0 : IsZip g0 z TI TO .ellipsis := z0
  have K0 : Kp [z, TO, S1.it, S2.it] s.heap g0 := Kp.refl.step b0.extBut (by simp)
  refine wpAny_bind (?_)
  simp only [List.zipIdx_cons, List.zipIdx_nil, List.forIn_cons, List.forIn_nil]
  refine wpAny_bind <| wpAny_bind <| wpAny_onRaise (?_)
  show wpAny _ _ (Builtin.SmallTypes.nextOf (.ref S1.it) >>= fun _ => _) _ _ _
  refine wpAny_bind <| Sc.fin hh (p1.at fun o e => b0.extBut _ _ D.i1_z e) (q1.at fun o e => b0.extBut _ _ D.l1_z e) e1 fun f e c hs => ?_
  obtain ⟨oe, ho, hc⟩ := hs
  have zf : IsZip f z TI TO .ellipsis := c _ _ D.z_i1 z0
  have ez : e ≠ z := fun q => by subst q; rw [zf] at ho; cases ho; simp at hc
  refine wpAny_setField_rec zf (by simp) fun v _ bv => hE v e ((K0.step c (by simp)).step bv.extBut (by simp)) ⟨oe, bv.extBut _ _ ez ho, hc⟩
theorem nx2 {z TI TO : Addr} {S1 S2 : Sc} {k : Nat} {x1 x2 : Value} {Q : Option Value → Shared → Prop} (D : Ap2 z TI TO S1 S2) (hz : IsZip s.heap z TI TO .none) (hTI : TupAt s.heap TI #[.ref S1.it, .ref S2.it]) {vs : Array Value} (hs : vs.size = 2) (hTO : TupAt s.heap TO vs) (p1 : S1.It s.heap k) (q1 : S1.Sq s.heap) (p2 : S2.It s.heap k) (q2 : S2.Sq s.heap) (e1 : S1.xs[k]? = some x1) (e2 : S2.xs[k]? = some x2)
    (hQ : ∀ h', IsZip h' z TI TO (rawInt s.heap.objs.size) → (∃ ws : Array Value, ws.size = 2 ∧ TupAt h' TO ws) → S1.It h' (k + 1) → S2.It h' (k + 1) → TupAt h' s.heap.objs.size #[x1, x2] → h'.objs.size = s.heap.objs.size + 1 → Kp [z, TO, S1.it, S2.it] s.heap h' → Q (some (.ref s.heap.objs.size)) { s with heap := h' }) :
    wpAny (model prog w) A (pyNext (.ref z)) Q E s := by
  have hT : s.TypeIs (.ref z) "zip" := ⟨_, hz, rfl⟩
  unfold pyNext
  exact wpAny_bind <| wpAny_attempt <| wpAny_callSpecial?_slot (name := Str.ofString "__next__") hT PySem.F.slot_zip_next <| wpAny_call_entry PySem.F.slot_zip_next hT PySem.F.entry_zip_next (item2 D hz hTI hs hTO p1 q1 p2 q2 e1 e2 fun h' a1 a2 b1 b2 a3 a4 a5 => wpAny_pure (hQ h' a1 a2 b1 b2 a3 a4 a5)) (PySem.F.args_zip_next_1 _)
theorem nd2 {z TI TO : Addr} {S1 S2 : Sc} {k : Nat} {Q : Option Value → Shared → Prop} (hh : A.handled = none) (D : Ap2 z TI TO S1 S2) (hz : IsZip s.heap z TI TO .none) (hTI : TupAt s.heap TI #[.ref S1.it, .ref S2.it]) {vs : Array Value} (hs : vs.size = 2) (hTO : TupAt s.heap TO vs) (p1 : S1.It s.heap k) (q1 : S1.Sq s.heap) (p2 : S2.It s.heap k) (q2 : S2.Sq s.heap) (e1 : S1.xs[k]? = none) (hQ : ∀ h', Kp [z, TO, S1.it, S2.it] s.heap h' → Q none { s with heap := h' }) : wpAny (model prog w) A (pyNext (.ref z)) Q E s := by
  have hT : s.TypeIs (.ref z) "zip" := ⟨_, hz, rfl⟩
  unfold pyNext
  refine wpAny_bind <| wpAny_attempt <| wpAny_callSpecial?_slot (name := Str.ofString "__next__") hT PySem.F.slot_zip_next <| wpAny_call_entry PySem.F.slot_zip_next hT PySem.F.entry_zip_next (end2 hh D hz hTI hs hTO p1 q1 p2 q2 e1 fun h' e k he => ?_) (PySem.F.args_zip_next_1 _)
  obtain ⟨o, ho, hc⟩ := he
  refine wpAny_bind <| wpAny_isInstance (T := "StopIteration") (b := true) ⟨o, ho, hc⟩ isSubtype_stop ?_
  exact wpAny_pure (hQ _ k)
structure Ap3 (z TI TO : Addr) (S1 S2 S3 : Sc) : Prop where
  z_ti : z ≠ TI
  z_to : z ≠ TO
  z_i1 : z ≠ S1.it
  z_i2 : z ≠ S2.it
  z_i3 : z ≠ S3.it
  ti_z : TI ≠ z
  ti_to : TI ≠ TO
  ti_i1 : TI ≠ S1.it
  ti_i2 : TI ≠ S2.it
  ti_i3 : TI ≠ S3.it
  to_z : TO ≠ z
  to_ti : TO ≠ TI
  to_i1 : TO ≠ S1.it
  to_i2 : TO ≠ S2.it
  to_i3 : TO ≠ S3.it
  i1_z : S1.it ≠ z
  i1_ti : S1.it ≠ TI
  i1_to : S1.it ≠ TO
  i1_i2 : S1.it ≠ S2.it
  i1_i3 : S1.it ≠ S3.it
  i2_z : S2.it ≠ z
  i2_ti : S2.it ≠ TI
  i2_to : S2.it ≠ TO
  i2_i1 : S2.it ≠ S1.it
  i2_i3 : S2.it ≠ S3.it
  i3_z : S3.it ≠ z
  i3_ti : S3.it ≠ TI
  i3_to : S3.it ≠ TO
  i3_i1 : S3.it ≠ S1.it
  i3_i2 : S3.it ≠ S2.it
  l1_z : S1.l ≠ z
  l1_to : S1.l ≠ TO
  l1_i1 : S1.l ≠ S1.it
  l1_i2 : S1.l ≠ S2.it
  l1_i3 : S1.l ≠ S3.it
  l2_z : S2.l ≠ z
  l2_to : S2.l ≠ TO
  l2_i1 : S2.l ≠ S1.it
  l2_i2 : S2.l ≠ S2.it
  l2_i3 : S2.l ≠ S3.it
  l3_z : S3.l ≠ z
  l3_to : S3.l ≠ TO
  l3_i1 : S3.l ≠ S1.it
  l3_i2 : S3.l ≠ S2.it
  l3_i3 : S3.l ≠ S3.it
theorem item3 {z TI TO : Addr} {S1 S2 S3 : Sc} {k : Nat} {x1 x2 x3 : Value} {Q : Value → Shared → Prop} (D : Ap3 z TI TO S1 S2 S3) (hz : IsZip s.heap z TI TO .none) (hTI : TupAt s.heap TI #[.ref S1.it, .ref S2.it, .ref S3.it]) {vs : Array Value} (hs : vs.size = 3) (hTO : TupAt s.heap TO vs) (p1 : S1.It s.heap k) (q1 : S1.Sq s.heap) (p2 : S2.It s.heap k) (q2 : S2.Sq s.heap) (p3 : S3.It s.heap k) (q3 : S3.Sq s.heap) (e1 : S1.xs[k]? = some x1) (e2 : S2.xs[k]? = some x2) (e3 : S3.xs[k]? = some x3)
    (hQ : ∀ h', IsZip h' z TI TO (rawInt s.heap.objs.size) → (∃ ws : Array Value, ws.size = 3 ∧ TupAt h' TO ws) → S1.It h' (k + 1) → S2.It h' (k + 1) → S3.It h' (k + 1) → TupAt h' s.heap.objs.size #[x1, x2, x3] → h'.objs.size = s.heap.objs.size + 1 → Kp [z, TO, S1.it, S2.it, S3.it] s.heap h' → Q (.ref s.heap.objs.size) { s with heap := h' }) :
    wpAny (model prog w) A (Builtin.«zip.__next__» ⟨[.ref z], []⟩) (fun fin s' => ∃ v, fin = .done (.ret v) ∧ Q v s') E s := by
  obtain ⟨vs⟩ := vs
  obtain ⟨a1, a2, a3, rfl⟩ : ∃ a1 a2 a3, vs = [a1, a2, a3] := by
    match vs, hs with
    | [a1, a2, a3], _ => exact ⟨a1, a2, a3, rfl⟩
  show wpAny _ _ (field (.ref z) 2 >>= fun _ => _) _ _ _
  refine wpAny_bind <| wpAny_field hz rfl (x := .bool false) rfl ?_
  show wpAny _ _ (field (.ref z) 3 >>= fun _ => _) _ _ _
  refine wpAny_bind <| wpAny_field hz rfl (x := .ref TI) rfl ?_
  refine wpAny_bind <| wpAny_seqItems hTI rfl ?_
  show wpAny _ _ (Builtin.SmallTypes.ownedTupleIsFree (.ref z) >>= fun _ => _) _ _ _
  refine wpAny_bind (?_)
  unfold Builtin.SmallTypes.ownedTupleIsFree
  refine wpAny_bind <| wpAny_field hz rfl (x := .none) rfl <| wpAny_pure (?_)
  simp only [if_true]
  refine wpAny_bind <| wpAny_rule ?_
  refine wpAny_bind <| wpAny_field hz rfl (x := .ref TO) rfl ?_
  refine wpAny_bind <| wpAny_setField_rec hz (by simp) fun g0 z0 b0 => ?_
  replace z0 : IsZip g0 z TI TO .ellipsis := z0
  have K0 : Kp [z, TO, S1.it, S2.it, S3.it] s.heap g0 := Kp.refl.step b0.extBut (by simp)
  have T0 : TupAt g0 TO #[a1, a2, a3] := b0.extBut _ _ D.to_z hTO
  refine wpAny_bind (?_)
  simp only [List.zipIdx_cons, List.zipIdx_nil, List.forIn_cons, List.forIn_nil]
  refine wpAny_bind <| wpAny_bind <| wpAny_onRaise (?_)
  show wpAny _ _ (Builtin.SmallTypes.nextOf (.ref S1.it) >>= fun _ => _) _ _ _
  refine wpAny_bind <| Sc.item (p1.at fun o e => b0.extBut _ _ D.i1_z (e)) (q1.at fun o e => b0.extBut _ _ D.l1_z (e)) e1 fun f1 r1 c1 => wpAny_pure (?_)
  have U1 : TupAt f1 TO #[a1, a2, a3] := c1.extBut _ _ D.to_i1 T0
  refine wpAny_bind <| wpAny_seqItems U1 rfl ?_
  refine wpAny_bind <| setAt U1 (by show 3 ≤ 100; decide) fun g1 T1 b1 => ?_
  replace T1 : TupAt g1 TO #[x1, a2, a3] := T1
  have K1 : Kp [z, TO, S1.it, S2.it, S3.it] s.heap g1 := (K0.step c1.extBut (by simp)).step b1.extBut (by simp)
  have z1 : IsZip g1 z TI TO .ellipsis := b1.extBut _ _ D.z_to (c1.extBut _ _ D.z_i1 z0)
  refine wpAny_bind <| wpAny_letGo <| wpAny_pure (?_)
  refine wpAny_bind <| wpAny_bind <| wpAny_onRaise (?_)
  show wpAny _ _ (Builtin.SmallTypes.nextOf (.ref S2.it) >>= fun _ => _) _ _ _
  refine wpAny_bind <| Sc.item (p2.at fun o e => b1.extBut _ _ D.i2_to (c1.extBut _ _ D.i2_i1 (b0.extBut _ _ D.i2_z (e)))) (q2.at fun o e => b1.extBut _ _ D.l2_to (c1.extBut _ _ D.l2_i1 (b0.extBut _ _ D.l2_z (e)))) e2 fun f2 r2 c2 => wpAny_pure (?_)
  have U2 : TupAt f2 TO #[x1, a2, a3] := c2.extBut _ _ D.to_i2 T1
  refine wpAny_bind <| wpAny_seqItems U2 rfl ?_
  refine wpAny_bind <| setAt U2 (by show 3 ≤ 100; decide) fun g2 T2 b2 => ?_
  replace T2 : TupAt g2 TO #[x1, x2, a3] := T2
  have K2 : Kp [z, TO, S1.it, S2.it, S3.it] s.heap g2 := (K1.step c2.extBut (by simp)).step b2.extBut (by simp)
  have z2 : IsZip g2 z TI TO .ellipsis := b2.extBut _ _ D.z_to (c2.extBut _ _ D.z_i2 z1)
  refine wpAny_bind <| wpAny_letGo <| wpAny_pure (?_)
  refine wpAny_bind <| wpAny_bind <| wpAny_onRaise (?_)
  show wpAny _ _ (Builtin.SmallTypes.nextOf (.ref S3.it) >>= fun _ => _) _ _ _
  refine wpAny_bind <| Sc.item (p3.at fun o e => b2.extBut _ _ D.i3_to (c2.extBut _ _ D.i3_i2 (b1.extBut _ _ D.i3_to (c1.extBut _ _ D.i3_i1 (b0.extBut _ _ D.i3_z (e)))))) (q3.at fun o e => b2.extBut _ _ D.l3_to (c2.extBut _ _ D.l3_i2 (b1.extBut _ _ D.l3_to (c1.extBut _ _ D.l3_i1 (b0.extBut _ _ D.l3_z (e)))))) e3 fun f3 r3 c3 => wpAny_pure (?_)
  have U3 : TupAt f3 TO #[x1, x2, a3] := c3.extBut _ _ D.to_i3 T2
  refine wpAny_bind <| wpAny_seqItems U3 rfl ?_
  refine wpAny_bind <| setAt U3 (by show 3 ≤ 100; decide) fun g3 T3 b3 => ?_
  replace T3 : TupAt g3 TO #[x1, x2, x3] := T3
  have K3 : Kp [z, TO, S1.it, S2.it, S3.it] s.heap g3 := (K2.step c3.extBut (by simp)).step b3.extBut (by simp)
  have z3 : IsZip g3 z TI TO .ellipsis := b3.extBut _ _ D.z_to (c3.extBut _ _ D.z_i3 z2)
  refine wpAny_bind <| wpAny_letGo <| wpAny_pure <| wpAny_pure (?_)
  refine wpAny_bind <| wpAny_seqItems T3 rfl ?_
  refine wpAny_bind <| wpAny_newTuple ?_
  have sz : g3.objs.size = s.heap.objs.size := by rw [b3.1, c3.1, b2.1, c2.1, b1.1, c1.1, b0.1]
  have I1 : S1.It g3 (k + 1) := r1.at fun o e => b3.extBut _ _ D.i1_to (c3.extBut _ _ D.i1_i3 (b2.extBut _ _ D.i1_to (c2.extBut _ _ D.i1_i2 (b1.extBut _ _ D.i1_to e))))
  have I2 : S2.It g3 (k + 1) := r2.at fun o e => b3.extBut _ _ D.i2_to (c3.extBut _ _ D.i2_i3 (b2.extBut _ _ D.i2_to e))
  have I3 : S3.It g3 (k + 1) := r3.at fun o e => b3.extBut _ _ D.i3_to e
  have zl : z < g3.objs.size := Heap.lt_size z3
  show wpAny _ _ (Builtin.SmallTypes.ownedTupleHandOut (.ref z) (.ref g3.objs.size) >>= fun _ => _) _ _ _
  refine wpAny_bind (?_)
  unfold Builtin.SmallTypes.ownedTupleHandOut
  have zp : IsZip (g3.push { cls := .type "tuple", data := .seq #[x1, x2, x3] }) z TI TO .ellipsis := Heap.get?_push_of_some _ z3
  refine wpAny_bind <| wpAny_setField_rec zp (by simp) fun u zu bu => ?_
  replace zu : IsZip u z TI TO (rawInt g3.objs.size) := zu
  refine wpAny_setField_rec zu (by simp) fun v zv bv => ?_
  replace zv : IsZip v z TI TO (rawInt g3.objs.size) := zv
  have up : ∀ c o, c ≠ z → g3.get? c = some o → v.get? c = some o := fun c o h e => bv.extBut _ _ h (bu.extBut _ _ h (Heap.get?_push_of_some _ e))
  have tv : TupAt v g3.objs.size #[x1, x2, x3] := bv.extBut _ _ (Nat.ne_of_gt zl) (bu.extBut _ _ (Nat.ne_of_gt zl) (Heap.get?_push_size _ rfl))
  have sv : v.objs.size = g3.objs.size + 1 := by rw [bv.1, bu.1, Heap.size_push]
  rw [sz] at zv tv sv
  refine wpAny_pure ⟨_, rfl, ?_⟩
  show Q (.ref g3.objs.size) _
  rw [sz]
  exact hQ v zv ⟨_, rfl, up _ _ D.to_z T3⟩ (I1.at fun o e => up _ o D.i1_z e) (I2.at fun o e => up _ o D.i2_z e) (I3.at fun o e => up _ o D.i3_z e) tv sv fun c o h e => up c o (fun q => h (by rw [q]; simp)) (K3 c o h e)
theorem end3 {z TI TO : Addr} {S1 S2 S3 : Sc} {k : Nat} {Q : Fin → Shared → Prop} (hh : A.handled = none) (D : Ap3 z TI TO S1 S2 S3) (hz : IsZip s.heap z TI TO .none) (hTI : TupAt s.heap TI #[.ref S1.it, .ref S2.it, .ref S3.it]) {vs : Array Value} (hs : vs.size = 3) (hTO : TupAt s.heap TO vs) (p1 : S1.It s.heap k) (q1 : S1.Sq s.heap) (p2 : S2.It s.heap k) (q2 : S2.Sq s.heap) (p3 : S3.It s.heap k) (q3 : S3.Sq s.heap) (e1 : S1.xs[k]? = none)
    (hE : ∀ h' e, Kp [z, TO, S1.it, S2.it, S3.it] s.heap h' → (∃ o, h'.get? e = some o ∧ o.cls = .type "StopIteration") → E (.ref e) { s with heap := h' }) : wpAny (model prog w) A (Builtin.«zip.__next__» ⟨[.ref z], []⟩) Q E s := by
  show wpAny _ _ (field (.ref z) 2 >>= fun _ => _) _ _ _
  refine wpAny_bind <| wpAny_field hz rfl (x := .bool false) rfl ?_
  show wpAny _ _ (field (.ref z) 3 >>= fun _ => _) _ _ _
  refine wpAny_bind <| wpAny_field hz rfl (x := .ref TI) rfl ?_
  refine wpAny_bind <| wpAny_seqItems hTI rfl ?_
  show wpAny _ _ (Builtin.SmallTypes.ownedTupleIsFree (.ref z) >>= fun _ => _) _ _ _
  refine wpAny_bind (?_)
  unfold Builtin.SmallTypes.ownedTupleIsFree
  refine wpAny_bind <| wpAny_field hz rfl (x := .none) rfl <| wpAny_pure (?_)
  simp only [if_true]
  refine wpAny_bind <| wpAny_rule ?_
  refine wpAny_bind <| wpAny_field hz rfl (x := .ref TO) rfl ?_
  refine wpAny_bind <| wpAny_setField_rec hz (by simp) fun g0 z0 b0 => ?_
  replace z0 : IsZip g0 z TI TO .ellipsis := z0
  have K0 : Kp [z, TO, S1.it, S2.it, S3.it] s.heap g0 := Kp.refl.step b0.extBut (by simp)
  refine wpAny_bind (?_)
  simp only [List.zipIdx_cons, List.zipIdx_nil, List.forIn_cons, List.forIn_nil]
  refine wpAny_bind <| wpAny_bind <| wpAny_onRaise (?_)
  show wpAny _ _ (Builtin.SmallTypes.nextOf (.ref S1.it) >>= fun _ => _) _ _ _
  refine wpAny_bind <| Sc.fin hh (p1.at fun o e => b0.extBut _ _ D.i1_z e) (q1.at fun o e => b0.extBut _ _ D.l1_z e) e1 fun f e c hs => ?_
  obtain ⟨oe, ho, hc⟩ := hs
  have zf : IsZip f z TI TO .ellipsis := c _ _ D.z_i1 z0
  have ez : e ≠ z := fun q => by subst q; rw [zf] at ho; cases ho; simp at hc
  refine wpAny_setField_rec zf (by simp) fun v _ bv => hE v e ((K0.step c (by simp)).step bv.extBut (by simp)) ⟨oe, bv.extBut _ _ ez ho, hc⟩
theorem nx3 {z TI TO : Addr} {S1 S2 S3 : Sc} {k : Nat} {x1 x2 x3 : Value} {Q : Option Value → Shared → Prop} (D : Ap3 z TI TO S1 S2 S3) (hz : IsZip s.heap z TI TO .none) (hTI : TupAt s.heap TI #[.ref S1.it, .ref S2.it, .ref S3.it]) {vs : Array Value} (hs : vs.size = 3) (hTO : TupAt s.heap TO vs) (p1 : S1.It s.heap k) (q1 : S1.Sq s.heap) (p2 : S2.It s.heap k) (q2 : S2.Sq s.heap) (p3 : S3.It s.heap k) (q3 : S3.Sq s.heap) (e1 : S1.xs[k]? = some x1) (e2 : S2.xs[k]? = some x2) (e3 : S3.xs[k]? = some x3)
    (hQ : ∀ h', IsZip h' z TI TO (rawInt s.heap.objs.size) → (∃ ws : Array Value, ws.size = 3 ∧ TupAt h' TO ws) → S1.It h' (k + 1) → S2.It h' (k + 1) → S3.It h' (k + 1) → TupAt h' s.heap.objs.size #[x1, x2, x3] → h'.objs.size = s.heap.objs.size + 1 → Kp [z, TO, S1.it, S2.it, S3.it] s.heap h' → Q (some (.ref s.heap.objs.size)) { s with heap := h' }) :
    wpAny (model prog w) A (pyNext (.ref z)) Q E s := by
  have hT : s.TypeIs (.ref z) "zip" := ⟨_, hz, rfl⟩
  unfold pyNext
  exact wpAny_bind <| wpAny_attempt <| wpAny_callSpecial?_slot (name := Str.ofString "__next__") hT PySem.F.slot_zip_next <| wpAny_call_entry PySem.F.slot_zip_next hT PySem.F.entry_zip_next (item3 D hz hTI hs hTO p1 q1 p2 q2 p3 q3 e1 e2 e3 fun h' a1 a2 b1 b2 b3 a3 a4 a5 => wpAny_pure (hQ h' a1 a2 b1 b2 b3 a3 a4 a5)) (PySem.F.args_zip_next_1 _)
theorem nd3 {z TI TO : Addr} {S1 S2 S3 : Sc} {k : Nat} {Q : Option Value → Shared → Prop} (hh : A.handled = none) (D : Ap3 z TI TO S1 S2 S3) (hz : IsZip s.heap z TI TO .none) (hTI : TupAt s.heap TI #[.ref S1.it, .ref S2.it, .ref S3.it]) {vs : Array Value} (hs : vs.size = 3) (hTO : TupAt s.heap TO vs) (p1 : S1.It s.heap k) (q1 : S1.Sq s.heap) (p2 : S2.It s.heap k) (q2 : S2.Sq s.heap) (p3 : S3.It s.heap k) (q3 : S3.Sq s.heap) (e1 : S1.xs[k]? = none) (hQ : ∀ h', Kp [z, TO, S1.it, S2.it, S3.it] s.heap h' → Q none { s with heap := h' }) : wpAny (model prog w) A (pyNext (.ref z)) Q E s := by
  have hT : s.TypeIs (.ref z) "zip" := ⟨_, hz, rfl⟩
  unfold pyNext
  refine wpAny_bind <| wpAny_attempt <| wpAny_callSpecial?_slot (name := Str.ofString "__next__") hT PySem.F.slot_zip_next <| wpAny_call_entry PySem.F.slot_zip_next hT PySem.F.entry_zip_next (end3 hh D hz hTI hs hTO p1 q1 p2 q2 p3 q3 e1 fun h' e k he => ?_) (PySem.F.args_zip_next_1 _)
  obtain ⟨o, ho, hc⟩ := he
  refine wpAny_bind <| wpAny_isInstance (T := "StopIteration") (b := true) ⟨o, ho, hc⟩ isSubtype_stop ?_
  exact wpAny_pure (hQ _ k)
def itO (tu : Bool) (l : Addr) : Obj := { cls := .type (if tu = true then "tuple_iterator" else "list_iterator"), data := .fields #[.ref l, .int 0 0] }
def SqB (tu : Bool) (h : Heap) (l : Addr) (xs : Array Value) : Prop := if tu = true then h.IsTuple l xs else h.IsList l xs
theorem SqB.push {tu : Bool} {h : Heap} {l : Addr} {xs : Array Value} (q : SqB tu h l xs) (o : Obj) : SqB tu (h.push o) l xs := by
  unfold SqB at *
  split at q
  · rename_i c; rw [if_pos c]; exact Heap.IsTuple.push q _
  · rename_i c; rw [if_neg c]; exact Heap.IsList.push q _
theorem src_iter {tu : Bool} {l : Addr} {xs : Array Value} {Q : Value → Shared → Prop} (q : SqB tu s.heap l xs) (hQ : Q (.ref s.heap.objs.size) { s with heap := s.heap.push (itO tu l) }) : wpAny (model prog w) A (pyIter (.ref l)) Q E s := by
  unfold SqB at q
  cases tu with
  | true => exact wpAny_pyIter_tuple q hQ
  | false => exact wpAny_pyIter_list q hQ
theorem typeCall3 (a b c : Value) : checkTypeCall "zip" ⟨[a, b, c], []⟩ = pure () := by kernel_rfl
theorem newCall3 (a b c : Value) : checkBuiltinCall "zip.__new__" ⟨[.type "zip", a, b, c], []⟩ = pure () := by kernel_rfl
theorem initArgs4 (a b c e : Value) : argsOk "object.__init__" ⟨[a, b, c, e], []⟩ := by
  unfold argsOk
  rw [signature?_of (id := "object.__init__") (o := "tcejbo".toList)
    (n := "__tini__".toList) (by kernel_rfl) PySem.F.owner_object]
  kernel_rfl
theorem it0 {h : Heap} {tu : Bool} {i l : Addr} {xs : Array Value} (g : h.get? i = some (itO tu l)) : (⟨tu, i, l, xs⟩ : Sc).It h 0 := by
  unfold Sc.It
  cases tu with
  | true => exact ⟨_, g, rfl, rfl⟩
  | false => exact ⟨_, g, rfl, rfl⟩
abbrev zh2_1 (h : Heap) (t1 : Bool) (l1 : Addr) (t2 : Bool) (l2 : Addr) : Heap := h.push (itO t1 l1)
abbrev zh2_2 (h : Heap) (t1 : Bool) (l1 : Addr) (t2 : Bool) (l2 : Addr) : Heap := (zh2_1 h t1 l1 t2 l2).push (itO t2 l2)
abbrev zh2_3 (h : Heap) (t1 : Bool) (l1 : Addr) (t2 : Bool) (l2 : Addr) : Heap := (zh2_2 h t1 l1 t2 l2).push { cls := .type "tuple", data := .seq #[.ref h.objs.size, .ref (zh2_1 h t1 l1 t2 l2).objs.size] }
abbrev zh2_4 (h : Heap) (t1 : Bool) (l1 : Addr) (t2 : Bool) (l2 : Addr) : Heap := (zh2_3 h t1 l1 t2 l2).push { cls := .type "tuple", data := .seq #[.none, .none] }
abbrev zh2_5 (h : Heap) (t1 : Bool) (l1 : Addr) (t2 : Bool) (l2 : Addr) : Heap := (zh2_4 h t1 l1 t2 l2).push { cls := .type "zip", data := .fields #[.none, .bool false, .bool false, .ref (zh2_2 h t1 l1 t2 l2).objs.size, .ref (zh2_3 h t1 l1 t2 l2).objs.size] }
theorem new2 (t1 : Bool) (l1 : Addr) (t2 : Bool) (l2 : Addr) (xs1 xs2 : Array Value) : Meets (Builtin.«zip.__new__» ⟨[.type "zip", .ref l1, .ref l2], []⟩) (fun _ R s => SqB t1 s.heap l1 xs1 ∧ SqB t2 s.heap l2 xs2 ∧ R (.ok (.ret (.ref (zh2_4 s.heap t1 l1 t2 l2).objs.size))) { s with heap := (zh2_5 s.heap t1 l1 t2 l2) }) :=
  .of_wp fun prog w A R s h => by
    obtain ⟨hp, g, d, tk, os⟩ := s
    obtain ⟨q1, q2, h⟩ := h
    have hsub := sub_zip
    have Q1 : SqB t1 (Shared.heap ⟨hp, g, d, tk, os⟩) l1 xs1 := q1
    have Q2 : SqB t2 (Shared.heap ⟨(hp.push (itO t1 l1)), g, d, tk, os⟩) l2 xs2 := (SqB.push q2 _)
    wp_walk using src_iter Q1, src_iter Q2
    exact ⟨_, rfl, h⟩
theorem call2 {t1 t2 : Bool} {l1 l2 : Addr} {xs1 xs2 : Array Value} {Q : Value → Shared → Prop} (q1 : SqB t1 s.heap l1 xs1) (q2 : SqB t2 s.heap l2 xs2)
    (h : ∀ h', IsZip h' (s.heap.objs.size + 4) (s.heap.objs.size + 2) (s.heap.objs.size + 3) .none → TupAt h' (s.heap.objs.size + 2) #[.ref (s.heap.objs.size + 0), .ref (s.heap.objs.size + 1)] → TupAt h' (s.heap.objs.size + 3) #[.none, .none] → (⟨t1, s.heap.objs.size + 0, l1, xs1⟩ : Sc).It h' 0 → (⟨t2, s.heap.objs.size + 1, l2, xs2⟩ : Sc).It h' 0 → h'.objs.size = s.heap.objs.size + 5 → (∀ c o, s.heap.get? c = some o → h'.get? c = some o) → Q (.ref (s.heap.objs.size + 4)) { s with heap := h' }) : wpAny (model prog w) A (call (.type "zip") [.ref l1, .ref l2]) Q E s := by
  refine callType_new PySem.F.called_zip (by decide) (PySem.F.typeCall_zip_2 _ _) (PySem.F.newCall_zip_2 _ _) (fun obj => PySem.F.args_object_init_3 obj _ _) PySem.F.entry_zip_new (new2 t1 l1 t2 l2 xs1 xs2) ⟨q1, q2, ?_⟩
  have w0 : s.heap.objs.size = s.heap.objs.size := rfl
  have w1 : (zh2_1 s.heap t1 l1 t2 l2).objs.size = s.heap.objs.size + 1 := by rw [Heap.size_push]
  have w2 : (zh2_2 s.heap t1 l1 t2 l2).objs.size = s.heap.objs.size + 2 := by rw [Heap.size_push, w1]
  have w3 : (zh2_3 s.heap t1 l1 t2 l2).objs.size = s.heap.objs.size + 3 := by rw [Heap.size_push, w2]
  have w4 : (zh2_4 s.heap t1 l1 t2 l2).objs.size = s.heap.objs.size + 4 := by rw [Heap.size_push, w3]
  have w5 : (zh2_5 s.heap t1 l1 t2 l2).objs.size = s.heap.objs.size + 5 := by rw [Heap.size_push, w4]
  have g1 : (zh2_5 s.heap t1 l1 t2 l2).get? s.heap.objs.size = some _ := (Heap.get?_push_of_some _ (Heap.get?_push_of_some _ (Heap.get?_push_of_some _ (Heap.get?_push_of_some _ (Heap.get?_push_size _ rfl)))))
  have g2 : (zh2_5 s.heap t1 l1 t2 l2).get? (zh2_1 s.heap t1 l1 t2 l2).objs.size = some _ := (Heap.get?_push_of_some _ (Heap.get?_push_of_some _ (Heap.get?_push_of_some _ (Heap.get?_push_size _ rfl))))
  have g3 : (zh2_5 s.heap t1 l1 t2 l2).get? (zh2_2 s.heap t1 l1 t2 l2).objs.size = some _ := (Heap.get?_push_of_some _ (Heap.get?_push_of_some _ (Heap.get?_push_size _ rfl)))
  have g4 : (zh2_5 s.heap t1 l1 t2 l2).get? (zh2_3 s.heap t1 l1 t2 l2).objs.size = some _ := (Heap.get?_push_of_some _ (Heap.get?_push_size _ rfl))
  have g5 : (zh2_5 s.heap t1 l1 t2 l2).get? (zh2_4 s.heap t1 l1 t2 l2).objs.size = some _ := (Heap.get?_push_size _ rfl)
  show _ ∧ _
  rw [w2, w3, w4] at g5
  rw [w3] at g4
  rw [w1, w2] at g3
  rw [w1] at g2
  rw [w4]
  exact ⟨⟨_, g5, rfl⟩, h _ g5 g3 g4 (it0 g1) (it0 g2) w5 fun c o x => Heap.get?_push_of_some _ (Heap.get?_push_of_some _ (Heap.get?_push_of_some _ (Heap.get?_push_of_some _ (Heap.get?_push_of_some _ (x)))))⟩
abbrev zh3_1 (h : Heap) (t1 : Bool) (l1 : Addr) (t2 : Bool) (l2 : Addr) (t3 : Bool) (l3 : Addr) : Heap := h.push (itO t1 l1)
abbrev zh3_2 (h : Heap) (t1 : Bool) (l1 : Addr) (t2 : Bool) (l2 : Addr) (t3 : Bool) (l3 : Addr) : Heap := (zh3_1 h t1 l1 t2 l2 t3 l3).push (itO t2 l2)
abbrev zh3_3 (h : Heap) (t1 : Bool) (l1 : Addr) (t2 : Bool) (l2 : Addr) (t3 : Bool) (l3 : Addr) : Heap := (zh3_2 h t1 l1 t2 l2 t3 l3).push (itO t3 l3)
abbrev zh3_4 (h : Heap) (t1 : Bool) (l1 : Addr) (t2 : Bool) (l2 : Addr) (t3 : Bool) (l3 : Addr) : Heap := (zh3_3 h t1 l1 t2 l2 t3 l3).push { cls := .type "tuple", data := .seq #[.ref h.objs.size, .ref (zh3_1 h t1 l1 t2 l2 t3 l3).objs.size, .ref (zh3_2 h t1 l1 t2 l2 t3 l3).objs.size] }
abbrev zh3_5 (h : Heap) (t1 : Bool) (l1 : Addr) (t2 : Bool) (l2 : Addr) (t3 : Bool) (l3 : Addr) : Heap := (zh3_4 h t1 l1 t2 l2 t3 l3).push { cls := .type "tuple", data := .seq #[.none, .none, .none] }
abbrev zh3_6 (h : Heap) (t1 : Bool) (l1 : Addr) (t2 : Bool) (l2 : Addr) (t3 : Bool) (l3 : Addr) : Heap := (zh3_5 h t1 l1 t2 l2 t3 l3).push { cls := .type "zip", data := .fields #[.none, .bool false, .bool false, .ref (zh3_3 h t1 l1 t2 l2 t3 l3).objs.size, .ref (zh3_4 h t1 l1 t2 l2 t3 l3).objs.size] }
theorem new3 (t1 : Bool) (l1 : Addr) (t2 : Bool) (l2 : Addr) (t3 : Bool) (l3 : Addr) (xs1 xs2 xs3 : Array Value) : Meets (Builtin.«zip.__new__» ⟨[.type "zip", .ref l1, .ref l2, .ref l3], []⟩) (fun _ R s => SqB t1 s.heap l1 xs1 ∧ SqB t2 s.heap l2 xs2 ∧ SqB t3 s.heap l3 xs3 ∧ R (.ok (.ret (.ref (zh3_5 s.heap t1 l1 t2 l2 t3 l3).objs.size))) { s with heap := (zh3_6 s.heap t1 l1 t2 l2 t3 l3) }) :=
  .of_wp fun prog w A R s h => by
    obtain ⟨hp, g, d, tk, os⟩ := s
    obtain ⟨q1, q2, q3, h⟩ := h
    have hsub := sub_zip
    have Q1 : SqB t1 (Shared.heap ⟨hp, g, d, tk, os⟩) l1 xs1 := q1
    have Q2 : SqB t2 (Shared.heap ⟨(hp.push (itO t1 l1)), g, d, tk, os⟩) l2 xs2 := (SqB.push q2 _)
    have Q3 : SqB t3 (Shared.heap ⟨((hp.push (itO t1 l1)).push (itO t2 l2)), g, d, tk, os⟩) l3 xs3 := (SqB.push (SqB.push q3 _) _)
    wp_walk using src_iter Q1, src_iter Q2, src_iter Q3
    exact ⟨_, rfl, h⟩
theorem call3 {t1 t2 t3 : Bool} {l1 l2 l3 : Addr} {xs1 xs2 xs3 : Array Value} {Q : Value → Shared → Prop} (q1 : SqB t1 s.heap l1 xs1) (q2 : SqB t2 s.heap l2 xs2) (q3 : SqB t3 s.heap l3 xs3)
    (h : ∀ h', IsZip h' (s.heap.objs.size + 5) (s.heap.objs.size + 3) (s.heap.objs.size + 4) .none → TupAt h' (s.heap.objs.size + 3) #[.ref (s.heap.objs.size + 0), .ref (s.heap.objs.size + 1), .ref (s.heap.objs.size + 2)] → TupAt h' (s.heap.objs.size + 4) #[.none, .none, .none] → (⟨t1, s.heap.objs.size + 0, l1, xs1⟩ : Sc).It h' 0 → (⟨t2, s.heap.objs.size + 1, l2, xs2⟩ : Sc).It h' 0 → (⟨t3, s.heap.objs.size + 2, l3, xs3⟩ : Sc).It h' 0 → h'.objs.size = s.heap.objs.size + 6 → (∀ c o, s.heap.get? c = some o → h'.get? c = some o) → Q (.ref (s.heap.objs.size + 5)) { s with heap := h' }) : wpAny (model prog w) A (call (.type "zip") [.ref l1, .ref l2, .ref l3]) Q E s := by
  refine callType_new PySem.F.called_zip (by decide) (typeCall3 _ _ _) (newCall3 _ _ _) (fun obj => initArgs4 obj _ _ _) PySem.F.entry_zip_new (new3 t1 l1 t2 l2 t3 l3 xs1 xs2 xs3) ⟨q1, q2, q3, ?_⟩
  have w0 : s.heap.objs.size = s.heap.objs.size := rfl
  have w1 : (zh3_1 s.heap t1 l1 t2 l2 t3 l3).objs.size = s.heap.objs.size + 1 := by rw [Heap.size_push]
  have w2 : (zh3_2 s.heap t1 l1 t2 l2 t3 l3).objs.size = s.heap.objs.size + 2 := by rw [Heap.size_push, w1]
  have w3 : (zh3_3 s.heap t1 l1 t2 l2 t3 l3).objs.size = s.heap.objs.size + 3 := by rw [Heap.size_push, w2]
  have w4 : (zh3_4 s.heap t1 l1 t2 l2 t3 l3).objs.size = s.heap.objs.size + 4 := by rw [Heap.size_push, w3]
  have w5 : (zh3_5 s.heap t1 l1 t2 l2 t3 l3).objs.size = s.heap.objs.size + 5 := by rw [Heap.size_push, w4]
  have w6 : (zh3_6 s.heap t1 l1 t2 l2 t3 l3).objs.size = s.heap.objs.size + 6 := by rw [Heap.size_push, w5]
  have g1 : (zh3_6 s.heap t1 l1 t2 l2 t3 l3).get? s.heap.objs.size = some _ := (Heap.get?_push_of_some _ (Heap.get?_push_of_some _ (Heap.get?_push_of_some _ (Heap.get?_push_of_some _ (Heap.get?_push_of_some _ (Heap.get?_push_size _ rfl))))))
  have g2 : (zh3_6 s.heap t1 l1 t2 l2 t3 l3).get? (zh3_1 s.heap t1 l1 t2 l2 t3 l3).objs.size = some _ := (Heap.get?_push_of_some _ (Heap.get?_push_of_some _ (Heap.get?_push_of_some _ (Heap.get?_push_of_some _ (Heap.get?_push_size _ rfl)))))
  have g3 : (zh3_6 s.heap t1 l1 t2 l2 t3 l3).get? (zh3_2 s.heap t1 l1 t2 l2 t3 l3).objs.size = some _ := (Heap.get?_push_of_some _ (Heap.get?_push_of_some _ (Heap.get?_push_of_some _ (Heap.get?_push_size _ rfl))))
  have g4 : (zh3_6 s.heap t1 l1 t2 l2 t3 l3).get? (zh3_3 s.heap t1 l1 t2 l2 t3 l3).objs.size = some _ := (Heap.get?_push_of_some _ (Heap.get?_push_of_some _ (Heap.get?_push_size _ rfl)))
  have g5 : (zh3_6 s.heap t1 l1 t2 l2 t3 l3).get? (zh3_4 s.heap t1 l1 t2 l2 t3 l3).objs.size = some _ := (Heap.get?_push_of_some _ (Heap.get?_push_size _ rfl))
  have g6 : (zh3_6 s.heap t1 l1 t2 l2 t3 l3).get? (zh3_5 s.heap t1 l1 t2 l2 t3 l3).objs.size = some _ := (Heap.get?_push_size _ rfl)
  show _ ∧ _
  rw [w3, w4, w5] at g6
  rw [w4] at g5
  rw [w1, w2, w3] at g4
  rw [w1] at g2
  rw [w2] at g3
  rw [w5]
  exact ⟨⟨_, g6, rfl⟩, h _ g6 g4 g5 (it0 g1) (it0 g2) (it0 g3) w6 fun c o x => Heap.get?_push_of_some _ (Heap.get?_push_of_some _ (Heap.get?_push_of_some _ (Heap.get?_push_of_some _ (Heap.get?_push_of_some _ (Heap.get?_push_of_some _ (x))))))⟩
end
end Zn
/-! Pl17: zip of two or three, each a list or a tuple, lifted. -/
namespace Zn
open PySem PySem.Spec PyProof.Rows L2
def SqK (K : PySem.W.Frag) (tu : Bool) (H : Hp) (a : Addr) (xs : List V) : Prop := if tu = true then SqT K H a xs else SqL K H a xs
section
variable {X : Cx} {pins : List (Addr × Obj)} {σ : L2.St} {H : Hp} {s : Shared}
theorem SqK.raw (I : Inv X pins σ H s) {tu : Bool} {a : Addr} {xs : List V} (h : SqK X.K tu H a xs) : ∃ its : List Value, Vals xs its ∧ SqB tu s.heap a its.toArray ∧ a < s.heap.objs.size := by
  cases tu with
  | true =>
    obtain ⟨its, rv, p, _⟩ := I.tuple (show SqT X.K H a xs from h)
    obtain ⟨o, ho, r⟩ := id p
    exact ⟨its, rv, ⟨o, ho, r⟩, Heap.lt_size ho⟩
  | false =>
    obtain ⟨its, rv, p, _⟩ := I.list (show SqL X.K H a xs from h)
    exact ⟨its, rv, p.isList, p.lt⟩
theorem SqK.inj (I : Inv X pins σ H s) {tu : Bool} {a : Addr} {xs ys : List V} (h : SqK X.K tu H a xs) (h2 : SqK X.K tu H a ys) : xs = ys := by
  cases tu with
  | true => exact I.tuple_inj h h2
  | false => exact I.list_inj h h2
end
theorem SqB.sq {tu : Bool} {h : Heap} {i a : Addr} {xs : Array Value} (q : SqB tu h a xs) : (⟨tu, i, a, xs⟩ : Sc).Sq h := q
def It2 (K : PySem.W.Frag) (t1 : Bool) (a1 : Addr) (t2 : Bool) (a2 : Addr) : It :=
  ⟨fun i H => ∃ (xs1 xs2 : List V) (x1 x2 : V), SqK K t1 H a1 xs1 ∧ SqK K t2 H a2 xs2 ∧ xs1[i]? = some x1 ∧ xs2[i]? = some x2,
    fun i H v H' => ∃ (T : Addr) (x1 x2 : V), v = .ref T ∧ H T = none ∧ H' = upd H T (.tup [x1, x2]) ∧ (∀ ys, SqK K t1 H a1 ys → ys[i]? = some x1) ∧ (∀ ys, SqK K t2 H a2 ys → ys[i]? = some x2),
    fun i H => ∃ xs1 xs2 : List V, SqK K t1 H a1 xs1 ∧ SqK K t2 H a2 xs2 ∧ xs1.length ≤ i⟩
theorem turn2 {P : Program} {w : World} {K : PySem.W.Frag} {elts : List Expr} {kk : Nat} {tpos : Pos} {t1 t2 : Bool} {a1 a2 z TI TO i1 i2 : Addr} (D : ∀ r1 r2 : Array Value, Ap2 z TI TO ⟨t1, i1, a1, r1⟩ ⟨t2, i2, a2, r2⟩) :
    Turn P w K (.Tuple elts kk tpos) (It2 K t1 a1 t2 a2) [z, TI, TO, i1, i2] z (fun i h => IsZip h z TI TO .none ∧ TupAt h TI #[.ref i1, .ref i2] ∧ (∃ ws : Array Value, ws.size = 2 ∧ TupAt h TO ws) ∧ (⟨t1, i1, a1, #[]⟩ : Sc).It h i ∧ (⟨t2, i2, a2, #[]⟩ : Sc).It h i) where
  mem := by simp
  obj := fun i h st c hc => by
    obtain ⟨hz, hTI, ⟨ws, _, hTO⟩, p1, p2⟩ := st
    have q : c = z ∨ c = TI ∨ c = TO ∨ c = i1 ∨ c = i2 := by simpa using hc
    rcases q with q | q | q | q | q
    · rw [q]; exact ⟨_, hz, fun v q => nomatch q⟩
    · rw [q]; exact ⟨_, hTI, fun v q => nomatch q⟩
    · rw [q]; exact ⟨_, hTO, fun v q => nomatch q⟩
    · rw [q]; obtain ⟨o, ho, ys, d⟩ := Sc.It.obj p1; exact ⟨o, ho, fun v e => by rw [d] at e; cases e⟩
    · rw [q]; obtain ⟨o, ho, ys, d⟩ := Sc.It.obj p2; exact ⟨o, ho, fun v e => by rw [d] at e; cases e⟩
  keep := fun i h h' st k => by
    obtain ⟨hz, hTI, ⟨ws, hw, hTO⟩, p1, p2⟩ := st
    exact ⟨k z (by simp) _ hz, k TI (by simp) _ hTI, ⟨ws, hw, k TO (by simp) _ hTO⟩, p1.at fun o e => k i1 (by simp) o e, p2.at fun o e => k i2 (by simp) o e⟩
  item := by
    intro X hP hw hK hc i pins s σ H E I hf st hg
    subst hP hw hK
    obtain ⟨hz, hTI, ⟨ws, hw, hTO⟩, p1, p2⟩ := st
    obtain ⟨xs1, xs2, x1, x2, h1, h2, e1, e2⟩ := hg
    obtain ⟨y1, v1, q1, _⟩ := SqK.raw I h1
    obtain ⟨u1, g1, r1⟩ := v1.get e1
    obtain ⟨y2, v2, q2, _⟩ := SqK.raw I h2
    obtain ⟨u2, g2, r2⟩ := v2.get e2
    have zl : z < s.heap.objs.size := Heap.lt_size hz
    have A := D y1.toArray y2.toArray
    refine nx2 A hz hTI hw hTO p1 (SqB.sq q1) p2 (SqB.sq q2) (x1 := u1) (by simpa using g1) (x2 := u2) (by simpa using g2) fun h' z' w' b1 b2 hT sz k => ?_
    refine ⟨_, rfl, wpAny_letOwnedTupleGo_zip (s := { s with heap := h' }) z' fun hq z2 sb => ?_⟩
    have T2 : TupAt hq s.heap.objs.size #[u1, u2] := (sb.2 _ (Nat.ne_of_gt zl)).trans hT
    have new : ObjOk X.prog X.w (upd H s.heap.objs.size (.tup [x1, x2])) hq s.heap.objs.size (.tup [x1, x2]) := ⟨(by show 2 ≤ sizeLine; decide), [u1, u2], (.cons r1 (.cons r2 .nil)), ⟨_, T2, rfl, _, rfl⟩⟩
    have I1 : Inv X pins σ (upd H s.heap.objs.size (.tup [x1, x2])) { s with heap := hq } :=
      I.turnedNew (t' := s.toks) (ch := [z, TI, TO, i1, i2]) (fun c o hb q => (sb.2 c fun e => hb (by simp [e])).trans (k c o (fun m => hb (by
        simp only [List.mem_cons, List.not_mem_nil, or_false] at m ⊢
        rcases m with e | e | e | e <;> simp [e])) q)) hf (Nat.le_refl _) new
    obtain ⟨ws2, hw2, wT⟩ := w'
    have nTI : TI ∉ [z, TO, i1, i2] := by
      simp only [List.mem_cons, List.not_mem_nil, or_false, not_or]
      exact ⟨A.ti_z, A.ti_to, A.ti_i1, A.ti_i2⟩
    refine ⟨.ref s.heap.objs.size, _, I1, rfl, ⟨_, x1, x2, rfl, I.hok.fresh (Nat.le_refl _), rfl, fun l hl => (by rw [SqK.inj I hl h1]; exact e1), fun l hl => (by rw [SqK.inj I hl h2]; exact e2)⟩, ⟨z2, (sb.2 _ A.ti_z).trans (k _ _ nTI hTI), ⟨ws2, hw2, (sb.2 _ A.to_z).trans wT⟩, b1.at fun o q => (sb.2 _ A.i1_z).trans q, b2.at fun o q => (sb.2 _ A.i2_z).trans q⟩, fun c hcm => ?_⟩
    have lt : c < s.heap.objs.size := by
      have q : c = z ∨ c = TI ∨ c = TO ∨ c = i1 ∨ c = i2 := by simpa using hcm
      rcases q with q | q | q | q | q
      · rw [q]; exact zl
      · rw [q]; exact Heap.lt_size hTI
      · rw [q]; exact Heap.lt_size hTO
      · rw [q]; obtain ⟨o, ho, _⟩ := Sc.It.obj p1; exact Heap.lt_size ho
      · rw [q]; obtain ⟨o, ho, _⟩ := Sc.It.obj p2; exact Heap.lt_size ho
    rw [upd_ne (Nat.ne_of_lt lt)]
    exact (hf c hcm).1
  done := by
    intro X hP hw hK hc i pins s σ H E I hf st hg
    subst hP hw hK
    obtain ⟨hz, hTI, ⟨ws, hw, hTO⟩, p1, p2⟩ := st
    obtain ⟨xs1, xs2, h1, h2, hend⟩ := hg
    obtain ⟨y1, v1, q1, _⟩ := SqK.raw I h1
    obtain ⟨y2, v2, q2, _⟩ := SqK.raw I h2
    have l1 := v1.length
    refine nd2 (I.ok.hd hc) (D y1.toArray y2.toArray) hz hTI hw hTO p1 (SqB.sq q1) p2 (SqB.sq q2) (by simp; omega) fun h' k => ⟨rfl, I.turnedL (t' := s.toks) (ch := [z, TI, TO, i1, i2]) (fun c o hb q => k c o (fun m => hb (by
        simp only [List.mem_cons, List.not_mem_nil, or_false] at m ⊢
        rcases m with e | e | e | e <;> simp [e])) q) hf⟩
  self := fun A i s Q E st h => wpAny_pyIter_zip st.1 h
def iZip2 (K : PySem.W.Frag) (ta : TA) : TI := fun σ H R => ta σ H fun vs H1 => ∃ (t1 t2 : Bool) (a1 a2 : Addr) (xs1 xs2 : List V), vs = [.ref a1, .ref a2] ∧ SqK K t1 H1 a1 xs1 ∧ SqK K t2 H1 a2 xs2 ∧ R (It2 K t1 a1 t2 a2) H1
theorem pi_zip2 {X : Cx} {e1 e2 : Expr} {ta : TA} {p pos tpos : Pos} {elts : List Expr} {kk : Nat} (hg : Gl X "zip") (hm : X.mg "zip" = none) (ha : PA X [e1, e2] ta)
    (hs : starEach [e1, e2] X.env = (false, eval e1 X.env) :: starEach [e2] X.env := by rfl) (hpl : (backTo pos (starEach [e2] X.env)).any (·.1) = false := by rfl) :
    PI X (.Tuple elts kk tpos) (.Call (.Name "zip" p) [e1, e2] [] pos) (iZip2 X.K ta) := by
  refine ⟨fun pins s σ H R I h => ?_⟩
  refine Call_ <| ld_blt I hg hm PyProof.Rows.boot_zip <| PyProof.Rows.callWith_type1 (thn (ha.run pos pins s σ H _ I h) fun us s1 ⟨vs, H1, I1, r1, q1⟩ => ?_) hs hpl
  obtain ⟨t1, t2, a1, a2, xs1, xs2, ex, h1, h2, q⟩ := q1
  subst ex
  obtain rfl : us = [.ref a1, .ref a2] := by
    cases r1 with
    | cons ra rr =>
      cases ra
      cases rr with
      | cons ra rr =>
        cases ra
        cases rr
        rfl
  obtain ⟨y1, v1, q1, l1⟩ := SqK.raw I1 h1
  obtain ⟨y2, v2, q2, l2⟩ := SqK.raw I1 h2
  refine call2 q1 q2 fun h' hz hTI hTO p1 p2 hsz hk => wpAny_pyIter_zip hz ?_
  have I2 : Inv X pins σ H1 { s1 with heap := h' } := I1.kept (t' := s1.toks) hk
  have fresh : ∀ c, c ∈ [s1.heap.objs.size + 4, s1.heap.objs.size + 2, s1.heap.objs.size + 3, s1.heap.objs.size + 0, s1.heap.objs.size + 1] → FpOk X pins H1 c := fun c hcm => by
    have le : s1.heap.objs.size ≤ c := by
      simp only [List.mem_cons, List.not_mem_nil, or_false] at hcm
      omega
    exact I1.fpOk le (I1.hok.fresh le)
  have nl : ∀ (a k : Nat), a < s1.heap.objs.size → a ≠ s1.heap.objs.size + k := fun a k h => Nat.ne_of_lt (Nat.lt_of_lt_of_le h (Nat.le_add_right _ _))
  have nn : ∀ j k : Nat, j ≠ k → s1.heap.objs.size + j ≠ s1.heap.objs.size + k := fun j k h e => h (Nat.add_left_cancel e)
  exact ⟨s1.heap.objs.size + 4, [s1.heap.objs.size + 4, s1.heap.objs.size + 2, s1.heap.objs.size + 3, s1.heap.objs.size + 0, s1.heap.objs.size + 1], _, _, H1, rfl, I2, turn2 (z := s1.heap.objs.size + 4) (TI := s1.heap.objs.size + 2) (TO := s1.heap.objs.size + 3) (i1 := s1.heap.objs.size + 0) (i2 := s1.heap.objs.size + 1) (fun _ _ => by constructor <;> first | exact nn _ _ (by decide) | exact nl _ _ (by assumption)), ⟨hz, hTI, ⟨_, rfl, hTO⟩, p1, p2⟩, fresh, q⟩
def It3 (K : PySem.W.Frag) (t1 : Bool) (a1 : Addr) (t2 : Bool) (a2 : Addr) (t3 : Bool) (a3 : Addr) : It :=
  ⟨fun i H => ∃ (xs1 xs2 xs3 : List V) (x1 x2 x3 : V), SqK K t1 H a1 xs1 ∧ SqK K t2 H a2 xs2 ∧ SqK K t3 H a3 xs3 ∧ xs1[i]? = some x1 ∧ xs2[i]? = some x2 ∧ xs3[i]? = some x3,
    fun i H v H' => ∃ (T : Addr) (x1 x2 x3 : V), v = .ref T ∧ H T = none ∧ H' = upd H T (.tup [x1, x2, x3]) ∧ (∀ ys, SqK K t1 H a1 ys → ys[i]? = some x1) ∧ (∀ ys, SqK K t2 H a2 ys → ys[i]? = some x2) ∧ (∀ ys, SqK K t3 H a3 ys → ys[i]? = some x3),
    fun i H => ∃ xs1 xs2 xs3 : List V, SqK K t1 H a1 xs1 ∧ SqK K t2 H a2 xs2 ∧ SqK K t3 H a3 xs3 ∧ xs1.length ≤ i⟩
theorem turn3 {P : Program} {w : World} {K : PySem.W.Frag} {elts : List Expr} {kk : Nat} {tpos : Pos} {t1 t2 t3 : Bool} {a1 a2 a3 z TI TO i1 i2 i3 : Addr} (D : ∀ r1 r2 r3 : Array Value, Ap3 z TI TO ⟨t1, i1, a1, r1⟩ ⟨t2, i2, a2, r2⟩ ⟨t3, i3, a3, r3⟩) :
    Turn P w K (.Tuple elts kk tpos) (It3 K t1 a1 t2 a2 t3 a3) [z, TI, TO, i1, i2, i3] z (fun i h => IsZip h z TI TO .none ∧ TupAt h TI #[.ref i1, .ref i2, .ref i3] ∧ (∃ ws : Array Value, ws.size = 3 ∧ TupAt h TO ws) ∧ (⟨t1, i1, a1, #[]⟩ : Sc).It h i ∧ (⟨t2, i2, a2, #[]⟩ : Sc).It h i ∧ (⟨t3, i3, a3, #[]⟩ : Sc).It h i) where
  mem := by simp
  obj := fun i h st c hc => by
    obtain ⟨hz, hTI, ⟨ws, _, hTO⟩, p1, p2, p3⟩ := st
    have q : c = z ∨ c = TI ∨ c = TO ∨ c = i1 ∨ c = i2 ∨ c = i3 := by simpa using hc
    rcases q with q | q | q | q | q | q
    · rw [q]; exact ⟨_, hz, fun v q => nomatch q⟩
    · rw [q]; exact ⟨_, hTI, fun v q => nomatch q⟩
    · rw [q]; exact ⟨_, hTO, fun v q => nomatch q⟩
    · rw [q]; obtain ⟨o, ho, ys, d⟩ := Sc.It.obj p1; exact ⟨o, ho, fun v e => by rw [d] at e; cases e⟩
    · rw [q]; obtain ⟨o, ho, ys, d⟩ := Sc.It.obj p2; exact ⟨o, ho, fun v e => by rw [d] at e; cases e⟩
    · rw [q]; obtain ⟨o, ho, ys, d⟩ := Sc.It.obj p3; exact ⟨o, ho, fun v e => by rw [d] at e; cases e⟩
  keep := fun i h h' st k => by
    obtain ⟨hz, hTI, ⟨ws, hw, hTO⟩, p1, p2, p3⟩ := st
    exact ⟨k z (by simp) _ hz, k TI (by simp) _ hTI, ⟨ws, hw, k TO (by simp) _ hTO⟩, p1.at fun o e => k i1 (by simp) o e, p2.at fun o e => k i2 (by simp) o e, p3.at fun o e => k i3 (by simp) o e⟩
  item := by
    intro X hP hw hK hc i pins s σ H E I hf st hg
    subst hP hw hK
    obtain ⟨hz, hTI, ⟨ws, hw, hTO⟩, p1, p2, p3⟩ := st
    obtain ⟨xs1, xs2, xs3, x1, x2, x3, h1, h2, h3, e1, e2, e3⟩ := hg
    obtain ⟨y1, v1, q1, _⟩ := SqK.raw I h1
    obtain ⟨u1, g1, r1⟩ := v1.get e1
    obtain ⟨y2, v2, q2, _⟩ := SqK.raw I h2
    obtain ⟨u2, g2, r2⟩ := v2.get e2
    obtain ⟨y3, v3, q3, _⟩ := SqK.raw I h3
    obtain ⟨u3, g3, r3⟩ := v3.get e3
    have zl : z < s.heap.objs.size := Heap.lt_size hz
    have A := D y1.toArray y2.toArray y3.toArray
    refine nx3 A hz hTI hw hTO p1 (SqB.sq q1) p2 (SqB.sq q2) p3 (SqB.sq q3) (x1 := u1) (by simpa using g1) (x2 := u2) (by simpa using g2) (x3 := u3) (by simpa using g3) fun h' z' w' b1 b2 b3 hT sz k => ?_
    refine ⟨_, rfl, wpAny_letOwnedTupleGo_zip (s := { s with heap := h' }) z' fun hq z2 sb => ?_⟩
    have T2 : TupAt hq s.heap.objs.size #[u1, u2, u3] := (sb.2 _ (Nat.ne_of_gt zl)).trans hT
    have new : ObjOk X.prog X.w (upd H s.heap.objs.size (.tup [x1, x2, x3])) hq s.heap.objs.size (.tup [x1, x2, x3]) := ⟨(by show 3 ≤ sizeLine; decide), [u1, u2, u3], (.cons r1 (.cons r2 (.cons r3 .nil))), ⟨_, T2, rfl, _, rfl⟩⟩
    have I1 : Inv X pins σ (upd H s.heap.objs.size (.tup [x1, x2, x3])) { s with heap := hq } :=
      I.turnedNew (t' := s.toks) (ch := [z, TI, TO, i1, i2, i3]) (fun c o hb q => (sb.2 c fun e => hb (by simp [e])).trans (k c o (fun m => hb (by
        simp only [List.mem_cons, List.not_mem_nil, or_false] at m ⊢
        rcases m with e | e | e | e | e <;> simp [e])) q)) hf (Nat.le_refl _) new
    obtain ⟨ws2, hw2, wT⟩ := w'
    have nTI : TI ∉ [z, TO, i1, i2, i3] := by
      simp only [List.mem_cons, List.not_mem_nil, or_false, not_or]
      exact ⟨A.ti_z, A.ti_to, A.ti_i1, A.ti_i2, A.ti_i3⟩
    refine ⟨.ref s.heap.objs.size, _, I1, rfl, ⟨_, x1, x2, x3, rfl, I.hok.fresh (Nat.le_refl _), rfl, fun l hl => (by rw [SqK.inj I hl h1]; exact e1), fun l hl => (by rw [SqK.inj I hl h2]; exact e2), fun l hl => (by rw [SqK.inj I hl h3]; exact e3)⟩, ⟨z2, (sb.2 _ A.ti_z).trans (k _ _ nTI hTI), ⟨ws2, hw2, (sb.2 _ A.to_z).trans wT⟩, b1.at fun o q => (sb.2 _ A.i1_z).trans q, b2.at fun o q => (sb.2 _ A.i2_z).trans q, b3.at fun o q => (sb.2 _ A.i3_z).trans q⟩, fun c hcm => ?_⟩
    have lt : c < s.heap.objs.size := by
      have q : c = z ∨ c = TI ∨ c = TO ∨ c = i1 ∨ c = i2 ∨ c = i3 := by simpa using hcm
      rcases q with q | q | q | q | q | q
      · rw [q]; exact zl
      · rw [q]; exact Heap.lt_size hTI
      · rw [q]; exact Heap.lt_size hTO
      · rw [q]; obtain ⟨o, ho, _⟩ := Sc.It.obj p1; exact Heap.lt_size ho
      · rw [q]; obtain ⟨o, ho, _⟩ := Sc.It.obj p2; exact Heap.lt_size ho
      · rw [q]; obtain ⟨o, ho, _⟩ := Sc.It.obj p3; exact Heap.lt_size ho
    rw [upd_ne (Nat.ne_of_lt lt)]
    exact (hf c hcm).1
  done := by
    intro X hP hw hK hc i pins s σ H E I hf st hg
    subst hP hw hK
    obtain ⟨hz, hTI, ⟨ws, hw, hTO⟩, p1, p2, p3⟩ := st
    obtain ⟨xs1, xs2, xs3, h1, h2, h3, hend⟩ := hg
    obtain ⟨y1, v1, q1, _⟩ := SqK.raw I h1
    obtain ⟨y2, v2, q2, _⟩ := SqK.raw I h2
    obtain ⟨y3, v3, q3, _⟩ := SqK.raw I h3
    have l1 := v1.length
    refine nd3 (I.ok.hd hc) (D y1.toArray y2.toArray y3.toArray) hz hTI hw hTO p1 (SqB.sq q1) p2 (SqB.sq q2) p3 (SqB.sq q3) (by simp; omega) fun h' k => ⟨rfl, I.turnedL (t' := s.toks) (ch := [z, TI, TO, i1, i2, i3]) (fun c o hb q => k c o (fun m => hb (by
        simp only [List.mem_cons, List.not_mem_nil, or_false] at m ⊢
        rcases m with e | e | e | e | e <;> simp [e])) q) hf⟩
  self := fun A i s Q E st h => wpAny_pyIter_zip st.1 h
def iZip3 (K : PySem.W.Frag) (ta : TA) : TI := fun σ H R => ta σ H fun vs H1 => ∃ (t1 t2 t3 : Bool) (a1 a2 a3 : Addr) (xs1 xs2 xs3 : List V), vs = [.ref a1, .ref a2, .ref a3] ∧ SqK K t1 H1 a1 xs1 ∧ SqK K t2 H1 a2 xs2 ∧ SqK K t3 H1 a3 xs3 ∧ R (It3 K t1 a1 t2 a2 t3 a3) H1
theorem pi_zip3 {X : Cx} {e1 e2 e3 : Expr} {ta : TA} {p pos tpos : Pos} {elts : List Expr} {kk : Nat} (hg : Gl X "zip") (hm : X.mg "zip" = none) (ha : PA X [e1, e2, e3] ta)
    (hs : starEach [e1, e2, e3] X.env = (false, eval e1 X.env) :: starEach [e2, e3] X.env := by rfl) (hpl : (backTo pos (starEach [e2, e3] X.env)).any (·.1) = false := by rfl) :
    PI X (.Tuple elts kk tpos) (.Call (.Name "zip" p) [e1, e2, e3] [] pos) (iZip3 X.K ta) := by
  refine ⟨fun pins s σ H R I h => ?_⟩
  refine Call_ <| ld_blt I hg hm PyProof.Rows.boot_zip <| PyProof.Rows.callWith_type1 (thn (ha.run pos pins s σ H _ I h) fun us s1 ⟨vs, H1, I1, r1, q1⟩ => ?_) hs hpl
  obtain ⟨t1, t2, t3, a1, a2, a3, xs1, xs2, xs3, ex, h1, h2, h3, q⟩ := q1
  subst ex
  obtain rfl : us = [.ref a1, .ref a2, .ref a3] := by
    cases r1 with
    | cons ra rr =>
      cases ra
      cases rr with
      | cons ra rr =>
        cases ra
        cases rr with
        | cons ra rr =>
          cases ra
          cases rr
          rfl
  obtain ⟨y1, v1, q1, l1⟩ := SqK.raw I1 h1
  obtain ⟨y2, v2, q2, l2⟩ := SqK.raw I1 h2
  obtain ⟨y3, v3, q3, l3⟩ := SqK.raw I1 h3
  refine call3 q1 q2 q3 fun h' hz hTI hTO p1 p2 p3 hsz hk => wpAny_pyIter_zip hz ?_
  have I2 : Inv X pins σ H1 { s1 with heap := h' } := I1.kept (t' := s1.toks) hk
  have fresh : ∀ c, c ∈ [s1.heap.objs.size + 5, s1.heap.objs.size + 3, s1.heap.objs.size + 4, s1.heap.objs.size + 0, s1.heap.objs.size + 1, s1.heap.objs.size + 2] → FpOk X pins H1 c := fun c hcm => by
    have le : s1.heap.objs.size ≤ c := by
      simp only [List.mem_cons, List.not_mem_nil, or_false] at hcm
      omega
    exact I1.fpOk le (I1.hok.fresh le)
  have nl : ∀ (a k : Nat), a < s1.heap.objs.size → a ≠ s1.heap.objs.size + k := fun a k h => Nat.ne_of_lt (Nat.lt_of_lt_of_le h (Nat.le_add_right _ _))
  have nn : ∀ j k : Nat, j ≠ k → s1.heap.objs.size + j ≠ s1.heap.objs.size + k := fun j k h e => h (Nat.add_left_cancel e)
  exact ⟨s1.heap.objs.size + 5, [s1.heap.objs.size + 5, s1.heap.objs.size + 3, s1.heap.objs.size + 4, s1.heap.objs.size + 0, s1.heap.objs.size + 1, s1.heap.objs.size + 2], _, _, H1, rfl, I2, turn3 (z := s1.heap.objs.size + 5) (TI := s1.heap.objs.size + 3) (TO := s1.heap.objs.size + 4) (i1 := s1.heap.objs.size + 0) (i2 := s1.heap.objs.size + 1) (i3 := s1.heap.objs.size + 2) (fun _ _ _ => by constructor <;> first | exact nn _ _ (by decide) | exact nl _ _ (by assumption)), ⟨hz, hTI, ⟨_, rfl, hTO⟩, p1, p2, p3⟩, fresh, q⟩
end Zn
/-! Pl18: zip of two or three, each a list or a tuple, over plain data. -/
namespace Pl
open PySem L2 Wp PyProof.Rows Zn
section
variable {K : PySem.W.Frag}
def SrcAt (K : PySem.W.Frag) (c : Ct) (F H : Hp) (st tu : Bool) (ds : List D) (a : Addr) : Prop := ∀ F' O' ρ' σ' H', Sim K c F' O' ρ' σ' H' → (if st = true then Ex F F' else Gr c.P F H F' H') → ∃ vs, SqK K tu H' a vs ∧ Reps K F' vs ds
theorem src_of {c F O ρ σ H} {x : X} {v : V} {R : List D → Bool → Prop} (S : Sim K c F O ρ σ H) (r : XM K c F H x v) (q : itA x R) : ∃ tu a ds st, v = .ref a ∧ R ds st ∧ SrcAt K c F H st tu ds a := by
  by_cases ht : ∃ ds, x = .f (.tup ds)
  · obtain ⟨ds, rfl⟩ := ht
    cases r with
    | tup h1 h2 =>
      refine ⟨true, _, ds, true, rfl, q, fun F' O' ρ' σ' H' S' e => ?_⟩
      have e : Ex F F' := by simpa using e
      exact ⟨_, sqt_ex S'.fh (sqt_ex e h1), h2.mono e⟩
  · have q2 : itX x R := by
      cases x with
      | f d =>
        cases d with
        | tup ds => exact absurd ⟨ds, rfl⟩ ht
        | _ => exact q
      | b od => cases od <;> exact q
      | q od => cases od <;> exact q
      | _ => exact q
    obtain ⟨a, ds, st, rfl, q, ha⟩ := lst_of S r q2
    refine ⟨false, a, ds, st, rfl, q, fun F' O' ρ' σ' H' S' e => ?_⟩
    obtain ⟨vs, h1, h2⟩ := ha F' O' ρ' σ' H' S' e
    exact ⟨vs, SqL.of h1, h2⟩
def zip3D : List D → List D → List D → List D
  | d :: ds, e :: es, f :: fs => .tup [d, e, f] :: zip3D ds es fs
  | _, _, _ => []
theorem zip3_len : ∀ {ds es fs : List D}, ds.length = es.length → ds.length = fs.length → (zip3D ds es fs).length = ds.length
  | [], _, _, _, _ => rfl
  | d :: ds, e :: es, f :: fs, h1, h2 => by
    show (zip3D ds es fs).length + 1 = ds.length + 1
    rw [zip3_len (Nat.succ.inj h1) (Nat.succ.inj h2)]
  | d :: ds, [], _, h1, _ => by cases h1
  | d :: ds, e :: es, [], _, h2 => by cases h2
theorem zip3_get : ∀ {ds es fs : List D} {i : Nat} {x : D}, (zip3D ds es fs)[i]? = some x → ∃ d e f, ds[i]? = some d ∧ es[i]? = some e ∧ fs[i]? = some f ∧ x = .tup [d, e, f]
  | d :: ds, e :: es, f :: fs, 0, x, h => by cases h; exact ⟨d, e, f, rfl, rfl, rfl, rfl⟩
  | d :: ds, e :: es, f :: fs, i + 1, x, h => zip3_get (ds := ds) (es := es) (fs := fs) (i := i) h
  | [], _, _, _, _, h => by cases h
  | d :: ds, [], _, _, _, h => by cases h
  | d :: ds, e :: es, [], _, _, h => by cases h
def kZn4 (R : List D → Bool → Prop) (ds : List D) (s : Bool) (es : List D) (t : Bool) (fs : List D) (u : Bool) : Prop := ds.length = es.length ∧ ds.length = fs.length ∧ R (zip3D ds es fs) (s && (t && u))
def kZn3 (R : List D → Bool → Prop) (z : X) (ds : List D) (s : Bool) (es : List D) (t : Bool) : Prop := itA z (kZn4 R ds s es t)
def kZn2 (R : List D → Bool → Prop) (y z : X) (ds : List D) (s : Bool) : Prop := itA y (kZn3 R z ds s)
def kZn1 (R : List D → Bool → Prop) (xs : List X) : Prop := ∃ x y z, xs = [x, y, z] ∧ itA x (kZn2 R y z)
def mZn3 (m : MA) : MI := fun ρ R => m ρ (kZn1 R)
def kYn3 (R : List D → Bool → Prop) (ds : List D) (s : Bool) (es : List D) (t : Bool) : Prop := ds.length = es.length ∧ R (zipD ds es) (s && t)
def kYn2 (R : List D → Bool → Prop) (y : X) (ds : List D) (s : Bool) : Prop := itA y (kYn3 R ds s)
def kYn1 (R : List D → Bool → Prop) (xs : List X) : Prop := ∃ x y, xs = [x, y] ∧ itA x (kYn2 R y)
def mZn2 (m : MA) : MI := fun ρ R => m ρ (kYn1 R)
theorem i_zn3 {n : Nat} {ta : TA} {m : MA} (h : PurA K n ta m) : PurI K (iZip3 K ta) (mZn3 m) := by
  intro c F O ρ σ H R R' S hm k
  refine h c F O ρ σ H _ _ S hm fun F1 H1 xs vs g S1 r e q => ?_
  obtain ⟨x, y, z, rfl, q⟩ := q
  match vs, r with
  | [v1, v2, v3], r =>
    obtain ⟨t1, a1, ds, s, rfl, q, A1⟩ := src_of S1 r.1 q
    obtain ⟨t2, a2, es, t, rfl, q, A2⟩ := src_of S1 r.2.1 q
    obtain ⟨t3, a3, fs, u, rfl, ⟨l2, l3, q⟩, A3⟩ := src_of S1 r.2.2.1 q
    obtain ⟨vs, h1, _⟩ := A1 F1 O ρ σ H1 S1 (by cases s <;> simp [Ex.refl, Gr.refl])
    obtain ⟨ws, k1, _⟩ := A2 F1 O ρ σ H1 S1 (by cases t <;> simp [Ex.refl, Gr.refl])
    obtain ⟨us, j1, _⟩ := A3 F1 O ρ σ H1 S1 (by cases u <;> simp [Ex.refl, Gr.refl])
    refine ⟨t1, t2, t3, a1, a2, a3, vs, ws, us, rfl, h1, k1, j1, k _ _ _ _ _ g S1 ?_ q⟩
    intro F O ρ σ H S e i
    have e1 : (if s = true then Ex F1 F else Gr c.P F1 H1 F H) := by
      cases s <;> cases t <;> cases u <;> simp at e ⊢ <;> first | exact e | exact e.f
    have e2 : (if t = true then Ex F1 F else Gr c.P F1 H1 F H) := by
      cases s <;> cases t <;> cases u <;> simp at e ⊢ <;> first | exact e | exact e.f
    have e3 : (if u = true then Ex F1 F else Gr c.P F1 H1 F H) := by
      cases s <;> cases t <;> cases u <;> simp at e ⊢ <;> first | exact e | exact e.f
    obtain ⟨vs, h1, h2⟩ := A1 F O ρ σ H S e1
    obtain ⟨ws, k1, k2⟩ := A2 F O ρ σ H S e2
    obtain ⟨us, j1, j2⟩ := A3 F O ρ σ H S e3
    have hl := h2.length
    have kl := k2.length
    have jl := j2.length
    rw [zip3_len l2 l3]
    refine ⟨fun hi => ⟨vs, ws, us, vs[i]'(by omega), ws[i]'(by omega), us[i]'(by omega), h1, k1, j1, List.getElem?_eq_getElem (by omega), List.getElem?_eq_getElem (by omega), List.getElem?_eq_getElem (by omega)⟩, fun hi => ⟨vs, ws, us, h1, k1, j1, by omega⟩, fun d x H' hd hy => ?_⟩
    obtain ⟨T, x1, x2, x3, rfl, hT, rfl, y1, y2, y3⟩ := hy
    obtain ⟨d1, d2, d3, g1, g2, g3, rfl⟩ := zip3_get hd
    obtain ⟨w1, p1, r1⟩ := h2.get g1
    obtain ⟨w2, p2, r2⟩ := k2.get g2
    obtain ⟨w3, p3, r3⟩ := j2.get g3
    have q1 := y1 vs h1
    have q2 := y2 ws k1
    have q3 := y3 us j1
    rw [p1] at q1
    rw [p2] at q2
    rw [p3] at q3
    obtain rfl := Option.some.inj q1
    obtain rfl := Option.some.inj q2
    obtain rfl := Option.some.inj q3
    have nf : Ex F (upd F T (.tup [w1, w2, w3])) := Ex.refl.new (S.fh.free hT)
    exact ⟨upd F T (.tup [w1, w2, w3]), Gr.new S.fh hT, S.new hT, .tup (SqT.of upd_same) (.cons (r1.mono nf) (.cons (r2.mono nf) (.cons (r3.mono nf) .nil)))⟩
theorem i_zn2 {n : Nat} {ta : TA} {m : MA} (h : PurA K n ta m) : PurI K (iZip2 K ta) (mZn2 m) := by
  intro c F O ρ σ H R R' S hm k
  refine h c F O ρ σ H _ _ S hm fun F1 H1 xs vs g S1 r e q => ?_
  obtain ⟨x, y, rfl, q⟩ := q
  match vs, r with
  | [v1, v2], r =>
    obtain ⟨t1, a1, ds, s, rfl, q, A1⟩ := src_of S1 r.1 q
    obtain ⟨t2, a2, es, t, rfl, ⟨l2, q⟩, A2⟩ := src_of S1 r.2.1 q
    obtain ⟨vs, h1, _⟩ := A1 F1 O ρ σ H1 S1 (by cases s <;> simp [Ex.refl, Gr.refl])
    obtain ⟨ws, k1, _⟩ := A2 F1 O ρ σ H1 S1 (by cases t <;> simp [Ex.refl, Gr.refl])
    refine ⟨t1, t2, a1, a2, vs, ws, rfl, h1, k1, k _ _ _ _ _ g S1 ?_ q⟩
    intro F O ρ σ H S e i
    have e1 : (if s = true then Ex F1 F else Gr c.P F1 H1 F H) := by
      cases s <;> cases t <;> simp at e ⊢ <;> first | exact e | exact e.f
    have e2 : (if t = true then Ex F1 F else Gr c.P F1 H1 F H) := by
      cases s <;> cases t <;> simp at e ⊢ <;> first | exact e | exact e.f
    obtain ⟨vs, h1, h2⟩ := A1 F O ρ σ H S e1
    obtain ⟨ws, k1, k2⟩ := A2 F O ρ σ H S e2
    have hl := h2.length
    have kl := k2.length
    unfold zipD
    rw [List.length_zipWith, ← l2, Nat.min_self]
    refine ⟨fun hi => ⟨vs, ws, vs[i]'(by omega), ws[i]'(by omega), h1, k1, List.getElem?_eq_getElem (by omega), List.getElem?_eq_getElem (by omega)⟩, fun hi => ⟨vs, ws, h1, k1, by omega⟩, fun d x H' hd hy => ?_⟩
    obtain ⟨T, x1, x2, rfl, hT, rfl, y1, y2⟩ := hy
    rw [List.getElem?_zipWith] at hd
    cases g1 : ds[i]? with
    | none => rw [g1] at hd; cases hd
    | some d1 =>
      cases g2 : es[i]? with
      | none => rw [g1, g2] at hd; cases hd
      | some d2 =>
        rw [g1, g2] at hd
        cases hd
        obtain ⟨w1, p1, r1⟩ := h2.get g1
        obtain ⟨w2, p2, r2⟩ := k2.get g2
        have q1 := y1 vs h1
        have q2 := y2 ws k1
        rw [p1] at q1
        rw [p2] at q2
        obtain rfl := Option.some.inj q1
        obtain rfl := Option.some.inj q2
        have nf : Ex F (upd F T (.tup [w1, w2])) := Ex.refl.new (S.fh.free hT)
        exact ⟨upd F T (.tup [w1, w2]), Gr.new S.fh hT, S.new hT, .tup (SqT.of upd_same) (.cons (r1.mono nf) (.cons (r2.mono nf) .nil))⟩
end
theorem pi_zn3K {X : L2.Cx} {K : PySem.W.Frag} {e1 e2 e3 : Expr} {ta : TA} {p pos tpos : Pos} {elts : List Expr} {kk : Nat} (h : X.K = K) (hg : Gl X "zip") (hm : X.mg "zip" = none) (ha : PA X [e1, e2, e3] ta)
    (hs : starEach [e1, e2, e3] X.env = (false, eval e1 X.env) :: starEach [e2, e3] X.env := by rfl) (hpl : (backTo pos (starEach [e2, e3] X.env)).any (·.1) = false := by rfl) : PI X (.Tuple elts kk tpos) (.Call (.Name "zip" p) [e1, e2, e3] [] pos) (iZip3 K ta) := h ▸ pi_zip3 hg hm ha hs hpl
theorem pi_zn2K {X : L2.Cx} {K : PySem.W.Frag} {e1 e2 : Expr} {ta : TA} {p pos tpos : Pos} {elts : List Expr} {kk : Nat} (h : X.K = K) (hg : Gl X "zip") (hm : X.mg "zip" = none) (ha : PA X [e1, e2] ta)
    (hs : starEach [e1, e2] X.env = (false, eval e1 X.env) :: starEach [e2] X.env := by rfl) (hpl : (backTo pos (starEach [e2] X.env)).any (·.1) = false := by rfl) : PI X (.Tuple elts kk tpos) (.Call (.Name "zip" p) [e1, e2] [] pos) (iZip2 K ta) := h ▸ pi_zip2 hg hm ha hs hpl
theorem w_zn3 {R : List D → Bool → Prop} {ρ : Env} {m : MA} : mZn3 m ρ R = m ρ (kZn1 R) := rfl
theorem w_zn3a {R : List D → Bool → Prop} {x y z : X} : kZn1 R [x, y, z] = itA x (kZn2 R y z) := propext ⟨fun ⟨_, _, _, e, h⟩ => by cases e; exact h, fun h => ⟨_, _, _, rfl, h⟩⟩
theorem w_zn3b {R : List D → Bool → Prop} {y z : X} {ds : List D} {s : Bool} : kZn2 R y z ds s = itA y (kZn3 R z ds s) := rfl
theorem w_zn3c {R : List D → Bool → Prop} {z : X} {ds es : List D} {s t : Bool} : kZn3 R z ds s es t = itA z (kZn4 R ds s es t) := rfl
theorem w_zn3d {R : List D → Bool → Prop} {ds es fs : List D} {s t u : Bool} : kZn4 R ds s es t fs u = (ds.length = es.length ∧ ds.length = fs.length ∧ R (zip3D ds es fs) (s && (t && u))) := rfl
theorem w_zn2 {R : List D → Bool → Prop} {ρ : Env} {m : MA} : mZn2 m ρ R = m ρ (kYn1 R) := rfl
theorem w_zn2a {R : List D → Bool → Prop} {x y : X} : kYn1 R [x, y] = itA x (kYn2 R y) := propext ⟨fun ⟨_, _, e, h⟩ => by cases e; exact h, fun h => ⟨_, _, rfl, h⟩⟩
theorem w_zn2b {R : List D → Bool → Prop} {y : X} {ds : List D} {s : Bool} : kYn2 R y ds s = itA y (kYn3 R ds s) := rfl
theorem w_zn2c {R : List D → Bool → Prop} {ds es : List D} {s t : Bool} : kYn3 R ds s es t = (ds.length = es.length ∧ R (zipD ds es) (s && t)) := rfl
end Pl
/-! Dsrt: sorted(d), sorted(d, reverse=True): a dict with whole numbers as keys, any number of them. -/
namespace L2
open PySem PySem.Spec PyProof.Rows
section
variable {X : Cx}
def rSDI (b : Bool) (zs0 : List V) : List V → List V → Hp → VK → Prop := fun xs zs H Q => ∃ (a : Addr) (kvs : List (Key × V)) (ks : List Int), xs = [.ref a] ∧ zs = zs0 ∧ Rd H a (.dK kvs) ∧ kvs.map (·.1) = ks.map Sum.inl ∧
    ∀ (ys : List Int) (p : Addr), ys.Perm ks → OrdB b ys → H p = none → Q (.ref p) (upd H p (.lst (ys.map V.int)))
theorem sdi_run {b : Bool} {kw : List (Str × Value)} {pins : List (Addr × Obj)} {s : Shared} {σ : St} {H : Hp} {a : Addr} {kvs : List (Key × V)} {ks : List Int} {Q : VK} (hcalm : X.calm = true) (I : Inv X pins σ H s) (hd : Rd H a (.dK kvs)) (hks : kvs.map (·.1) = ks.map Sum.inl)
    (hk : ∀ a, Builtin.«list.sort» ⟨[.ref a], kw⟩ = Builtin.«list.sort» ⟨[.ref a], [(Str.ofString "reverse", .bool b)]⟩) (ha1 : argsOk "sorted" ⟨[.ref a], kw⟩) (ha2 : ∀ a, argsOk "list.sort" ⟨[a], kw⟩)
    (q : ∀ (ns' : List Int) (p : Addr), ns'.Perm ks → OrdB b ns' → H p = none → Q (.ref p) (upd H p (.lst (ns'.map V.int)))) : wpAny (model X.prog X.w) X.A (call (.builtin "sorted") [.ref a] kw) (EP X pins σ Q) X.xe s := by
  obtain ⟨z, lo, vs, rel, dd⟩ := dk_rd I.hok hd
  obtain ⟨ep, hat⟩ := dd.dictAt
  have hkeys : vs.map (·.1) = ks.map Sum.inl := rel.keys.symm.trans hks
  have hl : vs.length = ks.length := by
    have e := congrArg List.length hkeys
    rw [List.length_map, List.length_map] at e
    exact e
  have hkl : kvs.length = ks.length := by
    have e := congrArg List.length hks
    rw [List.length_map, List.length_map] at e
    exact e
  have h16 : vs.length ≤ sizeLine := by rw [hl, ← hkl]; exact z
  refine call_function_entry_kw kind_sorted plain_sorted entry_sorted ha1 ?_
  unfold Builtin.«sorted»
  refine wpAny_bind (m := checkCount "sorted" 1 1 _) (wpAny_pure ?_)
  refine wpAny_bind (PySem.W.kdu_collect (A := X.A.in1) (PySem.W.kdl_dict (knd := mixKind X.prog X.w) (kvs := vs) (ep := ep) lo) (I.ok.hd hcalm) hat h16 fun h' tk acc hk' hacc => ?_)
  have hal : acc.toList.length = ks.length := by rw [Array.length_toList, hacc.1, hl]
  have hS : IntsAre acc.toList ks := ints_each hal fun j v e => by
    obtain ⟨k, x, e1, e2⟩ := hacc.2 j v (by rw [← Array.getElem?_toList]; exact e)
    have e3 : (vs.map (·.1))[j]? = some k := by rw [List.getElem?_map, e1]; rfl
    rw [hkeys, List.getElem?_map] at e3
    cases e4 : ks[j]? with
    | none => rw [e4] at e3; cases e3
    | some y =>
      rw [e4] at e3
      have e5 : Sum.inl y = k := Option.some.inj e3
      subst e5
      rcases keyIs_shape (show keyIs (Sum.inl y) v = true from e2) with ⟨i, t, ek, ev⟩ | ⟨z, t, ek, ev⟩
      · cases ek
        exact ⟨y, t, rfl, ev⟩
      · cases ek
  have I1 : Inv X pins σ H { s with heap := h', toks := tk } := I.kept hk'
  have hz2 : acc.toList.length ≤ sizeLine := by rw [hal, ← hkl]; exact z
  refine wpAny_bind (wpAny_newList ?_ hz2)
  have hoL : (h'.push (seqObj "list" acc.toList.toArray 0)).get? h'.objs.size = some (seqObj "list" acc.toList.toArray 0) := Heap.get?_push_size _ rfl
  show wpAny _ _ _ _ _ { s with heap := h'.push (seqObj "list" acc.toList.toArray 0), toks := tk }
  refine wpAny_bind (wpAny_holding (wpAny_call_entry_kw slot_list_sort ⟨_, hoL, rfl⟩ entry_list_sort ?_ (ha2 _)))
  rw [hk]
  refine SrtR.list_sort_ordR (s := { s with heap := h'.push (seqObj "list" acc.toList.toArray 0), toks := tk }) SrtO.swo_int hoL hz2 (fun h2 => SrtO.ints_sortable hS h2) fun out hs hb => ⟨_, rfl, ?_⟩
  obtain ⟨ys, g1, g2, g3⟩ := SrtR.ints_outR hS hs hb
  obtain ⟨e', he'⟩ := PyProof.Rows.sortedHeap_at (vs := acc.toList) (out := (if b = true then out.toArray.reverse else out.toArray)) hoL
  have hlen : (ys.map V.int).length ≤ sizeLine := by
    rw [List.length_map, g2.length_eq, ← hkl]
    exact z
  have e0 : ((if b = true then out.toArray.reverse else out.toArray).toList).toArray = (if b = true then out.toArray.reverse else out.toArray) := by rw [Array.toArray_toList]
  refine wpAny_pure ⟨_, rfl, .ref h'.objs.size, upd H h'.objs.size (.lst (ys.map V.int)), I1.laid (t' := tk) (fun b u e => ?_) (Nat.le_refl _)
    (show ObjOk X.prog X.w _ _ _ (.lst (ys.map V.int)) from ⟨hlen, _, e', vals_of_ints g1, by rw [e0]; exact he'⟩), rfl, q ys _ g2 g3 (I1.hok.fresh (Nat.le_refl _))⟩
  have hb : b < h'.objs.size := Heap.lt_size e
  rw [PyProof.Rows.sortedHeap_old (Nat.ne_of_lt hb) (by rw [size_push']; exact Nat.lt_succ_of_lt hb)]
  exact Heap.get?_push_of_some _ e
theorem sort_none (a : Addr) : Builtin.«list.sort» ⟨[.ref a], []⟩ = Builtin.«list.sort» ⟨[.ref a], [(Str.ofString "reverse", .bool false)]⟩ := by
  rw [PyProof.Rows.list_sort_rev]
  first | rfl | kernel_rfl
/-- sorted(d, reverse=b) -/
theorem cr_sortedDRev (hcalm : X.calm = true) {b : Bool} : CallRK X (.builtin "sorted") [Str.ofString "reverse"] (rSDI b [.bl b]) := by
  intro pins s σ H vs zs us ws Q I r rz h
  obtain ⟨a, kvs, ks, rfl, rfl, hs, he, q⟩ := h
  obtain rfl := Vals.ref1 r
  obtain ⟨w1, rfl, e1⟩ := vals1 rz
  obtain rfl : w1 = Value.bool b := e1
  exact sdi_run hcalm I hs he (fun _ => rfl) (PyProof.Rows.args_sorted_rev _ _) (fun _ => PyProof.Rows.args_list_sort_rev _ _) q
/-- sorted(d) -/
theorem cr_sortedDI (hcalm : X.calm = true) : CallR X (.builtin "sorted") (fun xs H Q => rSDI false [] xs [] H Q) := by
  intro pins s σ H vs us Q I r h
  obtain ⟨a, kvs, ks, rfl, _, hs, he, q⟩ := h
  obtain rfl := Vals.ref1 r
  exact sdi_run hcalm I hs he sort_none (PyProof.Rows.args_sorted1 _) (fun _ => PyProof.Rows.args_list_sort _) q
end
end L2
/-! Lst: x < y of two lists of whole numbers. -/
namespace L2
open PySem PySem.Spec PyProof.Rows PySem.SeqAt
theorem firstLt_map {e r : Nat → Bool} {fin : Bool} (f : Nat → Nat) : ∀ l : List Nat, firstLt e r fin (l.map f) = firstLt (fun j => e (f j)) (fun j => r (f j)) fin l
  | [] => rfl
  | j :: t => by
    show (if e (f j) = true then firstLt e r fin (t.map f) else r (f j)) = _
    rw [firstLt_map f t]
    rfl
theorem firstLt_lex : ∀ ns ms : List Int, firstLt (fun j => decide (ns.getD j 0 = ms.getD j 0)) (fun j => decide (ns.getD j 0 < ms.getD j 0)) (decide (ns.length < ms.length)) (List.range (min ns.length ms.length)) = HT.lexLt ns ms
  | [], [] => rfl
  | [], _ :: _ => by simp [firstLt, HT.lexLt]
  | _ :: _, [] => by simp [firstLt, HT.lexLt]
  | x :: xs, y :: ys => by
    rw [show min (x :: xs).length (y :: ys).length = min xs.length ys.length + 1 by simp only [List.length_cons]; omega, List.range_succ_eq_map]
    show (if decide (x = y) = true then firstLt _ _ _ ((List.range (min xs.length ys.length)).map Nat.succ) else decide (x < y)) = _
    rw [firstLt_map, HT.lexLt_cons, ← firstLt_lex xs ys]
    by_cases h : x = y
    · rw [if_pos (by simp [h]), if_pos h]
      simp only [List.getD_cons_succ, List.length_cons, Nat.add_lt_add_iff_right, Nat.succ_eq_add_one]
    · rw [if_neg (by simp [h]), if_neg h]
section
variable {X : Cx}
def rLtL (K : PySem.W.Frag) : R2 := fun x y H Q => ∃ a b ns ms, x = .ref a ∧ y = .ref b ∧ SqL K H a (ns.map V.int) ∧ SqL K H b (ms.map V.int) ∧ Q (.bl (HT.lexLt ns ms)) H
theorem ia_len : ∀ {vs : List Value} {ns : List Int}, IntsAre vs ns → vs.length = ns.length
  | _, _, .nil => rfl
  | _, _, .cons i t r => by rw [List.length_cons, List.length_cons, ia_len r]
theorem ia_get : ∀ {vs : List Value} {ns : List Int}, IntsAre vs ns → ∀ (j : Nat) (h : j < vs.length), ∃ t, vs[j] = .int (ns.getD j 0) t
  | _, _, .cons i t r, 0, _ => ⟨_, rfl⟩
  | _, _, .cons i t r, j + 1, h => by
    obtain ⟨t, e⟩ := ia_get r j (by simpa using h)
    exact ⟨t, by simpa using e⟩
theorem op_ltL (hu : X.A.units < cLine) : OpR X (compareOp .Lt) (rLtL X.K) := by
  intro pins s σ H x y v u Q I rx ry h
  obtain ⟨a, b, ns, ms, rfl, rfl, ha, hb, q⟩ := h
  cases rx
  cases ry
  obtain ⟨its, r1, p1, _⟩ := I.list ha
  obtain ⟨its2, r2, p2, _⟩ := I.list hb
  have i1 : IntsAre its ns := r1.ints
  have i2 : IntsAre its2 ms := r2.ints
  have l1 := ia_len i1
  have l2 := ia_len i2
  refine RcLt.lists (e := fun j => decide (ns.getD j 0 = ms.getD j 0)) (r := fun j => decide (ns.getD j 0 < ms.getD j 0)) p1.isList p2.isList hu (fun j h1 h2 => ?_) (fun j h1 h2 _ => ?_) _ _ _ _ ?_
  · obtain ⟨t, e⟩ := ia_get i1 j (by simpa using h1)
    obtain ⟨t', e'⟩ := ia_get i2 j (by simpa using h2)
    rw [show its.toArray[j] = _ from (List.getElem_toArray ..).trans e, show its2.toArray[j] = _ from (List.getElem_toArray ..).trans e']
    exact (show (ns.getD j 0 == ms.getD j 0) = decide (ns.getD j 0 = ms.getD j 0) from rfl) ▸ EqAt.int_int _ _ _ _
  · obtain ⟨t, e⟩ := ia_get i1 j (by simpa using h1)
    obtain ⟨t', e'⟩ := ia_get i2 j (by simpa using h2)
    rw [show its.toArray[j] = _ from (List.getElem_toArray ..).trans e, show its2.toArray[j] = _ from (List.getElem_toArray ..).trans e']
    exact fun prog w E Q h => lt_int h
  · rw [List.size_toArray, List.size_toArray, l1, l2, firstLt_lex]
    exact ⟨.bl (HT.lexLt ns ms), H, I, rfl, q⟩
end
end L2
/-! Pl19: written dicts, dict comprehensions, sorted of a dict, clear of a dict, lists compared. -/
namespace Pl
open PySem L2 Wp PyProof.Rows RT RZ
section
variable {K : PySem.W.Frag}
/-! x < y, lists of whole numbers -/
theorem op_ltLK {X : L2.Cx} {K : PySem.W.Frag} (h : X.K = K) (hu : X.A.units + 64 < cLine) : OpR X (compareOp .Lt) (rLtL K) := h ▸ op_ltL (by omega)
def pLtL (x y : X) (Q : X → Prop) : Prop := ∃ ds es ns ms, x.L = some ds ∧ y.L = some es ∧ iD ds = some ns ∧ iD es = some ms ∧ Q (.f (.bl (HT.lexLt ns ms)))
theorem r_ltL : PurR2 K (rLtL K) pLtL := by
  intro c F O ρ σ H Q Q' x y v w S rx ry hm hp
  obtain ⟨ds, es, ns, ms, h1, h2, h3, h4, q⟩ := hm
  obtain ⟨a, vs, rfl, hs, rs⟩ := xm_L S rx h1
  obtain ⟨b, ws, rfl, ht, rt⟩ := xm_L S ry h2
  rw [iD_map h3] at rs
  rw [iD_map h4] at rt
  exact ⟨a, b, ns, ms, rfl, rfl, by rw [← rs.ints]; exact SqL.of hs, by rw [← rt.ints]; exact SqL.of ht, hp.here (x := .f _) S (.bl _) q⟩
/-! an object that is new and no one's may be changed -/
theorem Sim.poke {c F O ρ σ H} (S : Sim K c F O ρ σ H) {a : Addr} {o : HO} (c0 : c.H0 a = none) (f0 : F a = none) (np : NP c.P a) (no : ∀ i, O a ≠ some i) : Sim K c F O ρ σ (upd H a o) := by
  have nb : ∀ b i, O b = some i → b ≠ a := fun b i h z => no i (by rw [← z]; exact h)
  refine ⟨⟨S.gr.f, S.gr.n, fun b o n h => u_ne (ne_of_none h c0) (S.gr.h b o n h), fun b h => ?_⟩, fun b o h => u_ne (fun z => by rw [z, f0] at h; cases h) (S.fh b o h), fun p l e => ⟨(S.po p l e).1.upd (np p l e) (fun z => (S.pd p l e).2 (by rw [← z]; exact c0)), (S.po p l e).2⟩, S.pd, fun a j h => ?_, S.len, fun i s o a b => ?_⟩
  · unfold upd
    split
    · exact some_ne rfl
    · exact S.gr.d b h
  · obtain ⟨m1, m2, m3⟩ := S.ow a j h
    refine ⟨m1, m2, ?_⟩
    unfold upd
    split
    · exact some_ne rfl
    · exact m3
  · have q := S.sl i s o a b
    cases s with
    | own es =>
      obtain ⟨b, ws, e, k1, k2, k3⟩ := q
      exact ⟨b, ws, e, k1, u_ne (nb b i k1) k2, k3.mono Ex.refl fun b' o' z => ⟨z.1, u_ne (nb b' i z.1) z.2⟩⟩
    | len es =>
      obtain ⟨b, ws, e, k0, k1, k2, k3⟩ := q
      exact ⟨b, ws, e, k0, k1, u_ne (nb b i k1) k2, k3.mono Ex.refl (fun b' o' z => ⟨z.1, u_ne (nb b' i z.1) z.2⟩) id⟩
    | slf C gs =>
      obtain ⟨b, dx, fs, e, e2, k1, k2, k3⟩ := q
      exact ⟨b, dx, fs, e, e2, k1, u_ne (nb b i k1) k2, k3⟩
    | no => exact q
    | fz d => exact q
    | bor d => exact q
    | pool => exact q
theorem Gr.poke {P : Option (Addr × Addr)} {F H F1 H1 : Hp} {a : Addr} {o : HO} (g : Gr P F H F1 H1) (n : H a = none) : Gr P F H F1 (upd H1 a o) := ⟨g.f, g.n, fun b o np h => u_ne (ne_of_none h n) (g.h b o np h), fun b h => by
  unfold upd
  split
  · exact some_ne rfl
  · exact g.d b h⟩
/-! {k: v}: one pair -/
def mDisp1 (mk me : ME) : ME := fun ρ Q => mk ρ fun y => ∃ yd k, y.n = .f yd ∧ keyD yd = some k ∧ me ρ fun x => ∃ d, x.n = .f d ∧ Q (.o (.dk [(k, d)]))
theorem e_disp1 {tk te : TE} {mk me : ME} (h1 : PurE K tk mk) (h2 : PurE K te me) : PurE K (tDisp [(tk, te)]) (mDisp1 mk me) := by
  intro c F O ρ σ H Q Q' S hm hp
  intro p np
  have nq := S.new_np np
  have S0 := S.newH (o := .dK []) np
  refine h1.mid S0 hm fun F1 H1 y w g1 S1 r1 q => ?_
  obtain ⟨yd, k, e1, e2, q⟩ := q
  rw [e1] at r1
  refine h2.mid S1 q fun F2 H2 x v g2 S2 r2 q => ?_
  obtain ⟨d, e3, q⟩ := q
  rw [e3] at r2
  obtain rfl := keyD_v r1 e2
  have g := g1.trans g2
  have hD : H2 p = some (.dK []) := g.h p _ nq upd_same
  have fD : F2 p = none := (g.n p (some_ne upd_same)).trans (S.fh.free np)
  have r2 : Rep K F2 v d := r2
  refine ⟨hD, [(k, v)], rfl, (by show 1 ≤ 15; decide), ?_⟩
  have gg : Gr c.P F H F2 H2 := (Gr.newH np).trans g
  refine hp F2 _ (.o (.dk [(k, d)])) _ (gg.poke np) (S2.poke (S.gr.back np) fD nq fun i z => (S.ow p i z).2.2 np) ⟨p, _, rfl, np, upd_same, fD, .cons r2 .nil⟩ q
/-! d.clear() -/
def mDClr (i : Nat) : MS := fun D ρ => ∃ gs, getS ρ i = .own (.dk gs) ∧ D.nx (ρ.set i (.own (.dk [])))
theorem s_dclr {i : Nat} : PurS K (tDrop (tBM0 K "dict" rDClear (tVar i))) (mDClr i) := by
  intro c F O ρ σ H D D' S R hm
  obtain ⟨ds, hs, q⟩ := hm
  obtain ⟨a, h, h0, h1, h2, h3⟩ := S.ownO hs
  obtain ⟨fs, rfl, h3⟩ := dk_ h3
  exact ⟨_, h0, .inr (.inr (.inl ⟨rfl, .inl ⟨fs, h2⟩⟩)), a, fs, rfl, rfl, h2, R.nx _ _ _ _ _ Ex.refl (S.mutO (vs := .dK []) (ds := .dk []) h1 h0 .nil) q⟩
/-! sorted(d), sorted(d, reverse=b), list(d) -/
def keyDat : Key → D
  | .inl i => .int i
  | .inr s => .str s
def keysD (gs : List (Key × D)) : List D := gs.map fun kv => keyDat kv.1
theorem RepK.keys {F : Hp} : ∀ {fs : List (Key × V)} {gs : List (Key × D)}, RepK K F fs gs → fs.map (·.1) = gs.map (·.1)
  | [], [], .nil => rfl
  | _ :: _, _ :: _, .cons _ t => by rw [List.map_cons, List.map_cons, RepK.keys t]
theorem c_sortDK {X : L2.Cx} (hc : X.calm = true) : CallR X (.builtin "sorted") (fun xs H Q => rSDI false [] xs [] H Q) := cr_sortedDI hc
def pSortD (b : Bool) (xs : List X) (Q : X → Prop) : Prop := ∃ x gs ks, xs = [x] ∧ x.DK = some gs ∧ gs.map (·.1) = ks.map Sum.inl ∧ ∀ ms : List Int, ms.Perm ks → OrdB b ms → Q (.o (.lst (ms.map .int)))
theorem c_sortD : PurRL K (fun xs H Q => rSDI false [] xs [] H Q) (pSortD false) := by
  intro c F O ρ σ H Q Q' xs vs S r hm hp
  obtain ⟨x, gs, ks, rfl, h1, h2, q⟩ := hm
  obtain ⟨v, rfl, r1⟩ := xms1 r
  obtain ⟨a, fs, rfl, hs, rs⟩ := xm_K S r1 h1
  exact ⟨a, fs, ks, rfl, rfl, hs, rs.keys.trans h2, fun ms p h3 h4 np => hp.newL S np (Reps.ofInts ms) (q ms h3 h4)⟩
def mSortR (b : Bool) (m : MA) : ME := fun ρ Q => m ρ fun xs => pSortD b xs Q
theorem e_sortR {n : Nat} {b : Bool} {ta : TA} {m : MA} (h : PurA K n ta m) : PurE K (tCKw (rSDI b [.bl b]) ta (tCons (tC (.bl b)) tNil)) (mSortR b m) := by
  intro c F O ρ σ H Q Q' S hm hp
  refine h c F O ρ σ H _ _ S hm fun F1 H1 xs vs g1 S1 r0 e q => ?_
  obtain ⟨x, gs, ks, rfl, h1, h2, q⟩ := q
  obtain ⟨v, rfl, r2⟩ := xms1 r0
  obtain ⟨a, fs, rfl, hs, rs⟩ := xm_K S1 r2 h1
  exact ⟨a, fs, ks, rfl, rfl, hs, rs.keys.trans h2, fun ms p h3 h4 np => (hp.trans g1).newL S1 np (Reps.ofInts ms) (q ms h3 h4)⟩
theorem c_listDK {X : L2.Cx} (hc : X.calm = true) : CallR X (.type "list") (fun xs H Q => ∃ (a : Addr) (kvs : List (Key × V)), xs = [.ref a] ∧ Rd H a (.dK kvs) ∧ ∀ p, H p = none → Q (.ref p) (upd H p (.lst (kvs.map fun kv => kV kv.1)))) := call_listD hc
def pListD (xs : List X) (Q : X → Prop) : Prop := ∃ x gs, xs = [x] ∧ x.DK = some gs ∧ Q (.o (.lst (keysD gs)))
theorem reps_keys {F : Hp} : ∀ {fs : List (Key × V)} {gs : List (Key × D)}, RepK K F fs gs → Reps K F (fs.map fun kv => kV kv.1) (keysD gs)
  | [], [], .nil => .nil
  | (f, _) :: _, (_, _) :: _, .cons _ t => by
    refine .cons ?_ (reps_keys t)
    cases f with
    | inl i => exact .int i
    | inr s => exact .str s
theorem c_listD : PurRL K (fun xs H Q => ∃ (a : Addr) (kvs : List (Key × V)), xs = [.ref a] ∧ Rd H a (.dK kvs) ∧ ∀ p, H p = none → Q (.ref p) (upd H p (.lst (kvs.map fun kv => kV kv.1)))) pListD := by
  intro c F O ρ σ H Q Q' xs vs S r hm hp
  obtain ⟨x, gs, rfl, h1, q⟩ := hm
  obtain ⟨v, rfl, r1⟩ := xms1 r
  obtain ⟨a, fs, rfl, hs, rs⟩ := xm_K S r1 h1
  exact ⟨a, fs, rfl, hs, fun p np => hp.newL S np (reps_keys rs) q⟩
/-! a dict's comprehension -/
def mCompD (ds : List D) (mg : MG) (mt : MT) (mk mv : ME) (ρ : Env) (Q : X → Prop) : Prop := ∃ Pv : Nat → List (Key × D) → Prop, Pv 0 [] ∧
  (∀ i d acc, ds[i]? = some d → Pv i acc → mg d ρ fun ρ2 => mt ρ2 fun b => pIf b (mk ρ2 fun y => ∃ yd k, y.n = .f yd ∧ keyD yd = some k ∧ mv ρ2 fun x => ∃ e, x.n = .f e ∧ acc.length < sizeLine ∧ Pv (i + 1) (storeD acc k e)) (Pv (i + 1) acc)) ∧ ∀ acc, Pv ds.length acc → Q (.o (.dk acc))
def kDc (mg : MG) (mt : MT) (mk mv : ME) (vs : List Nat) (ρ : Env) (Q : X → Prop) (ds : List D) (_ : Bool) : Prop := mCompD ds mg mt mk mv (wipeE ρ vs) Q
def mDc (mi : MI) (mg : MG) (mt : MT) (mk mv : ME) (vs : List Nat) : ME := fun ρ Q => mi ρ (kDc mg mt mk mv vs ρ Q)
theorem e_dc {wi : TI} {g : TG} {tt : TT} {tk tv : TE} {vs : List Nat} {mi : MI} {ts : List Nat} {mg : MG} {mt : MT} {mk mv : ME} (hi : PurI K wi mi) (hg : PurG K ts g mg) (ht : PurT K tt mt) (hk : PurE K tk mk) (hv : PurE K tv mv) (hs : ∀ t, t ∈ ts → t ∈ vs) : PurE K (tDc wi g tt tk tv vs) (mDc mi mg mt mk mv vs) := by
  intro c F O ρ σ H Q Q' S hm hp
  refine hi c F O ρ σ H _ _ S hm fun F1 H1 J ds st g1 S1 hJ q => ?_
  obtain ⟨Pv, h0, hstep, hd⟩ := q
  intro Dl hDl
  have np := S1.new_np hDl
  refine ⟨fun i m H => m = ds.length - i ∧ i ≤ ds.length ∧ ∃ F acc us, Gr c.P F1 H1 F H ∧ Sim K c F O ρ σ H ∧ F Dl = none ∧ H Dl = some (.dK us) ∧ RepK K F us acc ∧ Pv i acc, ⟨_, rfl, Nat.zero_le _, F1, [], [], Gr.newH hDl, S1.newH hDl, S1.fh.free hDl, upd_same, .nil, h0⟩, ?_⟩
  rintro i m H ⟨rfl, hi, F2, acc, us, g2, S2, fD, hD, hr, p⟩
  have SW := S2.wipe vs
  obtain ⟨j1, j2, j3⟩ := hJ F2 O _ _ H SW (by cases st <;> simp <;> first | exact g2.f | exact g2) i
  by_cases hlt : i < ds.length
  · refine .inr ⟨j1 hlt, fun H' => i + 1 ≤ ds.length ∧ ∃ F acc us, Gr c.P F1 H1 F H' ∧ Sim K c F O ρ σ H' ∧ F Dl = none ∧ H' Dl = some (.dK us) ∧ RepK K F us acc ∧ Pv (i + 1) acc, fun H' n => ⟨ds.length - (i + 1), by omega, rfl, n.1, n.2⟩, fun x H' y => ?_⟩
    obtain ⟨F3, g3, S3, r3⟩ := j3 _ x H' (List.getElem?_eq_getElem hlt) y
    refine hg.run c F3 O _ _ H' x _ _ _ S3 r3 (hstep i _ acc (List.getElem?_eq_getElem hlt) p) fun ρ4 σ4 S4 t4 l4 q => ?_
    refine ⟨(wipe_touch t4 l4 hs).trans wipe_wipe, ?_⟩
    refine ht c F3 O ρ4 σ4 H' _ _ S4 q fun F5 H5 b g5 S5 q => ?_
    have g35 := g3.trans g5
    cases b with
    | false =>
      replace q := pif_F' q
      have gg : Gr c.P F2 H F5 H5 := g35
      exact ⟨by omega, F5, acc, us, g2.trans gg, S2.grow gg S5.fh S5.po, (gg.n _ (some_ne hD)).trans fD, gg.h _ _ np hD, hr.mono gg.f, q⟩
    | true =>
      refine hk.mid S5 q fun F6 H6 z u g6 S6 r6 q => ?_
      obtain ⟨yd, k, e1, e2, q⟩ := q
      rw [e1] at r6
      obtain rfl := keyD_v r6 e2
      refine hv.mid S6 q fun F7 H7 z2 u2 g7 S7 r7 q => ?_
      obtain ⟨e, ee, hz, q⟩ := q
      rw [ee] at r7
      have r7 : Rep K F7 u2 e := r7
      have gg : Gr c.P F2 H F7 H7 := (g35.trans g6).trans g7
      have S7' := S2.grow gg S7.fh S7.po
      have hD7 := gg.h _ _ np hD
      have fD7 := (gg.n _ (some_ne hD)).trans fD
      have hr7 := hr.mono gg.f
      refine ⟨us, k, rfl, hD7, by rw [hr7.len]; exact hz, by omega, F7, storeD acc k e, putK us k u2, ?_, ?_, fD7, upd_same, hr7.put r7, q⟩
      · exact (g2.trans gg).poke hDl
      · exact S7'.poke (S1.gr.back hDl) fD7 np fun i z => (S1.ow Dl i z).2.2 hDl
  · have e : i = ds.length := by omega
    subst e
    refine .inl ⟨j2 (Nat.le_refl _), ?_⟩
    exact (hp.trans g1) F2 H (.o (.dk acc)) _ g2 S2 ⟨Dl, _, rfl, hDl, hD, fD, hr⟩ (hd acc p)
end
/-! readings -/
theorem w_disp1 {mk me : ME} {ρ : Env} {Q : X → Prop} : mDisp1 mk me ρ Q = mk ρ fun y => ∃ yd k, y.n = .f yd ∧ keyD yd = some k ∧ me ρ fun x => ∃ d, x.n = .f d ∧ Q (.o (.dk [(k, d)])) := rfl
theorem w_dclr {i : Nat} {D : Pd} {ρ : Env} : mDClr i D ρ = ∃ gs, getS ρ i = .own (.dk gs) ∧ D.nx (ρ.set i (.own (.dk []))) := rfl
theorem w_sortD {b : Bool} {x : X} {Q : X → Prop} : pSortD b [x] Q = ∃ gs ks, x.DK = some gs ∧ gs.map (·.1) = ks.map Sum.inl ∧ ∀ ms : List Int, ms.Perm ks → OrdB b ms → Q (.o (.lst (ms.map .int))) := propext ⟨fun ⟨_, gs, ks, e, h1, h2, h⟩ => by cases e; exact ⟨gs, ks, h1, h2, h⟩, fun ⟨gs, ks, h1, h2, h⟩ => ⟨_, gs, ks, rfl, h1, h2, h⟩⟩
theorem w_sortR {b : Bool} {m : MA} {ρ : Env} {Q : X → Prop} : mSortR b m ρ Q = m ρ fun xs => pSortD b xs Q := rfl
theorem w_listD {x : X} {Q : X → Prop} : pListD [x] Q = ∃ gs, x.DK = some gs ∧ Q (.o (.lst (keysD gs))) := propext ⟨fun ⟨_, gs, e, h1, h⟩ => by cases e; exact ⟨gs, h1, h⟩, fun ⟨gs, h1, h⟩ => ⟨_, gs, rfl, h1, h⟩⟩
theorem w_dc {Q : X → Prop} {ρ : Env} {mi : MI} {mg : MG} {mt : MT} {mk mv : ME} {vs : List Nat} : mDc mi mg mt mk mv vs ρ Q = mi ρ (kDc mg mt mk mv vs ρ Q) := rfl
theorem w_dc1 {Q : X → Prop} {ρ : Env} {mg : MG} {mt : MT} {mk mv : ME} {vs : List Nat} {d : List D} {s : Bool} : kDc mg mt mk mv vs ρ Q d s = mCompD d mg mt mk mv (wipeE ρ vs) Q := rfl
theorem pLtL_w {x y : X} {Q : X → Prop} : pLtL x y Q = ∃ ds es ns ms, x.L = some ds ∧ y.L = some es ∧ iD ds = some ns ∧ iD es = some ms ∧ Q (.f (.bl (HT.lexLt ns ms))) := rfl
theorem inj_fd {d e : D} : (X.f d = X.f e) = (d = e) := propext ⟨fun h => by cases h; rfl, fun h => by rw [h]⟩
end Pl
namespace Pl
open PySem L2 Wp PyProof.Rows RT RZ
theorem c_hpopK {X : L2.Cx} {K : PySem.W.Frag} (h : X.K = K) (hu : X.A.units + 64 < cLine) : CallR X (.builtin "_heapq.heappop") (rHPop K) := h ▸ cr_hpop hu
theorem c_hpushK {X : L2.Cx} {K : PySem.W.Frag} (h : X.K = K) (hu : X.A.units + 64 < cLine) : CallR X (.builtin "_heapq.heappush") (rHPush K) := h ▸ cr_hpush hu
end Pl
namespace Pl
open PySem L2 Wp PyProof.Rows RT RZ
def rLenD : List V → Hp → VK → Prop := fun xs H Q => ∃ (a : Addr) (kvs : List (Key × V)), xs = [.ref a] ∧ Rd H a (.dK kvs) ∧ Q (.int kvs.length) H
theorem c_lenDK {X : L2.Cx} : CallR X (.builtin "len") rLenD := by
  intro pins s σ H xs us Q I r h
  obtain ⟨a, kvs, rfl, ha, q⟩ := h
  rw [Vals.ref1 r]
  exact d_len I ha fun t s' I' => ⟨.int kvs.length, H, I', ⟨t, rfl⟩, q⟩
def pLenD (xs : List X) (Q : X → Prop) : Prop := ∃ x gs, xs = [x] ∧ x.DK = some gs ∧ Q (.f (.int gs.length))
theorem c_lenD {K : PySem.W.Frag} : PurRL K rLenD pLenD := by
  intro c F O ρ σ H Q Q' xs vs S r hm hp
  obtain ⟨x, gs, rfl, h1, q⟩ := hm
  obtain ⟨v, rfl, r1⟩ := xms1 r
  obtain ⟨a, fs, rfl, hs, rs⟩ := xm_K S r1 h1
  exact ⟨a, fs, rfl, hs, by rw [rs.len]; exact hp.here (x := .f _) S (.int _) q⟩
theorem w_lenD {x : X} {Q : X → Prop} : pLenD [x] Q = ∃ gs, x.DK = some gs ∧ Q (.f (.int gs.length)) := propext ⟨fun ⟨_, gs, e, h1, h⟩ => by cases e; exact ⟨gs, h1, h⟩, fun ⟨gs, h1, h⟩ => ⟨_, gs, rfl, h1, h⟩⟩
theorem dkr_q {gs : List (Key × D)} : (X.q (.dk gs)).DK = some gs := rfl
theorem dkr_b {gs : List (Key × D)} : (X.b (.dk gs)).DK = some gs := rfl
theorem dkr_f {gs : List (Key × D)} : (X.f (.dk gs)).DK = some gs := rfl
theorem dkr_lq {gs : List (Key × D)} : (X.q (.dkl gs)).DK = some gs := rfl
theorem dkr_lb {gs : List (Key × D)} : (X.b (.dkl gs)).DK = some gs := rfl
end Pl
/-! Pl20: a dict is walked: it is locked meanwhile. -/
namespace Pl
open PySem L2 Wp PyProof.Rows RT RZ
theorem ObjS.mono2 {K : PySem.W.Frag} {G G' F : Hp} {M M' : MR} {a : Addr} {o : OD} {h : HO} (r : ObjS K G F M a o h) (m : ∀ b ws, M b (.lst ws) → M' b (.lst ws)) (f : G a = none → G' a = none) : ObjS K G' F M' a o h := by
  cases o with
  | dk gs => obtain ⟨fs, z, r, q⟩ := r; exact ⟨fs, z, r, f q⟩
  | dt gs => obtain ⟨fs, z, r, q⟩ := r; exact ⟨fs, z, r, f q⟩
  | dkl gs => obtain ⟨fs, z, r, q⟩ := r; exact ⟨fs, z, r, f q⟩
  | dtl gs => obtain ⟨fs, z, r, q⟩ := r; exact ⟨fs, z, r, f q⟩
  | dkm gs => obtain ⟨fs, z, r, q⟩ := r; exact ⟨fs, z, r, f q⟩
  | dtm gs => obtain ⟨fs, z, r, q⟩ := r; exact ⟨fs, z, r, f q⟩
  | lst ds => obtain ⟨vs, rfl, q⟩ := r.lst_; exact q
  | ins C gs => cases h <;> first | exact r.elim | exact r
  | lls dss =>
    obtain ⟨bs, rfl, nd, inn⟩ := r.lls_
    refine ⟨bs, rfl, nd, inn.1, fun i b ds k1 k2 => ?_⟩
    obtain ⟨ws, m1, q⟩ := inn.2 i b ds k1 k2
    exact ⟨ws, m b ws m1, q⟩
def X.sim : X → Prop
  | .f _ => True
  | .o _ => True
  | .pl => True
  | _ => False
theorem no_frz {K : PySem.W.Frag} {F : Hp} {M : MR} {a : Addr} {d : OD} {o : Obj} {u : HO} : ¬ ObjR K F M a d (.frz o u) := by
  intro h
  cases d <;> exact h.elim
theorem getS_of : ∀ {ρ : Env} {i : Nat} {s : Sl}, ρ[i]? = some s → getS ρ i = s
  | [], _, _, h => by simp at h
  | _ :: _, 0, _, h => by simp at h; exact h
  | _ :: r, i + 1, s, h => getS_of (ρ := r) (i := i) (by simpa using h)
theorem set_same {ρ : Env} {i : Nat} {s : Sl} (h : ρ[i]? = some s) : ρ.set i s = ρ := by
  have := set_self (ρ := ρ) (i := i)
  rw [getS_of h] at this
  exact this
section
variable {K : PySem.W.Frag} {c : Ct} {F H : Hp} {O : Ow} {ρ : Env} {σ : L2.St}
/-- unlocking keeps what a value stands for -/
theorem xr_unlock {H0 H0' : Hp} {c1 c2 : Ct} (hP : c1.P = c2.P) (h00 : ∀ b, H0' b = none → H0 b = none) {a : Addr} {od : Obj} {u1 u : HO} {x : X} {v : V} (hx : x.sim) (ha : H a = some (.frz od u1)) (r : XR K c1 F H0' H x v) : XR K c2 F H0 (upd H a u) x v := by
  cases x with
  | f d => exact r
  | b d => exact hx.elim
  | q d => exact hx.elim
  | pl => obtain ⟨p, l, h1, h2⟩ := r; exact ⟨p, l, by rw [← hP]; exact h1, h2⟩
  | o ds =>
    obtain ⟨b, h, e, h1, h2, h3, h4⟩ := r
    have ne : b ≠ a := fun z => by
      subst z
      rw [ha] at h2
      cases h2
      exact no_frz h4
    refine ⟨b, h, e, h00 b h1, u_ne ne h2, h3, ?_⟩
    cases ds with
    | lls dss =>
      obtain ⟨bs, rfl, nd, inn⟩ := h4.lls_
      refine ⟨bs, rfl, nd, inn.1, fun i b ds k1 k2 => ?_⟩
      obtain ⟨ws, ⟨m1, m2, m3⟩, q⟩ := inn.2 i b ds k1 k2
      exact ⟨ws, ⟨h00 b m1, m2, u_ne (fun z => by subst z; rw [ha] at m3; cases m3) m3⟩, q⟩
    | lst ds => obtain ⟨vs, rfl, q⟩ := h4.lst_; exact q
    | dk gs => cases h <;> first | exact h4.elim | exact h4
    | dt gs => cases h <;> first | exact h4.elim | exact h4
    | ins C gs => cases h <;> first | exact h4.elim | exact h4
    | _ => cases h <;> exact h4.elim
/-! an own dict: it is as if it were a parameter -/
def lkO (c : Ct) (i : Nat) (a : Addr) (u : HO) : Ct := { c with H0 := upd c.H0 a u, Pa := fun j => if j = i then some a else if c.Pa j = some a then none else c.Pa j }
theorem Sim.lockO {i : Nat} {a : Addr} {u : HO} {d d' : OD} (S : Sim K c F O ρ σ H) (hs : getS ρ i = .own d) (h0 : σ[i]? = some (some (.ref a))) (h1 : O a = some i) (hu : ObjS K c.F0 F (np c.P (upd c.H0 a u)) a d' u) :
    Sim K (lkO c i a u) F (fun b => if b = a then none else O b) (ρ.set i (.bor d')) σ (upd H a u) := by
  have e1 := getS_some hs (fun z => by cases z)
  obtain ⟨w1, w2, w3⟩ := S.ow a i h1
  have f0 : c.F0 a = none := by
    cases e : c.F0 a with
    | none => rfl
    | some o => rw [S.gr.f a o e] at w2; cases w2
  have nb : ∀ b j, O b = some j → j ≠ i → b ≠ a := fun b j h n z => by subst z; rw [h1] at h; exact n (Option.some.inj h).symm
  have hO : ∀ b j, O b = some j → j ≠ i → (if b = a then none else O b) = some j := fun b j h n => by rw [if_neg (nb b j h n)]; exact h
  have c0 : ∀ b o, c.H0 b = some o → b ≠ a := fun b o h z => by subst z; rw [w1] at h; cases h
  have np' := S.own_np h1
  refine ⟨⟨S.gr.f, fun b h => ?_, fun b o n h => ?_, fun b h => ?_⟩, fun b o h => u_ne (fun z => by rw [z, w2] at h; cases h) (S.fh b o h), fun p l e => ⟨(S.po p l e).1.upd (np' p l e) (fun z => (S.pd p l e).2 (by rw [← z]; exact w1)), (S.po p l e).2⟩, fun p l e => ⟨fun z => ?_, fun z => ?_⟩, fun b j h => ?_, by rw [List.length_set, S.len], fun j t o ht ho => ?_⟩
  · by_cases e : b = a
    · rw [e, w2]; exact f0.symm
    · refine S.gr.n b fun z => h ?_
      show upd c.H0 a u b = none
      rw [upd_ne e]; exact z
  · by_cases e : b = a
    · subst e
      have : upd c.H0 b u b = some o := h
      rw [upd_same] at this ⊢
      exact this
    · have : upd c.H0 a u b = some o := h
      rw [upd_ne e] at this ⊢
      exact S.gr.h b o n this
  · by_cases e : b = a
    · rw [e, upd_same]; exact some_ne rfl
    · rw [upd_ne e]
      refine S.gr.d b fun z => h ?_
      show upd c.H0 a u b = none
      rw [upd_ne e]; exact z
  · have : upd c.H0 a u p = none := z
    rw [upd_ne fun y => np' p l e y.symm] at this
    exact (S.pd p l e).1 this
  · have k := (S.pd p l e).2
    have ne : l ≠ a := fun y => k (by rw [y]; exact w1)
    have : upd c.H0 a u l = none := z
    rw [upd_ne ne] at this
    exact k this
  · split at h
    · cases h
    · rename_i e
      obtain ⟨m1, m2, m3⟩ := S.ow b j h
      exact ⟨by show upd c.H0 a u b = none; rw [upd_ne e]; exact m1, m2, by rw [upd_ne e]; exact m3⟩
  · by_cases e0 : i = j
    · subst e0
      rw [List.getElem?_set_self (List.getElem?_eq_some_iff.mp e1).1] at ht
      cases ht
      rw [h0] at ho
      cases ho
      exact ⟨a, u, rfl, upd_same, ⟨np', if_pos rfl⟩, hu⟩
    · rw [List.getElem?_set_ne e0] at ht
      have q := S.sl j t o ht ho
      have ne : j ≠ i := fun z => e0 z.symm
      cases t with
      | len es => obtain ⟨b, ws, e, k0, k2, k3, k4⟩ := q; exact ⟨b, ws, e, k0, hO b j k2 ne, u_ne (nb b j k2 ne) k3, k4.mono Ex.refl (fun b' o' z => ⟨hO b' j z.1 ne, u_ne (nb b' j z.1 ne) z.2⟩) id⟩
      | own es => obtain ⟨b, ws, e, k2, k3, k4⟩ := q; exact ⟨b, ws, e, hO b j k2 ne, u_ne (nb b j k2 ne) k3, k4.mono Ex.refl fun b' o' z => ⟨hO b' j z.1 ne, u_ne (nb b' j z.1 ne) z.2⟩⟩
      | slf C gs => obtain ⟨b, dx, fs, e, e2, k1, k2, k3⟩ := q; exact ⟨b, dx, fs, e, e2, hO b j k1 ne, u_ne (nb b j k1 ne) k2, k3⟩
      | no => exact q
      | fz d => exact q
      | pool => exact q
      | bor d =>
        obtain ⟨b, ws, e, k1, ⟨k2, k3⟩, k4⟩ := q
        have ba := c0 b ws k1
        refine ⟨b, ws, e, by show upd c.H0 a u b = _; rw [upd_ne ba]; exact k1, ⟨k2, ?_⟩, k4.mono2 (fun b' ws' z => ⟨z.1, by show upd c.H0 a u b' = _; rw [upd_ne (c0 b' _ z.2)]; exact z.2⟩) id⟩
        show (if j = i then some a else if c.Pa j = some a then none else c.Pa j) = some b
        rw [if_neg ne, if_neg fun z => ba (by rw [k3] at z; exact Option.some.inj z)]
        exact k3
theorem Sim.unlockO {i : Nat} {a : Addr} {od : Obj} {u1 u2 : HO} {d d' : OD} (w1 : c.H0 a = none) (f0 : c.F0 a = none) (np' : NP c.P a) (S : Sim K (lkO c i a (.frz od u1)) F O ρ σ H) (hs : getS ρ i = .bor d')
    (hu : ∀ O2 H2, ObjS K c.F0 F (np c.P (upd c.H0 a (.frz od u1))) a d' (.frz od u1) → ObjR K F (oR O2 H2 i) a d u2) :
    H a = some (.frz od u1) ∧ Sim K c F (fun b => if b = a then some i else O b) (ρ.set i (.own d)) σ (upd H a u2) := by
  have e1 := getS_some hs (fun z => by cases z)
  have hi : i < σ.length := by rw [← S.len]; exact (List.getElem?_eq_some_iff.mp e1).1
  have e2 : σ[i]? = some σ[i] := List.getElem?_eq_getElem hi
  have cs : (lkO c i a (.frz od u1)).H0 a = some (.frz od u1) := upd_same
  have ha : H a = some (.frz od u1) := S.gr.h a _ np' cs
  have w2 : F a = none := (S.gr.n a (some_ne cs)).trans f0
  have oa : ∀ j, O a ≠ some j := fun j h => by have := (S.ow a j h).1; rw [cs] at this; cases this
  have nb : ∀ b j, O b = some j → b ≠ a := fun b j h z => oa j (by rw [← z]; exact h)
  have hO : ∀ b j, O b = some j → (if b = a then some i else O b) = some j := fun b j h => by rw [if_neg (nb b j h)]; exact h
  have h0n : ∀ b, b ≠ a → (lkO c i a (.frz od u1)).H0 b = c.H0 b := fun b h => upd_ne h
  have c0 : ∀ b o, c.H0 b = some o → b ≠ a := fun b o h z => by subst z; rw [w1] at h; cases h
  refine ⟨ha, ⟨⟨S.gr.f, fun b h => ?_, fun b o n h => ?_, fun b h => ?_⟩, fun b o h => u_ne (fun z => by rw [z, w2] at h; cases h) (S.fh b o h), fun p l e => ⟨(S.po p l e).1.upd (np' p l e) (fun z => ?_), (S.po p l e).2⟩, fun p l e => ⟨fun z => ?_, fun z => ?_⟩, fun b j h => ?_, by rw [List.length_set, S.len], fun j t o ht ho => ?_⟩⟩
  · have : b ≠ a := fun z => h (by rw [z]; exact w1)
    exact S.gr.n b (by rw [h0n b this]; exact h)
  · have ne := c0 b o h
    exact u_ne ne (S.gr.h b o n (by rw [h0n b ne]; exact h))
  · have ne : b ≠ a := fun z => h (by rw [z]; exact w1)
    rw [upd_ne ne]
    exact S.gr.d b (by rw [h0n b ne]; exact h)
  · obtain ⟨ns, i', x, y, z', q1, q2, _⟩ := (S.po p l e).1
    subst z
    rw [ha] at q2
    cases q2
  · have k := (S.pd p l e).1
    rw [h0n p fun y => np' p l e y.symm] at k
    exact k z
  · obtain ⟨ns, i', x, y, z', q1, q2, _⟩ := (S.po p l e).1
    have ne : l ≠ a := fun y => by subst y; rw [ha] at q2; cases q2
    have k := (S.pd p l e).2
    rw [h0n l ne] at k
    exact k z
  · by_cases e : b = a
    · subst e
      rw [upd_same]
      exact ⟨w1, w2, some_ne rfl⟩
    · rw [if_neg e] at h
      obtain ⟨m1, m2, m3⟩ := S.ow b j h
      rw [upd_ne e]
      rw [h0n b e] at m1
      exact ⟨m1, m2, m3⟩
  · by_cases e0 : i = j
    · subst e0
      rw [List.getElem?_set_self (List.getElem?_eq_some_iff.mp e1).1] at ht
      cases ht
      obtain ⟨b, h, e, h1, ⟨_, h2⟩, h3⟩ := S.sl i _ _ e1 ho
      have : some a = some b := by
        have z : (lkO c i a (.frz od u1)).Pa i = some a := if_pos rfl
        rw [z] at h2
        exact h2
      cases this
      rw [cs] at h1
      cases h1
      exact ⟨a, u2, e, if_pos rfl, upd_same, hu _ _ h3⟩
    · rw [List.getElem?_set_ne e0] at ht
      have q := S.sl j t o ht ho
      have ne : j ≠ i := fun z => e0 z.symm
      cases t with
      | len es => obtain ⟨b, ws, e, k0, k2, k3, k4⟩ := q; exact ⟨b, ws, e, k0, hO b j k2, u_ne (nb b j k2) k3, k4.mono Ex.refl (fun b' o' z => ⟨hO b' j z.1, u_ne (nb b' j z.1) z.2⟩) id⟩
      | own es => obtain ⟨b, ws, e, k2, k3, k4⟩ := q; exact ⟨b, ws, e, hO b j k2, u_ne (nb b j k2) k3, k4.mono Ex.refl fun b' o' z => ⟨hO b' j z.1, u_ne (nb b' j z.1) z.2⟩⟩
      | slf C gs => obtain ⟨b, dx, fs, e, e2, k1, k2, k3⟩ := q; exact ⟨b, dx, fs, e, e2, hO b j k1, u_ne (nb b j k1) k2, k3⟩
      | no => exact q
      | fz d => exact q
      | pool => exact q
      | bor d =>
        obtain ⟨b, ws, e, k1, ⟨k2, k3⟩, k4⟩ := q
        have k3' : (if j = i then some a else if c.Pa j = some a then none else c.Pa j) = some b := k3
        rw [if_neg ne] at k3'
        split at k3'
        · cases k3'
        · rename_i hp
          have ba : b ≠ a := fun z => hp (by rw [k3', z])
          rw [h0n b ba] at k1
          refine ⟨b, ws, e, k1, ⟨k2, k3'⟩, k4.mono2 (fun b' ws' z => ⟨z.1, ?_⟩) id⟩
          have z2 : upd c.H0 a (.frz od u1) b' = some (.lst ws') := z.2
          have nb' : b' ≠ a := fun y => by rw [y, upd_same] at z2; cases z2
          rw [upd_ne nb'] at z2
          exact z2
theorem RepK.get {F : Hp} : ∀ {fs : List (Key × V)} {gs : List (Key × D)} {j : Nat} {k : Key} {v : V}, RepK K F fs gs → fs[j]? = some (k, v) → ∃ d, gs[j]? = some (k, d) ∧ Rep K F v d
  | _, _, _, _, _, .nil, h => by simp at h
  | _, _, 0, _, _, .cons r _, h => by simp at h; obtain ⟨rfl, rfl⟩ := h; exact ⟨_, rfl, r⟩
  | _, _, j + 1, _, _, .cons _ t, h => by
    obtain ⟨d, h1, h2⟩ := RepK.get (j := j) t (by simpa using h)
    exact ⟨d, by simpa using h1, h2⟩
theorem keyDat_rep {F : Hp} (k : Key) : Rep K F (kV k) (keyDat k) := by
  cases k with
  | inl i => exact .int i
  | inr s => exact .str s
end
section
variable {K : PySem.W.Frag}
/-- the keys of a locked dict -/
def mIKeys (i : Nat) : MI := fun ρ R => ∃ gs, getS ρ i = .bor (.dkl gs) ∧ R (keysD gs) true
theorem i_keys (i : Nat) : PurI K (iKeys (tVar i)) (mIKeys i) := by
  intro c F O ρ σ H R R' S hm k
  obtain ⟨gs, hs, q⟩ := hm
  have e1 := getS_some hs (fun z => by cases z)
  have hi : i < σ.length := by rw [← S.len]; exact (List.getElem?_eq_some_iff.mp e1).1
  have e2 : σ[i]? = some σ[i] := List.getElem?_eq_getElem hi
  obtain ⟨a, h, e, h1, ⟨h2, _⟩, fs, ⟨od, rfl⟩, h3, _⟩ := S.sl i _ _ e1 e2
  refine ⟨_, by rw [e2, e], a, od, rfl, .inl ⟨fs, S.gr.h _ _ h2 h1, ?_⟩⟩
  refine k F H _ _ true Gr.refl S (fun F' O' ρ' σ' H' S' x j => ?_) q
  have x : Ex F F' := x
  have h4 := RepK.mono x h3
  have hl : (keysD gs).length = fs.length := by unfold keysD; rw [List.length_map, h4.len]
  have ha := S'.gr.h _ _ h2 h1
  refine ⟨fun hj => ⟨ha, by omega⟩, fun hj => ⟨ha, by omega⟩, fun d v H2 hd y => ?_⟩
  obtain ⟨rfl, k, w, hv, rfl⟩ := y
  obtain ⟨d', hd', _⟩ := RepK.get h4 hv
  have : (keysD gs)[j]? = some (keyDat k) := by unfold keysD; rw [List.getElem?_map, hd']; rfl
  rw [this] at hd
  cases hd
  exact ⟨F', Gr.refl, S', keyDat_rep k⟩
theorem own_none {c : Ct} {F H : Hp} {O : Ow} {ρ : Env} {σ : L2.St} (S : Sim K c F O ρ σ H) {a : Addr} {i : Nat} (h1 : O a = some i) : c.H0 a = none ∧ c.F0 a = none ∧ F a = none := by
  obtain ⟨w1, w2, w3⟩ := S.ow a i h1
  refine ⟨w1, ?_, w2⟩
  cases e : c.F0 a with
  | none => rfl
  | some o => rw [S.gr.f a o e] at w2; cases w2
/-- s runs while the slot's own dict is locked -/
def mLock (i : Nat) (mb : MS) : MS := fun E ρ => ∃ gs, getS ρ i = .own (.dk gs) ∧ mb ⟨fun ρ => getS ρ i = .bor (.dkl gs) ∧ E.nx (ρ.set i (.own (.dk gs))), fun x => x.sim ∧ E.rt x, fun ρ => getS ρ i = .bor (.dkl gs) ∧ E.bk (ρ.set i (.own (.dk gs))), fun ρ => getS ρ i = .bor (.dkl gs) ∧ E.ct (ρ.set i (.own (.dk gs)))⟩ (ρ.set i (.bor (.dkl gs)))
theorem unl_own {c : Ct} {F : Hp} {i : Nat} {a : Addr} {od : Obj} {fs : List (Key × V)} {gs : List (Key × D)} (w1 : c.H0 a = none) (f0 : c.F0 a = none) (np' : NP c.P a) :
    ∀ F' O' ρ' σ' H', Sim K (lkO c i a (.frz od (.dK fs))) F' O' ρ' σ' H' → getS ρ' i = .bor (.dkl gs) → H' a = some (.frz od (.dK fs)) ∧ Sim K c F' (fun b => if b = a then some i else O' b) (ρ'.set i (.own (.dk gs))) σ' (upd H' a (.dK fs)) := fun F' O' ρ' σ' H' S' hs' => S'.unlockO (u2 := .dK fs) (d := .dk gs) w1 f0 np' hs' fun O2 H2 r => by
  obtain ⟨fs', ⟨ob, z⟩, r, _⟩ := r
  cases z
  exact r
theorem s_lock {i : Nat} {tb : TS} {mb : MS} (hb : PurS K tb mb) : PurS K (tLock tb) (mLock i mb) := by
  intro c F O ρ σ H D D' S R hm
  obtain ⟨gs, hs, hm⟩ := hm
  obtain ⟨a, h, h0, h1, h2, h3⟩ := S.ownO hs
  obtain ⟨fs, rfl, h3⟩ := dk_ h3
  obtain ⟨w1, f0, w2⟩ := own_none S h1
  have np' := S.own_np h1
  refine ⟨a, .dK fs, h2, trivial, fun od => ?_⟩
  have S1 := S.lockO (u := .frz od (.dK fs)) (d' := .dkl gs) hs h0 h1 ⟨fs, ⟨od, rfl⟩, h3, f0⟩
  have unl := unl_own (K := K) (F := F) (i := i) (od := od) (fs := fs) (gs := gs) w1 f0 np'
  refine hb _ F _ _ σ _ _ _ S1 ⟨?_, ?_, ?_, ?_⟩ hm
  · exact fun F' O' ρ' σ' H' x S' p' => ⟨(unl F' O' ρ' σ' H' S' p'.1).1, R.nx _ _ _ _ _ x (unl F' O' ρ' σ' H' S' p'.1).2 p'.2⟩
  · exact fun F' O' ρ' σ' H' x S' p' => ⟨(unl F' O' ρ' σ' H' S' p'.1).1, R.bk _ _ _ _ _ x (unl F' O' ρ' σ' H' S' p'.1).2 p'.2⟩
  · exact fun F' O' ρ' σ' H' x S' p' => ⟨(unl F' O' ρ' σ' H' S' p'.1).1, R.ct _ _ _ _ _ x (unl F' O' ρ' σ' H' S' p'.1).2 p'.2⟩
  · intro F' H' x v y g fh po r q
    have cs : (lkO c i a (.frz od (.dK fs))).H0 a = some (.frz od (.dK fs)) := upd_same
    have ha := g.h a _ np' cs
    have fa : F' a = none := (g.n a (some_ne cs)).trans f0
    have h0n : ∀ b, b ≠ a → (lkO c i a (.frz od (.dK fs))).H0 b = c.H0 b := fun b h => upd_ne h
    refine ⟨ha, R.rt F' _ x v y ⟨g.f, fun b h => ?_, fun b o n h => ?_, fun b h => ?_⟩ (fun b o h => u_ne (fun z => by rw [z, fa] at h; cases h) (fh b o h)) (fun p l e => ⟨(po p l e).1.upd (np' p l e) (fun z => ?_), (po p l e).2⟩) (xr_unlock (c1 := lkO c i a (.frz od (.dK fs))) (c2 := c) rfl (fun b hb => ?_) q.1 ha r) q.2⟩
    · have : b ≠ a := fun z => h (by rw [z]; exact w1)
      exact g.n b (by rw [h0n b this]; exact h)
    · have ne : b ≠ a := fun z => by rw [z, w1] at h; cases h
      exact u_ne ne (g.h b o n (by rw [h0n b ne]; exact h))
    · have ne : b ≠ a := fun z => h (by rw [z]; exact w1)
      rw [upd_ne ne]
      exact g.d b (by rw [h0n b ne]; exact h)
    · obtain ⟨ns, i', x, y, z', q1, q2, _⟩ := (po p l e).1
      subst z
      rw [ha] at q2
      cases q2
    · have ne : b ≠ a := fun z => by rw [z, cs] at hb; cases hb
      rw [h0n b ne] at hb
      exact hb
/-- e is evaluated while the slot's own dict is locked -/
def mLockE (i : Nat) (me : ME) : ME := fun ρ Q => ∃ gs, getS ρ i = .own (.dk gs) ∧ me (ρ.set i (.bor (.dkl gs))) fun x => x.sim ∧ Q x
theorem e_lock {i : Nat} {te : TE} {me : ME} (he : PurE K te me) : PurE K (tLockE te) (mLockE i me) := by
  intro c F O ρ σ H Q Q' S hm hp
  obtain ⟨gs, hs, hm⟩ := hm
  obtain ⟨a, h, h0, h1, h2, h3⟩ := S.ownO hs
  obtain ⟨fs, rfl, h3⟩ := dk_ h3
  obtain ⟨w1, f0, w2⟩ := own_none S h1
  have np' := S.own_np h1
  have e1 := getS_some hs (fun z => by cases z)
  have hi := (List.getElem?_eq_some_iff.mp e1).1
  refine ⟨a, .dK fs, h2, trivial, fun od => ?_⟩
  have S1 := S.lockO (u := .frz od (.dK fs)) (d' := .dkl gs) hs h0 h1 ⟨fs, ⟨od, rfl⟩, h3, f0⟩
  refine he _ F _ _ σ _ _ _ S1 hm fun F' H' x v g S' r q => ?_
  have hs1 : getS (ρ.set i (.bor (.dkl gs))) i = .bor (.dkl gs) := by
    have : (ρ.set i (.bor (.dkl gs)))[i]? = some (.bor (.dkl gs)) := List.getElem?_set_self hi
    exact getS_of this
  obtain ⟨ha, S2⟩ := unl_own (K := K) (F := F) (i := i) (od := od) (fs := fs) (gs := gs) w1 f0 np' _ _ _ _ _ S' hs1
  have eO : (fun b => if b = a then some i else (if b = a then none else O b)) = O := by
    funext b
    by_cases e : b = a
    · rw [if_pos e, e, h1]
    · rw [if_neg e, if_neg e]
  have eρ : (ρ.set i (.bor (.dkl gs))).set i (.own (.dk gs)) = ρ := by
    rw [List.set_set]
    exact set_same e1
  rw [eO, eρ] at S2
  refine ⟨ha, hp F' _ x v ⟨g.f, fun b h => ?_, fun b o n h => ?_, fun b h => ?_⟩ S2 (xr_unlock (c1 := lkO c i a (.frz od (.dK fs))) (c2 := c) rfl (fun b hb => ?_) q.1 ha r) q.2⟩
  · refine g.n b ?_
    by_cases e : b = a
    · rw [e, upd_same]; exact some_ne rfl
    · rw [upd_ne e]; exact h
  · by_cases e : b = a
    · subst e; rw [h2] at h; cases h; exact upd_same
    · exact u_ne e (g.h b o n (by rw [upd_ne e]; exact h))
  · by_cases e : b = a
    · rw [e, upd_same]; exact some_ne rfl
    · rw [upd_ne e]; exact g.d b (by rw [upd_ne e]; exact h)
  · have ne : b ≠ a := fun z => by rw [z, upd_same] at hb; cases hb
    rw [upd_ne ne] at hb
    exact hb
/-! a parameter's dict: others may be the same one -/
def degS : Sl → Sl
  | .bor (.dk g) => .bor (.dkm g)
  | s => s
def upS : Sl → Sl → Sl
  | .bor (.dk _), .bor (.dkm g) => .bor (.dk g)
  | .bor (.dkl _), .bor (.dkl g) => .bor (.dkl g)
  | _, .bor (.dkl g) => .bor (.dkm g)
  | _, s => s
def upE : Env → Env → Env
  | _, [] => []
  | [], t :: q => upS .no t :: upE [] q
  | s :: r, t :: q => upS s t :: upE r q
theorem upE_len : ∀ {r q : Env}, (upE r q).length = q.length
  | r, [] => by cases r <;> rfl
  | [], _ :: q => by show (upE [] q).length + 1 = _; rw [upE_len]; rfl
  | _ :: r, _ :: q => by show (upE r q).length + 1 = _; rw [upE_len]; rfl
theorem upS_of (s u : Sl) : (upS s u = u ∧ (∀ g, u = .bor (.dkl g) → ∃ g0, s = .bor (.dkl g0))) ∨ (∃ g g', s = .bor (.dk g) ∧ u = .bor (.dkm g') ∧ upS s u = .bor (.dk g')) ∨ ∃ g', u = .bor (.dkl g') ∧ upS s u = .bor (.dkm g') := by
  cases u with
  | bor d' =>
    cases d' with
    | dkm g' =>
      cases s with
      | bor d =>
        cases d with
        | dk g => exact .inr (.inl ⟨g, g', rfl, rfl, rfl⟩)
        | _ => exact .inl ⟨rfl, fun g z => by cases z⟩
      | _ => exact .inl ⟨rfl, fun g z => by cases z⟩
    | dkl g' =>
      cases s with
      | bor d =>
        cases d with
        | dkl g => exact .inl ⟨rfl, fun _ z => ⟨g, rfl⟩⟩
        | _ => exact .inr (.inr ⟨g', rfl, rfl⟩)
      | _ => exact .inr (.inr ⟨g', rfl, rfl⟩)
    | _ => exact .inl ⟨by cases s with | bor d => cases d <;> rfl | _ => rfl, fun g z => by cases z⟩
  | _ => exact .inl ⟨by cases s with | bor d => cases d <;> rfl | _ => rfl, fun g z => by cases z⟩
theorem upE_get : ∀ {r q : Env} {j : Nat} {t : Sl}, (upE r q)[j]? = some t → ∃ s u, (s = .no ∨ r[j]? = some s) ∧ q[j]? = some u ∧ t = upS s u
  | r, [], j, t, h => by cases r <;> simp [upE] at h
  | [], u :: q, 0, t, h => by
    have h : some (upS .no u) = some t := by simpa [upE] using h
    cases h
    exact ⟨.no, u, .inl rfl, rfl, rfl⟩
  | [], u :: q, j + 1, t, h => by
    have h : (upE [] q)[j]? = some t := by simpa [upE] using h
    obtain ⟨s, u, h1, h2, h3⟩ := upE_get h
    exact ⟨s, u, h1.imp id fun z => (by simp at z), by simpa using h2, h3⟩
  | s :: r, u :: q, 0, t, h => by
    have h : some (upS s u) = some t := by simpa [upE] using h
    cases h
    exact ⟨s, u, .inr rfl, rfl, rfl⟩
  | s :: r, u :: q, j + 1, t, h => by
    have h : (upE r q)[j]? = some t := by simpa [upE] using h
    obtain ⟨s, u, h1, h2, h3⟩ := upE_get h
    exact ⟨s, u, h1.imp id fun z => (by simpa using z), by simpa using h2, h3⟩
section
variable {c : Ct} {F H : Hp} {O : Ow} {ρ : Env} {σ : L2.St}
def lkB (c : Ct) (a : Addr) (u : HO) : Ct := { c with H0 := upd c.H0 a u }
theorem getS_bor {i : Nat} {d : OD} (S : Sim K c F O ρ σ H) (hs : getS ρ i = .bor d) : ∃ a h, σ[i]? = some (some (.ref a)) ∧ c.H0 a = some h ∧ NP c.P a ∧ c.Pa i = some a ∧ ObjS K c.F0 F (np c.P c.H0) a d h := by
  have e1 := getS_some hs (fun z => by cases z)
  have hi : i < σ.length := by rw [← S.len]; exact (List.getElem?_eq_some_iff.mp e1).1
  have e2 : σ[i]? = some σ[i] := List.getElem?_eq_getElem hi
  obtain ⟨a, h, e, h1, ⟨h2, h3⟩, h4⟩ := S.sl i _ _ e1 e2
  exact ⟨a, h, by rw [e2, e], h1, h2, h3, h4⟩
theorem Sim.lockB {i : Nat} {a : Addr} {od : Obj} {fs : List (Key × V)} {gs : List (Key × D)} (S : Sim K c F O ρ σ H) (hs : getS ρ i = .bor (.dk gs)) (h0 : σ[i]? = some (some (.ref a))) (c1 : c.H0 a = some (.dK fs)) (np' : NP c.P a) (h3 : RepK K F fs gs) (f0 : c.F0 a = none) :
    Sim K (lkB c a (.frz od (.dK fs))) F O ((ρ.map degS).set i (.bor (.dkl gs))) σ (upd H a (.frz od (.dK fs))) := by
  have e1 := getS_some hs (fun z => by cases z)
  have w2 : F a = none := (S.gr.n a (some_ne c1)).trans f0
  have nb : ∀ b j, O b = some j → b ≠ a := fun b j h z => by subst z; have := (S.ow b j h).1; rw [c1] at this; cases this
  have h0n : ∀ b, b ≠ a → (lkB c a (.frz od (.dK fs))).H0 b = c.H0 b := fun b h => upd_ne h
  have cs : (lkB c a (.frz od (.dK fs))).H0 a = some (.frz od (.dK fs)) := upd_same
  have n0 : ∀ b, (lkB c a (.frz od (.dK fs))).H0 b ≠ none → c.H0 b ≠ none := fun b h z => by
    by_cases e : b = a
    · rw [e, c1] at z; cases z
    · rw [h0n b e] at h; exact h z
  have n1 : ∀ b, c.H0 b ≠ none → (lkB c a (.frz od (.dK fs))).H0 b ≠ none := fun b h z => by
    by_cases e : b = a
    · rw [e, cs] at z; cases z
    · rw [h0n b e] at z; exact h z
  refine ⟨⟨S.gr.f, fun b h => S.gr.n b (n0 b h), fun b o n h => ?_, fun b h => ?_⟩, fun b o h => u_ne (fun z => by rw [z, w2] at h; cases h) (S.fh b o h), fun p l e => ⟨(S.po p l e).1.upd (np' p l e) (fun z => ?_), (S.po p l e).2⟩, fun p l e => ⟨n1 p (S.pd p l e).1, n1 l (S.pd p l e).2⟩, fun b j h => ?_, by rw [List.length_set, List.length_map, S.len], fun j t o ht ho => ?_⟩
  · by_cases e : b = a
    · subst e
      rw [cs] at h
      cases h
      exact upd_same
    · rw [h0n b e] at h
      exact u_ne e (S.gr.h b o n h)
  · by_cases e : b = a
    · rw [e, upd_same]; exact some_ne rfl
    · rw [upd_ne e]; exact S.gr.d b (n0 b h)
  · obtain ⟨ns, i', x, y, z', q1, q2, _⟩ := (S.po p l e).1
    subst z
    rw [S.gr.h _ _ np' c1] at q2
    cases q2
  · obtain ⟨m1, m2, m3⟩ := S.ow b j h
    exact ⟨by rw [h0n b (nb b j h)]; exact m1, m2, by rw [upd_ne (nb b j h)]; exact m3⟩
  · by_cases e0 : i = j
    · subst e0
      rw [List.getElem?_set_self (by rw [List.length_map]; exact (List.getElem?_eq_some_iff.mp e1).1)] at ht
      cases ht
      rw [h0] at ho
      cases ho
      obtain ⟨a', h', k0, k1, k2, k3, k4⟩ := getS_bor S hs
      rw [h0] at k0
      cases k0
      exact ⟨a, _, rfl, cs, ⟨np', k3⟩, fs, ⟨od, rfl⟩, h3, f0⟩
    · rw [List.getElem?_set_ne e0, List.getElem?_map] at ht
      obtain ⟨t0, ht0, rfl⟩ := Option.map_eq_some_iff.mp ht
      have q := S.sl j t0 o ht0 ho
      cases t0 with
      | len es => obtain ⟨b, ws, e, k0, k2, k3, k4⟩ := q; exact ⟨b, ws, e, k0, k2, u_ne (nb b j k2) k3, k4.mono Ex.refl (fun b' o' z => ⟨z.1, u_ne (nb b' j z.1) z.2⟩) id⟩
      | own es => obtain ⟨b, ws, e, k2, k3, k4⟩ := q; exact ⟨b, ws, e, k2, u_ne (nb b j k2) k3, k4.mono Ex.refl fun b' o' z => ⟨z.1, u_ne (nb b' j z.1) z.2⟩⟩
      | slf C gs => obtain ⟨b, dx, fs, e, e2, k1, k2, k3⟩ := q; exact ⟨b, dx, fs, e, e2, k1, u_ne (nb b j k1) k2, k3⟩
      | no => exact q
      | fz d => exact q
      | pool => exact q
      | bor d =>
        obtain ⟨b, ws, e, k1, k2, k4⟩ := q
        have mm : ∀ b' ws', np c.P c.H0 b' (.lst ws') → np c.P (lkB c a (.frz od (.dK fs))).H0 b' (.lst ws') := fun b' ws' z => ⟨z.1, by rw [h0n b' fun y => by rw [y] at z; have := z.2; rw [c1] at this; cases this]; exact z.2⟩
        by_cases ba : b = a
        · subst ba
          rw [c1] at k1
          cases k1
          cases d with
          | dk g => obtain ⟨fs', z, r, _⟩ := k4; cases z; exact ⟨b, _, e, cs, k2, fs, .inr ⟨od, rfl⟩, r, f0⟩
          | dkm g =>
            obtain ⟨fs', z, r, _⟩ := k4
            rcases z with z | ⟨_, z⟩
            · cases z; exact ⟨b, _, e, cs, k2, fs, .inr ⟨od, rfl⟩, r, f0⟩
            · cases z
          | dkl g => obtain ⟨fs', ⟨_, z⟩, r, _⟩ := k4; cases z
          | dtl g => obtain ⟨fs', ⟨_, z⟩, r, _⟩ := k4; cases z
          | dt g => obtain ⟨fs', z, r, _⟩ := k4; cases z
          | dtm g => obtain ⟨fs', z | ⟨_, z⟩, r, _⟩ := k4 <;> cases z
          | lst g => exact k4.elim
          | ins C g => exact k4.elim
          | lls g => exact k4.elim
        · have k1' := k1
          rw [← h0n b ba] at k1'
          cases d with
          | dk g => obtain ⟨fs', z, r, q⟩ := k4; exact ⟨b, ws, e, k1', k2, fs', .inl z, r, q⟩
          | _ => exact ⟨b, ws, e, k1', k2, k4.mono2 mm id⟩
theorem Sim.unlockB {i : Nat} {a : Addr} {od : Obj} {fs : List (Key × V)} {gs : List (Key × D)} {ρ0 : Env} (c1 : c.H0 a = some (.dK fs)) (np' : NP c.P a) (f0 : c.F0 a = none) (pi : c.Pa i = some a)
    (hp : ∀ j g, ρ0[j]? = some (.bor (.dk g)) → ∃ b fb, c.Pa j = some b ∧ c.H0 b = some (.dK fb)) (hq : ∀ j g, ρ0[j]? = some (.bor (.dkl g)) → c.Pa j ≠ some a) (S : Sim K (lkB c a (.frz od (.dK fs))) F O ρ σ H) (hs : getS ρ i = .bor (.dkl gs)) :
    H a = some (.frz od (.dK fs)) ∧ Sim K c F O ((upE ρ0 ρ).set i (.bor (.dk gs))) σ (upd H a (.dK fs)) := by
  have e1 := getS_some hs (fun z => by cases z)
  have h0n : ∀ b, b ≠ a → (lkB c a (.frz od (.dK fs))).H0 b = c.H0 b := fun b h => upd_ne h
  have cs : (lkB c a (.frz od (.dK fs))).H0 a = some (.frz od (.dK fs)) := upd_same
  have ha : H a = some (.frz od (.dK fs)) := S.gr.h a _ np' cs
  have w2 : F a = none := (S.gr.n a (some_ne cs)).trans f0
  have nb : ∀ b j, O b = some j → b ≠ a := fun b j h z => by subst z; have := (S.ow b j h).1; rw [cs] at this; cases this
  have n1 : ∀ b, c.H0 b ≠ none → (lkB c a (.frz od (.dK fs))).H0 b ≠ none := fun b h z => by
    by_cases e : b = a
    · rw [e, cs] at z; cases z
    · rw [h0n b e] at z; exact h z
  have n0 : ∀ b, (lkB c a (.frz od (.dK fs))).H0 b ≠ none → c.H0 b ≠ none := fun b h z => by
    by_cases e : b = a
    · rw [e, c1] at z; cases z
    · rw [h0n b e] at h; exact h z
  refine ⟨ha, ⟨⟨S.gr.f, fun b h => S.gr.n b (n1 b h), fun b o n h => ?_, fun b h => ?_⟩, fun b o h => u_ne (fun z => by rw [z, w2] at h; cases h) (S.fh b o h), fun p l e => ⟨(S.po p l e).1.upd (np' p l e) (fun z => ?_), (S.po p l e).2⟩, fun p l e => ⟨n0 p (S.pd p l e).1, n0 l (S.pd p l e).2⟩, fun b j h => ?_, by rw [List.length_set, upE_len, S.len], fun j t o ht ho => ?_⟩⟩
  · by_cases e : b = a
    · subst e
      rw [c1] at h
      cases h
      exact upd_same
    · exact u_ne e (S.gr.h b o n (by rw [h0n b e]; exact h))
  · by_cases e : b = a
    · rw [e, upd_same]; exact some_ne rfl
    · rw [upd_ne e]; exact S.gr.d b (n1 b h)
  · obtain ⟨ns, i', x, y, z', q1, q2, _⟩ := (S.po p l e).1
    subst z
    rw [ha] at q2
    cases q2
  · obtain ⟨m1, m2, m3⟩ := S.ow b j h
    exact ⟨by rw [← h0n b (nb b j h)]; exact m1, m2, by rw [upd_ne (nb b j h)]; exact m3⟩
  · by_cases e0 : i = j
    · subst e0
      rw [List.getElem?_set_self (by rw [upE_len]; exact (List.getElem?_eq_some_iff.mp e1).1)] at ht
      cases ht
      obtain ⟨b, h, e, h1, ⟨_, h2⟩, fs', ⟨ob, z⟩, r, _⟩ := S.sl i _ _ e1 ho
      have : some a = some b := pi.symm.trans h2
      cases this
      rw [cs] at h1
      cases h1
      cases z
      exact ⟨a, _, e, c1, ⟨np', pi⟩, fs, rfl, r, f0⟩
    · rw [List.getElem?_set_ne e0] at ht
      have mm : ∀ b' ws', np c.P (lkB c a (.frz od (.dK fs))).H0 b' (.lst ws') → np c.P c.H0 b' (.lst ws') := fun b' ws' z => ⟨z.1, by rw [← h0n b' fun y => by rw [y] at z; have := z.2; rw [cs] at this; cases this]; exact z.2⟩
      obtain ⟨s0, t0, hs0, ht0, rfl⟩ := upE_get ht
      rcases upS_of s0 t0 with ⟨z0, z1⟩ | ⟨g, g', rfl, rfl, z0⟩ | ⟨g', rfl, z0⟩
      · rw [z0]
        have q := S.sl j t0 o ht0 ho
        revert z1
        generalize t0 = t at q
        intro z1
        cases t with
        | len es => obtain ⟨b, ws, e, k0, k2, k3, k4⟩ := q; exact ⟨b, ws, e, k0, k2, u_ne (nb b j k2) k3, k4.mono Ex.refl (fun b' o' z => ⟨z.1, u_ne (nb b' j z.1) z.2⟩) id⟩
        | own es => obtain ⟨b, ws, e, k2, k3, k4⟩ := q; exact ⟨b, ws, e, k2, u_ne (nb b j k2) k3, k4.mono Ex.refl fun b' o' z => ⟨z.1, u_ne (nb b' j z.1) z.2⟩⟩
        | slf C gs => obtain ⟨b, dx, fs, e, e2, k1, k2, k3⟩ := q; exact ⟨b, dx, fs, e, e2, k1, u_ne (nb b j k1) k2, k3⟩
        | no => exact q
        | fz d => exact q
        | pool => exact q
        | bor d =>
          obtain ⟨b, ws, e, k1, k2, k4⟩ := q
          by_cases ba : b = a
          · subst ba
            rw [cs] at k1
            cases k1
            cases d with
            | dkm g =>
              obtain ⟨fs', z, r, _⟩ := k4
              rcases z with z | ⟨_, z⟩
              · cases z
              · cases z; exact ⟨b, _, e, c1, k2, fs, .inl rfl, r, f0⟩
            | dkl g => obtain ⟨g0, rfl⟩ := z1 g rfl; exact absurd k2.2 (hq j g0 (hs0.resolve_left fun z => by cases z))
            | dk g => obtain ⟨fs', z, r, _⟩ := k4; cases z
            | dtl g => obtain ⟨fs', ⟨_, z⟩, r, _⟩ := k4; cases z
            | dt g => obtain ⟨fs', z, r, _⟩ := k4; cases z
            | dtm g => obtain ⟨fs', z | ⟨_, z⟩, r, _⟩ := k4 <;> cases z
            | lst g => exact k4.elim
            | ins C g => exact k4.elim
            | lls g => exact k4.elim
          · exact ⟨b, ws, e, by rw [← h0n b ba]; exact k1, k2, k4.mono2 mm id⟩
      · rw [z0]
        obtain ⟨b, ws, e, k1, k2, fs', z, r, q⟩ := S.sl j _ o ht0 ho
        obtain ⟨b0, fb, p1, p2⟩ := hp j g (hs0.resolve_left fun z => by cases z)
        have : some b = some b0 := k2.2.symm.trans p1
        cases this
        by_cases ba : b = a
        · subst ba
          rw [cs] at k1
          cases k1
          rcases z with z | ⟨_, z⟩
          · cases z
          · cases z; exact ⟨b, _, e, c1, k2, fs, rfl, r, f0⟩
        · rw [h0n b ba, p2] at k1
          cases k1
          rcases z with z | ⟨_, z⟩
          · cases z; exact ⟨b, _, e, p2, k2, _, rfl, r, q⟩
          · cases z
      · rw [z0]
        obtain ⟨b, ws, e, k1, k2, fs', ⟨ob, z⟩, r, q⟩ := S.sl j _ o ht0 ho
        subst z
        by_cases ba : b = a
        · subst ba
          rw [cs] at k1
          cases k1
          exact ⟨b, _, e, c1, k2, fs, .inl rfl, r, f0⟩
        · rw [h0n b ba] at k1
          exact ⟨b, _, e, k1, k2, fs', .inr ⟨ob, rfl⟩, r, q⟩
/-- s runs while the dict of slot i, a parameter's, is locked -/
def mLockB (i : Nat) (mb : MS) : MS := fun E ρ => ∃ gs, getS ρ i = .bor (.dk gs) ∧ mb ⟨fun ρ' => getS ρ' i = .bor (.dkl gs) ∧ E.nx ((upE ρ ρ').set i (.bor (.dk gs))), fun x => x.sim ∧ E.rt x, fun ρ' => getS ρ' i = .bor (.dkl gs) ∧ E.bk ((upE ρ ρ').set i (.bor (.dk gs))), fun ρ' => getS ρ' i = .bor (.dkl gs) ∧ E.ct ((upE ρ ρ').set i (.bor (.dk gs)))⟩ ((ρ.map degS).set i (.bor (.dkl gs)))
theorem s_lockB {i : Nat} {tb : TS} {mb : MS} (hb : PurS K tb mb) : PurS K (tLock tb) (mLockB i mb) := by
  intro c F O ρ σ H D D' S R hm
  obtain ⟨gs, hs, hm⟩ := hm
  obtain ⟨a, h, h0, c1, np', pi, fs, rfl, h3, f0⟩ := getS_bor S hs
  have h2 := S.gr.h _ _ np' c1
  refine ⟨a, .dK fs, h2, trivial, fun od => ?_⟩
  have S1 := S.lockB (od := od) hs h0 c1 np' h3 f0
  have hp : ∀ j g, ρ[j]? = some (.bor (.dk g)) → ∃ b fb, c.Pa j = some b ∧ c.H0 b = some (.dK fb) := fun j g hj => by
    obtain ⟨b, h, _, k1, _, k3, fb, rfl, _⟩ := getS_bor S (getS_of hj)
    exact ⟨b, fb, k3, k1⟩
  have hq : ∀ j g, ρ[j]? = some (.bor (.dkl g)) → c.Pa j ≠ some a := fun j g hj z => by
    obtain ⟨b, h, _, k1, _, k3, fb, ⟨ob, rfl⟩, _⟩ := getS_bor S (getS_of hj)
    rw [k3] at z
    cases z
    rw [c1] at k1
    cases k1
  have unl : ∀ F' O' ρ' σ' H', Sim K (lkB c a (.frz od (.dK fs))) F' O' ρ' σ' H' → getS ρ' i = .bor (.dkl gs) → H' a = some (.frz od (.dK fs)) ∧ Sim K c F' O' ((upE ρ ρ').set i (.bor (.dk gs))) σ' (upd H' a (.dK fs)) := fun F' O' ρ' σ' H' S' hs' => S'.unlockB c1 np' f0 pi hp hq hs'
  refine hb _ F _ _ σ _ _ _ S1 ⟨?_, ?_, ?_, ?_⟩ hm
  · exact fun F' O' ρ' σ' H' x S' p' => ⟨(unl F' O' ρ' σ' H' S' p'.1).1, R.nx _ _ _ _ _ x (unl F' O' ρ' σ' H' S' p'.1).2 p'.2⟩
  · exact fun F' O' ρ' σ' H' x S' p' => ⟨(unl F' O' ρ' σ' H' S' p'.1).1, R.bk _ _ _ _ _ x (unl F' O' ρ' σ' H' S' p'.1).2 p'.2⟩
  · exact fun F' O' ρ' σ' H' x S' p' => ⟨(unl F' O' ρ' σ' H' S' p'.1).1, R.ct _ _ _ _ _ x (unl F' O' ρ' σ' H' S' p'.1).2 p'.2⟩
  · intro F' H' x v y g fh po r q
    have cs : (lkB c a (.frz od (.dK fs))).H0 a = some (.frz od (.dK fs)) := upd_same
    have ha := g.h a _ np' cs
    have fa : F' a = none := (g.n a (some_ne cs)).trans f0
    have h0n : ∀ b, b ≠ a → (lkB c a (.frz od (.dK fs))).H0 b = c.H0 b := fun b h => upd_ne h
    have n1 : ∀ b, c.H0 b ≠ none → (lkB c a (.frz od (.dK fs))).H0 b ≠ none := fun b h z => by
      by_cases e : b = a
      · rw [e, cs] at z; cases z
      · rw [h0n b e] at z; exact h z
    refine ⟨ha, R.rt F' _ x v y ⟨g.f, fun b h => g.n b (n1 b h), fun b o n h => ?_, fun b h => ?_⟩ (fun b o h => u_ne (fun z => by rw [z, fa] at h; cases h) (fh b o h)) (fun p l e => ⟨(po p l e).1.upd (np' p l e) (fun z => ?_), (po p l e).2⟩) (xr_unlock (c1 := lkB c a (.frz od (.dK fs))) (c2 := c) rfl (fun b hb => ?_) q.1 ha r) q.2⟩
    · by_cases e : b = a
      · subst e
        rw [c1] at h
        cases h
        exact upd_same
      · exact u_ne e (g.h b o n (by rw [h0n b e]; exact h))
    · by_cases e : b = a
      · rw [e, upd_same]; exact some_ne rfl
      · rw [upd_ne e]; exact g.d b (n1 b h)
    · obtain ⟨ns, i', x, y, z', q1, q2, _⟩ := (po p l e).1
      subst z
      rw [ha] at q2
      cases q2
    · have ne : b ≠ a := fun z => by rw [z, cs] at hb; cases hb
      rw [h0n b ne] at hb
      exact hb
end
end
/-! isinstance of an own class -/
section
variable {K : PySem.W.Frag}
structure IsCls (K : PySem.W.Frag) (C C' : Addr) (b : Bool) : Prop where
  cl : Cls K C
  ha : PySem.W.findIn K (.ref C) "__class__" = some (some (.builtin "object.__class__"))
  hn : PySem.W.specialIn K (.builtin "object.__class__") "__get__" = some (some (.builtin "getset_descriptor.__get__"))
  ht : PySem.W.takesIn K (.builtin "object.__class__") = some true
  hm : PySem.W.mroIn K C (.type "object") = some true
  kit : PySem.W.kitOne K (.ref C) (.ref C') = some b
def pIsiO (K : PySem.W.Frag) (xs : List X) (Q : X → Prop) : Prop := ∃ C fs C' b, xs = [.f (.ins C fs), .f (.obj C')] ∧ IsCls K C C' b ∧ Q (.f (.bl b))
theorem c_isiO : PurRL K (rIsiW K) (pIsiO K) := by
  intro c F O ρ σ H Q Q' xs vs S r hm hp
  obtain ⟨C, fs, C', b, rfl, i, q⟩ := hm
  obtain ⟨v, w, rfl, r1, r2⟩ := xms2 r
  cases r2
  cases r1 with
  | ins h1 h2 => exact ⟨_, _, .ref C, .ref C', b, rfl, .own C', .base (.ins (S.fh _ _ h1) i.cl i.ha i.hn i.ht i.hm), i.kit, hp.here (x := .f (.bl b)) S (.bl b) q⟩
end
theorem w_isiO {K : PySem.W.Frag} {C C' : Addr} {fs : List (Str × D)} {Q : X → Prop} : pIsiO K [.f (.ins C fs), .f (.obj C')] Q = ∃ b, IsCls K C C' b ∧ Q (.f (.bl b)) := propext ⟨fun ⟨_, _, _, b, e, h1, h⟩ => by cases e; exact ⟨b, h1, h⟩, fun ⟨b, h1, h⟩ => ⟨_, _, _, b, rfl, h1, h⟩⟩
/-! readings -/
theorem w_lock {i : Nat} {mb : MS} {E : Pd} {ρ : Env} : mLock i mb E ρ = ∃ gs, getS ρ i = .own (.dk gs) ∧ mb ⟨fun ρ => getS ρ i = .bor (.dkl gs) ∧ E.nx (ρ.set i (.own (.dk gs))), fun x => x.sim ∧ E.rt x, fun ρ => getS ρ i = .bor (.dkl gs) ∧ E.bk (ρ.set i (.own (.dk gs))), fun ρ => getS ρ i = .bor (.dkl gs) ∧ E.ct (ρ.set i (.own (.dk gs)))⟩ (ρ.set i (.bor (.dkl gs))) := rfl
theorem w_lockE {i : Nat} {me : ME} {ρ : Env} {Q : X → Prop} : mLockE i me ρ Q = ∃ gs, getS ρ i = .own (.dk gs) ∧ me (ρ.set i (.bor (.dkl gs))) fun x => x.sim ∧ Q x := rfl
theorem w_lockB {i : Nat} {mb : MS} {E : Pd} {ρ : Env} : mLockB i mb E ρ = ∃ gs, getS ρ i = .bor (.dk gs) ∧ mb ⟨fun ρ' => getS ρ' i = .bor (.dkl gs) ∧ E.nx ((upE ρ ρ').set i (.bor (.dk gs))), fun x => x.sim ∧ E.rt x, fun ρ' => getS ρ' i = .bor (.dkl gs) ∧ E.bk ((upE ρ ρ').set i (.bor (.dk gs))), fun ρ' => getS ρ' i = .bor (.dkl gs) ∧ E.ct ((upE ρ ρ').set i (.bor (.dk gs)))⟩ ((ρ.map degS).set i (.bor (.dkl gs))) := rfl
theorem w_ikeys {i : Nat} {ρ : Env} {R : List D → Bool → Prop} : mIKeys i ρ R = ∃ gs, getS ρ i = .bor (.dkl gs) ∧ R (keysD gs) true := rfl
theorem inj_own {a b : OD} : (Sl.own a = Sl.own b) = (a = b) := propext ⟨fun h => by cases h; rfl, fun h => by rw [h]⟩
theorem inj_bor {a b : OD} : (Sl.bor a = Sl.bor b) = (a = b) := propext ⟨fun h => by cases h; rfl, fun h => by rw [h]⟩
theorem inj_dkl {a b : List (Key × D)} : (OD.dkl a = OD.dkl b) = (a = b) := propext ⟨fun h => by cases h; rfl, fun h => by rw [h]⟩
theorem sim_f {d : D} : (X.f d).sim = True := rfl
theorem sim_o {d : OD} : (X.o d).sim = True := rfl
theorem deg_dk {g : List (Key × D)} : degS (.bor (.dk g)) = .bor (.dkm g) := rfl
theorem deg_dkl {g : List (Key × D)} : degS (.bor (.dkl g)) = .bor (.dkl g) := rfl
theorem deg_lst {g : List D} : degS (.bor (.lst g)) = .bor (.lst g) := rfl
theorem deg_fz {d : D} : degS (.fz d) = .fz d := rfl
theorem deg_own {d : OD} : degS (.own d) = .own d := rfl
theorem deg_no : degS .no = .no := rfl
theorem deg_pool : degS .pool = .pool := rfl
theorem upE_c {s t : Sl} {r q : Env} : upE (s :: r) (t :: q) = upS s t :: upE r q := rfl
theorem upE_n {r : Env} : upE r [] = [] := by cases r <;> rfl
theorem upS_dk {g h : List (Key × D)} : upS (.bor (.dk h)) (.bor (.dkm g)) = .bor (.dk g) := rfl
theorem upS_fz {s : Sl} {d : D} : upS s (.fz d) = .fz d := by cases s with | bor d => cases d <;> rfl | _ => rfl
theorem upS_own {s : Sl} {d : OD} : upS s (.own d) = .own d := by cases s with | bor d => cases d <;> rfl | _ => rfl
theorem upS_no {s : Sl} : upS s .no = .no := by cases s with | bor d => cases d <;> rfl | _ => rfl
theorem upS_pool {s : Sl} : upS s .pool = .pool := by cases s with | bor d => cases d <;> rfl | _ => rfl
theorem upS_lst {s : Sl} {d : List D} : upS s (.bor (.lst d)) = .bor (.lst d) := by cases s with | bor d => cases d <;> rfl | _ => rfl
theorem true_and' {p : Prop} : (True ∧ p) = p := propext ⟨fun h => h.2, fun h => ⟨trivial, h⟩⟩
theorem dkr_mq {gs : List (Key × D)} : (X.q (.dkm gs)).DK = some gs := rfl
theorem dkr_mb {gs : List (Key × D)} : (X.b (.dkm gs)).DK = some gs := rfl
end Pl
/-! Wm: table tasks: reached states, least costs, first least ways. -/
namespace Wy
open PySem L2 Wp Pl
abbrev Step := Int × Nat
abbrev Row := List Step
abbrev Rows := List Row
def nD (k : Nat) : D := .int (k : Int)
def stD (s : Step) : D := .tup [.int s.1, nD s.2]
def rowD (r : Row) : D := .lst (r.map stD)
def numD : Option Int → D
  | none => .non
  | some i => .int i
structure Ok (rs : Rows) : Prop where
  n0 : 0 < rs.length
  n9 : rs.length ≤ 1200
  w : ∀ r, r ∈ rs → r.length ≤ 40
  st : ∀ (k : Nat) (r : Row) (s : Step), rs[k]? = some r → s ∈ r → 0 ≤ s.1 ∧ k < s.2 ∧ s.2 < rs.length
def row (rs : Rows) (k : Nat) : Row := rs.getD k []
theorem row_at {rs : Rows} {k : Nat} (h : k < rs.length) : rs[k]? = some (row rs k) := by
  unfold row; rw [List.getD_eq_getElem?_getD, List.getElem?_eq_getElem h]; rfl
theorem row_of {rs : Rows} {k : Nat} {r : Row} (h : rs[k]? = some r) : row rs k = r := by
  unfold row; rw [List.getD_eq_getElem?_getD, h]; rfl
theorem Ok.to {rs : Rows} (ok : Ok rs) {k : Nat} (h : k < rs.length) {s : Step} (m : s ∈ row rs k) : 0 ≤ s.1 ∧ k < s.2 ∧ s.2 < rs.length := ok.st k _ s (row_at h) m
theorem Ok.rw {rs : Rows} (ok : Ok rs) {k : Nat} (h : k < rs.length) : (row rs k).length ≤ 40 := ok.w _ (List.mem_of_getElem? (row_at h))
theorem Ok.last {rs : Rows} (ok : Ok rs) {k : Nat} (h : k + 1 = rs.length) : row rs k = [] := by
  rcases e : row rs k with _ | ⟨s, r⟩
  · rfl
  · have := ok.to (k := k) (by omega) (s := s) (by rw [e]; exact List.mem_cons_self)
    omega
/-! least steps -/
def ls (num : Nat → Option Int) (acc : Option (Int × Nat)) (s : Step) : Option (Int × Nat) := match num s.2 with
  | none => acc
  | some b => match acc with
    | none => some (s.1 + b, s.2)
    | some p => if s.1 + b < p.1 then some (s.1 + b, s.2) else some p
def lsR (num : Nat → Option Int) (r : Row) : Option (Int × Nat) := r.foldl (ls num) none
theorem ls_congr {num num' : Nat → Option Int} : ∀ {r : Row} {acc : Option (Int × Nat)}, (∀ s, s ∈ r → num s.2 = num' s.2) → r.foldl (ls num) acc = r.foldl (ls num') acc
  | [], _, _ => rfl
  | s :: r, acc, h => by
    rw [List.foldl_cons, List.foldl_cons, show ls num acc s = ls num' acc s by unfold ls; rw [h s List.mem_cons_self]]
    exact ls_congr fun x m => h x (List.mem_cons_of_mem _ m)
def bestF (rs : Rows) : Nat → Nat → Option Int
  | 0, _ => none
  | f + 1, k => if k + 1 = rs.length then some 0 else (lsR (bestF rs f) (row rs k)).map (·.1)
def best (rs : Rows) (k : Nat) : Option Int := bestF rs (rs.length - k) k
theorem bestF_ind {rs : Rows} (ok : Ok rs) : ∀ (f g k : Nat), k < rs.length → rs.length - k ≤ f → rs.length - k ≤ g → bestF rs f k = bestF rs g k := by
  intro f
  induction f with
  | zero => intro g k h1 h2; omega
  | succ f ih =>
    intro g k h1 h2 h3
    obtain ⟨m, rfl⟩ : ∃ m, g = m + 1 := ⟨g - 1, by omega⟩
    show (if k + 1 = rs.length then some 0 else (lsR (bestF rs f) (row rs k)).map (·.1)) = (if k + 1 = rs.length then some 0 else (lsR (bestF rs m) (row rs k)).map (·.1))
    have c : lsR (bestF rs f) (row rs k) = lsR (bestF rs m) (row rs k) := ls_congr fun s hs => by
      have := ok.to h1 hs
      exact ih m s.2 this.2.2 (by omega) (by omega)
    rw [c]
theorem best_eq {rs : Rows} (ok : Ok rs) {k : Nat} (h : k < rs.length) : best rs k = if k + 1 = rs.length then some 0 else (lsR (best rs) (row rs k)).map (·.1) := by
  unfold best
  obtain ⟨m, hm⟩ : ∃ m, rs.length - k = m + 1 := ⟨rs.length - k - 1, by omega⟩
  rw [hm]
  show (if k + 1 = rs.length then some 0 else (lsR (bestF rs m) (row rs k)).map (·.1)) = _
  have c : lsR (bestF rs m) (row rs k) = lsR (fun k => bestF rs (rs.length - k) k) (row rs k) := ls_congr fun s hs => by
    have := ok.to h hs
    exact bestF_ind ok _ _ _ this.2.2 (by omega) (by omega)
  rw [c]
theorem best_end {rs : Rows} (ok : Ok rs) {k : Nat} (h : k + 1 = rs.length) : best rs k = some 0 := by rw [best_eq ok (by omega), if_pos h]
theorem best_row {rs : Rows} (ok : Ok rs) {k : Nat} (h : k < rs.length) (h' : k + 1 ≠ rs.length) : best rs k = (lsR (best rs) (row rs k)).map (·.1) := by rw [best_eq ok h, if_neg h']
/-! what the fold finds -/
theorem ls_none {num : Nat → Option Int} : ∀ {r : Row} {acc : Option (Int × Nat)}, r.foldl (ls num) acc = none ↔ acc = none ∧ ∀ s, s ∈ r → num s.2 = none
  | [], acc => by simp
  | s :: r, acc => by
    rw [List.foldl_cons, ls_none]
    cases e : num s.2 with
    | none => rw [show ls num acc s = acc by unfold ls; rw [e]]; simp [e]
    | some b =>
      constructor
      · intro ⟨h, _⟩
        unfold ls at h
        rw [e] at h
        cases acc with
        | none => cases h
        | some p => dsimp only at h; split at h <;> cases h
      · intro ⟨h, h2⟩
        rw [h2 s List.mem_cons_self] at e
        cases e
theorem rev_ind {α : Type} {P : List α → Prop} (h0 : P []) (hs : ∀ r s, P r → P (r ++ [s])) (r : List α) : P r := by
  rw [← List.reverse_reverse r]
  induction r.reverse with
  | nil => exact h0
  | cons s l ih => rw [List.reverse_cons]; exact hs _ _ ih
/-- the fold's answer: the least sum, and the first step that has it -/
theorem ls_some {num : Nat → Option Int} : ∀ {r : Row} {l : Int} {a : Nat}, lsR num r = some (l, a) → ∃ p s q b, r = p ++ s :: q ∧ num s.2 = some b ∧ s.1 + b = l ∧ s.2 = a ∧ (∀ t c, t ∈ p → num t.2 = some c → l < t.1 + c) ∧ ∀ t c, t ∈ q → num t.2 = some c → l ≤ t.1 + c := by
  intro r
  refine rev_ind (P := fun r => ∀ {l : Int} {a : Nat}, lsR num r = some (l, a) → ∃ p s q b, r = p ++ s :: q ∧ num s.2 = some b ∧ s.1 + b = l ∧ s.2 = a ∧ (∀ t c, t ∈ p → num t.2 = some c → l < t.1 + c) ∧ ∀ t c, t ∈ q → num t.2 = some c → l ≤ t.1 + c) ?_ ?_ r
  · intro l a h; cases h
  · intro r s ih l a h
    unfold lsR at h
    rw [List.foldl_append] at h
    change ls num (lsR num r) s = some (l, a) at h
    unfold ls at h
    cases e : num s.2 with
    | none =>
      rw [e] at h
      obtain ⟨p, t, q, b, rfl, h1, h2, h3, h4, h5⟩ := ih h
      refine ⟨p, t, q ++ [s], b, by simp, h1, h2, h3, h4, fun u c m hc => ?_⟩
      rcases List.mem_append.mp m with m | m
      · exact h5 u c m hc
      · rw [List.mem_singleton.mp m, e] at hc; cases hc
    | some b =>
      rw [e] at h
      cases e2 : lsR num r with
      | none =>
        rw [e2] at h
        cases h
        refine ⟨r, s, [], b, rfl, e, rfl, rfl, fun t c m hc => ?_, fun t c m => by cases m⟩
        rw [(ls_none.mp e2).2 t m] at hc
        cases hc
      | some pr =>
        rw [e2] at h
        obtain ⟨l0, a0⟩ := pr
        obtain ⟨p, t, q, b0, rfl, h1, h2, h3, h4, h5⟩ := ih e2
        dsimp only at h
        split at h
        · rename_i hlt
          cases h
          refine ⟨p ++ t :: q, s, [], b, rfl, e, rfl, rfl, fun u c m hc => ?_, fun t c m => by cases m⟩
          rcases List.mem_append.mp m with m | m
          · have := h4 u c m hc; omega
          · rcases List.mem_cons.mp m with rfl | m
            · rw [h1] at hc; cases hc; omega
            · have := h5 u c m hc; omega
        · rename_i hlt
          cases h
          refine ⟨p, t, q ++ [s], b0, by simp, h1, h2, h3, h4, fun u c m hc => ?_⟩
          rcases List.mem_append.mp m with m | m
          · exact h5 u c m hc
          · rw [List.mem_singleton.mp m] at hc ⊢; rw [e] at hc; cases hc; have := Int.not_lt.mp hlt; exact this
/-! reached states -/
inductive Rch (rs : Rows) : Nat → Prop
  | zero : Rch rs 0
  | step {k : Nat} {s : Step} : Rch rs k → k < rs.length → s ∈ row rs k → Rch rs s.2
theorem Rch.lt {rs : Rows} (ok : Ok rs) {k : Nat} (h : Rch rs k) : k < rs.length := by
  cases h with
  | zero => exact ok.n0
  | step _ h m => exact (ok.to h m).2.2
open Classical in
noncomputable def rchB (rs : Rows) (k : Nat) : Bool := decide (Rch rs k)
open Classical in
theorem rchB_iff {rs : Rows} {k : Nat} : rchB rs k = true ↔ Rch rs k := by unfold rchB; exact ⟨fun h => of_decide_eq_true h, fun h => decide_eq_true h⟩
noncomputable def reachL (rs : Rows) : List Nat := (List.range rs.length).filter (rchB rs)
theorem mem_reach {rs : Rows} (ok : Ok rs) {k : Nat} : k ∈ reachL rs ↔ Rch rs k := by
  unfold reachL
  rw [List.mem_filter, List.mem_range]
  exact ⟨fun h => rchB_iff.mp h.2, fun h => ⟨h.lt ok, rchB_iff.mpr h⟩⟩
theorem reach_asc (rs : Rows) : (reachL rs).Pairwise (· < ·) := by
  unfold reachL
  exact List.Pairwise.filter _ List.pairwise_lt_range
theorem reach_len (rs : Rows) : (reachL rs).length ≤ rs.length := by
  unfold reachL
  exact Nat.le_trans (List.length_filter_le _ _) (by rw [List.length_range]; exact Nat.le_refl _)
theorem asc_eq : ∀ {a b : List Nat}, a.Pairwise (· < ·) → b.Pairwise (· < ·) → (∀ k, k ∈ a ↔ k ∈ b) → a = b
  | [], [], _, _, _ => rfl
  | [], y :: ys, _, _, h => by have := (h y).mpr List.mem_cons_self; cases this
  | x :: xs, [], _, _, h => by have := (h x).mp List.mem_cons_self; cases this
  | x :: xs, y :: ys, ha, hb, h => by
    have ha' := List.pairwise_cons.mp ha
    have hb' := List.pairwise_cons.mp hb
    have e : x = y := by
      rcases List.mem_cons.mp ((h x).mp List.mem_cons_self) with e | m
      · exact e
      · rcases List.mem_cons.mp ((h y).mpr List.mem_cons_self) with e | m2
        · exact e.symm
        · have := hb'.1 x m; have := ha'.1 y m2; omega
    subst e
    rw [asc_eq ha'.2 hb'.2 fun k => ?_]
    constructor
    · intro m
      rcases List.mem_cons.mp ((h k).mp (List.mem_cons_of_mem _ m)) with e | m2
      · have := ha'.1 k m; omega
      · exact m2
    · intro m
      rcases List.mem_cons.mp ((h k).mpr (List.mem_cons_of_mem _ m)) with e | m2
      · have := hb'.1 k m; omega
      · exact m2
theorem asc_nodup {a : List Nat} (h : a.Pairwise (· < ·)) : a.Nodup := h.imp fun h => Nat.ne_of_lt h
/-- sorted whole numbers that are a permutation of an ascending list -/
theorem sort_asc {ms : List Int} {ks : List Nat} (hk : ks.Pairwise (· < ·)) (hp : ms.Perm (ks.map fun k : Nat => (k : Int))) (ho : ms.Pairwise (· ≤ ·)) : ms = ks.map fun k : Nat => (k : Int) := by
  have h2 : (ks.map fun k : Nat => (k : Int)).Pairwise (· ≤ ·) := by
    rw [List.pairwise_map]
    exact hk.imp fun h => by omega
  exact hp.eq_of_pairwise (fun a b _ _ h1 h2 => Int.le_antisymm h1 h2) ho h2
theorem sort_desc {ms : List Int} {ks : List Nat} (hk : ks.Pairwise (· < ·)) (hp : ms.Perm (ks.map fun k : Nat => (k : Int))) (ho : ms.Pairwise (· ≥ ·)) : ms = ks.reverse.map fun k : Nat => (k : Int) := by
  have h2 : (ks.reverse.map fun k : Nat => (k : Int)).Pairwise (· ≥ ·) := by
    rw [List.pairwise_map, List.pairwise_reverse]
    exact hk.imp fun h => by omega
  have hp2 : ms.Perm (ks.reverse.map fun k : Nat => (k : Int)) := hp.trans ((List.reverse_perm ks).symm.map _)
  exact hp2.eq_of_pairwise (fun a b _ _ h1 h2 => Int.le_antisymm h2 h1) ho h2
/-! dicts over states -/
def dictN (g : Nat → D) (ks : List Nat) : List (Key × D) := ks.map fun k : Nat => (Sum.inl (k : Int), g k)
theorem dictN_at {g : Nat → D} : ∀ {ks : List Nat} {k : Nat}, atD (dictN g ks) (.inl (k : Int)) = if k ∈ ks then some (g k) else none
  | [], k => rfl
  | x :: xs, k => by
    have ih := dictN_at (g := g) (ks := xs) (k := k)
    unfold atD dictN at *
    rw [List.map_cons, List.find?_cons]
    by_cases h : x = k
    · subst h; simp
    · have h2 : ¬ ((x : Int) = (k : Int)) := by omega
      simp only [Sum.inl.injEq, h2, decide_false]
      rw [ih]
      simp [List.mem_cons, show ¬ k = x from fun e => h e.symm]
theorem dictN_put {g : Nat → D} {ks : List Nat} {k : Nat} : storeD (dictN g ks) (.inl (k : Int)) (g k) = dictN g (if k ∈ ks then ks else ks ++ [k]) := by
  unfold storeD
  have any : ((dictN g ks).any fun kv => decide (kv.1 = .inl (k : Int))) = decide (k ∈ ks) := by
    unfold dictN
    rw [List.any_map]
    induction ks with
    | nil => rfl
    | cons x xs ih =>
      rw [List.any_cons, ih]
      by_cases h : x = k
      · subst h; simp
      · have h2 : ¬ ((x : Int) = (k : Int)) := by omega
        simp [h2, show ¬ k = x from fun e => h e.symm]
  rw [any]
  by_cases h : k ∈ ks
  · rw [if_pos (by simp [h]), if_pos h]
    unfold dictN
    rw [List.map_map]
    refine List.map_congr_left fun x _ => ?_
    dsimp only [Function.comp_apply]
    split
    · rename_i e
      have : x = k := by have := Sum.inl.inj e; omega
      rw [this]
    · rfl
  · rw [if_neg (by simp [h]), if_neg h]
    unfold dictN
    rw [List.map_append]
    rfl
theorem dictN_len {g : Nat → D} {ks : List Nat} : (dictN g ks).length = ks.length := by unfold dictN; rw [List.length_map]
theorem dictN_keys {g : Nat → D} {ks : List Nat} : (dictN g ks).map (·.1) = (ks.map fun k : Nat => (k : Int)).map Sum.inl := by
  unfold dictN
  rw [List.map_map, List.map_map]
  rfl
theorem dictN_keysD {g : Nat → D} {ks : List Nat} : keysD (dictN g ks) = ks.map nD := by
  unfold keysD dictN
  rw [List.map_map]
  rfl
theorem perm_of {a b : List Nat} (ha : a.Nodup) (hb : b.Nodup) (h : ∀ k, k ∈ a ↔ k ∈ b) : a.Perm b := (List.perm_ext_iff_of_nodup ha hb).mpr h
end Wy
local macro_rules | `(tactic| walk_at "wp") => `(tactic| simp only [↓Wp.seq, ↓Wp.next, ↓Wp.asg, ↓Wp.gn, ↓Wp.gsub, ↓Wp.ret, ↓Wp.drop, ↓Wp.ifs, ↓Wp.brk, ↓Wp.cont, ↓Wp.op, ↓Wp.un, ↓Wp.cb, ↓Wp.call, ↓Wp.nil, ↓Wp.cons, ↓Wp.c, ↓Wp.ifx, ↓Wp.lst, ↓Wp.tup, ↓Wp.test, ↓Wp.tb, ↓Wp.tnot, ↓Wp.tand, ↓Wp.tor, ↓Wp.tandv, ↓Wp.torv, ↓Wp.tnotv, ↓Wp.chain, ↓Wp.bx, ↓Wp.i0, ↓Wp.i1, ↓Wp.u1, ↓Wp.eqi, ↓Wp.nei, ↓Wp.cabs, ↓Wp.cmax, ↓Wp.cmin, ↓Wp.cinti, ↓Wp.cintb, ↓Wp.isv_ii, ↓Wp.isv_ib, ↓Wp.for_, ↓Wp.lc_, ↓Wp.ilist, ↓Wp.itup, ↓Wp.irng1, ↓Wp.irng2, ↓Wp.rr1, ↓Wp.rr2, ↓Wp.tyes, ↓Wp.RunC, ↓Wp.RunL, ↓Wp.v0, ↓Wp.v1, ↓Wp.v2, ↓Wp.v3, ↓Wp.v4, ↓Wp.v5, ↓Wp.v6, ↓Wp.v7, ↓Wp.v8, ↓Wp.v9, ↓Wp.v10, ↓Wp.v11, ↓Wp.v12, ↓Wp.v13, ↓Wp.v14, ↓Wp.v15, ↓Wp.v16, ↓Wp.v17, ↓Wp.v18, ↓Wp.v19, ↓Wp.v20, ↓Wp.v21, ↓Wp.v22, ↓Wp.v23, ↓Wp.s0, ↓Wp.s1, ↓Wp.s2, ↓Wp.s3, ↓Wp.s4, ↓Wp.s5, ↓Wp.s6, ↓Wp.s7, ↓Wp.s8, ↓Wp.s9, ↓Wp.s10, ↓Wp.s11, ↓Wp.s12, ↓Wp.s13, ↓Wp.s14, ↓Wp.s15, ↓Wp.s16, ↓Wp.s17, ↓Wp.s18, ↓Wp.s19, ↓Wp.s20, ↓Wp.s21, ↓Wp.s22, ↓Wp.s23, ↓Wp.addi, ↓Wp.eqs, ↓Wp.nes, ↓Wp.isn, ↓Wp.notn, ↓Wp.ist, ↓Wp.tru, ↓Wp.tru_b, ↓Wp.sl, ↓Wp.nopart, ↓Wp.part, ↓Wp.rpart, ↓Wp.bm, ↓Wp.bm0, ↓Wp.aug, ↓Wp.ipi, ↓Wp.mko, ↓Wp.ost, ↓Wp.xf, ↓Wp.callS, Wp.n_i, Wp.n_s, Wp.n_b, Wp.n_r, Wp.n_n, Wp.t_i, Wp.t_s, Wp.t_n, Wp.t_r, Wp.t_b, List.append_nil, Int.zero_add, List.map_cons, List.map_nil, L2.wipe, List.foldl_cons, List.foldl_nil, List.cons_append, List.nil_append, L2.upd_upd, eq_self, decide_eq_true_eq, Bool.not_eq_true', decide_eq_false_iff_not, if_true, if_false, ite_true, ite_false, Bool.false_eq_true, Bool.true_eq_false, Bool.not_true, Bool.not_false, decide_true, decide_false, ↓reduceIte, Int.reduceToNat, Int.reducePow, Int.reduceMul, Int.reduceAdd, Int.reduceSub, Int.reduceNeg, Int.reduceDiv, Int.reduceMod, Int.reduceLT, Int.reduceLE, Int.reduceEq])
local macro_rules | `(tactic| walk_at "hp") => `(tactic| first | assumption | exact Wp.SS.at (i := 0) (by assumption) (by exact rfl) | exact Wp.SS.at (i := 1) (by assumption) (by exact rfl) | exact Wp.SS.at (i := 2) (by assumption) (by exact rfl) | exact Wp.SS.at (i := 3) (by assumption) (by exact rfl) | exact Wp.SS.at (i := 4) (by assumption) (by exact rfl) | exact Wp.SS.at (i := 5) (by assumption) (by exact rfl) | exact Wp.SS.at (i := 6) (by assumption) (by exact rfl) | exact Wp.SS.at (i := 7) (by assumption) (by exact rfl) | exact Wp.SS.at (i := 8) (by assumption) (by exact rfl) | exact Wp.SS.at (i := 9) (by assumption) (by exact rfl) | exact Wp.KK.at (i := 0) (by assumption) (by exact rfl) | exact Wp.KK.at (i := 1) (by assumption) (by exact rfl) | exact Wp.KK.at (i := 2) (by assumption) (by exact rfl) | exact Wp.KK.at (i := 3) (by assumption) (by exact rfl) | exact Wp.KK.at (i := 4) (by assumption) (by exact rfl) | exact Wp.KK.at (i := 5) (by assumption) (by exact rfl) | exact Wp.KK.at (i := 6) (by assumption) (by exact rfl) | exact Wp.KK.at (i := 7) (by assumption) (by exact rfl) | exact Wp.KK.at (i := 8) (by assumption) (by exact rfl) | exact Wp.KK.at (i := 9) (by assumption) (by exact rfl) | exact Wp.KK.at (i := 10) (by assumption) (by exact rfl) | exact Wp.KK.at (i := 11) (by assumption) (by exact rfl) | exact Wp.KK.at (i := 12) (by assumption) (by exact rfl) | exact Wp.KK.at (i := 13) (by assumption) (by exact rfl) | exact Wp.KK.at (i := 14) (by assumption) (by exact rfl) | exact Wp.KK.at (i := 15) (by assumption) (by exact rfl) | exact Wp.KK.at (i := 16) (by assumption) (by exact rfl) | exact Wp.KK.at (i := 17) (by assumption) (by exact rfl) | exact L2.upd_same | (refine Wp.u_ne ?_ ?_ <;> walk_at "hp") | exact L2.ne_of_none (by assumption) (by assumption) | exact (L2.ne_of_none (by assumption) (by assumption)).symm)
local macro_rules | `(tactic| walk_at "sz") => `(tactic| first | assumption | (simp only [List.length_cons, List.length_nil, List.length_map, List.length_append]; decide) | exact Wp.sz_lt (by simp only [List.length_cons, List.length_nil, List.length_map, List.length_append]; omega))
local macro_rules | `(tactic| walk_at "rd") => `(tactic| first | ((with_reducible refine' Wp.ixal ?h1 ?h2 ?h3); (case h1 => walk_at "hp"); (case h2 => exact rfl)) | ((with_reducible refine' Wp.ixat ?h1 ?h2 ?h3); (case h1 => walk_at "hp"); (case h2 => exact rfl)) | ((with_reducible refine' Wp.ixl ?h1 ?h2 ?h3); (case h1 => walk_at "hp"); (case h2 => exact rfl)) | ((with_reducible refine' Wp.setl (j := 0) ?h1 ?h2 ?h3); (case h1 => walk_at "hp"); (case h2 => exact rfl)) | ((with_reducible refine' Wp.setl (j := 1) ?h1 ?h2 ?h3); (case h1 => walk_at "hp"); (case h2 => exact rfl)) | ((with_reducible refine' Wp.setl (j := 2) ?h1 ?h2 ?h3); (case h1 => walk_at "hp"); (case h2 => exact rfl)) | ((with_reducible refine' Wp.setl (j := 3) ?h1 ?h2 ?h3); (case h1 => walk_at "hp"); (case h2 => exact rfl)) | ((with_reducible refine' Wp.setl (j := 4) ?h1 ?h2 ?h3); (case h1 => walk_at "hp"); (case h2 => exact rfl)) | ((with_reducible refine' Wp.setl (j := 5) ?h1 ?h2 ?h3); (case h1 => walk_at "hp"); (case h2 => exact rfl)) | ((with_reducible refine' Wp.lenl ?h1 ?h3); (case h1 => walk_at "hp")) | ((with_reducible refine' Wp.lent ?h1 ?h3); (case h1 => walk_at "hp")) | ((with_reducible refine' Wp.ril ?h1 ?h3); (case h1 => walk_at "hp")) | ((with_reducible refine' Wp.rit ?h1 ?h3); (case h1 => walk_at "hp")) | ((with_reducible refine' Wp.tru_l ?h1 ?h3); (case h1 => walk_at "hp")) | ((with_reducible refine' Wp.mtl ?h1 ?h3); (case h1 => walk_at "hp")) | ((with_reducible refine' Wp.sll ?h1 ?h3); (case h1 => walk_at "hp")) | ((with_reducible refine' Wp.apd ?h1 ?h2 ?h3); (case h1 => walk_at "hp"); (case h2 => walk_at "sz")) | (with_reducible refine' Wp.isi_i (T := "int") Wp.kb_int_int ?h3) | (with_reducible refine' Wp.isi_i (T := "str") Wp.kb_int_str ?h3) | (with_reducible refine' Wp.isi_i (T := "bool") Wp.kb_int_bool ?h3) | (with_reducible refine' Wp.isi_i (T := "list") Wp.kb_int_list ?h3) | (with_reducible refine' Wp.isi_i (T := "tuple") Wp.kb_int_tuple ?h3) | (with_reducible refine' Wp.isi_s (T := "int") Wp.kb_str_int ?h3) | (with_reducible refine' Wp.isi_s (T := "str") Wp.kb_str_str ?h3) | (with_reducible refine' Wp.isi_s (T := "bool") Wp.kb_str_bool ?h3) | (with_reducible refine' Wp.isi_s (T := "list") Wp.kb_str_list ?h3) | (with_reducible refine' Wp.isi_s (T := "tuple") Wp.kb_str_tuple ?h3) | (with_reducible refine' Wp.isi_b (T := "int") Wp.kb_bool_int ?h3) | (with_reducible refine' Wp.isi_b (T := "str") Wp.kb_bool_str ?h3) | (with_reducible refine' Wp.isi_b (T := "bool") Wp.kb_bool_bool ?h3) | (with_reducible refine' Wp.isi_b (T := "list") Wp.kb_bool_list ?h3) | (with_reducible refine' Wp.isi_b (T := "tuple") Wp.kb_bool_tuple ?h3) | (with_reducible refine' Wp.isi_n (T := "int") Wp.kb_NoneType_int ?h3) | (with_reducible refine' Wp.isi_n (T := "str") Wp.kb_NoneType_str ?h3) | (with_reducible refine' Wp.isi_n (T := "bool") Wp.kb_NoneType_bool ?h3) | (with_reducible refine' Wp.isi_n (T := "list") Wp.kb_NoneType_list ?h3) | (with_reducible refine' Wp.isi_n (T := "tuple") Wp.kb_NoneType_tuple ?h3) | ((with_reducible refine' Wp.isi_l (T := "int") ?h1 Wp.kb_list_int ?h3); (case h1 => walk_at "hp")) | ((with_reducible refine' Wp.isi_l (T := "str") ?h1 Wp.kb_list_str ?h3); (case h1 => walk_at "hp")) | ((with_reducible refine' Wp.isi_l (T := "bool") ?h1 Wp.kb_list_bool ?h3); (case h1 => walk_at "hp")) | ((with_reducible refine' Wp.isi_l (T := "list") ?h1 Wp.kb_list_list ?h3); (case h1 => walk_at "hp")) | ((with_reducible refine' Wp.isi_l (T := "tuple") ?h1 Wp.kb_list_tuple ?h3); (case h1 => walk_at "hp")) | ((with_reducible refine' Wp.isi_t (T := "int") ?h1 Wp.kb_tuple_int ?h3); (case h1 => walk_at "hp")) | ((with_reducible refine' Wp.isi_t (T := "str") ?h1 Wp.kb_tuple_str ?h3); (case h1 => walk_at "hp")) | ((with_reducible refine' Wp.isi_t (T := "bool") ?h1 Wp.kb_tuple_bool ?h3); (case h1 => walk_at "hp")) | ((with_reducible refine' Wp.isi_t (T := "list") ?h1 Wp.kb_tuple_list ?h3); (case h1 => walk_at "hp")) | ((with_reducible refine' Wp.isi_t (T := "tuple") ?h1 Wp.kb_tuple_tuple ?h3); (case h1 => walk_at "hp")))
local macro_rules | `(tactic| walk_at "sc") => `(tactic| first | assumption | decide | exact ⟨by decide, by decide, by decide⟩ | exact Or.inr ⟨by decide, by decide⟩ | exact Or.inl ⟨by decide, by decide⟩ | (simp only [List.length_cons, List.length_nil]; decide) | exact L2.SqL.of (by walk_at "hp") | exact Wp.cmm (by decide) (by decide) (by decide) (by decide) | exact Wp.dvs (by decide) (by decide))
local macro_rules | `(tactic| walk_at "go") => `(tactic| repeat (first | walk_at "wp" | walk_at "rd" | (refine And.intro (by walk_at "sc") ?_) | (refine Exists.intro _ (And.intro (by walk_at "hp") (And.intro (by walk_at "sc") ?_)))))
local macro_rules | `(tactic| walk_at "gi") => `(tactic| repeat (first | walk_at "wp" | walk_at "rd" | (refine And.intro (by walk_at "sc") ?_) | (refine Exists.intro _ (And.intro (by walk_at "hp") (And.intro (by walk_at "sc") ?_))) | (refine Wp.ite_t (by first | assumption | omega | decide +kernel) ?_) | (refine Wp.ite_f (by first | assumption | omega | decide +kernel) ?_)))
local macro_rules | `(tactic| walk_at "pw") => `(tactic| simp only [↓Pl.g0, ↓Pl.g1, ↓Pl.g2, ↓Pl.g3, ↓Pl.g4, ↓Pl.g5, ↓Pl.g6, ↓Pl.g7, ↓Pl.g8, ↓Pl.g9, ↓Pl.g10, ↓Pl.g11, ↓Pl.g12, ↓Pl.g13, ↓Pl.g14, ↓Pl.g15, ↓Pl.g16, ↓Pl.g17, ↓Pl.g18, ↓Pl.g19, ↓Pl.g20, ↓Pl.g21, ↓Pl.g22, ↓Pl.g23, ↓Pl.g24, ↓Pl.g25, ↓Pl.g26, ↓Pl.g27, ↓Pl.g28, ↓Pl.g29, ↓Pl.g30, ↓Pl.g31, ↓Pl.g32, ↓Pl.g33, ↓Pl.g34, ↓Pl.g35, ↓Pl.g36, ↓Pl.g37, ↓Pl.g38, ↓Pl.g39, ↓Pl.g40, ↓Pl.g41, ↓Pl.g42, ↓Pl.g43, ↓Pl.s0, ↓Pl.s1, ↓Pl.s2, ↓Pl.s3, ↓Pl.s4, ↓Pl.s5, ↓Pl.s6, ↓Pl.s7, ↓Pl.s8, ↓Pl.s9, ↓Pl.s10, ↓Pl.s11, ↓Pl.s12, ↓Pl.s13, ↓Pl.s14, ↓Pl.s15, ↓Pl.s16, ↓Pl.s17, ↓Pl.s18, ↓Pl.s19, ↓Pl.s20, ↓Pl.s21, ↓Pl.s22, ↓Pl.s23, ↓Pl.s24, ↓Pl.s25, ↓Pl.s26, ↓Pl.s27, ↓Pl.s28, ↓Pl.s29, ↓Pl.s30, ↓Pl.s31, ↓Pl.s32, ↓Pl.s33, ↓Pl.s34, ↓Pl.s35, ↓Pl.s36, ↓Pl.s37, ↓Pl.s38, ↓Pl.s39, ↓Pl.s40, ↓Pl.s41, ↓Pl.s42, ↓Pl.s43, ↓Pl.rd_fz, ↓Pl.rd_own, ↓Pl.rd_bor, ↓Pl.rd_pool, ↓Pl.rd_slf, ↓Pl.rd_len, ↓Pl.sf_len, ↓Pl.rv_fz, ↓Pl.rv_own, ↓Pl.rv_bor, ↓Pl.rv_pool, ↓Pl.sf_own, ↓Pl.sf_fz, ↓Pl.sf_no, ↓Pl.sf_bor, ↓Pl.sf_pool, ↓Pl.sf_slf, ↓Pl.fr_lst, ↓Pl.fr_ins, ↓Pl.fr_dk, ↓Pl.fr_dt, ↓Pl.xn_f, ↓Pl.xn_b, ↓Pl.xn_q, ↓Pl.xn_o, ↓Pl.xn_pl, ↓Pl.xp_f, ↓Pl.xp_b, ↓Pl.xp_q, ↓Pl.xp_o, ↓Pl.xp_pl, ↓Pl.xL_f, ↓Pl.xL_b, ↓Pl.xL_q, ↓Pl.xS_f, ↓Pl.xS_t, ↓Pl.xS_b, ↓Pl.xS_q, ↓Pl.xV_f, ↓Pl.xV_b, ↓Pl.xV_q, ↓Pl.xI_f, ↓Pl.xI_b, ↓Pl.xI_q, ↓Pl.w_var, ↓Pl.w_c, ↓Pl.w_op, ↓Pl.w_op1, ↓Pl.w_op2, ↓Pl.w_un, ↓Pl.w_un1, ↓Pl.w_tst, ↓Pl.w_tst1, ↓Pl.w_if, ↓Pl.w_if1, ↓Pl.w_not, ↓Pl.w_not1, ↓Pl.w_and, ↓Pl.w_and1, ↓Pl.w_or, ↓Pl.w_or1, ↓Pl.w_andv, ↓Pl.w_andv1, ↓Pl.w_orv, ↓Pl.w_orv1, ↓Pl.w_notv, ↓Pl.w_notv1, ↓Pl.w_ch, ↓Pl.w_ch1, ↓Pl.w_ch2, ↓Pl.w_ch3, ↓Pl.w_c3, ↓Pl.w_ca, ↓Pl.w_cb, ↓Pl.w_c1, ↓Pl.w_c2, ↓Pl.w_c33, ↓Pl.w_c4, ↓Pl.w_c5, ↓Pl.w_nil, ↓Pl.w_cons, ↓Pl.w_cons1, ↓Pl.w_cons2, Pl.w_fs0, Pl.w_fs1, ↓Pl.w_tup, ↓Pl.w_tup1, ↓Pl.w_lst, ↓Pl.w_lst1, ↓Pl.w_call, ↓Pl.w_call1, Pl.vx0, Pl.vxt, Pl.vxf, Pl.xv_f, Pl.xv_k, Pl.xv_t, Pl.xv_b, ↓Pl.w_cb0, ↓Pl.w_cb1, ↓Pl.w_seq, ↓Pl.w_next, ↓Pl.w_ret, ↓Pl.w_retN, ↓Pl.w_retV, ↓Pl.w_brk, ↓Pl.w_cnt, ↓Pl.w_nev, ↓Pl.w_asg, ↓Pl.w_asgf, ↓Pl.w_asgo, ↓Pl.w_asgp, ↓Pl.w_drop, ↓Pl.w_drop1, ↓Pl.w_ifs, ↓Pl.w_ifs1, ↓Pl.w_fr, ↓Pl.pif_t, ↓Pl.pif_f, Pl.pif_not, ↓Pl.w_out, ↓Pl.w_outn, ↓Pl.w_law, ↓Pl.w_rg1, ↓Pl.w_rg1i, ↓Pl.w_rg2, ↓Pl.w_rg2i, ↓Pl.w_il, ↓Pl.w_il1, ↓Pl.w_it, ↓Pl.w_it1, ↓Pl.w_ia, ↓Pl.w_ia1, ↓Pl.itX_f, ↓Pl.itX_q, ↓Pl.itX_b, ↓Pl.itA_f, ↓Pl.itA_q, ↓Pl.itA_b, ↓Pl.itA_t, ↓Pl.itT_t, ↓Pl.w_en, ↓Pl.w_en1, ↓Pl.w_en2, ↓Pl.w_zp, ↓Pl.w_zp1, ↓Pl.w_zp2, ↓Pl.w_zp3, ↓Pl.w_for, ↓Pl.w_for1, ↓Pl.w_lc, ↓Pl.w_lc1, ↓Pl.w_yes, Pl.w_wp0, Pl.w_wp1, ↓Pl.w_gn, ↓Pl.w_gt, ↓Pl.w_gs0, ↓Pl.w_gs1, ↓Pl.w_asgG, ↓Pl.w_asgG1, ↓Pl.w_asgG2, ↓Pl.w_apd, ↓Pl.w_apdf, ↓Pl.w_apdo, ↓Pl.w_set, ↓Pl.w_set1, ↓Pl.w_set2, ↓Pl.w_aug, ↓Pl.w_aug1, ↓Pl.w_ext, ↓Pl.w_ext1, ↓Pl.w_ext2, ↓Pl.w_pop, ↓Pl.w_fld, ↓Pl.w_fld1, ↓Pl.w_sf, ↓Pl.w_sf1, ↓Pl.w_mt, ↓Pl.w_mt1, ↓Pl.w_mt2, ↓Pl.o_I, ↓Pl.o_I0, ↓Pl.o_U, ↓Pl.add_ii, ↓Pl.add_ss, ↓Pl.add_tt, ↓Pl.add_ff, ↓Pl.add_fb, ↓Pl.add_fq, ↓Pl.add_bf, ↓Pl.add_bb, ↓Pl.add_bq, ↓Pl.add_qf, ↓Pl.add_qb, ↓Pl.add_qq, ↓Pl.rep_f, ↓Pl.rep_b, ↓Pl.rep_q, ↓Pl.pEq_ii, ↓Pl.pEq_ss, ↓Pl.pEq_bb, ↓Pl.pNe_ii, ↓Pl.pNe_ss, ↓Pl.pNe_bb, ↓Pl.isN_f, ↓Pl.isN_b, ↓Pl.isN_q, ↓Pl.notN_f, ↓Pl.notN_b, ↓Pl.notN_q, ↓Pl.isT_f, ↓Pl.isT_b, ↓Pl.isT_q, ↓Pl.notT_f, ↓Pl.notT_b, ↓Pl.notT_q, Pl.isD_n, Pl.isD_bb, Pl.isD_intn, Pl.isD_intb, Pl.isD_strn, Pl.isD_strb, Pl.isD_lstn, Pl.isD_lstb, Pl.isD_tupn, Pl.isD_tupb, Pl.isD_dkn, Pl.isD_dkb, Pl.isD_insn, Pl.isD_bn, Pl.isD_nb, Pl.isD_b_n, Pl.isD_b_b, Pl.isD_q_n, Pl.isD_q_b, ↓Pl.in_n, Pl.fl_i, Pl.fl_s, Pl.fl_b, Pl.fl_n, Pl.in_nil, Pl.in_ss, Pl.in_ii, ↓Pl.ix_t, ↓Pl.len_t, ↓Pl.list_t, ↓Pl.tuple_t, ↓Pl.ix_l, ↓Pl.len_l, ↓Pl.list_l, ↓Pl.tuple_l, ↓Pl.sl_l, ↓Pl.ix_b, ↓Pl.len_b, ↓Pl.list_b, ↓Pl.tuple_b, ↓Pl.sl_b, ↓Pl.ix_q, ↓Pl.len_q, ↓Pl.list_q, ↓Pl.tuple_q, ↓Pl.sl_q, ↓Pl.sl_t, ↓Pl.sl_s, ↓Pl.len_s, ↓Pl.ix_s, Pl.at0, Pl.at1, Pl.at2, Pl.at3, Pl.at4, Pl.at5, Pl.at6, Pl.at7, Pl.at8, Pl.at9, Pl.at10, Pl.at11, Pl.at12, Pl.at13, Pl.atm1, Pl.atm2, Pl.atm3, Pl.atm4, Pl.atm5, Pl.atm6, Pl.atm7, ↓Pl.w_sl, ↓Pl.w_sl1, ↓Pl.w_sl2, ↓Pl.w_sl3, ↓Pl.w_np, ↓Pl.w_pt, ↓Pl.w_pt1, Pl.cutb0, Pl.cuta0, Pl.cutb1, Pl.cuta1, Pl.cutb2, Pl.cuta2, Pl.cutb3, Pl.cuta3, Pl.cutb4, Pl.cuta4, Pl.cutb5, Pl.cuta5, Pl.cutb6, Pl.cuta6, Pl.cutb7, Pl.cuta7, Pl.cutb8, Pl.cuta8, Pl.cutb9, Pl.cuta9, Pl.cutb10, Pl.cuta10, Pl.cutb11, Pl.cuta11, Pl.cutb12, Pl.cuta12, Pl.cut0_0, Pl.cut0_1, Pl.cut0_2, Pl.cut0_3, Pl.cut0_4, Pl.cut0_5, Pl.cut0_6, Pl.cut0_7, Pl.cut0_8, Pl.cut0_9, Pl.cut0_10, Pl.cut0_11, Pl.cut1_1, Pl.cut1_2, Pl.cut1_3, Pl.cut1_4, Pl.cut1_5, Pl.cut1_6, Pl.cut1_7, Pl.cut1_8, Pl.cut1_9, Pl.cut1_10, Pl.cut1_11, Pl.cut2_2, Pl.cut2_3, Pl.cut2_4, Pl.cut2_5, Pl.cut2_6, Pl.cut2_7, Pl.cut2_8, Pl.cut2_9, Pl.cut2_10, Pl.cut2_11, Pl.cut3_3, Pl.cut3_4, Pl.cut3_5, Pl.cut3_6, Pl.cut3_7, Pl.cut3_8, Pl.cut3_9, Pl.cut3_10, Pl.cut3_11, Pl.cut4_4, Pl.cut4_5, Pl.cut4_6, Pl.cut4_7, Pl.cut4_8, Pl.cut4_9, Pl.cut4_10, Pl.cut4_11, Pl.cut5_5, Pl.cut5_6, Pl.cut5_7, Pl.cut5_8, Pl.cut5_9, Pl.cut5_10, Pl.cut5_11, Pl.cut6_6, Pl.cut6_7, Pl.cut6_8, Pl.cut6_9, Pl.cut6_10, Pl.cut6_11, Pl.cut_nm, ↓Pl.abs_i, ↓Pl.max_ii, ↓Pl.min_ii, ↓Pl.int_i, ↓Pl.int_b, ↓Pl.str_i, ↓Pl.isi_0_int, ↓Pl.isi_0_str, ↓Pl.isi_0_bool, ↓Pl.isi_0_list, ↓Pl.isi_0_tuple, ↓Pl.isi_0_dict, ↓Pl.isi_1_int, ↓Pl.isi_1_str, ↓Pl.isi_1_bool, ↓Pl.isi_1_list, ↓Pl.isi_1_tuple, ↓Pl.isi_1_dict, ↓Pl.isi_2_int, ↓Pl.isi_2_str, ↓Pl.isi_2_bool, ↓Pl.isi_2_list, ↓Pl.isi_2_tuple, ↓Pl.isi_2_dict, ↓Pl.isi_3_int, ↓Pl.isi_3_str, ↓Pl.isi_3_bool, ↓Pl.isi_3_list, ↓Pl.isi_3_tuple, ↓Pl.isi_3_dict, ↓Pl.isi_4_int, ↓Pl.isi_4_str, ↓Pl.isi_4_bool, ↓Pl.isi_4_list, ↓Pl.isi_4_tuple, ↓Pl.isi_4_dict, ↓Pl.isi_5_int, ↓Pl.isi_5_str, ↓Pl.isi_5_bool, ↓Pl.isi_5_list, ↓Pl.isi_5_tuple, ↓Pl.isi_5_dict, ↓Pl.isi_6_int, ↓Pl.isi_6_str, ↓Pl.isi_6_bool, ↓Pl.isi_6_list, ↓Pl.isi_6_tuple, ↓Pl.isi_6_dict, ↓Pl.isi_7_int, ↓Pl.isi_7_str, ↓Pl.isi_7_bool, ↓Pl.isi_7_list, ↓Pl.isi_7_tuple, ↓Pl.isi_7_dict, ↓Pl.isi_8_int, ↓Pl.isi_8_str, ↓Pl.isi_8_bool, ↓Pl.isi_8_list, ↓Pl.isi_8_tuple, ↓Pl.isi_8_dict, ↓Pl.isi_9_int, ↓Pl.isi_9_str, ↓Pl.isi_9_bool, ↓Pl.isi_9_list, ↓Pl.isi_9_tuple, ↓Pl.isi_9_dict, ↓Pl.isi_10_int, ↓Pl.isi_10_str, ↓Pl.isi_10_bool, ↓Pl.isi_10_list, ↓Pl.isi_10_tuple, ↓Pl.isi_10_dict, ↓Pl.w_tru, ↓Pl.tru_bl, ↓Pl.tru_n, ↓Pl.tru_i, ↓Pl.tru_l, ↓Pl.tru_t, ↓Pl.tru_b, ↓Pl.tru_q, ↓Pl.mTru_o, ↓Pl.draw_, Pl.iD0, Pl.iD1, Pl.bD0, Pl.bD1, List.map_cons, List.map_nil, Option.map_some, Option.some.injEq, Prod.mk.injEq, List.cons.injEq, Pl.X.f.injEq, Pl.X.b.injEq, Pl.X.o.injEq, Pl.D.int.injEq, Pl.D.str.injEq, Pl.D.bl.injEq, Pl.D.tup.injEq, Pl.D.lst.injEq, Pl.Sl.own.injEq, Pl.Sl.len.injEq, Pl.Sl.fz.injEq, Pl.Sl.slf.injEq, Pl.OD.lst.injEq, and_true, true_and, and_assoc, exists_eq_left, exists_eq_left', exists_and_left, exists_eq, exists_eq', exists_const, List.all_cons, List.all_nil, Bool.and_true, Bool.true_and, Bool.and_self, Bool.or_false, Bool.true_or, Bool.or_true, Bool.false_or, Bool.not_true, Bool.not_false, Bool.not_not, decide_true, decide_false, eq_self, if_true, if_false, ite_true, ite_false, Bool.false_eq_true, ↓reduceIte, reduceCtorEq, false_and, and_false, or_false, false_or, List.append_nil, List.nil_append, List.cons_append, List.take_succ_cons, List.drop_succ_cons, List.take_zero, List.drop_zero, List.dropLast_cons₂, List.dropLast_singleton, List.dropLast_nil, List.length_cons, List.length_nil, Nat.reduceAdd, Nat.reduceLT, Nat.zero_lt_succ, Nat.lt_irrefl, Nat.reduceEqDiff, Int.reduceToNat, Int.reducePow, Int.reduceMul, Int.reduceAdd, Int.reduceSub, Int.reduceNeg, Int.reduceDiv, Int.reduceMod, Int.reduceLT, Int.reduceLE, Int.reduceEq, Int.reduceNe, Int.zero_add, not_true_eq_false, not_false_eq_true, ↓Pl.kRc_f, ↓Pl.kRc_o, ↓Pl.runC_nil, ↓Pl.runC_cons, Pl.mx_c, Pl.mn_c, List.foldl_cons, List.foldl_nil, ↓Pl.w_zpT, ↓Pl.w_zpT1, ↓Pl.w_rev, ↓Pl.w_ins, ↓Pl.w_del, ↓Pl.kEl_f, ↓Pl.kEl_o, ↓Pl.runL_nil, ↓Pl.runL_cons, Pl.zip_c, Pl.zip_n, Pl.pAll, Pl.pAny, Pl.pSum, Pl.pMaxL, Pl.pMinL, Pl.pPick, Pl.pRare, Pl.pFew, Pl.pIntB, ↓Pl.w_inC, ↓Pl.w_ltSI, ↓Pl.w_enA, ↓Pl.w_enA1, ↓Pl.w_kget, ↓Pl.w_cntT, ↓Pl.w_cntT1, Pl.n_f, Pl.n_o, ↓Pl.w_max3, ↓Pl.w_sortI, ↓Pl.w_sortS, ↓Pl.w_m1, ↓Pl.w_m1a, ↓Pl.w_m1b, ↓Pl.w_str1, ↓Pl.w_dnew, ↓Pl.w_dget, ↓Pl.w_dget2, ↓Pl.w_din, ↓Pl.w_dset, Pl.key_i, Pl.key_s, Pl.dk_q, Pl.dk_b, Pl.dk_f, Pl.dkm_q, Pl.dkm_b, Pl.dkl_q, Pl.dkl_b, Pl.n_d, Pl.inj_f, Pl.inj_dk, Pl.OD.fr, exists_eq_left', exists_eq_left, ↓Pl.w_hpop, ↓Pl.w_hpush, ↓Pl.w_clr, ↓Pl.w_popAt, ↓Pl.w_lst0N, ↓Pl.w_lstN, ↓Pl.w_lstN1, ↓Pl.w_apdN, ↓Pl.w_apdN1, ↓Pl.w_nix, Pl.LL_b, Pl.LL_q, Pl.inr_b, Pl.inr_q, ↓Pl.w_lenNb, ↓Pl.w_lenNq, ↓Pl.w_lcN, ↓Pl.w_lcN1, ↓Pl.w_tmp, ↓Pl.w_tmp1, Pl.noL_bl, ↓Pl.w_napd, ↓Pl.w_nins, ↓Pl.w_nclr, ↓Pl.w_rowset, Pl.fr_lls, Pl.OD.lls.injEq, ↓Pl.w_is, ↓Pl.w_is1, ↓Pl.w_idx, ↓Pl.w_poptup, ↓Pl.w_disp1, ↓Pl.w_dclr, ↓Pl.w_sortD, ↓Pl.w_sortR, ↓Pl.w_listD, ↓Pl.w_dc, ↓Pl.w_dc1, ↓Pl.w_lenD, Pl.dkr_q, Pl.dkr_b, Pl.dkr_f, Pl.dkr_lq, Pl.dkr_lb, ↓Pl.w_lock, ↓Pl.w_lockE, ↓Pl.w_lockB, ↓Pl.w_ikeys, Pl.inj_own, Pl.inj_bor, Pl.inj_dkl, Pl.sim_f, Pl.sim_o, Pl.deg_dk, Pl.deg_dkl, Pl.deg_lst, Pl.deg_fz, Pl.deg_own, Pl.deg_no, Pl.deg_pool, Pl.upE_c, Pl.upE_n, Pl.upS_dk, Pl.upS_fz, Pl.upS_own, Pl.upS_no, Pl.upS_pool, Pl.upS_lst, Pl.true_and', List.map_cons, List.map_nil, Pl.w_isiO, Pl.dkr_mq, Pl.dkr_mb, Pl.n_f, Pl.n_o])
local macro_rules | `(tactic| walk_at "ps") => `(tactic| first | assumption | omega | exact ⟨by decide, by decide⟩ | exact Or.inl ⟨by decide, by decide⟩ | exact Or.inr ⟨by decide, by decide⟩ | decide | (simp only [List.length_map, List.length_append, List.length_cons, List.length_nil, List.length_range, Pl.rng_len]; first | omega | exact Wp.sz_lt (by omega) | exact Wp.sz_le (by omega)) | exact Wp.sz_lt (by omega) | exact Wp.sz_le (by omega) | exact Pl.putD_lt0 (by decide) | exact Pl.putD_lt0 (Pl.putD_ltn (by decide)) | exact Pl.putD_lt0 (Pl.putD_ltn (Pl.putD_ltn (by decide))) | exact Pl.putD_lt0 (Pl.putD_ltn (Pl.putD_ltn (Pl.putD_ltn (by decide)))) | exact Pl.putD_lt0 (Pl.putD_ltn (Pl.putD_ltn (Pl.putD_ltn (Pl.putD_ltn (by decide))))) | exact Pl.putD_lt0 (Pl.putD_ltn (Pl.putD_ltn (Pl.putD_ltn (Pl.putD_ltn (Pl.putD_ltn (by decide)))))) | exact Pl.putD_lt0 (Pl.putD_ltn (Pl.putD_ltn (Pl.putD_ltn (Pl.putD_ltn (Pl.putD_ltn (Pl.putD_ltn (by decide))))))) | exact Pl.putD_lt0 (Pl.putD_ltn (Pl.putD_ltn (Pl.putD_ltn (Pl.putD_ltn (Pl.putD_ltn (Pl.putD_ltn (Pl.putD_ltn (by decide)))))))) | exact Pl.putD_lt0 (Pl.putD_ltn (Pl.putD_ltn (Pl.putD_ltn (Pl.putD_ltn (Pl.putD_ltn (Pl.putD_ltn (Pl.putD_ltn (Pl.putD_ltn (by decide))))))))) | exact Pl.putD_lt0 (Pl.putD_ltn (Pl.putD_ltn (Pl.putD_ltn (Pl.putD_ltn (Pl.putD_ltn (Pl.putD_ltn (Pl.putD_ltn (Pl.putD_ltn (Pl.putD_ltn (by decide)))))))))) | exact Pl.putD_lt0 (Pl.putD_ltn (Pl.putD_ltn (Pl.putD_ltn (Pl.putD_ltn (Pl.putD_ltn (Pl.putD_ltn (Pl.putD_ltn (Pl.putD_ltn (Pl.putD_ltn (Pl.putD_ltn (by decide))))))))))) | exact Pl.putD_lt0 (Pl.putD_ltn (Pl.putD_ltn (Pl.putD_ltn (Pl.putD_ltn (Pl.putD_ltn (Pl.putD_ltn (Pl.putD_ltn (Pl.putD_ltn (Pl.putD_ltn (Pl.putD_ltn (Pl.putD_ltn (by decide)))))))))))) | exact Pl.putD_lt0 (Pl.putD_ltn (Pl.putD_ltn (Pl.putD_ltn (Pl.putD_ltn (Pl.putD_ltn (Pl.putD_ltn (Pl.putD_ltn (Pl.putD_ltn (Pl.putD_ltn (Pl.putD_ltn (Pl.putD_ltn (Pl.putD_ltn (by decide))))))))))))) | exact Pl.putD_lt0 (Pl.putD_ltn (Pl.putD_ltn (Pl.putD_ltn (Pl.putD_ltn (Pl.putD_ltn (Pl.putD_ltn (Pl.putD_ltn (Pl.putD_ltn (Pl.putD_ltn (Pl.putD_ltn (Pl.putD_ltn (Pl.putD_ltn (Pl.putD_ltn (by decide)))))))))))))) | exact Pl.putD_lt0 (Pl.putD_ltn (Pl.putD_ltn (Pl.putD_ltn (Pl.putD_ltn (Pl.putD_ltn (Pl.putD_ltn (Pl.putD_ltn (Pl.putD_ltn (Pl.putD_ltn (Pl.putD_ltn (Pl.putD_ltn (Pl.putD_ltn (Pl.putD_ltn (Pl.putD_ltn (by decide))))))))))))))) | exact Pl.putD_lt0 (Pl.putD_ltn (Pl.putD_ltn (Pl.putD_ltn (Pl.putD_ltn (Pl.putD_ltn (Pl.putD_ltn (Pl.putD_ltn (Pl.putD_ltn (Pl.putD_ltn (Pl.putD_ltn (Pl.putD_ltn (Pl.putD_ltn (Pl.putD_ltn (Pl.putD_ltn (Pl.putD_ltn (by decide)))))))))))))))) | exact Pl.putD_lt0 (Pl.putD_ltn (Pl.putD_ltn (Pl.putD_ltn (Pl.putD_ltn (Pl.putD_ltn (Pl.putD_ltn (Pl.putD_ltn (Pl.putD_ltn (Pl.putD_ltn (Pl.putD_ltn (Pl.putD_ltn (Pl.putD_ltn (Pl.putD_ltn (Pl.putD_ltn (Pl.putD_ltn (Pl.putD_ltn (by decide))))))))))))))))) | exact Pl.putD_lt0 (Pl.putD_ltn (Pl.putD_ltn (Pl.putD_ltn (Pl.putD_ltn (Pl.putD_ltn (Pl.putD_ltn (Pl.putD_ltn (Pl.putD_ltn (Pl.putD_ltn (Pl.putD_ltn (Pl.putD_ltn (Pl.putD_ltn (Pl.putD_ltn (Pl.putD_ltn (Pl.putD_ltn (Pl.putD_ltn (Pl.putD_ltn (by decide)))))))))))))))))) | exact Pl.putD_lt0 (Pl.putD_ltn (Pl.putD_ltn (Pl.putD_ltn (Pl.putD_ltn (Pl.putD_ltn (Pl.putD_ltn (Pl.putD_ltn (Pl.putD_ltn (Pl.putD_ltn (Pl.putD_ltn (Pl.putD_ltn (Pl.putD_ltn (Pl.putD_ltn (Pl.putD_ltn (Pl.putD_ltn (Pl.putD_ltn (Pl.putD_ltn (Pl.putD_ltn (by decide))))))))))))))))))) | exact Pl.putD_lt0 (Pl.putD_ltn (Pl.putD_ltn (Pl.putD_ltn (Pl.putD_ltn (Pl.putD_ltn (Pl.putD_ltn (Pl.putD_ltn (Pl.putD_ltn (Pl.putD_ltn (Pl.putD_ltn (Pl.putD_ltn (Pl.putD_ltn (Pl.putD_ltn (Pl.putD_ltn (Pl.putD_ltn (Pl.putD_ltn (Pl.putD_ltn (Pl.putD_ltn (Pl.putD_ltn (by decide)))))))))))))))))))) | exact Pl.putD_lt0 (Pl.putD_ltn (Pl.putD_ltn (Pl.putD_ltn (Pl.putD_ltn (Pl.putD_ltn (Pl.putD_ltn (Pl.putD_ltn (Pl.putD_ltn (Pl.putD_ltn (Pl.putD_ltn (Pl.putD_ltn (Pl.putD_ltn (Pl.putD_ltn (Pl.putD_ltn (Pl.putD_ltn (Pl.putD_ltn (Pl.putD_ltn (Pl.putD_ltn (Pl.putD_ltn (Pl.putD_ltn (by decide))))))))))))))))))))) | exact Pl.putD_lt0 (Pl.putD_ltn (Pl.putD_ltn (Pl.putD_ltn (Pl.putD_ltn (Pl.putD_ltn (Pl.putD_ltn (Pl.putD_ltn (Pl.putD_ltn (Pl.putD_ltn (Pl.putD_ltn (Pl.putD_ltn (Pl.putD_ltn (Pl.putD_ltn (Pl.putD_ltn (Pl.putD_ltn (Pl.putD_ltn (Pl.putD_ltn (Pl.putD_ltn (Pl.putD_ltn (Pl.putD_ltn (Pl.putD_ltn (by decide)))))))))))))))))))))) | exact Pl.putD_lt0 (Pl.putD_ltn (Pl.putD_ltn (Pl.putD_ltn (Pl.putD_ltn (Pl.putD_ltn (Pl.putD_ltn (Pl.putD_ltn (Pl.putD_ltn (Pl.putD_ltn (Pl.putD_ltn (Pl.putD_ltn (Pl.putD_ltn (Pl.putD_ltn (Pl.putD_ltn (Pl.putD_ltn (Pl.putD_ltn (Pl.putD_ltn (Pl.putD_ltn (Pl.putD_ltn (Pl.putD_ltn (Pl.putD_ltn (Pl.putD_ltn (by decide))))))))))))))))))))))) | exact Pl.putD_lt0 (Pl.putD_ltn (Pl.putD_ltn (Pl.putD_ltn (Pl.putD_ltn (Pl.putD_ltn (Pl.putD_ltn (Pl.putD_ltn (Pl.putD_ltn (Pl.putD_ltn (Pl.putD_ltn (Pl.putD_ltn (Pl.putD_ltn (Pl.putD_ltn (Pl.putD_ltn (Pl.putD_ltn (Pl.putD_ltn (Pl.putD_ltn (Pl.putD_ltn (Pl.putD_ltn (Pl.putD_ltn (Pl.putD_ltn (Pl.putD_ltn (Pl.putD_ltn (by decide)))))))))))))))))))))))))
local macro_rules | `(tactic| walk_at "pg") => `(tactic| repeat (first | walk_at "pw" | refine And.intro (by walk_at "ps") ?_))
namespace K27
open PySem L2 Wp Pl
def top (i : Nat) : Stmt := PySem.Challenge.pw_galleywork_k27_least_numbers.main.body.getD i (.Pass ⟨0, 0, 0, 0⟩)
abbrev s_reached : Stmt := top 8
theorem sc_reached : FnScope ["task"] ["task"] (defScope s_reached) := ⟨rfl, rfl, rfl, by decide +kernel, rfl, by decide +kernel, by decide +kernel⟩
abbrev s_togo : Stmt := top 9
theorem sc_togo : FnScope ["task", "numbers", "state"] ["task"] (defScope s_togo) := ⟨rfl, rfl, rfl, by decide +kernel, rfl, by decide +kernel, by decide +kernel⟩
abbrev s_least_step : Stmt := top 10
theorem sc_least_step : FnScope ["steps", "numbers", "least", "best", "cost", "after", "number"] ["steps", "numbers"] (defScope s_least_step) := ⟨rfl, rfl, rfl, by decide +kernel, rfl, by decide +kernel, by decide +kernel⟩
abbrev s_by_rank : Stmt := top 11
theorem sc_by_rank : FnScope ["task", "first", "queue", "seen", "found", "_", "state", "after"] ["task"] (defScope s_by_rank) := ⟨rfl, rfl, rfl, by decide +kernel, rfl, by decide +kernel, by decide +kernel⟩
abbrev s_law_pool : Stmt := top 13
theorem sc_law_pool : FnScope ["script"] ["script"] (defScope s_law_pool) := ⟨rfl, rfl, rfl, by decide +kernel, rfl, by decide +kernel, by decide +kernel⟩
abbrev s_law_draw : Stmt := top 14
theorem sc_law_draw : FnScope ["pool", "many", "cell", "got", "one"] ["pool", "many"] (defScope s_law_draw) := ⟨rfl, rfl, rfl, by decide +kernel, rfl, by decide +kernel, by decide +kernel⟩
abbrev s_law_rare : Stmt := top 15
theorem sc_law_rare : FnScope ["pool", "many"] ["pool", "many"] (defScope s_law_rare) := ⟨rfl, rfl, rfl, by decide +kernel, rfl, by decide +kernel, by decide +kernel⟩
abbrev s_law_few : Stmt := top 16
theorem sc_law_few : FnScope ["pool", "usual", "most"] ["pool", "usual", "most"] (defScope s_law_few) := ⟨rfl, rfl, rfl, by decide +kernel, rfl, by decide +kernel, by decide +kernel⟩
abbrev s_law_same : Stmt := top 17
theorem sc_law_same : FnScope ["got", "due", "k"] ["got", "due"] (defScope s_law_same) := ⟨rfl, rfl, rfl, by decide +kernel, rfl, by decide +kernel, by decide +kernel⟩
abbrev s_law_int : Stmt := top 18
theorem sc_law_int : FnScope ["got"] ["got"] (defScope s_law_int) := ⟨rfl, rfl, rfl, by decide +kernel, rfl, by decide +kernel, by decide +kernel⟩
abbrev s_law_price : Stmt := top 19
theorem sc_law_price : FnScope ["pool", "scale", "great"] ["pool", "scale"] (defScope s_law_price) := ⟨rfl, rfl, rfl, by decide +kernel, rfl, by decide +kernel, by decide +kernel⟩
abbrev s_law_rows : Stmt := top 20
theorem sc_law_rows : FnScope ["pool", "scale", "far", "count", "rows", "k", "row", "n", "cost"] ["pool"] (defScope s_law_rows) := ⟨rfl, rfl, rfl, by decide +kernel, rfl, by decide +kernel, by decide +kernel⟩
abbrev s_law_chain : Stmt := top 21
theorem sc_law_chain : FnScope ["pool", "count", "turn", "far", "dear", "rows", "k"] ["pool"] (defScope s_law_chain) := ⟨rfl, rfl, rfl, by decide +kernel, rfl, by decide +kernel, by decide +kernel⟩
abbrev s_law_row_table : Stmt := top 22
theorem sc_law_row_table : FnScope ["rows", "table", "k", "step"] ["rows"] (defScope s_law_row_table) := ⟨rfl, rfl, rfl, by decide +kernel, rfl, by decide +kernel, by decide +kernel⟩
abbrev s_law_tails : Stmt := top 23
theorem sc_law_tails : FnScope ["table", "end", "most", "least", "todo", "k", "states", "sums", "n", "rest", "step"] ["table", "end", "most"] (defScope s_law_tails) := ⟨rfl, rfl, rfl, by decide +kernel, rfl, by decide +kernel, by decide +kernel⟩
abbrev s_law_togo : Stmt := top 24
theorem sc_law_togo : FnScope ["table", "end", "numbers", "state", "best", "step", "after"] ["table", "end"] (defScope s_law_togo) := ⟨rfl, rfl, rfl, by decide +kernel, rfl, by decide +kernel, by decide +kernel⟩
abbrev s_law_numbers : Stmt := top 25
theorem sc_law_numbers : FnScope ["rows", "chain", "table", "end", "least", "numbers", "state"] ["rows", "chain"] (defScope s_law_numbers) := ⟨rfl, rfl, rfl, by decide +kernel, rfl, by decide +kernel, by decide +kernel⟩
abbrev s_law_as_told : Stmt := top 26
theorem sc_law_as_told : FnScope ["task", "rows", "apart", "k"] ["task", "rows", "apart"] (defScope s_law_as_told) := ⟨rfl, rfl, rfl, by decide +kernel, rfl, by decide +kernel, by decide +kernel⟩
abbrev s_law_same_dict : Stmt := top 27
theorem sc_law_same_dict : FnScope ["told", "numbers", "state"] ["told", "numbers"] (defScope s_law_same_dict) := ⟨rfl, rfl, rfl, by decide +kernel, rfl, by decide +kernel, by decide +kernel⟩
abbrev s_law : Stmt := top 28
theorem sc_law : FnScope ["script", "pool", "chain", "apart", "rows", "numbers", "shape", "handed", "row", "task", "turn", "listed", "found", "steps"] ["script"] (defScope s_law) := ⟨rfl, rfl, rfl, by decide +kernel, rfl, by decide +kernel, by decide +kernel⟩
abbrev s_BadTask_init : Stmt := inClass (top 4) 0
theorem sc_BadTask_init : FnScope ["self", "state"] ["self", "state"] (defScope s_BadTask_init) := ⟨rfl, rfl, rfl, by decide +kernel, rfl, by decide +kernel, by decide +kernel⟩
abbrev s_TableTask_init : Stmt := inClass (top 7) 0
theorem sc_TableTask_init : FnScope ["self", "rows", "copied", "cost", "after", "row", "k"] ["self", "rows"] (defScope s_TableTask_init) := ⟨rfl, rfl, rfl, by decide +kernel, rfl, by decide +kernel, by decide +kernel⟩
abbrev s_TableTask_first : Stmt := inClass (top 7) 1
theorem sc_TableTask_first : FnScope ["self"] ["self"] (defScope s_TableTask_first) := ⟨rfl, rfl, rfl, by decide +kernel, rfl, by decide +kernel, by decide +kernel⟩
abbrev s_TableTask_is_end : Stmt := inClass (top 7) 2
theorem sc_TableTask_is_end : FnScope ["self", "state"] ["self", "state"] (defScope s_TableTask_is_end) := ⟨rfl, rfl, rfl, by decide +kernel, rfl, by decide +kernel, by decide +kernel⟩
abbrev s_TableTask_steps : Stmt := inClass (top 7) 3
theorem sc_TableTask_steps : FnScope ["self", "state"] ["self", "state"] (defScope s_TableTask_steps) := ⟨rfl, rfl, rfl, by decide +kernel, rfl, by decide +kernel, by decide +kernel⟩
abbrev s_TableTask_rank : Stmt := inClass (top 7) 4
theorem sc_TableTask_rank : FnScope ["self", "state"] ["self", "state"] (defScope s_TableTask_rank) := ⟨rfl, rfl, rfl, by decide +kernel, rfl, by decide +kernel, by decide +kernel⟩
structure Txt (K : PySem.W.Frag) (mg : Str → Option Value) (C_TableTask : Addr) (C_Task : Addr) : Prop where
  n_abs : mg "abs" = none
  n_bool : mg "bool" = none
  n_dict : mg "dict" = none
  n_enumerate : mg "enumerate" = none
  n_int : mg "int" = none
  n_isinstance : mg "isinstance" = none
  n_len : mg "len" = none
  n_list : mg "list" = none
  n_min : mg "min" = none
  n_range : mg "range" = none
  n_reversed : mg "reversed" = none
  n_sorted : mg "sorted" = none
  n_str : mg "str" = none
  n_tuple : mg "tuple" = none
  b_heappop : mg "heappop" = some (.builtin "_heapq.heappop")
  b_heappush : mg "heappush" = some (.builtin "_heapq.heappush")
  g_TableTask : mg "TableTask" = some (.ref C_TableTask)
  cl_TableTask : Cls K C_TableTask
  nf_TableTask__rows : NoAttr K C_TableTask "_rows"
  g_Task : mg "Task" = some (.ref C_Task)
  cl_Task : Cls K C_Task
  is_TableTask_Task : Pl.IsCls K C_TableTask C_Task true
section
variable {P : Program} {w : World} {K : PySem.W.Frag} {mg : Str → Option Value} {base : Heap}
theorem ok_law_pool {f : Addr} {fd : FuncData} {C_TableTask : Addr} {C_Task : Addr} (F : Fun K "_law_pool" "_law_pool" s_law_pool f fd) (T : Txt K mg C_TableTask C_Task) : FnOk P w K mg base CX0 1 f fd ["script"] (spPoolL K) := by
  refine F.ok sc_law_pool (fun vs H Q E h => ?_) (fun cdv A outer s H vs Q E hr h => ?_)
  · obtain ⟨a1, ns, rfl, _⟩ := h
    rfl
  · obtain ⟨a1, ns, rfl, h⟩ := h
    refine ⟨_, (pss_one (ps_ret (pe_lst (pa_cons (pe_callTy (c_listK (K := K) rfl) (by rfl) T.n_list (by decide +kernel) (pa_cons (pv 0) pa_nil)) (pa_cons pe_int (pa_cons pe_int (pa_cons pe_int (pa_cons pe_int pa_nil)))))))), ?_⟩
    rw [show L2.start ["script"] [.ref a1] = [some (.ref a1)] from rfl]
    obtain ⟨hs, k⟩ := h
    walk_at "go"
    refine Wp.lists hs fun l hl => ?_
    walk_at "go"
    intro p hp
    have hne : l ≠ p := fun z => by subst z; rw [upd_same] at hp; cases hp
    have hp0 : H p = none := by rw [upd_ne hne.symm] at hp; exact hp
    exact k p l _ hp0 hl (fun b o e => u_ne (ne_of_none e hp0) (u_ne (ne_of_none e hl) e)) ⟨ns, _, _, _, _, upd_same, u_ne hne upd_same, by decide⟩
theorem ok_law_draw {f : Addr} {fd : FuncData} {C_TableTask : Addr} {C_Task : Addr} (F : Fun K "_law_draw" "_law_draw" s_law_draw f fd) (T : Txt K mg C_TableTask C_Task) : FnOk P w K mg base CX0 1 f fd ["pool", "many"] (spDrawL) := by
  refine F.ok sc_law_draw (fun vs H Q E h => ?_) (fun cdv A outer s H vs Q E hr h => ?_)
  · obtain ⟨p1, m1, rfl, _⟩ := h
    rfl
  · obtain ⟨p1, m1, rfl, h⟩ := h
    refine ⟨_, (pss_cons (ps_asg (pe_op op_addL (pe_ix (ixA (K := K) rfl) (pv 0) pe_int (fun _ _ => rfl)) pe_int) (pg_sub (pv 0) pe_int set_list))
  (pss_cons (ps_if (PW.pt (pw_and (pt_cmpR op_eq (pe_ix (ixA (K := K) rfl) (pv 0) pe_int (fun _ _ => rfl)) pe_int (nomark _)) (pw_and1 (pt_cmpR op_lt (pe_ix (ixA (K := K) rfl) (pv 0) pe_int (fun _ _ => rfl)) (pe_callB (c_lenK (K := K) rfl) (by rfl) T.n_len (by decide +kernel) (pa_cons (pe_ix (ixA (K := K) rfl) (pv 0) pe_int (fun _ _ => rfl)) pa_nil)) (nomark _)))))
  (pss_cons (ps_set (i := 2) sc_law_draw.nd rfl (by first | exact Or.inl rfl | exact Or.inr rfl) (pe_ix (ixA (K := K) rfl) (pe_ix (ixA (K := K) rfl) (pv 0) pe_int (fun _ _ => rfl)) (pe_ix (ixA (K := K) rfl) (pv 0) pe_int (fun _ _ => rfl)) (fun _ _ => rfl)))
  (pss_cons (ps_asg (pe_op op_addL (pe_ix (ixA (K := K) rfl) (pv 0) pe_int (fun _ _ => rfl)) pe_int) (pg_sub (pv 0) pe_int set_list))
  (pss_one (ps_if (pt_cmpR op_ge (pe_callB c_abs (by rfl) T.n_abs (by decide +kernel) (pa_cons (pv 2) pa_nil)) (pe_op op_pow pe_int pe_int) (nomark _))
  (pss_one (ps_asg (pe_callB c_abs (by rfl) T.n_abs (by decide +kernel) (pa_cons (pv 2) pa_nil)) (pg_sub (pv 0) pe_int set_list)))
  (pss_one (ps_asg (pe_op op_mod (pe_callTy c_int (by rfl) T.n_int (by decide +kernel) (pa_cons (pe_op op_addL (pe_op op_addL (pe_op op_mul (pe_ix (ixA (K := K) rfl) (pv 0) pe_int (fun _ _ => rfl)) pe_int) (pe_op op_mul (pv 2) pe_int)) pe_int) pa_nil)) pe_int) (pg_sub (pv 0) pe_int set_list)))))))
  pss_nil)
  (pss_cons (ps_if (pt_cmpR op_gt (pe_ix (ixA (K := K) rfl) (pv 0) pe_int (fun _ _ => rfl)) pe_int (nomark _))
  (pss_cons (ps_set (i := 3) sc_law_draw.nd rfl (by first | exact Or.inl rfl | exact Or.inr rfl) (pe_op op_mod (pe_callTy c_int (by rfl) T.n_int (by decide +kernel) (pa_cons (pe_ix (ixA (K := K) rfl) (pv 0) pe_int (fun _ _ => rfl)) pa_nil)) (pv 1)))
  (pss_cons (ps_asg (pe_op op_fdivW (pe_ix (ixA (K := K) rfl) (pv 0) pe_int (fun _ _ => rfl)) (pv 1)) (pg_sub (pv 0) pe_int set_list))
  (pss_one (ps_ret (pv 3)))))
  pss_nil)
  (pss_cons (ps_set (i := 4) sc_law_draw.nd rfl (by first | exact Or.inl rfl | exact Or.inr rfl) (pe_op op_mod (pe_callTy c_int (by rfl) T.n_int (by decide +kernel) (pa_cons (pe_op op_addL (pe_ix (ixA (K := K) rfl) (pv 0) pe_int (fun _ _ => rfl)) (pe_op op_mul (pe_ix (ixA (K := K) rfl) (pv 0) pe_int (fun _ _ => rfl)) pe_int)) pa_nil)) pe_int))
  (pss_cons (ps_set (i := 4) sc_law_draw.nd rfl (by first | exact Or.inl rfl | exact Or.inr rfl) (pe_op op_mod (pe_callTy c_int (by rfl) T.n_int (by decide +kernel) (pa_cons (pe_op op_addL (pe_op op_addL (pe_op op_mulW (pv 4) (pv 4)) (pe_op op_mul (pe_ix (ixA (K := K) rfl) (pv 0) pe_int (fun _ _ => rfl)) pe_int)) pe_int) pa_nil)) pe_int))
  (pss_cons (ps_set (i := 4) sc_law_draw.nd rfl (by first | exact Or.inl rfl | exact Or.inr rfl) (pe_op op_mod (pe_callTy c_int (by rfl) T.n_int (by decide +kernel) (pa_cons (pe_op op_addL (pe_op op_addL (pe_op op_mulW (pv 4) (pv 4)) (pe_ix (ixA (K := K) rfl) (pv 0) pe_int (fun _ _ => rfl))) pe_int) pa_nil)) pe_int))
  (pss_one (ps_ret (pe_op op_mod (pe_callTy c_int (by rfl) T.n_int (by decide +kernel) (pa_cons (pe_op op_fdivW (pv 4) pe_int) pa_nil)) (pv 1)))))))))), ?_⟩
    rw [show L2.start ["pool", "many", "cell", "got", "one"] [.ref p1, .int m1] = [some (.ref p1), some (.int m1), none, none, none] from rfl]
    obtain ⟨l, ⟨ns, i, x, c, e, hC⟩, m0, mm, k⟩ := h
    have hne := hC.ne
    obtain ⟨h1, h2, i0⟩ := hC
    walk_at "go"
    refine ite2 (fun hx => ?_) (fun hx => ?_)
    · walk_at "go"
      refine ite2 (fun hi => ?_) (fun hi => ?_)
      · obtain ⟨n, hn⟩ := atI_map i0 hi
        walk_at "go"
        refine Wp.ixal (by walk_at "hp") hn ?_
        walk_at "go"
        refine ite2 (fun hb => ?_) (fun hb => ?_)
        · walk_at "go"
          refine ite2 (fun hp => ?_) (fun hp => ?_)
          · walk_at "go"
            refine ⟨wide_div m0 mm (by decide) (by decide), ?_⟩
            walk_at "go"
            exact k _ _ (Int.emod_nonneg _ (by omega)) (Int.emod_lt_of_pos _ m0) ⟨ns, _, _, _, _, upd_same, u_ne hne h2, (by omega)⟩ But.refl.upd
          · walk_at "go"
            exact k _ _ (Int.emod_nonneg _ (by omega)) (Int.emod_lt_of_pos _ m0) ⟨ns, _, _, _, _, upd_same, u_ne hne h2, (by omega)⟩ But.refl.upd
        · walk_at "go"
          refine ite2 (fun hp => ?_) (fun hp => ?_)
          · walk_at "go"
            refine ⟨wide_div m0 mm (by decide) (by decide), ?_⟩
            walk_at "go"
            exact k _ _ (Int.emod_nonneg _ (by omega)) (Int.emod_lt_of_pos _ m0) ⟨ns, _, _, _, _, upd_same, u_ne hne h2, (by omega)⟩ But.refl.upd
          · walk_at "go"
            exact k _ _ (Int.emod_nonneg _ (by omega)) (Int.emod_lt_of_pos _ m0) ⟨ns, _, _, _, _, upd_same, u_ne hne h2, (by omega)⟩ But.refl.upd
      · walk_at "go"
        refine ite2 (fun hp => ?_) (fun hp => ?_)
        · walk_at "go"
          refine ⟨wide_div m0 mm (by decide) (by decide), ?_⟩
          walk_at "go"
          exact k _ _ (Int.emod_nonneg _ (by omega)) (Int.emod_lt_of_pos _ m0) ⟨ns, _, _, _, _, upd_same, u_ne hne h2, i0⟩ But.refl.upd
        · walk_at "go"
          exact k _ _ (Int.emod_nonneg _ (by omega)) (Int.emod_lt_of_pos _ m0) ⟨ns, _, _, _, _, upd_same, u_ne hne h2, i0⟩ But.refl.upd
    · walk_at "go"
      refine ite2 (fun hp => ?_) (fun hp => ?_)
      · walk_at "go"
        refine ⟨wide_div m0 mm (by decide) (by decide), ?_⟩
        walk_at "go"
        exact k _ _ (Int.emod_nonneg _ (by omega)) (Int.emod_lt_of_pos _ m0) ⟨ns, _, _, _, _, upd_same, u_ne hne h2, i0⟩ But.refl.upd
      · walk_at "go"
        exact k _ _ (Int.emod_nonneg _ (by omega)) (Int.emod_lt_of_pos _ m0) ⟨ns, _, _, _, _, upd_same, u_ne hne h2, i0⟩ But.refl.upd
theorem ok_law_same0 {f : Addr} {fd : FuncData} {C_TableTask : Addr} {C_Task : Addr} (F : Fun K "_law_same" "_law_same" s_law_same f fd) (T : Txt K mg C_TableTask C_Task) (G_law_same : Def P w K mg base 0 "_law_same" ["got", "due"] (lift K (fun _ _ => False))) : FnOk P w K mg base CX0 (1) f fd ["got", "due"] (lift K (pSame (0))) := by
  refine F.ok sc_law_same (fun vs H Q E h => (lift_len (n := 2) (fun xs Q h => by obtain ⟨d, rfl, _⟩ := h; rfl) h)) (fun cdv A outer s H vs Q E hr h => ?_)
  refine ⟨_, (pss_cons (ps_if (pt_cmpR o_isN (pv 1) pe_non (nomark _))
  (pss_one (ps_ret (pe_cmpR o_isN (pv 0) pe_non (nomark _))))
  pss_nil)
  (pss_cons (ps_if (pt_cmpR op_isT (pv 1) pe_bl (nomark _))
  (pss_one (ps_ret (pe_cmpR op_isT (pv 0) pe_bl (nomark _))))
  pss_nil)
  (pss_cons (ps_if (pt_cmpR op_isT (pv 1) pe_bl (nomark _))
  (pss_one (ps_ret (pe_cmpR op_isT (pv 0) pe_bl (nomark _))))
  pss_nil)
  (pss_cons (ps_if (pt_val (pe_callB (call_isiK (K := K) rfl) (by rfl) T.n_isinstance (by decide +kernel) (pa_cons (pv 1) (pa_cons (pe_bltn (v := .ty "int") (by rfl) T.n_int (by decide +kernel) rfl) pa_nil))))
  (pss_one (ps_ret (pe_and (pe_callB (call_isiK (K := K) rfl) (by rfl) T.n_isinstance (by decide +kernel) (pa_cons (pv 0) (pa_cons (pe_bltn (v := .ty "int") (by rfl) T.n_int (by decide +kernel) rfl) pa_nil))) (pe_and (pe_not (pe_callB (call_isiK (K := K) rfl) (by rfl) T.n_isinstance (by decide +kernel) (pa_cons (pv 0) (pa_cons (pe_bltn (v := .ty "bool") (by rfl) T.n_bool (by decide +kernel) rfl) pa_nil)))) (pe_one (pe_cmpR (op_eqU (K := K) rfl hr.units) (pv 0) (pv 1) (nomark _)))))))
  pss_nil)
  (pss_cons (ps_if (pt_val (pe_callB (call_isiK (K := K) rfl) (by rfl) T.n_isinstance (by decide +kernel) (pa_cons (pv 1) (pa_cons (pe_bltn (v := .ty "str") (by rfl) T.n_str (by decide +kernel) rfl) pa_nil))))
  (pss_one (ps_ret (pe_and (pe_callB (call_isiK (K := K) rfl) (by rfl) T.n_isinstance (by decide +kernel) (pa_cons (pv 0) (pa_cons (pe_bltn (v := .ty "str") (by rfl) T.n_str (by decide +kernel) rfl) pa_nil))) (pe_one (pe_cmpR (op_eqU (K := K) rfl hr.units) (pv 0) (pv 1) (nomark _))))))
  pss_nil)
  (pss_cons (ps_if (pt_val (pe_callB (call_isiK (K := K) rfl) (by rfl) T.n_isinstance (by decide +kernel) (pa_cons (pv 1) (pa_cons (pe_bltn (v := .ty "tuple") (by rfl) T.n_tuple (by decide +kernel) rfl) pa_nil))))
  (pss_one (ps_if (PW.pt (pw_or (pt_not (pt_val (pe_callB (call_isiK (K := K) rfl) (by rfl) T.n_isinstance (by decide +kernel) (pa_cons (pv 0) (pa_cons (pe_bltn (v := .ty "tuple") (by rfl) T.n_tuple (by decide +kernel) rfl) pa_nil))))) (pw_or1 (pt_cmpR (op_neU (K := K) rfl hr.units) (pe_callB (c_lenU (K := K) rfl) (by rfl) T.n_len (by decide +kernel) (pa_cons (pv 0) pa_nil)) (pe_callB (c_lenU (K := K) rfl) (by rfl) T.n_len (by decide +kernel) (pa_cons (pv 1) pa_nil)) (nomark _)))))
  (pss_one (ps_ret pe_bl))
  pss_nil))
  (pss_one (ps_if (PW.pt (pw_or (pt_not (pt_val (pe_callB (call_isiK (K := K) rfl) (by rfl) T.n_isinstance (by decide +kernel) (pa_cons (pv 0) (pa_cons (pe_bltn (v := .ty "list") (by rfl) T.n_list (by decide +kernel) rfl) pa_nil))))) (pw_or1 (pt_cmpR (op_neU (K := K) rfl hr.units) (pe_callB (c_lenU (K := K) rfl) (by rfl) T.n_len (by decide +kernel) (pa_cons (pv 0) pa_nil)) (pe_callB (c_lenU (K := K) rfl) (by rfl) T.n_len (by decide +kernel) (pa_cons (pv 1) pa_nil)) (nomark _)))))
  (pss_one (ps_ret pe_bl))
  pss_nil)))
  (pss_cons (ps_for PassesOwn.never rfl (pi_range1 (by rfl) T.n_range (pa_cons (pe_callB (c_lenU (K := K) rfl) (by rfl) T.n_len (by decide +kernel) (pa_cons (pv 1) pa_nil)) pa_nil)) (pg_name (i := 2) sc_law_same.nd rfl (by first | exact Or.inl rfl | exact Or.inr rfl))
  (pss_one (ps_if (pt_not (pt_val (G_law_same.call (hr.mono (by omega)) (by rfl) (pa_cons (pe_ix (ixU (K := K) rfl) (pv 0) (pv 2) (fun _ _ => rfl)) (pa_cons (pe_ix (ixU (K := K) rfl) (pv 1) (pv 2) (fun _ _ => rfl)) pa_nil)))))
  (pss_one (ps_ret pe_bl))
  pss_nil)))
  (pss_one (ps_ret pe_bl))))))))), ?_⟩
  refine fn_run (N := ["got", "due", "k"]) h (s_seq (s_if (t_test (e_op r_isN (e_var 1) e_non))
  (s_ret (e_op r_isN (e_var 0) e_non))
  s_next)
  (s_seq (s_if (t_test (e_op r_isT (e_var 1) e_bl))
  (s_ret (e_op r_isT (e_var 0) e_bl))
  s_next)
  (s_seq (s_if (t_test (e_op r_isT (e_var 1) e_bl))
  (s_ret (e_op r_isT (e_var 0) e_bl))
  s_next)
  (s_seq (s_if (t_b (e_cb Pl.c_isi (a_cons (e_var 1) (a_cons e_ty a_nil))))
  (s_ret (e_and (e_cb Pl.c_isi (a_cons (e_var 0) (a_cons e_ty a_nil))) (e_and (e_not (e_cb Pl.c_isi (a_cons (e_var 0) (a_cons e_ty a_nil)))) (e_op r_eq (e_var 0) (e_var 1)))))
  s_next)
  (s_seq (s_if (t_b (e_cb Pl.c_isi (a_cons (e_var 1) (a_cons e_ty a_nil))))
  (s_ret (e_and (e_cb Pl.c_isi (a_cons (e_var 0) (a_cons e_ty a_nil))) (e_op r_eq (e_var 0) (e_var 1))))
  s_next)
  (s_seq (s_if (t_b (e_cb Pl.c_isi (a_cons (e_var 1) (a_cons e_ty a_nil))))
  (s_if (t_or (t_not (t_b (e_cb Pl.c_isi (a_cons (e_var 0) (a_cons e_ty a_nil))))) (t_test (e_op r_ne (e_cb Pl.c_len (a_cons (e_var 0) a_nil)) (e_cb Pl.c_len (a_cons (e_var 1) a_nil)))))
  (s_ret e_bl)
  s_next)
  (s_if (t_or (t_not (t_b (e_cb Pl.c_isi (a_cons (e_var 0) (a_cons e_ty a_nil))))) (t_test (e_op r_ne (e_cb Pl.c_len (a_cons (e_var 0) a_nil)) (e_cb Pl.c_len (a_cons (e_var 1) a_nil)))))
  (s_ret e_bl)
  s_next))
  (s_seq (s_for (i_range1 (a_cons (e_cb Pl.c_len (a_cons (e_var 1) a_nil)) a_nil)) g_name
  (s_if (t_not (t_b (e_call [true, true] (a_cons (e_op r_ix (e_var 0) (e_var 2)) (a_cons (e_op r_ix (e_var 1) (e_var 2)) a_nil)))))
  (s_ret e_bl)
  s_next))
  (s_ret e_bl)))))))) ?_
  clear h
  intro xs Q' h
  obtain ⟨d, rfl, hd, h⟩ := h
  cases d with
    | non => refine startIs (ρ := [.fz .non, .fz .non, .no]) rfl ?_; walk_at "pw"; exact h
    | bl b =>
      refine startIs (ρ := [.fz (.bl b), .fz (.bl b), .no]) rfl ?_
      cases b <;> (walk_at "pw"; exact h)
    | int i => refine startIs (ρ := [.fz (.int i), .fz (.int i), .no]) rfl ?_; walk_at "pw"; exact h
    | str s => refine startIs (ρ := [.fz (.str s), .fz (.str s), .no]) rfl ?_; walk_at "pw"; exact h
    | obj a => cases hd
    | ty a => cases hd
    | ins a b => cases hd
    | dk a => cases hd
    | dt a => cases hd
    | lst a => cases hd
    | tup a => cases hd
theorem ok_law_sameS {f : Addr} {fd : FuncData} {C_TableTask : Addr} {C_Task : Addr} {n : Nat} (F : Fun K "_law_same" "_law_same" s_law_same f fd) (T : Txt K mg C_TableTask C_Task) (G_law_same : Def P w K mg base (n + 1) "_law_same" ["got", "due"] (lift K (pSame n))) : FnOk P w K mg base CX0 (n + 2) f fd ["got", "due"] (lift K (pSame (n + 1))) := by
  refine F.ok sc_law_same (fun vs H Q E h => (lift_len (n := 2) (fun xs Q h => by obtain ⟨d, rfl, _⟩ := h; rfl) h)) (fun cdv A outer s H vs Q E hr h => ?_)
  refine ⟨_, (pss_cons (ps_if (pt_cmpR o_isN (pv 1) pe_non (nomark _))
  (pss_one (ps_ret (pe_cmpR o_isN (pv 0) pe_non (nomark _))))
  pss_nil)
  (pss_cons (ps_if (pt_cmpR op_isT (pv 1) pe_bl (nomark _))
  (pss_one (ps_ret (pe_cmpR op_isT (pv 0) pe_bl (nomark _))))
  pss_nil)
  (pss_cons (ps_if (pt_cmpR op_isT (pv 1) pe_bl (nomark _))
  (pss_one (ps_ret (pe_cmpR op_isT (pv 0) pe_bl (nomark _))))
  pss_nil)
  (pss_cons (ps_if (pt_val (pe_callB (call_isiK (K := K) rfl) (by rfl) T.n_isinstance (by decide +kernel) (pa_cons (pv 1) (pa_cons (pe_bltn (v := .ty "int") (by rfl) T.n_int (by decide +kernel) rfl) pa_nil))))
  (pss_one (ps_ret (pe_and (pe_callB (call_isiK (K := K) rfl) (by rfl) T.n_isinstance (by decide +kernel) (pa_cons (pv 0) (pa_cons (pe_bltn (v := .ty "int") (by rfl) T.n_int (by decide +kernel) rfl) pa_nil))) (pe_and (pe_not (pe_callB (call_isiK (K := K) rfl) (by rfl) T.n_isinstance (by decide +kernel) (pa_cons (pv 0) (pa_cons (pe_bltn (v := .ty "bool") (by rfl) T.n_bool (by decide +kernel) rfl) pa_nil)))) (pe_one (pe_cmpR (op_eqU (K := K) rfl hr.units) (pv 0) (pv 1) (nomark _)))))))
  pss_nil)
  (pss_cons (ps_if (pt_val (pe_callB (call_isiK (K := K) rfl) (by rfl) T.n_isinstance (by decide +kernel) (pa_cons (pv 1) (pa_cons (pe_bltn (v := .ty "str") (by rfl) T.n_str (by decide +kernel) rfl) pa_nil))))
  (pss_one (ps_ret (pe_and (pe_callB (call_isiK (K := K) rfl) (by rfl) T.n_isinstance (by decide +kernel) (pa_cons (pv 0) (pa_cons (pe_bltn (v := .ty "str") (by rfl) T.n_str (by decide +kernel) rfl) pa_nil))) (pe_one (pe_cmpR (op_eqU (K := K) rfl hr.units) (pv 0) (pv 1) (nomark _))))))
  pss_nil)
  (pss_cons (ps_if (pt_val (pe_callB (call_isiK (K := K) rfl) (by rfl) T.n_isinstance (by decide +kernel) (pa_cons (pv 1) (pa_cons (pe_bltn (v := .ty "tuple") (by rfl) T.n_tuple (by decide +kernel) rfl) pa_nil))))
  (pss_one (ps_if (PW.pt (pw_or (pt_not (pt_val (pe_callB (call_isiK (K := K) rfl) (by rfl) T.n_isinstance (by decide +kernel) (pa_cons (pv 0) (pa_cons (pe_bltn (v := .ty "tuple") (by rfl) T.n_tuple (by decide +kernel) rfl) pa_nil))))) (pw_or1 (pt_cmpR (op_neU (K := K) rfl hr.units) (pe_callB (c_lenU (K := K) rfl) (by rfl) T.n_len (by decide +kernel) (pa_cons (pv 0) pa_nil)) (pe_callB (c_lenU (K := K) rfl) (by rfl) T.n_len (by decide +kernel) (pa_cons (pv 1) pa_nil)) (nomark _)))))
  (pss_one (ps_ret pe_bl))
  pss_nil))
  (pss_one (ps_if (PW.pt (pw_or (pt_not (pt_val (pe_callB (call_isiK (K := K) rfl) (by rfl) T.n_isinstance (by decide +kernel) (pa_cons (pv 0) (pa_cons (pe_bltn (v := .ty "list") (by rfl) T.n_list (by decide +kernel) rfl) pa_nil))))) (pw_or1 (pt_cmpR (op_neU (K := K) rfl hr.units) (pe_callB (c_lenU (K := K) rfl) (by rfl) T.n_len (by decide +kernel) (pa_cons (pv 0) pa_nil)) (pe_callB (c_lenU (K := K) rfl) (by rfl) T.n_len (by decide +kernel) (pa_cons (pv 1) pa_nil)) (nomark _)))))
  (pss_one (ps_ret pe_bl))
  pss_nil)))
  (pss_cons (ps_for PassesOwn.never rfl (pi_range1 (by rfl) T.n_range (pa_cons (pe_callB (c_lenU (K := K) rfl) (by rfl) T.n_len (by decide +kernel) (pa_cons (pv 1) pa_nil)) pa_nil)) (pg_name (i := 2) sc_law_same.nd rfl (by first | exact Or.inl rfl | exact Or.inr rfl))
  (pss_one (ps_if (pt_not (pt_val (G_law_same.call (hr.mono (by omega)) (by rfl) (pa_cons (pe_ix (ixU (K := K) rfl) (pv 0) (pv 2) (fun _ _ => rfl)) (pa_cons (pe_ix (ixU (K := K) rfl) (pv 1) (pv 2) (fun _ _ => rfl)) pa_nil)))))
  (pss_one (ps_ret pe_bl))
  pss_nil)))
  (pss_one (ps_ret pe_bl))))))))), ?_⟩
  refine fn_run (N := ["got", "due", "k"]) h (s_seq (s_if (t_test (e_op r_isN (e_var 1) e_non))
  (s_ret (e_op r_isN (e_var 0) e_non))
  s_next)
  (s_seq (s_if (t_test (e_op r_isT (e_var 1) e_bl))
  (s_ret (e_op r_isT (e_var 0) e_bl))
  s_next)
  (s_seq (s_if (t_test (e_op r_isT (e_var 1) e_bl))
  (s_ret (e_op r_isT (e_var 0) e_bl))
  s_next)
  (s_seq (s_if (t_b (e_cb Pl.c_isi (a_cons (e_var 1) (a_cons e_ty a_nil))))
  (s_ret (e_and (e_cb Pl.c_isi (a_cons (e_var 0) (a_cons e_ty a_nil))) (e_and (e_not (e_cb Pl.c_isi (a_cons (e_var 0) (a_cons e_ty a_nil)))) (e_op r_eq (e_var 0) (e_var 1)))))
  s_next)
  (s_seq (s_if (t_b (e_cb Pl.c_isi (a_cons (e_var 1) (a_cons e_ty a_nil))))
  (s_ret (e_and (e_cb Pl.c_isi (a_cons (e_var 0) (a_cons e_ty a_nil))) (e_op r_eq (e_var 0) (e_var 1))))
  s_next)
  (s_seq (s_if (t_b (e_cb Pl.c_isi (a_cons (e_var 1) (a_cons e_ty a_nil))))
  (s_if (t_or (t_not (t_b (e_cb Pl.c_isi (a_cons (e_var 0) (a_cons e_ty a_nil))))) (t_test (e_op r_ne (e_cb Pl.c_len (a_cons (e_var 0) a_nil)) (e_cb Pl.c_len (a_cons (e_var 1) a_nil)))))
  (s_ret e_bl)
  s_next)
  (s_if (t_or (t_not (t_b (e_cb Pl.c_isi (a_cons (e_var 0) (a_cons e_ty a_nil))))) (t_test (e_op r_ne (e_cb Pl.c_len (a_cons (e_var 0) a_nil)) (e_cb Pl.c_len (a_cons (e_var 1) a_nil)))))
  (s_ret e_bl)
  s_next))
  (s_seq (s_for (i_range1 (a_cons (e_cb Pl.c_len (a_cons (e_var 1) a_nil)) a_nil)) g_name
  (s_if (t_not (t_b (e_call [true, true] (a_cons (e_op r_ix (e_var 0) (e_var 2)) (a_cons (e_op r_ix (e_var 1) (e_var 2)) a_nil)))))
  (s_ret e_bl)
  s_next))
  (s_ret e_bl)))))))) ?_
  clear h
  intro xs Q' h
  obtain ⟨d, rfl, hd, h⟩ := h
  cases d with
    | non => refine startIs (ρ := [.fz .non, .fz .non, .no]) rfl ?_; walk_at "pw"; exact h
    | bl b =>
      refine startIs (ρ := [.fz (.bl b), .fz (.bl b), .no]) rfl ?_
      cases b <;> (walk_at "pw"; exact h)
    | int i => refine startIs (ρ := [.fz (.int i), .fz (.int i), .no]) rfl ?_; walk_at "pw"; exact h
    | str s => refine startIs (ρ := [.fz (.str s), .fz (.str s), .no]) rfl ?_; walk_at "pw"; exact h
    | obj a => cases hd
    | ty a => cases hd
    | ins a b => cases hd
    | dk a => cases hd
    | dt a => cases hd
    | lst ds =>
      simp only [okD] at hd
      obtain ⟨hz, hd⟩ := hd
      refine startIs (ρ := [.bor (.lst ds), .bor (.lst ds), .no]) rfl ?_
      walk_at "pw"
      refine ⟨by omega, by omega, ?_⟩
      refine lpR (fun _ ρ => ∃ s, ρ = [.bor (.lst ds), .bor (.lst ds), s]) ⟨_, rfl⟩ ?_ ?_
      · rintro i ρ hi ⟨s, rfl⟩
        have hi : i < ds.length := by omega
        have e := List.getElem?_eq_getElem hi
        have m := List.mem_of_getElem? e
        generalize ds[i] = x at e m
        walk_at "pw"
        refine ⟨x, atI_nat e, x, atI_nat e, ?_⟩
        refine same_d (hd x m) ?_
        walk_at "pw"
      · rintro ρ ⟨s, rfl⟩
        walk_at "pw"
        exact h
    | tup ds =>
      simp only [okD] at hd
      obtain ⟨hz, hd⟩ := hd
      refine startIs (ρ := [.fz (.tup ds), .fz (.tup ds), .no]) rfl ?_
      walk_at "pw"
      refine ⟨by omega, by omega, ?_⟩
      refine lpR (fun _ ρ => ∃ s, ρ = [.fz (.tup ds), .fz (.tup ds), s]) ⟨_, rfl⟩ ?_ ?_
      · rintro i ρ hi ⟨s, rfl⟩
        have hi : i < ds.length := by omega
        have e := List.getElem?_eq_getElem hi
        have m := List.mem_of_getElem? e
        generalize ds[i] = x at e m
        walk_at "pw"
        refine ⟨x, atI_nat e, x, atI_nat e, ?_⟩
        refine same_d (hd x m) ?_
        walk_at "pw"
      · rintro ρ ⟨s, rfl⟩
        walk_at "pw"
        exact h
theorem ok_law_rare {f : Addr} {fd : FuncData} {C_TableTask : Addr} {C_Task : Addr} (F : Fun K "_law_rare" "_law_rare" s_law_rare f fd) (T : Txt K mg C_TableTask C_Task) (G_law_draw : Def P w K mg base 1 "_law_draw" ["pool", "many"] (lift K (pDraw))) : FnOk P w K mg base CX0 (2) f fd ["pool", "many"] (lift K (pRare)) := by
  refine F.ok sc_law_rare (fun vs H Q E h => (lift_len (n := 2) (fun xs Q h => by obtain ⟨m, rfl, _⟩ := h; rfl) h)) (fun cdv A outer s H vs Q E hr h => ?_)
  refine ⟨_, (pss_one (ps_ret (pe_cmpR (op_eqU (K := K) rfl hr.units) (G_law_draw.call (hr.mono (by omega)) (by rfl) (pa_cons (pv 0) (pa_cons (pv 1) pa_nil))) (pe_op op_sub (pv 1) pe_int) (nomark _)))), ?_⟩
  refine fn_run (N := ["pool", "many"]) h (s_ret (e_op r_eq (e_call [] (a_cons (e_var 0) (a_cons (e_var 1) a_nil))) (e_op r_sub (e_var 1) e_int))) ?_
  clear h
  intro xs Q' h
  obtain ⟨m, rfl, hq⟩ := h
  refine startIs (ρ := [.pool, .fz (.int m)]) rfl ?_
  obtain ⟨h0, h1, h⟩ := hq
  walk_at "pw"
  exact ⟨h0, by have : (2 : Int) ^ 60 < 2 ^ 199 := by decide
                omega, fun r r0 r9 => h _⟩
theorem ok_law_few {f : Addr} {fd : FuncData} {C_TableTask : Addr} {C_Task : Addr} (F : Fun K "_law_few" "_law_few" s_law_few f fd) (T : Txt K mg C_TableTask C_Task) (G_law_rare : Def P w K mg base 2 "_law_rare" ["pool", "many"] (lift K (pRare))) (G_law_draw : Def P w K mg base 1 "_law_draw" ["pool", "many"] (lift K (pDraw))) : FnOk P w K mg base CX0 (3) f fd ["pool", "usual", "most"] (lift K (pFew)) := by
  refine F.ok sc_law_few (fun vs H Q E h => (lift_len (n := 3) (fun xs Q h => by obtain ⟨u, m, rfl, _⟩ := h; rfl) h)) (fun cdv A outer s H vs Q E hr h => ?_)
  refine ⟨_, (pss_cons (ps_if (pt_val (G_law_rare.call (hr.mono (by omega)) (by rfl) (pa_cons (pv 0) (pa_cons pe_int pa_nil))))
  (pss_one (ps_ret (G_law_draw.call (hr.mono (by omega)) (by rfl) (pa_cons (pv 0) (pa_cons (pe_op (op_addU (K := K) rfl) (pv 2) pe_int) pa_nil)))))
  pss_nil)
  (pss_one (ps_ret (G_law_draw.call (hr.mono (by omega)) (by rfl) (pa_cons (pv 0) (pa_cons (pe_op (op_addU (K := K) rfl) (pv 1) pe_int) pa_nil)))))), ?_⟩
  refine fn_run (N := ["pool", "usual", "most"]) h (s_seq (s_if (t_b (e_call [] (a_cons (e_var 0) (a_cons e_int a_nil))))
  (s_ret (e_call [] (a_cons (e_var 0) (a_cons (e_op r_add (e_var 2) e_int) a_nil))))
  s_next)
  (s_ret (e_call [] (a_cons (e_var 0) (a_cons (e_op r_add (e_var 1) e_int) a_nil))))) ?_
  clear h
  intro xs Q' h
  obtain ⟨u, m, rfl, hq⟩ := h
  refine startIs (ρ := [.pool, .fz (.int u), .fz (.int m)]) rfl ?_
  obtain ⟨h0, h1, h2, h⟩ := hq
  have h9 : (2 : Int) ^ 60 + 1 < 2 ^ 199 := by decide
  walk_at "pw"
  refine fun b => pif (fun _ => ?_) (fun _ => ?_)
  · exact ⟨by omega, by omega, fun r r0 r9 => h r r0 (by omega)⟩
  · exact ⟨by omega, by omega, fun r r0 r9 => h r r0 (by omega)⟩
theorem ok_law_int {f : Addr} {fd : FuncData} {C_TableTask : Addr} {C_Task : Addr} (F : Fun K "_law_int" "_law_int" s_law_int f fd) (T : Txt K mg C_TableTask C_Task) : FnOk P w K mg base CX0 (1) f fd ["got"] (lift K (pIntB)) := by
  refine F.ok sc_law_int (fun vs H Q E h => (lift_len (n := 1) (fun xs Q h => by obtain ⟨i, rfl, _⟩ := h; rfl) h)) (fun cdv A outer s H vs Q E hr h => ?_)
  refine ⟨_, (pss_one (ps_ret (pe_and (pe_callB (call_isiK (K := K) rfl) (by rfl) T.n_isinstance (by decide +kernel) (pa_cons (pv 0) (pa_cons (pe_bltn (v := .ty "int") (by rfl) T.n_int (by decide +kernel) rfl) pa_nil))) (pe_one (pe_not (pe_callB (call_isiK (K := K) rfl) (by rfl) T.n_isinstance (by decide +kernel) (pa_cons (pv 0) (pa_cons (pe_bltn (v := .ty "bool") (by rfl) T.n_bool (by decide +kernel) rfl) pa_nil)))))))), ?_⟩
  refine fn_run (N := ["got"]) h (s_ret (e_and (e_cb Pl.c_isi (a_cons (e_var 0) (a_cons e_ty a_nil))) (e_not (e_cb Pl.c_isi (a_cons (e_var 0) (a_cons e_ty a_nil)))))) ?_
  clear h
  intro xs Q' h
  obtain ⟨i, rfl, hq⟩ := h
  refine startIs (ρ := [.fz (.int i)]) rfl ?_
  walk_at "pw"
  exact hq
end
end K27
namespace K27
open PySem L2 Wp Pl Wy

def rowsD (rs : Rows) : D := .lst (rs.map rowD)
def tk (C : Addr) (rs : Rows) : D := .ins C (putD "_rows" (rowsD rs) [])
theorem tk_look {v : D} : (putD "_rows" v []).lookup ("_rows" : Str) = some v := by rw [lookup_putD, if_pos rfl]
def rowTD (r : Row) : D := .tup (r.map stD)
def asL : D → D
  | .tup ds => .lst ds
  | d => d
theorem rowsX_facts {rs : Rows} {ds : List D} (h : ds = rs.map rowD ∨ ds = rs.map rowTD) : ds.length = rs.length ∧ (∀ d, d ∈ ds → ∃ r, r ∈ rs ∧ (d = .lst (r.map stD) ∨ d = .tup (r.map stD))) ∧ ds.map asL = rs.map rowD := by
  rcases h with rfl | rfl
  · refine ⟨List.length_map .., fun d m => ?_, ?_⟩
    · obtain ⟨r, mr, rfl⟩ := List.mem_map.mp m
      exact ⟨r, mr, .inl rfl⟩
    · rw [List.map_map]; rfl
  · refine ⟨List.length_map .., fun d m => ?_, ?_⟩
    · obtain ⟨r, mr, rfl⟩ := List.mem_map.mp m
      exact ⟨r, mr, .inr rfl⟩
    · rw [List.map_map]; rfl
def pTask (C : Addr) (xs : List X) (Q : X → Prop) : Prop := ∃ (rs : Rows) (x : D) (ds : List D), xs = [.f x] ∧ Ok rs ∧ (x = .lst ds ∨ x = .tup ds) ∧ (ds = rs.map rowD ∨ ds = rs.map rowTD) ∧ Q (.f (tk C rs))
def pFirst (C : Addr) (xs : List X) (Q : X → Prop) : Prop := ∃ rs : Rows, xs = [.f (tk C rs)] ∧ Q (.f (nD 0))
def pRank (C : Addr) (xs : List X) (Q : X → Prop) : Prop := ∃ (rs : Rows) (k : Nat), xs = [.f (tk C rs), .f (nD k)] ∧ Q (.f (nD k))
def pIsEnd (C : Addr) (xs : List X) (Q : X → Prop) : Prop := ∃ (rs : Rows) (k : Int), xs = [.f (tk C rs), .f (.int k)] ∧ Q (.f (.bl (decide (k = (rs.length : Int) - 1))))
def pSteps (C : Addr) (xs : List X) (Q : X → Prop) : Prop := ∃ (rs : Rows) (k : Nat), xs = [.f (tk C rs), .f (nD k)] ∧ k < rs.length ∧ Q (.o (.lst ((row rs k).map stD)))

theorem hsz : sizeLine = 16777216 := sizeLine_eq
theorem rowD_eq (r : Row) : rowD r = .lst (r.map stD) := rfl
theorem numbered_map {α : Type} (f : α → D) (l : List α) (i : Nat) : (numbered 0 (l.map f))[i]? = (l[i]?).map fun a => .tup [nD i, f a] := by
  rw [numbered_get, List.getElem?_map, Nat.zero_add, Option.map_map]
  rfl
theorem get_mapE {α : Type} {f : α → D} {l : List α} {i : Nat} {d : D} (h : (l.map f)[i]? = some d) : ∃ a, l[i]? = some a ∧ d = f a := by
  rw [List.getElem?_map] at h
  cases e : l[i]? with
  | none => rw [e] at h; cases h
  | some a => rw [e] at h; cases h; exact ⟨a, rfl, rfl⟩
theorem atRow {rs : Rows} {k : Nat} (h : k < rs.length) : atI (rs.map rowD) (k : Int) = some (rowD (row rs k)) := atI_nat (by rw [List.getElem?_map, row_at h]; rfl)
theorem mapId (l : List D) : l.map (fun d => d) = l := List.map_id' l
section
variable {P : Program} {w : World} {K : PySem.W.Frag} {mg : Str → Option Value} {base : Heap}
theorem ok_TableTask_init {f : Addr} {fd : FuncData} {C_TableTask : Addr} {C_Task : Addr} (F : Fun K "__init__" "TableTask.__init__" s_TableTask_init f fd) (T : Txt K mg C_TableTask C_Task) : FnOk P w K mg base CX0 (1) f fd ["self", "rows"] (liftI K C_TableTask (pTask C_TableTask)) := by
  refine F.ok sc_TableTask_init (fun vs H Q E h => (liftI_len (n := 1) (fun xs Q h => by obtain ⟨rs, x, ds, rfl, _⟩ := h; rfl) h)) (fun cdv A outer s H vs Q E hr h => ?_)
  refine ⟨_, (pss_cons (ps_setLc (i := 2) (own := [("row", 5)]) (g := (gName 5)) (tt := tYes) (by rfl) sc_TableTask_init.nd rfl rfl (sw_true rfl rfl rfl (by decide +kernel)) (pi_any (K := K) rfl (pv 1)) (blkOk_by (own := [("row", 5)]) (N := ["self", "rows", "copied", "cost", "after", "row", "k"]) (sc := defScope s_TableTask_init) (by decide +kernel)) (fun _ _ _ _ _ => (pg_name (i := 5) sc_TableTask_init.nd rfl (by first | exact Or.inl rfl | exact Or.inr rfl))) (fun _ _ _ _ _ => pts_nil) (fun _ _ _ _ _ => (pe_lc (own := [("cost", 3), ("after", 4)]) (g := (gTup K 2 (gCons (gName 3) (gCons (gName 4) gNil)))) (tt := tYes) (by rfl) sc_TableTask_init.nd (pi_any (K := K) rfl (pv 5)) (blkOk_by (own := [("cost", 3), ("after", 4)]) (N := ["self", "rows", "copied", "cost", "after", "row", "k"]) (sc := relS { kind := ScopeKind.function, names := [(".0", NameKind.local), ("row", NameKind.local)], isGenerator := false, isCoroutine := false } (defScope s_TableTask_init)) (by decide +kernel)) (fun _ _ _ _ _ => (pg_tupK (n := 2) (K := K) rfl (by rfl) (pgs_cons (pg_name (i := 3) sc_TableTask_init.nd rfl (by first | exact Or.inl rfl | exact Or.inr rfl)) (pgs_cons (pg_name (i := 4) sc_TableTask_init.nd rfl (by first | exact Or.inl rfl | exact Or.inr rfl)) pgs_nil)))) (fun _ _ _ _ _ => pts_nil) (fun _ _ _ _ _ => (pe_tup (pa_cons (pv 3) (pa_cons (pv 4) pa_nil)))))))
  (pss_cons (ps_if (pt_not (pt_tru (K := K) rfl (pv 2)))
  (pss_one ps_never)
  pss_nil)
  (pss_cons (ps_for PassesOwn.never rfl (pi_enumK (K := K) rfl (by rfl) T.n_enumerate (pa_cons (pv 2) pa_nil)) (pg_tupK (n := 2) (K := K) rfl (by rfl) (pgs_cons (pg_name (i := 6) sc_TableTask_init.nd rfl (by first | exact Or.inl rfl | exact Or.inr rfl)) (pgs_cons (pg_name (i := 5) sc_TableTask_init.nd rfl (by first | exact Or.inl rfl | exact Or.inr rfl)) pgs_nil)))
  (pss_one (ps_for PassesOwn.never rfl (pi_any (K := K) rfl (pv 5)) (pg_tupK (n := 2) (K := K) rfl (by rfl) (pgs_cons (pg_name (i := 3) sc_TableTask_init.nd rfl (by first | exact Or.inl rfl | exact Or.inr rfl)) (pgs_cons (pg_name (i := 4) sc_TableTask_init.nd rfl (by first | exact Or.inl rfl | exact Or.inr rfl)) pgs_nil)))
  (pss_one (ps_if (PW.pt (pw_or (pt_cmpR op_lt (pv 3) pe_int (nomark _)) (pw_or1 (pt_not (pt_chain op_lt op_lt (pv 6) (pv 4) (pe_callB (c_lenU (K := K) rfl) (by rfl) T.n_len (by decide +kernel) (pa_cons (pv 2) pa_nil)))))))
  (pss_one ps_never)
  pss_nil)))))
  (pss_one (ps_fldK (K := K) rfl (pv 0) (pv 2)))))), ?_⟩
  refine fn_init (N := ["self", "rows", "copied", "cost", "after", "row", "k"]) h (s_seq (s_asg (e_lc (i_any (e_var 1)) g_name t_yes (e_lc (i_any (e_var 5)) (g_tup (gs_cons g_name (gs_cons g_name gs_nil))) t_yes (e_tup (a_cons (e_var 3) (a_cons (e_var 4) a_nil))) (by decide)) (by decide)))
  (s_seq (s_if (t_not (t_tru (e_var 2)))
  s_nev
  s_next)
  (s_seq (s_fr 2 (s_for (i_enum (a_cons (e_var 2) a_nil)) (g_tup (gs_cons g_name (gs_cons g_name gs_nil)))
  (s_for (i_any (e_var 5)) (g_tup (gs_cons g_name (gs_cons g_name gs_nil)))
  (s_if (t_or (t_test (e_op r_lt (e_var 3) e_int)) (t_not (t_test (e_chain r_lt r_lt (e_var 6) (e_var 4) (e_cb Pl.c_len (a_cons (e_var 2) a_nil))))))
  s_nev
  s_next))))
  (s_fr 2 (s_sfld T.cl_TableTask T.nf_TableTask__rows (e_var 2)))))) ?_
  clear h
  intro xs Q' h
  obtain ⟨rs, x, ds, rfl, hq⟩ := h
  obtain ⟨ok, hx, hds, hq⟩ := hq
  have hz := hsz
  have n9 := ok.n9
  have n0 := ok.n0
  obtain ⟨hdl, hds', hasl⟩ := rowsX_facts hds
  rcases hx with rfl | rfl
  · refine startIs (ρ := .slf C_TableTask [] :: [.fz (.lst ds), .no, .no, .no, .no, .no]) rfl ?_
    walk_at "pw"
    refine compM asL (by rw [hdl]; omega) (fun d m N hN => ?_) ?_
    · obtain ⟨r, mr, hd⟩ := hds' d m
      have hw := ok.w r mr
      rcases hd with rfl | rfl
      all_goals walk_at "pw"
      all_goals refine compM (fun d => d) (by rw [List.length_map]; omega) (fun d m N hN => ?_) ?_
      any_goals (obtain ⟨s, ms, rfl⟩ := List.mem_map.mp m; unfold stD; walk_at "pw"; exact hN)
      all_goals (rw [mapId]; walk_at "pw"; exact hN)
    · rw [hasl]
      walk_at "pw"
      have e0 : (rs.map rowD).isEmpty = false := by cases rs with | nil => exact absurd n0 (by decide) | cons => rfl
      rw [e0]
      walk_at "pw"
      obtain ⟨V, hV⟩ : ∃ V : Nat → Pl.Env → Prop, ∀ i ρ, V i ρ ↔ ∃ (s3 s4 s5 s6 : Pl.Sl), ρ = [.slf C_TableTask [], .fz (.lst ds), .fz (.lst (rs.map rowD)), s3, s4, s5, s6] := ⟨_, fun _ _ => Iff.rfl⟩
      refine lpL V ((hV _ _).mpr ⟨_, _, _, _, rfl⟩) ?_ ?_
      · intro i d ρ hi hv
        rw [hV] at hv
        obtain ⟨s3, s4, s5, s6, rfl⟩ := hv
        rw [numbered_map] at hi
        obtain ⟨r, hr0, rfl⟩ := Option.map_eq_some_iff.mp hi
        have hil := (List.getElem?_eq_some_iff.mp hr0).1
        rw [rowD_eq]
        walk_at "pw"
        obtain ⟨W, hW⟩ : ∃ W : Nat → Pl.Env → Prop, ∀ j ρ, W j ρ ↔ ∃ (s3 s4 : Pl.Sl), ρ = [.slf C_TableTask [], .fz (.lst ds), .fz (.lst (rs.map rowD)), s3, s4, .fz (.lst (r.map stD)), .fz (nD i)] := ⟨_, fun _ _ => Iff.rfl⟩
        refine lpL W ((hW _ _).mpr ⟨_, _, rfl⟩) ?_ ?_
        · intro j d ρ hj hw
          rw [hW] at hw
          obtain ⟨s3, s4, rfl⟩ := hw
          obtain ⟨s, hs0, rfl⟩ := get_mapE hj
          have z := ok.st i r s hr0 (List.mem_of_getElem? hs0)
          unfold stD nD
          walk_at "pw"
          refine pifd_F (by omega) ?_
          refine pifd_T (by omega) ?_
          rw [List.length_map]
          refine pifd_T (by omega) ?_
          exact (hW _ _).mpr ⟨_, _, rfl⟩
        · intro ρ hw
          rw [hW] at hw
          obtain ⟨s3, s4, rfl⟩ := hw
          walk_at "pw"
          exact (hV _ _).mpr ⟨_, _, _, _, rfl⟩
      · intro ρ hv
        rw [hV] at hv
        obtain ⟨s3, s4, s5, s6, rfl⟩ := hv
        walk_at "pg"
        exact hq
  · refine startIs (ρ := .slf C_TableTask [] :: [.fz (.tup ds), .no, .no, .no, .no, .no]) rfl ?_
    walk_at "pw"
    refine compM asL (by rw [hdl]; omega) (fun d m N hN => ?_) ?_
    · obtain ⟨r, mr, hd⟩ := hds' d m
      have hw := ok.w r mr
      rcases hd with rfl | rfl
      all_goals walk_at "pw"
      all_goals refine compM (fun d => d) (by rw [List.length_map]; omega) (fun d m N hN => ?_) ?_
      any_goals (obtain ⟨s, ms, rfl⟩ := List.mem_map.mp m; unfold stD; walk_at "pw"; exact hN)
      all_goals (rw [mapId]; walk_at "pw"; exact hN)
    · rw [hasl]
      walk_at "pw"
      have e0 : (rs.map rowD).isEmpty = false := by cases rs with | nil => exact absurd n0 (by decide) | cons => rfl
      rw [e0]
      walk_at "pw"
      obtain ⟨V, hV⟩ : ∃ V : Nat → Pl.Env → Prop, ∀ i ρ, V i ρ ↔ ∃ (s3 s4 s5 s6 : Pl.Sl), ρ = [.slf C_TableTask [], .fz (.tup ds), .fz (.lst (rs.map rowD)), s3, s4, s5, s6] := ⟨_, fun _ _ => Iff.rfl⟩
      refine lpL V ((hV _ _).mpr ⟨_, _, _, _, rfl⟩) ?_ ?_
      · intro i d ρ hi hv
        rw [hV] at hv
        obtain ⟨s3, s4, s5, s6, rfl⟩ := hv
        rw [numbered_map] at hi
        obtain ⟨r, hr0, rfl⟩ := Option.map_eq_some_iff.mp hi
        have hil := (List.getElem?_eq_some_iff.mp hr0).1
        rw [rowD_eq]
        walk_at "pw"
        obtain ⟨W, hW⟩ : ∃ W : Nat → Pl.Env → Prop, ∀ j ρ, W j ρ ↔ ∃ (s3 s4 : Pl.Sl), ρ = [.slf C_TableTask [], .fz (.tup ds), .fz (.lst (rs.map rowD)), s3, s4, .fz (.lst (r.map stD)), .fz (nD i)] := ⟨_, fun _ _ => Iff.rfl⟩
        refine lpL W ((hW _ _).mpr ⟨_, _, rfl⟩) ?_ ?_
        · intro j d ρ hj hw
          rw [hW] at hw
          obtain ⟨s3, s4, rfl⟩ := hw
          obtain ⟨s, hs0, rfl⟩ := get_mapE hj
          have z := ok.st i r s hr0 (List.mem_of_getElem? hs0)
          unfold stD nD
          walk_at "pw"
          refine pifd_F (by omega) ?_
          refine pifd_T (by omega) ?_
          rw [List.length_map]
          refine pifd_T (by omega) ?_
          exact (hW _ _).mpr ⟨_, _, rfl⟩
        · intro ρ hw
          rw [hW] at hw
          obtain ⟨s3, s4, rfl⟩ := hw
          walk_at "pw"
          exact (hV _ _).mpr ⟨_, _, _, _, rfl⟩
      · intro ρ hv
        rw [hV] at hv
        obtain ⟨s3, s4, s5, s6, rfl⟩ := hv
        walk_at "pg"
        exact hq
theorem ok_TableTask_first {f : Addr} {fd : FuncData} {C_TableTask : Addr} {C_Task : Addr} (F : Fun K "first" "TableTask.first" s_TableTask_first f fd) (T : Txt K mg C_TableTask C_Task) : FnOk P w K mg base CX0 (1) f fd ["self"] (lift K (pFirst C_TableTask)) := by
  refine F.ok sc_TableTask_first (fun vs H Q E h => (lift_len (n := 1) (fun xs Q h => by obtain ⟨rs, rfl, _⟩ := h; rfl) h)) (fun cdv A outer s H vs Q E hr h => ?_)
  refine ⟨_, (pss_one (ps_ret pe_int)), ?_⟩
  refine fn_run (N := ["self"]) h (s_ret e_int) ?_
  clear h
  intro xs Q' h
  obtain ⟨rs, rfl, hq⟩ := h
  refine startIs (ρ := [.fz (tk C_TableTask rs)]) rfl ?_
  walk_at "pw"
  exact hq
theorem ok_TableTask_rank {f : Addr} {fd : FuncData} {C_TableTask : Addr} {C_Task : Addr} (F : Fun K "rank" "TableTask.rank" s_TableTask_rank f fd) (T : Txt K mg C_TableTask C_Task) : FnOk P w K mg base CX0 (1) f fd ["self", "state"] (lift K (pRank C_TableTask)) := by
  refine F.ok sc_TableTask_rank (fun vs H Q E h => (lift_len (n := 2) (fun xs Q h => by obtain ⟨rs, k, rfl, _⟩ := h; rfl) h)) (fun cdv A outer s H vs Q E hr h => ?_)
  refine ⟨_, (pss_one (ps_ret (pv 1))), ?_⟩
  refine fn_run (N := ["self", "state"]) h (s_retV 1) ?_
  clear h
  intro xs Q' h
  obtain ⟨rs, k, rfl, hq⟩ := h
  refine startIs (ρ := [.fz (tk C_TableTask rs), .fz (nD k)]) rfl ?_
  walk_at "pw"
  exact hq
theorem ok_TableTask_is_end {f : Addr} {fd : FuncData} {C_TableTask : Addr} {C_Task : Addr} (F : Fun K "is_end" "TableTask.is_end" s_TableTask_is_end f fd) (T : Txt K mg C_TableTask C_Task) : FnOk P w K mg base CX0 (1) f fd ["self", "state"] (lift K (pIsEnd C_TableTask)) := by
  refine F.ok sc_TableTask_is_end (fun vs H Q E h => (lift_len (n := 2) (fun xs Q h => by obtain ⟨rs, k, rfl, _⟩ := h; rfl) h)) (fun cdv A outer s H vs Q E hr h => ?_)
  refine ⟨_, (pss_one (ps_ret (pe_cmpR (op_eqU (K := K) rfl hr.units) (pv 1) (pe_op op_sub (pe_callB (c_lenU (K := K) rfl) (by rfl) T.n_len (by decide +kernel) (pa_cons (pe_fldK (K := K) rfl (pv 0)) pa_nil)) pe_int) (nomark _)))), ?_⟩
  refine fn_run (N := ["self", "state"]) h (s_ret (e_op r_eq (e_var 1) (e_op r_sub (e_cb Pl.c_len (a_cons (e_fld T.cl_TableTask T.nf_TableTask__rows (e_var 0)) a_nil)) e_int))) ?_
  clear h
  intro xs Q' h
  obtain ⟨rs, k, rfl, hq⟩ := h
  refine startIs (ρ := [.fz (tk C_TableTask rs), .fz (.int k)]) rfl ?_
  unfold tk rowsD
  walk_at "pw"
  refine ⟨_, tk_look, ?_⟩
  walk_at "pw"
  rw [List.length_map]
  exact hq
theorem ok_TableTask_steps {f : Addr} {fd : FuncData} {C_TableTask : Addr} {C_Task : Addr} (F : Fun K "steps" "TableTask.steps" s_TableTask_steps f fd) (T : Txt K mg C_TableTask C_Task) : FnOk P w K mg base CX0 (1) f fd ["self", "state"] (lift K (pSteps C_TableTask)) := by
  refine F.ok sc_TableTask_steps (fun vs H Q E h => (lift_len (n := 2) (fun xs Q h => by obtain ⟨rs, k, rfl, _⟩ := h; rfl) h)) (fun cdv A outer s H vs Q E hr h => ?_)
  refine ⟨_, (pss_one (ps_ret (pe_callTy (c_listK (K := K) rfl) (by rfl) T.n_list (by decide +kernel) (pa_cons (pe_ix (ixU (K := K) rfl) (pe_fldK (K := K) rfl (pv 0)) (pv 1) (fun _ _ => rfl)) pa_nil)))), ?_⟩
  refine fn_run (N := ["self", "state"]) h (s_ret (e_cb Pl.c_list (a_cons (e_op r_ix (e_fld T.cl_TableTask T.nf_TableTask__rows (e_var 0)) (e_var 1)) a_nil))) ?_
  clear h
  intro xs Q' h
  obtain ⟨rs, k, rfl, hq⟩ := h
  refine startIs (ρ := [.fz (tk C_TableTask rs), .fz (nD k)]) rfl ?_
  obtain ⟨hk, hq⟩ := hq
  unfold tk rowsD
  walk_at "pw"
  refine ⟨_, tk_look, ?_⟩
  unfold nD
  walk_at "pw"
  refine ⟨_, atRow hk, ?_⟩
  rw [rowD_eq]
  walk_at "pw"
  exact hq
end
end K27
namespace K27
open PySem L2 Wp Pl Wy

def lsD : Option (Int × Nat) → D
  | none => .tup [.non, .non]
  | some p => .tup [.int p.1, nD p.2]
def pLeast (xs : List X) (Q : X → Prop) : Prop := ∃ (r : Row) (gs : List (Key × D)) (num : Nat → Option Int), xs = [.f (rowD r), .b (.dk gs)] ∧ (∀ s, s ∈ r → atD gs (.inl (s.2 : Int)) = some (numD (num s.2))) ∧ Q (.f (lsD (lsR num r)))
def accS : Option (Int × Nat) → Sl × Sl
  | none => (.fz .non, .fz .non)
  | some p => (.fz (.int p.1), .fz (nD p.2))
theorem take_fold {num : Nat → Option Int} {r : Row} {j : Nat} {s : Wy.Step} (h : r[j]? = some s) : (r.take (j + 1)).foldl (ls num) none = ls num ((r.take j).foldl (ls num) none) s := by
  have hl := (List.getElem?_eq_some_iff.mp h)
  rw [List.take_succ, h, List.foldl_append]
  rfl
section
variable {P : Program} {w : World} {K : PySem.W.Frag} {mg : Str → Option Value} {base : Heap}
theorem ok_least_step {f : Addr} {fd : FuncData} {C_TableTask : Addr} {C_Task : Addr} (F : Fun K "least_step" "least_step" s_least_step f fd) (T : Txt K mg C_TableTask C_Task) : FnOk P w K mg base CX0 (1) f fd ["steps", "numbers"] (lift K (pLeast)) := by
  refine F.ok sc_least_step (fun vs H Q E h => (lift_len (n := 2) (fun xs Q h => by obtain ⟨r, gs, num, rfl, _⟩ := h; rfl) h)) (fun cdv A outer s H vs Q E hr h => ?_)
  refine ⟨_, (pss_cons (ps_set (i := 2) sc_least_step.nd rfl (by first | exact Or.inl rfl | exact Or.inr rfl) pe_non)
  (pss_cons (ps_set (i := 3) sc_least_step.nd rfl (by first | exact Or.inl rfl | exact Or.inr rfl) pe_non)
  (pss_cons (ps_for PassesOwn.never rfl (pi_any (K := K) rfl (pv 0)) (pg_tupK (n := 2) (K := K) rfl (by rfl) (pgs_cons (pg_name (i := 4) sc_least_step.nd rfl (by first | exact Or.inl rfl | exact Or.inr rfl)) (pgs_cons (pg_name (i := 5) sc_least_step.nd rfl (by first | exact Or.inl rfl | exact Or.inr rfl)) pgs_nil)))
  (pss_cons (ps_set (i := 6) sc_least_step.nd rfl (by first | exact Or.inl rfl | exact Or.inr rfl) (pe_dget (hu_of hr) (pv 1) (pv 5) (fun _ _ => rfl)))
  (pss_one (ps_if (PW.pt (pw_and (pt_cmpR o_notN (pv 6) pe_non (nomark _)) (pw_and1 (PW.pt (pw_or (pt_cmpR o_isN (pv 2) pe_non (nomark _)) (pw_or1 (pt_cmpR op_lt (pe_op (op_addU (K := K) rfl) (pv 4) (pv 6)) (pv 2) (nomark _))))))))
  (pss_cons (ps_set (i := 2) sc_least_step.nd rfl (by first | exact Or.inl rfl | exact Or.inr rfl) (pe_op (op_addU (K := K) rfl) (pv 4) (pv 6)))
  (pss_one (ps_set (i := 3) sc_least_step.nd rfl (by first | exact Or.inl rfl | exact Or.inr rfl) (pv 5))))
  pss_nil))))
  (pss_one (ps_ret (pe_tup (pa_cons (pv 2) (pa_cons (pv 3) pa_nil)))))))), ?_⟩
  refine fn_run (N := ["steps", "numbers", "least", "best", "cost", "after", "number"]) h (s_seq (s_asg e_non)
  (s_seq (s_asg e_non)
  (s_seq (s_for (i_any (e_var 0)) (g_tup (gs_cons g_name (gs_cons g_name gs_nil)))
  (s_seq (s_asg (e_dget (e_var 1) (e_var 5)))
  (s_if (t_and (t_test (e_op r_notN (e_var 6) e_non)) (t_or (t_test (e_op r_isN (e_var 2) e_non)) (t_test (e_op r_lt (e_op r_add (e_var 4) (e_var 6)) (e_var 2)))))
  (s_seq (s_asg (e_op r_add (e_var 4) (e_var 6)))
  (s_asg (e_var 5)))
  s_next)))
  (s_ret (e_tup (a_cons (e_var 2) (a_cons (e_var 3) a_nil))))))) ?_
  clear h
  intro xs Q' h
  obtain ⟨r, gs, num, rfl, hq⟩ := h
  refine startIs (ρ := [.fz (rowD r), .bor (.dk gs), .no, .no, .no, .no, .no]) rfl ?_
  obtain ⟨hg, hq⟩ := hq
  rw [rowD_eq]
  walk_at "pw"
  obtain ⟨V, hV⟩ : ∃ V : Nat → Pl.Env → Prop, ∀ j ρ, V j ρ ↔ ∃ (acc : Option (Int × Nat)) (s4 s5 s6 : Pl.Sl), acc = (r.take j).foldl (ls num) none ∧ ρ = [.fz (.lst (r.map stD)), .bor (.dk gs), (accS acc).1, (accS acc).2, s4, s5, s6] := ⟨_, fun _ _ => Iff.rfl⟩
  refine lpL V ((hV _ _).mpr ⟨none, _, _, _, rfl, rfl⟩) ?_ ?_
  · intro j d ρ hj hv
    rw [hV] at hv
    obtain ⟨acc, s4, s5, s6, ha, rfl⟩ := hv
    obtain ⟨s, hs0, rfl⟩ := get_mapE hj
    have hn := hg s (List.mem_of_getElem? hs0)
    have ht := take_fold (num := num) hs0
    rw [← ha] at ht
    unfold stD
    walk_at "pw"
    refine ⟨_, rfl, _, hn, ?_⟩
    cases e : num s.2 with
    | none =>
      unfold numD
      walk_at "pw"
      exact (hV _ _).mpr ⟨acc, _, _, _, by rw [ht]; unfold ls; rw [e], rfl⟩
    | some b =>
      unfold numD
      cases acc with
      | none =>
        unfold accS nD
        walk_at "pw"
        exact (hV _ _).mpr ⟨some (s.1 + b, s.2), _, _, _, by rw [ht]; unfold ls; rw [e], rfl⟩
      | some p =>
        unfold accS nD
        walk_at "pw"
        refine pifd (fun h => ?_) (fun h => ?_)
        · exact (hV _ _).mpr ⟨some (s.1 + b, s.2), _, _, _, by rw [ht]; unfold ls; rw [e]; dsimp only; rw [if_pos h], rfl⟩
        · exact (hV _ _).mpr ⟨some p, _, _, _, by rw [ht]; unfold ls; rw [e]; dsimp only; rw [if_neg h], rfl⟩
  · intro ρ hv
    rw [hV] at hv
    obtain ⟨acc, s4, s5, s6, ha, rfl⟩ := hv
    rw [List.length_map, List.take_length] at ha
    change acc = lsR num r at ha
    rw [← ha] at hq
    cases acc with
    | none => unfold accS; walk_at "pw"; exact hq
    | some p => unfold accS; walk_at "pw"; exact hq
end

theorem tk_no {rs : Rows} {m : Str} (h : m ≠ "_rows") : (putD "_rows" (rowsD rs) []).lookup m = none := by rw [lookup_putD, if_neg h]; rfl
def natsD (ks : List Nat) : List D := ks.map nD
def tq (q : Nat) : List Int := [(q : Int), (q : Int)]
def pRanked (C : Addr) (xs : List X) (Q : X → Prop) : Prop := ∃ rs : Rows, xs = [.f (tk C rs)] ∧ Ok rs ∧ Q (.o (.lst (natsD (reachL rs))))
structure BI (rs : Rows) (qs fs ks : List Nat) (mss : List (List Int)) (P : Nat → Wy.Step → Prop) : Prop where
  hp : mss.Perm (qs.map tq)
  heap : Hq.IsHp ltI mss
  asc : fs.Pairwise (· < ·)
  nd : (fs ++ qs).Nodup
  sep : ∀ f, f ∈ fs → ∀ q, q ∈ qs → f < q
  rch : ∀ k, k ∈ fs ++ qs → Rch rs k
  cl : ∀ f, f ∈ fs → ∀ s, s ∈ row rs f → P f s → s.2 ∈ fs ++ qs
  z : 0 ∈ fs ++ qs
  mem : ∀ k, k ∈ ks ↔ k ∈ fs ++ qs
  kn : ks.Nodup
abbrev allP : Nat → Wy.Step → Prop := fun _ _ => True
abbrev midP (rs : Rows) (q j : Nat) : Nat → Wy.Step → Prop := fun f s => f = q → s ∈ (row rs q).take j
theorem nodup_len {n : Nat} {l : List Nat} (h : l.Nodup) (hn : ∀ k, k ∈ l → k < n) : l.length ≤ n := by
  induction n generalizing l with
  | zero => cases l with
    | nil => exact Nat.le_refl _
    | cons x xs => exact absurd (hn x List.mem_cons_self) (Nat.not_lt_zero _)
  | succ n ih =>
    have h2 := ih (l := l.erase n) (h.erase n) fun k m => by
      have := hn k (List.mem_of_mem_erase m)
      have : k ≠ n := fun e => by
        subst e
        exact (List.Nodup.not_mem_erase h) m
      omega
    rw [List.length_erase] at h2
    split at h2 <;> omega
theorem BI.len {rs : Rows} (ok : Ok rs) {qs fs ks : List Nat} {mss : List (List Int)} {P : Nat → Wy.Step → Prop} (b : BI rs qs fs ks mss P) : fs.length + qs.length ≤ rs.length ∧ ks.length ≤ rs.length := by
  refine ⟨?_, nodup_len b.kn fun k m => (b.rch k ((b.mem k).mp m)).lt ok⟩
  rw [← List.length_append]
  exact nodup_len b.nd fun k m => (b.rch k m).lt ok
theorem BI.fin {rs : Rows} (ok : Ok rs) {fs ks : List Nat} {mss : List (List Int)} (b : BI rs [] fs ks mss allP) : fs = reachL rs := by
  refine asc_eq b.asc (reach_asc rs) fun k => ?_
  rw [mem_reach ok]
  constructor
  · exact fun m => b.rch k (List.mem_append_left _ m)
  · intro h
    induction h with
    | zero => simpa using b.z
    | step _ _ m ih => simpa using b.cl _ ih _ m trivial
theorem BI.start (rs : Rows) : BI rs [0] [] [0] [tq 0] allP := by
  refine ⟨List.Perm.refl _, ?_, .nil, by simp, fun f m => (by cases m), fun k m => ?_, fun f m => (by cases m), by simp, fun k => Iff.rfl, by simp⟩
  · intro i x y i0 hx hy
    have h1 := (List.getElem?_eq_some_iff.mp hx).1
    simp only [List.length_singleton] at h1
    omega
  · rw [List.mem_singleton.mp m]; exact .zero
theorem BI.pop {rs : Rows} {qs fs ks : List Nat} {mss us : List (List Int)} {m0 : List Int} (b : BI rs qs fs ks mss allP) (h : (m0 :: us).Perm mss) (hm : ∀ p, p ∈ us → ltI p m0 = false) (hh : Hq.IsHp ltI us) :
    ∃ q, m0 = tq q ∧ Rch rs q ∧ q ∈ qs ∧ BI rs (qs.erase q) (fs ++ [q]) ks us (midP rs q 0) := by
  have h1 := h.trans b.hp
  obtain ⟨q, hq, rfl⟩ := List.mem_map.mp (h1.mem_iff.mp List.mem_cons_self)
  have pe := List.perm_cons_erase hq
  have h2 : us.Perm ((qs.erase q).map tq) := (h1.trans (pe.map tq)).cons_inv
  have nd := List.nodup_append.mp b.nd
  have nq : q ∉ qs.erase q := List.Nodup.not_mem_erase nd.2.1
  have pm : (fs ++ qs).Perm ((fs ++ [q]) ++ qs.erase q) := by
    rw [List.append_assoc]
    exact List.Perm.append_left fs pe
  refine ⟨q, rfl, b.rch q (List.mem_append_right _ hq), hq, h2, hh, ?_, pm.nodup_iff.mp b.nd, fun f mf x mx => ?_, fun k m => b.rch k (pm.mem_iff.mpr m), fun f mf s ms hP => ?_, pm.mem_iff.mp b.z, fun k => (b.mem k).trans pm.mem_iff, b.kn⟩
  · rw [List.pairwise_append]
    refine ⟨b.asc, List.pairwise_singleton _ _, fun x mx y my => ?_⟩
    rw [List.mem_singleton.mp my]
    exact b.sep x mx q hq
  · have lt2 : q < x := by
      have h3 := hm (tq x) (h2.mem_iff.mpr (List.mem_map.mpr ⟨x, mx, rfl⟩))
      have ne : q ≠ x := fun e => nq (by rw [e]; rw [e] at mx; exact mx)
      rcases Nat.lt_or_ge q x with h4 | h4
      · exact h4
      · have h5 : ((x : Int) < (q : Int)) := by omega
        have h6 : ¬ ((x : Int) = (q : Int)) := by omega
        simp [ltI, tq, HT.lexLt_cons, h5, h6] at h3
    rcases List.mem_append.mp mf with mf | mf
    · exact b.sep f mf x (List.mem_of_mem_erase mx)
    · rw [List.mem_singleton.mp mf]; exact lt2
  · rcases List.mem_append.mp mf with mf | mf
    · exact pm.mem_iff.mp (b.cl f mf s ms trivial)
    · have := hP (List.mem_singleton.mp mf)
      rw [List.take_zero] at this
      cases this
theorem BI.skip {rs : Rows} {qs fs ks : List Nat} {mss : List (List Int)} {q j : Nat} {s : Wy.Step} (b : BI rs qs (fs ++ [q]) ks mss (midP rs q j)) (h : (row rs q)[j]? = some s) (m : s.2 ∈ ks) : BI rs qs (fs ++ [q]) ks mss (midP rs q (j + 1)) :=
  ⟨b.hp, b.heap, b.asc, b.nd, b.sep, b.rch, fun f mf t mt hP => by
    by_cases e : f = q
    · have := hP e
      rw [List.take_succ, h] at this
      rcases List.mem_append.mp this with m1 | m1
      · exact b.cl f mf t mt fun _ => m1
      · have : t = s := by simpa using m1
        rw [this]; exact (b.mem _).mp m
    · exact b.cl f mf t mt fun z => absurd z e, b.z, b.mem, b.kn⟩
theorem BI.push {rs : Rows} (ok : Ok rs) {qs fs ks : List Nat} {mss us : List (List Int)} {q j : Nat} {s : Wy.Step} (b : BI rs qs (fs ++ [q]) ks mss (midP rs q j)) (h : (row rs q)[j]? = some s) (m : s.2 ∉ ks) (hu : us.Perm (mss ++ [tq s.2])) (hh : Hq.IsHp ltI us) (hq : Rch rs q) :
    BI rs (qs ++ [s.2]) (fs ++ [q]) (ks ++ [s.2]) us (midP rs q (j + 1)) := by
  have ms := List.mem_of_getElem? h
  have lt := (ok.to (hq.lt ok) ms).2.1
  have nm : s.2 ∉ fs ++ [q] ++ qs := fun z => m ((b.mem _).mpr z)
  have asc := b.asc
  have le : ∀ f, f ∈ fs ++ [q] → f < s.2 := fun f mf => by
    rcases List.mem_append.mp mf with mf | mf
    · have := (List.pairwise_append.mp asc).2.2 f mf q (List.mem_singleton.mpr rfl); omega
    · rw [List.mem_singleton.mp mf]; exact lt
  refine ⟨?_, hh, b.asc, ?_, fun f mf x mx => ?_, fun k mk => ?_, fun f mf t mt hP => ?_, ?_, fun k => ?_, ?_⟩
  · rw [List.map_append]
    exact hu.trans (List.Perm.append_right _ b.hp)
  · rw [← List.append_assoc, List.nodup_append]
    refine ⟨b.nd, by simp, fun x mx y my e => ?_⟩
    rw [List.mem_singleton.mp my] at e
    exact nm (e ▸ mx)
  · rcases List.mem_append.mp mx with mx | mx
    · exact b.sep f mf x mx
    · rw [List.mem_singleton.mp mx]; exact le f mf
  · rw [← List.append_assoc] at mk
    rcases List.mem_append.mp mk with mk | mk
    · exact b.rch k mk
    · rw [List.mem_singleton.mp mk]; exact .step hq (hq.lt ok) ms
  · rw [← List.append_assoc]
    by_cases e : f = q
    · have := hP e
      rw [List.take_succ, h] at this
      rcases List.mem_append.mp this with m1 | m1
      · exact List.mem_append_left _ (b.cl f mf t mt fun _ => m1)
      · have : t = s := by simpa using m1
        rw [this]; exact List.mem_append_right _ (List.mem_singleton.mpr rfl)
    · exact List.mem_append_left _ (b.cl f mf t mt fun z => absurd z e)
  · rw [← List.append_assoc]; exact List.mem_append_left _ b.z
  · rw [← List.append_assoc, List.mem_append, List.mem_append (t := [s.2]), b.mem]
  · rw [List.nodup_append]
    refine ⟨b.kn, by simp, fun x mx y my e => ?_⟩
    rw [List.mem_singleton.mp my] at e
    exact m (e ▸ mx)
theorem BI.done {rs : Rows} {qs fs ks : List Nat} {mss : List (List Int)} {q : Nat} (b : BI rs qs (fs ++ [q]) ks mss (midP rs q (row rs q).length)) : BI rs qs (fs ++ [q]) ks mss allP :=
  ⟨b.hp, b.heap, b.asc, b.nd, b.sep, b.rch, fun f mf t mt _ => b.cl f mf t mt fun e => by rw [List.take_length]; rw [← e]; exact mt, b.z, b.mem, b.kn⟩
def trD (ks : List Nat) : List (Key × D) := dictN (fun _ => .bl true) ks
theorem natsD_snoc (ks : List Nat) (k : Nat) : natsD ks ++ [nD k] = natsD (ks ++ [k]) := by unfold natsD; rw [List.map_append]; rfl
section
variable {P : Program} {w : World} {K : PySem.W.Frag} {mg : Str → Option Value} {base : Heap}
theorem ok_by_rank {f : Addr} {fd : FuncData} {C_TableTask : Addr} {C_Task : Addr} (F : Fun K "_by_rank" "_by_rank" s_by_rank f fd) (T : Txt K mg C_TableTask C_Task) (GM_TableTask_first : DefM P w K mg base 1 C_TableTask "first" ["self"] (lift K (pFirst C_TableTask))) (GM_TableTask_steps : DefM P w K mg base 1 C_TableTask "steps" ["self", "state"] (lift K (pSteps C_TableTask))) (GM_TableTask_rank : DefM P w K mg base 1 C_TableTask "rank" ["self", "state"] (lift K (pRank C_TableTask))) : FnOk P w K mg base CX0 (2) f fd ["task"] (lift K (pRanked C_TableTask)) := by
  refine F.ok sc_by_rank (fun vs H Q E h => (lift_len (n := 1) (fun xs Q h => by obtain ⟨rs, rfl, _⟩ := h; rfl) h)) (fun cdv A outer s H vs Q E hr h => ?_)
  refine ⟨_, (pss_cons (ps_set (i := 1) sc_by_rank.nd rfl (by first | exact Or.inl rfl | exact Or.inr rfl) (GM_TableTask_first.call0 (hr.mono (by omega)) (pv 0)))
  (pss_cons (ps_set (i := 2) sc_by_rank.nd rfl (by first | exact Or.inl rfl | exact Or.inr rfl) (pe_lst (pa_cons (pe_tup (pa_cons (Pl.DefM.call GM_TableTask_rank (hr.mono (by omega)) (pv 0) (pa_cons (pv 1) pa_nil)) (pa_cons (pv 1) pa_nil))) pa_nil)))
  (pss_cons (ps_set (i := 3) sc_by_rank.nd rfl (by first | exact Or.inl rfl | exact Or.inr rfl) (pe_disp (pps_cons (pv 1) pe_bl pps_nil) (by rfl) (by rfl) (fun z => by cases z) (by decide)))
  (pss_cons (ps_set (i := 4) sc_by_rank.nd rfl (by first | exact Or.inl rfl | exact Or.inr rfl) (pe_lst pa_nil))
  (pss_cons (ps_while PassesOwn.never (pt_tru (K := K) rfl (pv 2))
  (pss_cons (ps_asg (pe_callBfun (Pl.c_hpopK (K := K) rfl hr.units) (by rfl) T.b_heappop (pa_cons (pv 2) pa_nil)) (pg_tupK (n := 2) (K := K) rfl (by rfl) (pgs_cons (pg_name (i := 5) sc_by_rank.nd rfl (by first | exact Or.inl rfl | exact Or.inr rfl)) (pgs_cons (pg_name (i := 6) sc_by_rank.nd rfl (by first | exact Or.inl rfl | exact Or.inr rfl)) pgs_nil))))
  (pss_cons (ps_expr (pe_bmK (K := K) rfl PySem.F.plainAttrs_list PySem.F.slot_list_append PySem.F.type_list_append mt_append (pv 4) (pa_cons (pv 6) pa_nil)))
  (pss_one (ps_for PassesOwn.never rfl (pi_any (K := K) rfl (Pl.DefM.call GM_TableTask_steps (hr.mono (by omega)) (pv 0) (pa_cons (pv 6) pa_nil))) (pg_tupK (n := 2) (K := K) rfl (by rfl) (pgs_cons (pg_name (i := 5) sc_by_rank.nd rfl (by first | exact Or.inl rfl | exact Or.inr rfl)) (pgs_cons (pg_name (i := 7) sc_by_rank.nd rfl (by first | exact Or.inl rfl | exact Or.inr rfl)) pgs_nil)))
  (pss_one (ps_if (pt_cmp (pc_dnotin (hu_of hr) (pv 7) (pv 3)))
  (pss_cons (ps_dput (hu_of hr) (pv 3) (pv 7) pe_bl rfl)
  (pss_one (ps_expr (pe_callBfun (Pl.c_hpushK (K := K) rfl hr.units) (by rfl) T.b_heappush (pa_cons (pv 2) (pa_cons (pe_tup (pa_cons (Pl.DefM.call GM_TableTask_rank (hr.mono (by omega)) (pv 0) (pa_cons (pv 7) pa_nil)) (pa_cons (pv 7) pa_nil))) pa_nil))))))
  pss_nil)))))))
  (pss_one (ps_ret (pv 4)))))))), ?_⟩
  refine fn_run (N := ["task", "first", "queue", "seen", "found", "_", "state", "after"]) h (s_seq (s_asg (e_meth [] (e_var 0) a_nil))
  (s_seq (s_fr 1 (s_asg (e_lst (a_cons (e_tup (a_cons (e_meth [] (e_var 0) (a_cons (e_var 1) a_nil)) (a_cons (e_var 1) a_nil))) a_nil))))
  (s_seq (s_asg (e_disp1 (e_var 1) e_bl))
  (s_seq (s_asg (e_lst a_nil))
  (s_seq (s_while (t_tru (e_var 2))
  (s_seq (s_hpop (g_tup (gs_cons g_name (gs_cons g_name gs_nil))))
  (s_seq (s_apd (e_var 6))
  (s_for (i_any (e_meth [] (e_var 0) (a_cons (e_var 6) a_nil))) (g_tup (gs_cons g_name (gs_cons g_name gs_nil)))
  (s_if (t_b (e_dnin (e_var 3) (e_var 7)))
  (s_seq (s_dset e_bl (e_var 7))
  (s_hpush (e_tup (a_cons (e_meth [] (e_var 0) (a_cons (e_var 7) a_nil)) (a_cons (e_var 7) a_nil)))))
  s_next)))))
  (s_retV 4)))))) ?_
  clear h
  intro xs Q' h
  obtain ⟨rs, rfl, hq⟩ := h
  refine startIs (ρ := [.fz (tk C_TableTask rs), .no, .no, .no, .no, .no, .no, .no]) rfl ?_
  obtain ⟨ok, hq⟩ := hq
  have hz := hsz
  have n9 := ok.n9
  have n0 := ok.n0
  walk_at "pw"
  refine ⟨_, rfl, tk_no (by decide), rs, rfl, ?_⟩
  walk_at "pw"
  refine ⟨_, rfl, tk_no (by decide), rs, 0, rfl, ?_⟩
  unfold nD
  walk_at "pw"
  obtain ⟨W, hW⟩ : ∃ W : Nat → Pl.Env → Prop, ∀ m ρ, W m ρ ↔ ∃ (qs fs ks : List Nat) (mss : List (List Int)) (s5 s6 s7 : Pl.Sl), m = rs.length - fs.length ∧ BI rs qs fs ks mss allP ∧ ρ = [.fz (tk C_TableTask rs), .fz (nD 0), .own (.lst (mss.map tI)), .own (.dk (trD ks)), .own (.lst (natsD fs)), s5, s6, s7] := ⟨_, fun _ _ => Iff.rfl⟩
  refine ⟨W, ⟨_, (hW _ _).mpr ⟨[0], [], [0], [tq 0], _, _, _, rfl, BI.start rs, rfl⟩⟩, ?_⟩
  intro m ρ hw
  rw [hW] at hw
  obtain ⟨qs, fs, ks, mss, s5, s6, s7, rfl, b, rfl⟩ := hw
  have bl := b.len ok
  have ml : mss.length = qs.length := by rw [b.hp.length_eq, List.length_map]
  walk_at "pw"
  unfold kWh
  cases hms : mss with
  | nil =>
    obtain rfl : qs = [] := by rw [hms] at ml; exact List.eq_nil_of_length_eq_zero ml.symm
    rw [← b.fin ok] at hq
    walk_at "pw"
    exact hq
  | cons m1 ms1 =>
    rw [← hms]
    refine pif_T (by rw [hms]; rfl) ?_
    obtain ⟨N, hN⟩ : ∃ N : Pl.Env → Prop, ∀ ρ', N ρ' ↔ ∃ (qs' fs' ks' : List Nat) (mss' : List (List Int)) (s5 s6 s7 : Pl.Sl), fs'.length = fs.length + 1 ∧ BI rs qs' fs' ks' mss' allP ∧ ρ' = [.fz (tk C_TableTask rs), .fz (nD 0), .own (.lst (mss'.map tI)), .own (.dk (trD ks')), .own (.lst (natsD fs')), s5, s6, s7] := ⟨_, fun _ => Iff.rfl⟩
    refine ⟨N, ?_, ?_⟩
    · intro ρ' hN'
      obtain ⟨qs', fs', ks', mss', s5, s6, s7, hl, b', rfl⟩ := (hN _).mp hN'
      have := b'.len ok
      have hfs : fs.length < rs.length := by omega
      exact ⟨rs.length - fs'.length, by omega, (hW _ _).mpr ⟨qs', fs', ks', mss', s5, s6, s7, rfl, b', rfl⟩⟩
    walk_at "pw"
    refine ⟨mss, rfl, by rw [hms]; exact Nat.succ_pos _, b.heap, fun m0 us hp hmin hh => ?_⟩
    obtain ⟨q, rfl, rq, mq, b1⟩ := b.pop hp hmin hh
    have ql := rq.lt ok
    have fsl : (natsD fs).length = fs.length := by unfold natsD; rw [List.length_map]
    have rw40 := ok.rw ql
    refine ⟨rfl, ?_⟩
    rw [show List.map D.int (tq q) = [nD q, nD q] from rfl]
    walk_at "pw"
    refine ⟨by rw [fsl]; omega, _, rfl, tk_no (by decide), rs, q, rfl, ql, ?_⟩
    walk_at "pw"
    rw [natsD_snoc]
    obtain ⟨U, hU⟩ : ∃ U : Nat → Pl.Env → Prop, ∀ j ρ', U j ρ' ↔ ∃ (qs' ks' : List Nat) (mss' : List (List Int)) (s5 s7 : Pl.Sl), BI rs qs' (fs ++ [q]) ks' mss' (midP rs q j) ∧ ρ' = [.fz (tk C_TableTask rs), .fz (nD 0), .own (.lst (mss'.map tI)), .own (.dk (trD ks')), .own (.lst (natsD (fs ++ [q]))), s5, .fz (nD q), s7] := ⟨_, fun _ _ => Iff.rfl⟩
    refine lpL U ((hU _ _).mpr ⟨_, _, _, _, _, b1, rfl⟩) ?_ ?_
    · intro j d ρ hj hu
      rw [hU] at hu
      obtain ⟨qs', ks', mss', s5, s7, b2, rfl⟩ := hu
      obtain ⟨s, hs0, rfl⟩ := get_mapE hj
      have bl2 := b2.len ok
      have ml2 : mss'.length = qs'.length := by rw [b2.hp.length_eq, List.length_map]
      unfold stD
      walk_at "pw"
      refine ⟨_, rfl, ?_⟩
      have ea : atD (trD ks') (.inl (s.2 : Int)) = if s.2 ∈ ks' then some (.bl true) else none := dictN_at
      rw [ea]
      by_cases hm : s.2 ∈ ks'
      · rw [if_pos hm]
        exact (hU _ _).mpr ⟨qs', ks', mss', _, _, b2.skip hs0 hm, rfl⟩
      · rw [if_neg hm]
        have ep : storeD (trD ks') (.inl (s.2 : Int)) (.bl true) = trD (ks' ++ [s.2]) := by
          have := dictN_put (g := fun _ => .bl true) (ks := ks') (k := s.2)
          rw [if_neg hm] at this
          exact this
        refine pif_F rfl ?_
        refine ⟨_, rfl, by unfold trD; rw [dictN_len]; omega, _, rfl, tk_no (by decide), rs, s.2, rfl, ?_⟩
        rw [ep]
        walk_at "pw"
        refine ⟨tq s.2, mss', rfl, rfl, by omega, b2.heap, fun us' hu' hh' => ?_⟩
        exact (hU _ _).mpr ⟨_, _, us', _, _, b2.push ok hs0 hm hu' hh' rq, rfl⟩
    · intro ρ hu
      rw [hU] at hu
      obtain ⟨qs', ks', mss', s5, s7, b2, rfl⟩ := hu
      rw [List.length_map] at b2
      exact (hN _).mpr ⟨_, _, _, _, _, _, _, by rw [List.length_append]; rfl, b2.done, rfl⟩
end
end K27
namespace K27
open PySem L2 Wp Pl Wy

/-- the numbers, from the last reached state on -/
noncomputable def numsK (rs : Rows) : List (Key × D) := dictN (fun k => numD (best rs k)) (reachL rs).reverse
def pReached (C : Addr) (xs : List X) (Q : X → Prop) : Prop := ∃ rs : Rows, xs = [.f (tk C rs)] ∧ Ok rs ∧ Q (.o (.lst (natsD (reachL rs))))
def pTogo (C : Addr) (xs : List X) (Q : X → Prop) : Prop := ∃ rs : Rows, xs = [.f (tk C rs)] ∧ Ok rs ∧ Q (.o (.dk (numsK rs)))
theorem natsD_i (ks : List Nat) : natsD ks = (ks.map fun k : Nat => (k : Int)).map D.int := by unfold natsD; rw [List.map_map]; rfl
theorem iD_map2 : ∀ ns : List Int, iD (ns.map D.int) = some ns
  | [] => rfl
  | n :: ns => by
    rw [List.map_cons]
    unfold iD
    rw [iD_map2 ns]
    rfl
theorem natsD_rev (ks : List Nat) : (natsD ks).reverse = natsD ks.reverse := by unfold natsD; rw [List.map_reverse]
theorem natsD_get {ks : List Nat} {i : Nat} {d : D} (h : (natsD ks)[i]? = some d) : ∃ k, ks[i]? = some k ∧ d = nD k := get_mapE h
theorem natsD_len (ks : List Nat) : (natsD ks).length = ks.length := by unfold natsD; rw [List.length_map]

theorem desc_mem {l : List Nat} (h : l.Pairwise (· > ·)) {i k a : Nat} (hk : l[i]? = some k) (ha : a ∈ l) (lt : k < a) : a ∈ l.take i := by
  obtain ⟨j, hj⟩ := List.getElem?_of_mem ha
  obtain ⟨hil, hie⟩ := List.getElem?_eq_some_iff.mp hk
  obtain ⟨hjl, hje⟩ := List.getElem?_eq_some_iff.mp hj
  rcases Nat.lt_or_ge j i with q | q
  · rw [← hje]
    exact List.mem_take_iff_getElem.mpr ⟨j, by omega, rfl⟩
  · rcases Nat.lt_or_ge i j with q2 | q2
    · have := List.pairwise_iff_getElem.mp h i j hil hjl q2
      omega
    · have : i = j := by omega
      subst this
      omega
theorem desc_not {l : List Nat} (h : l.Pairwise (· > ·)) {i k : Nat} (hk : l[i]? = some k) : k ∉ l.take i := fun m => by
  obtain ⟨hil, hie⟩ := List.getElem?_eq_some_iff.mp hk
  obtain ⟨j, hj, e⟩ := List.mem_take_iff_getElem.mp m
  have := List.pairwise_iff_getElem.mp h j i (by omega) hil (by omega)
  omega
theorem rev_desc (rs : Rows) : (reachL rs).reverse.Pairwise (· > ·) := List.pairwise_reverse.mpr (reach_asc rs)
theorem take_snoc {l : List Nat} {i k : Nat} (h : l[i]? = some k) : l.take (i + 1) = l.take i ++ [k] := by rw [List.take_succ, h]; rfl
theorem lsD_0 (o : Option (Int × Nat)) : ∃ x, lsD o = .tup [numD (o.map (·.1)), x] := by cases o <;> exact ⟨_, rfl⟩
section
variable {P : Program} {w : World} {K : PySem.W.Frag} {mg : Str → Option Value} {base : Heap}
theorem ok_reached {f : Addr} {fd : FuncData} {C_TableTask : Addr} {C_Task : Addr} (F : Fun K "reached" "reached" s_reached f fd) (T : Txt K mg C_TableTask C_Task) (G_by_rank : Def P w K mg base 2 "_by_rank" ["task"] (lift K (pRanked C_TableTask))) : FnOk P w K mg base CX0 (3) f fd ["task"] (lift K (pReached C_TableTask)) := by
  refine F.ok sc_reached (fun vs H Q E h => (lift_len (n := 1) (fun xs Q h => by obtain ⟨rs, rfl, _⟩ := h; rfl) h)) (fun cdv A outer s H vs Q E hr h => ?_)
  refine ⟨_, (pss_one (ps_ret (pe_callB (Pl.c_sortIK (K := K) rfl) (by rfl) T.n_sorted (by decide +kernel) (pa_cons (G_by_rank.call (hr.mono (by omega)) (by rfl) (pa_cons (pv 0) pa_nil)) pa_nil)))), ?_⟩
  refine fn_run (N := ["task"]) h (s_ret (e_cb Pl.c_sortI (a_cons (e_call [] (a_cons (e_var 0) a_nil)) a_nil))) ?_
  clear h
  intro xs Q' h
  obtain ⟨rs, rfl, hq⟩ := h
  refine startIs (ρ := [.fz (tk C_TableTask rs)]) rfl ?_
  obtain ⟨ok, hq⟩ := hq
  walk_at "pw"
  refine ⟨rs, rfl, ok, ?_⟩
  walk_at "pw"
  refine ⟨_, by rw [natsD_i]; exact iD_of _, fun ms hp ho => ?_⟩
  rw [sort_asc (reach_asc rs) hp ho, ← natsD_i]
  exact hq
theorem ok_togo {f : Addr} {fd : FuncData} {C_TableTask : Addr} {C_Task : Addr} (F : Fun K "togo" "togo" s_togo f fd) (T : Txt K mg C_TableTask C_Task) (G_by_rank : Def P w K mg base 2 "_by_rank" ["task"] (lift K (pRanked C_TableTask))) (GM_TableTask_is_end : DefM P w K mg base 1 C_TableTask "is_end" ["self", "state"] (lift K (pIsEnd C_TableTask))) (G_least_step : Def P w K mg base 1 "least_step" ["steps", "numbers"] (lift K (pLeast))) (GM_TableTask_steps : DefM P w K mg base 1 C_TableTask "steps" ["self", "state"] (lift K (pSteps C_TableTask))) : FnOk P w K mg base CX0 (3) f fd ["task"] (lift K (pTogo C_TableTask)) := by
  refine F.ok sc_togo (fun vs H Q E h => (lift_len (n := 1) (fun xs Q h => by obtain ⟨rs, rfl, _⟩ := h; rfl) h)) (fun cdv A outer s H vs Q E hr h => ?_)
  refine ⟨_, (pss_cons (ps_set (i := 1) sc_togo.nd rfl (by first | exact Or.inl rfl | exact Or.inr rfl) pe_dnewK)
  (pss_cons (ps_for PassesOwn.never rfl (pi_revK (K := K) rfl (by rfl) T.n_reversed (G_by_rank.call (hr.mono (by omega)) (by rfl) (pa_cons (pv 0) pa_nil))) (pg_name (i := 2) sc_togo.nd rfl (by first | exact Or.inl rfl | exact Or.inr rfl))
  (pss_one (ps_dput (hu_of hr) (pv 1) (pv 2) (pe_ifExp (pt_val (Pl.DefM.call GM_TableTask_is_end (hr.mono (by omega)) (pv 0) (pa_cons (pv 2) pa_nil))) pe_int (pe_ix (ixU (K := K) rfl) (G_least_step.call (hr.mono (by omega)) (by rfl) (pa_cons (Pl.DefM.call GM_TableTask_steps (hr.mono (by omega)) (pv 0) (pa_cons (pv 2) pa_nil)) (pa_cons (pv 1) pa_nil))) pe_int (fun _ _ => rfl))) rfl)))
  (pss_one (ps_ret (pv 1))))), ?_⟩
  refine fn_run (N := ["task", "numbers", "state"]) h (s_seq (s_asg e_dnew)
  (s_seq (s_for (i_rev (e_call [] (a_cons (e_var 0) a_nil))) g_name
  (s_dset (e_if (t_b (e_meth [] (e_var 0) (a_cons (e_var 2) a_nil))) e_int (e_op r_ix (e_call [] (a_cons (e_meth [] (e_var 0) (a_cons (e_var 2) a_nil)) (a_cons (e_var 1) a_nil))) e_int)) (e_var 2)))
  (s_retV 1))) ?_
  clear h
  intro xs Q' h
  obtain ⟨rs, rfl, hq⟩ := h
  refine startIs (ρ := [.fz (tk C_TableTask rs), .no, .no]) rfl ?_
  obtain ⟨ok, hq⟩ := hq
  walk_at "pw"
  refine ⟨rs, rfl, ok, ?_⟩
  walk_at "pw"
  have hz := hsz
  have n9 := ok.n9
  have rl := reach_len rs
  obtain ⟨l, hl⟩ : ∃ l, l = (reachL rs).reverse := ⟨_, rfl⟩
  have hlen : l.length = (reachL rs).length := by rw [hl, List.length_reverse]
  have hdesc : l.Pairwise (· > ·) := by rw [hl]; exact rev_desc rs
  have hmem : ∀ k, k ∈ l ↔ Rch rs k := fun k => by rw [hl, List.mem_reverse]; exact mem_reach ok
  rw [natsD_rev]
  unfold numsK at hq
  rw [← hl] at hq ⊢
  obtain ⟨V, hV⟩ : ∃ V : Nat → Pl.Env → Prop, ∀ i ρ, V i ρ ↔ ∃ (s2 : Pl.Sl), ρ = [.fz (tk C_TableTask rs), .own (.dk (dictN (fun k => numD (best rs k)) (l.take i))), s2] := ⟨_, fun _ _ => Iff.rfl⟩
  refine lpL V ((hV _ _).mpr ⟨_, rfl⟩) ?_ ?_
  · intro i d ρ hi hv
    rw [hV] at hv
    obtain ⟨s2, rfl⟩ := hv
    obtain ⟨k, hk, rfl⟩ := natsD_get hi
    have rk := (hmem k).mp (List.mem_of_getElem? hk)
    have kl := rk.lt ok
    have til : (l.take i).length ≤ 1200 := Nat.le_trans (List.length_take_le' _ _) (by omega)
    have put : storeD (dictN (fun k => numD (best rs k)) (l.take i)) (.inl (k : Int)) (numD (best rs k)) = dictN (fun k => numD (best rs k)) (l.take (i + 1)) := by
      have := dictN_put (g := fun k => numD (best rs k)) (ks := l.take i) (k := k)
      rw [if_neg (desc_not hdesc hk)] at this
      rw [take_snoc hk]
      exact this
    walk_at "pw"
    refine ⟨_, rfl, tk_no (by decide), rs, (k : Int), rfl, ?_⟩
    walk_at "pw"
    refine pifd (fun h => ?_) (fun h => ?_)
    · have eb := best_end ok (k := k) (by omega)
      rw [eb] at put
      unfold nD
      refine ⟨_, rfl, by rw [dictN_len]; omega, ?_⟩
      rw [show D.int 0 = numD (some 0) from rfl, put]
      exact (hV _ _).mpr ⟨_, rfl⟩
    · have eb := best_row ok kl (by omega)
      refine ⟨_, rfl, tk_no (by decide), rs, k, rfl, kl, ?_⟩
      walk_at "pw"
      refine ⟨row rs k, _, best rs, rfl, fun s ms => ?_, ?_⟩
      · rw [dictN_at, if_pos]
        exact desc_mem hdesc hk ((hmem _).mpr (.step rk kl ms)) (ok.to kl ms).2.1
      obtain ⟨x, hx⟩ := lsD_0 (lsR (best rs) (row rs k))
      rw [hx]
      walk_at "pw"
      rw [← eb]
      unfold nD
      refine ⟨_, rfl, by rw [dictN_len]; omega, ?_⟩
      rw [put]
      exact (hV _ _).mpr ⟨_, rfl⟩
  · intro ρ hv
    rw [hV] at hv
    obtain ⟨s2, rfl⟩ := hv
    rw [natsD_len, List.take_length]
    walk_at "pw"
    exact hq
end
end K27
namespace K27
open PySem L2 Wp Pl Wy

theorem take_snocA {α : Type} {l : List α} {i : Nat} {k : α} (h : l[i]? = some k) : l.take (i + 1) = l.take i ++ [k] := by rw [List.take_succ, h]; rfl
theorem numsK_at {rs : Rows} (ok : Ok rs) {k : Nat} (h : Rch rs k) : atD (numsK rs) (.inl (k : Int)) = some (numD (best rs k)) := by
  unfold numsK
  rw [dictN_at, if_pos (List.mem_reverse.mpr ((mem_reach ok).mpr h))]

def pPrice (xs : List X) (Q : X → Prop) : Prop := ∃ scale : Int, xs = [.pl, .f (.int scale)] ∧ 0 ≤ scale ∧ scale ≤ 10 ^ 15 + 3 ∧ ∀ c, 0 ≤ c → Q (.f (.int c))
def pLRows (xs : List X) (Q : X → Prop) : Prop := ∃ _u : Unit, xs = [.pl] ∧ ∀ rs : Rows, Ok rs → Q (.o (.lst (rs.map rowD)))
def pLChain (xs : List X) (Q : X → Prop) : Prop := ∃ _u : Unit, xs = [.pl] ∧ ∀ rs : Rows, Ok rs → Q (.o (.lls (rs.map fun r => r.map stD)))
def pRowTab (xs : List X) (Q : X → Prop) : Prop := ∃ rs : Rows, xs = [.f (rowsD rs)] ∧ Ok rs ∧ ∀ ks : List Nat, ks.Nodup → (∀ k, k ∈ ks ↔ Rch rs k) → Q (.o (.dk (dictN (fun k => rowD (row rs k)) ks)))
def tabD (rs : Rows) (ks : List Nat) : List (Key × D) := dictN (fun k => rowD (row rs k)) ks
def pLTogo (xs : List X) (Q : X → Prop) : Prop := ∃ (rs : Rows) (ks : List Nat), xs = [.b (.dk (tabD rs ks)), .f (.int ((rs.length : Int) - 1))] ∧ Ok rs ∧ ks.Nodup ∧ (∀ k, k ∈ ks ↔ Rch rs k) ∧ Q (.o (.dk (numsK rs)))
theorem tabD_at {rs : Rows} {ks : List Nat} {k : Nat} (h : k ∈ ks) : atD (tabD rs ks) (.inl (k : Int)) = some (rowD (row rs k)) := by unfold tabD; rw [dictN_at, if_pos h]

theorem rng_get {lo : Int} {n i : Nat} {d : D} (h : (rngD lo n)[i]? = some d) : i < n ∧ d = .int (lo + (i : Int)) := by
  unfold rngD at h
  rw [List.getElem?_map] at h
  cases e : (List.range n)[i]? with
  | none => rw [e] at h; cases h
  | some j =>
    rw [e] at h
    cases h
    obtain ⟨h1, h2⟩ := List.getElem?_eq_some_iff.mp e
    rw [List.getElem_range] at h2
    subst h2
    exact ⟨by simpa using h1, rfl⟩
theorem at_last {l : List D} {d : D} : atI (l ++ [d]) (-1) = some d := by
  unfold atI ixN
  rw [if_neg (by omega), if_pos (by rw [List.length_append, List.length_singleton]; omega)]
  show (l ++ [d])[(-1 + ((l ++ [d]).length : Int)).toNat]? = _
  rw [show (-1 + ((l ++ [d]).length : Int)).toNat = l.length by rw [List.length_append, List.length_singleton]; omega]
  rw [List.getElem?_append_right (Nat.le_refl _), Nat.sub_self]
  rfl
theorem nodup_sub : ∀ {a b : List Nat}, a.Nodup → (∀ k, k ∈ a → k ∈ b) → a.length ≤ b.length
  | [], b, _, _ => Nat.zero_le _
  | x :: xs, b, ha, h => by
    have hx := h x List.mem_cons_self
    have ih := nodup_sub (a := xs) (b := b.erase x) (List.nodup_cons.mp ha).2 fun k m => by
      have ne : k ≠ x := fun e => (List.nodup_cons.mp ha).1 (e ▸ m)
      exact (List.mem_erase_of_ne ne).mpr (h k (List.mem_cons_of_mem _ m))
    rw [List.length_erase_of_mem hx] at ih
    have : 0 < b.length := List.length_pos_of_mem hx
    rw [List.length_cons]
    omega
def TI (rs : Rows) (i k : Nat) : Prop := k = 0 ∨ ∃ (j : Nat) (s : Wy.Step), j < i ∧ Rch rs j ∧ s ∈ row rs j ∧ s.2 = k
theorem TI_self {rs : Rows} (ok : Ok rs) {i k : Nat} (h : k ≤ i) : TI rs i k ↔ Rch rs k := by
  constructor
  · rintro (rfl | ⟨j, s, _, r, m, rfl⟩)
    · exact .zero
    · exact .step r (r.lt ok) m
  · intro r
    cases r with
    | zero => exact .inl rfl
    | @step j s r jl m => exact .inr ⟨j, s, by have := (ok.to jl m).2.1; omega, r, m, rfl⟩
theorem TI_succ {rs : Rows} {i k : Nat} : TI rs (i + 1) k ↔ TI rs i k ∨ (Rch rs i ∧ ∃ s, s ∈ row rs i ∧ s.2 = k) := by
  constructor
  · rintro (rfl | ⟨j, s, hj, r, m, e⟩)
    · exact .inl (.inl rfl)
    · rcases Nat.lt_or_ge j i with q | q
      · exact .inl (.inr ⟨j, s, q, r, m, e⟩)
      · obtain rfl : j = i := by omega
        exact .inr ⟨r, s, m, e⟩
  · rintro ((rfl | ⟨j, s, hj, r, m, e⟩) | ⟨r, s, m, e⟩)
    · exact .inl rfl
    · exact .inr ⟨j, s, by omega, r, m, e⟩
    · exact .inr ⟨i, s, Nat.lt_succ_self _, r, m, e⟩
theorem tabD_put {rs : Rows} {ks : List Nat} {k : Nat} : storeD (tabD rs ks) (.inl (k : Int)) (rowD (row rs k)) = tabD rs (if k ∈ ks then ks else ks ++ [k]) := dictN_put
theorem pick4 {r : Int} (h : 0 ≤ r) (h' : r < 4) : ∃ g : Int, atI [D.int 1000000000, D.int 1000000000, D.int 10000000000000000000000000000000000000000, D.int 1000000000000000000000000000000000000000000000000000000000000000000000000000000000000000000000000000000000000000000000000000000000000000000000000000000000000000000000000000000000000000000000000] r = some (.int g) ∧ 0 ≤ g ∧ NB g 700 := by
  have : r = 0 ∨ r = 1 ∨ r = 2 ∨ r = 3 := by omega
  rcases this with rfl | rfl | rfl | rfl
  all_goals exact ⟨_, rfl, by decide, by unfold NB; decide +kernel⟩
theorem pickS {r : Int} (h : 0 ≤ r) (h' : r < 4) : ∃ g : Int, atI [D.int 1, D.int 1, D.int 1, D.int 1000000000000003] r = some (.int g) ∧ 0 ≤ g ∧ g ≤ 10 ^ 15 + 3 := by
  have : r = 0 ∨ r = 1 ∨ r = 2 ∨ r = 3 := by omega
  rcases this with rfl | rfl | rfl | rfl
  all_goals exact ⟨_, rfl, by decide, by decide⟩
theorem pickF {r : Int} (h : 0 ≤ r) (h' : r < 3) : ∃ g : Int, atI [D.int 2, D.int 3, D.int 30] r = some (.int g) ∧ 2 ≤ g ∧ g ≤ 30 := by
  have : r = 0 ∨ r = 1 ∨ r = 2 := by omega
  rcases this with rfl | rfl | rfl
  all_goals exact ⟨_, rfl, by decide, by decide⟩
theorem pick8 {r : Int} (h : 0 ≤ r) (h' : r < 8) : ∃ g : Int, atI [D.int 0, D.int 1, D.int 2, D.int 2, D.int 3, D.int 3, D.int 4, D.int 4] r = some (.int g) ∧ 0 ≤ g ∧ g ≤ 4 := by
  have : r = 0 ∨ r = 1 ∨ r = 2 ∨ r = 3 ∨ r = 4 ∨ r = 5 ∨ r = 6 ∨ r = 7 := by omega
  rcases this with rfl | rfl | rfl | rfl | rfl | rfl | rfl | rfl
  all_goals exact ⟨_, rfl, by decide, by decide⟩
section
variable {P : Program} {w : World} {K : PySem.W.Frag} {mg : Str → Option Value} {base : Heap}
theorem ok_law_price {f : Addr} {fd : FuncData} {C_TableTask : Addr} {C_Task : Addr} (F : Fun K "_law_price" "_law_price" s_law_price f fd) (T : Txt K mg C_TableTask C_Task) (G_law_rare : Def P w K mg base 2 "_law_rare" ["pool", "many"] (lift K (pRare))) (G_law_draw : Def P w K mg base 1 "_law_draw" ["pool", "many"] (lift K (pDraw))) : FnOk P w K mg base CX0 (3) f fd ["pool", "scale"] (lift K (pPrice)) := by
  refine F.ok sc_law_price (fun vs H Q E h => (lift_len (n := 2) (fun xs Q h => by obtain ⟨scale, rfl, _⟩ := h; rfl) h)) (fun cdv A outer s H vs Q E hr h => ?_)
  refine ⟨_, (pss_cons (ps_if (pt_val (G_law_rare.call (hr.mono (by omega)) (by rfl) (pa_cons (pv 0) (pa_cons pe_int pa_nil))))
  (pss_cons (ps_set (i := 2) sc_law_price.nd rfl (by first | exact Or.inl rfl | exact Or.inr rfl) (pe_ix (ixU (K := K) rfl) (pe_lst (pa_cons (pe_op op_pow pe_int pe_int) (pa_cons (pe_op op_pow pe_int pe_int) (pa_cons (pe_op op_pow pe_int pe_int) (pa_cons (pe_op op_mulW (pe_op op_mulW (pe_op op_pow pe_int pe_int) (pe_op op_pow pe_int pe_int)) (pe_op op_pow pe_int pe_int)) pa_nil))))) (G_law_draw.call (hr.mono (by omega)) (by rfl) (pa_cons (pv 0) (pa_cons pe_int pa_nil))) (fun _ _ => rfl)))
  (pss_one (ps_ret (pe_op (op_addU (K := K) rfl) (pe_op op_mulW (G_law_draw.call (hr.mono (by omega)) (by rfl) (pa_cons (pv 0) (pa_cons (pe_op op_pow pe_int pe_int) pa_nil))) (pv 2)) (G_law_draw.call (hr.mono (by omega)) (by rfl) (pa_cons (pv 0) (pa_cons pe_int pa_nil)))))))
  pss_nil)
  (pss_one (ps_ret (pe_op op_mulW (G_law_draw.call (hr.mono (by omega)) (by rfl) (pa_cons (pv 0) (pa_cons pe_int pa_nil))) (pv 1))))), ?_⟩
  refine fn_run (N := ["pool", "scale", "great"]) h (s_seq (s_if (t_b (e_call [] (a_cons (e_var 0) (a_cons e_int a_nil))))
  (s_seq (s_asg (e_op r_ix (e_lst (a_cons (e_op r_pow e_int e_int) (a_cons (e_op r_pow e_int e_int) (a_cons (e_op r_pow e_int e_int) (a_cons (e_op r_mulW (e_op r_mulW (e_op r_pow e_int e_int) (e_op r_pow e_int e_int)) (e_op r_pow e_int e_int)) a_nil))))) (e_call [] (a_cons (e_var 0) (a_cons e_int a_nil)))))
  (s_ret (e_op r_add (e_op r_mulW (e_call [] (a_cons (e_var 0) (a_cons (e_op r_pow e_int e_int) a_nil))) (e_var 2)) (e_call [] (a_cons (e_var 0) (a_cons e_int a_nil))))))
  s_next)
  (s_ret (e_op r_mulW (e_call [] (a_cons (e_var 0) (a_cons e_int a_nil))) (e_var 1)))) ?_
  clear h
  intro xs Q' h
  obtain ⟨scale, rfl, hq⟩ := h
  refine startIs (ρ := [.pool, .fz (.int scale), .no]) rfl ?_
  obtain ⟨s0, s9, hq⟩ := hq
  have hz := hsz
  walk_at "pw"
  refine fun b => pif (fun _ => ?_) (fun _ => ?_)
  · refine ⟨by walk_at "ps", by walk_at "ps", by walk_at "ps", by walk_at "ps", by walk_at "ps", by unfold CMulW; decide +kernel, by walk_at "ps", by unfold CMulW; decide +kernel, fun r r0 r9 => ?_⟩
    obtain ⟨g, hg, g0, g9⟩ := pick4 r0 r9
    refine ⟨_, hg, by walk_at "ps", fun r2 r20 r29 => ?_⟩
    walk_at "pw"
    refine ⟨NB.cm (a := 60) (b := 700) (by unfold NB; omega) g9 (by decide), fun r3 r30 r39 => ?_⟩
    exact hq _ (by have := Int.mul_nonneg r20 g0; omega)
  · refine fun r r0 r9 => ⟨NB.cm (a := 20) (b := 60) (by unfold NB; omega) (by unfold NB; omega) (by decide), hq _ (Int.mul_nonneg r0 s0)⟩
theorem ok_law_rows {f : Addr} {fd : FuncData} {C_TableTask : Addr} {C_Task : Addr} (F : Fun K "_law_rows" "_law_rows" s_law_rows f fd) (T : Txt K mg C_TableTask C_Task) (G_law_draw : Def P w K mg base 1 "_law_draw" ["pool", "many"] (lift K (pDraw))) (G_law_few : Def P w K mg base 3 "_law_few" ["pool", "usual", "most"] (lift K (pFew))) (G_law_price : Def P w K mg base 3 "_law_price" ["pool", "scale"] (lift K (pPrice))) : FnOk P w K mg base CX0 (4) f fd ["pool"] (lift K (pLRows)) := by
  refine F.ok sc_law_rows (fun vs H Q E h => (lift_len (n := 1) (fun xs Q h => by obtain ⟨u, rfl, _⟩ := h; rfl) h)) (fun cdv A outer s H vs Q E hr h => ?_)
  refine ⟨_, (pss_cons (ps_set (i := 1) sc_law_rows.nd rfl (by first | exact Or.inl rfl | exact Or.inr rfl) (pe_ix (ixU (K := K) rfl) (pe_lst (pa_cons pe_int (pa_cons pe_int (pa_cons pe_int (pa_cons (pe_op (op_addU (K := K) rfl) (pe_op op_pow pe_int pe_int) pe_int) pa_nil))))) (G_law_draw.call (hr.mono (by omega)) (by rfl) (pa_cons (pv 0) (pa_cons pe_int pa_nil))) (fun _ _ => rfl)))
  (pss_cons (ps_set (i := 2) sc_law_rows.nd rfl (by first | exact Or.inl rfl | exact Or.inr rfl) (pe_ix (ixU (K := K) rfl) (pe_lst (pa_cons pe_int (pa_cons pe_int (pa_cons pe_int pa_nil)))) (G_law_draw.call (hr.mono (by omega)) (by rfl) (pa_cons (pv 0) (pa_cons pe_int pa_nil))) (fun _ _ => rfl)))
  (pss_cons (ps_set (i := 3) sc_law_rows.nd rfl (by first | exact Or.inl rfl | exact Or.inr rfl) (pe_op (op_addU (K := K) rfl) pe_int (G_law_few.call (hr.mono (by omega)) (by rfl) (pa_cons (pv 0) (pa_cons pe_int (pa_cons pe_int pa_nil))))))
  (pss_cons (ps_set (i := 4) sc_law_rows.nd rfl (by first | exact Or.inl rfl | exact Or.inr rfl) (pe_lst pa_nil))
  (pss_cons (ps_for PassesOwn.never rfl (pi_range1 (by rfl) T.n_range (pa_cons (pv 3) pa_nil)) (pg_name (i := 5) sc_law_rows.nd rfl (by first | exact Or.inl rfl | exact Or.inr rfl))
  (pss_cons (ps_set (i := 6) sc_law_rows.nd rfl (by first | exact Or.inl rfl | exact Or.inr rfl) (pe_lst pa_nil))
  (pss_cons (ps_if (pt_cmpR op_lt (pv 5) (pe_op op_sub (pv 3) pe_int) (nomark _))
  (pss_one (ps_for PassesOwn.never rfl (pi_range1 (by rfl) T.n_range (pa_cons (G_law_draw.call (hr.mono (by omega)) (by rfl) (pa_cons (pv 0) (pa_cons pe_int pa_nil))) pa_nil)) (pg_name (i := 7) sc_law_rows.nd rfl (by first | exact Or.inl rfl | exact Or.inr rfl))
  (pss_cons (ps_set (i := 8) sc_law_rows.nd rfl (by first | exact Or.inl rfl | exact Or.inr rfl) (G_law_price.call (hr.mono (by omega)) (by rfl) (pa_cons (pv 0) (pa_cons (pv 1) pa_nil))))
  (pss_one (ps_expr (pe_bmK (K := K) rfl PySem.F.plainAttrs_list PySem.F.slot_list_append PySem.F.type_list_append mt_append (pv 6) (pa_cons (pe_tup (pa_cons (pv 8) (pa_cons (pe_op (op_addU (K := K) rfl) (pe_op (op_addU (K := K) rfl) (pv 5) pe_int) (G_law_draw.call (hr.mono (by omega)) (by rfl) (pa_cons (pv 0) (pa_cons (pe_callB (Wp.c_min2 rfl) (by rfl) T.n_min (by decide +kernel) (pa_cons (pv 2) (pa_cons (pe_op op_sub (pe_op op_sub (pv 3) pe_int) (pv 5)) pa_nil))) pa_nil)))) pa_nil))) pa_nil)))))))
  pss_nil)
  (pss_one (ps_expr (pe_bmK (K := K) rfl PySem.F.plainAttrs_list PySem.F.slot_list_append PySem.F.type_list_append mt_append (pv 4) (pa_cons (pv 6) pa_nil)))))))
  (pss_one (ps_ret (pv 4)))))))), ?_⟩
  refine fn_run (N := ["pool", "scale", "far", "count", "rows", "k", "row", "n", "cost"]) h (s_seq (s_asg (e_op r_ix (e_lst (a_cons e_int (a_cons e_int (a_cons e_int (a_cons (e_op r_add (e_op r_pow e_int e_int) e_int) a_nil))))) (e_call [] (a_cons (e_var 0) (a_cons e_int a_nil)))))
  (s_seq (s_asg (e_op r_ix (e_lst (a_cons e_int (a_cons e_int (a_cons e_int a_nil)))) (e_call [] (a_cons (e_var 0) (a_cons e_int a_nil)))))
  (s_seq (s_asg (e_op r_add e_int (e_call [] (a_cons (e_var 0) (a_cons e_int (a_cons e_int a_nil))))))
  (s_seq (s_asg (e_lst a_nil))
  (s_seq (s_for (i_range1 (a_cons (e_var 3) a_nil)) g_name
  (s_seq (s_asg (e_lst a_nil))
  (s_seq (s_if (t_test (e_op r_lt (e_var 5) (e_op r_sub (e_var 3) e_int)))
  (s_for (i_range1 (a_cons (e_call [] (a_cons (e_var 0) (a_cons e_int a_nil))) a_nil)) g_name
  (s_seq (s_asg (e_call [] (a_cons (e_var 0) (a_cons (e_var 1) a_nil))))
  (s_fr 8 (s_apd (e_tup (a_cons (e_var 8) (a_cons (e_op r_add (e_op r_add (e_var 5) e_int) (e_call [] (a_cons (e_var 0) (a_cons (e_cb Pl.c_min2 (a_cons (e_var 2) (a_cons (e_op r_sub (e_op r_sub (e_var 3) e_int) (e_var 5)) a_nil))) a_nil)))) a_nil)))))))
  s_next)
  (s_fr 6 (s_apd (e_var 6))))))
  (s_retV 4)))))) ?_
  clear h
  intro xs Q' h
  obtain ⟨u, rfl, hq⟩ := h
  refine startIs (ρ := [.pool, .no, .no, .no, .no, .no, .no, .no, .no]) rfl ?_
  have hz := hsz
  walk_at "pw"
  refine ⟨by walk_at "ps", fun r r0 r9 => ?_⟩
  obtain ⟨sc, hsc, sc0, sc9⟩ := pickS r0 r9
  refine ⟨_, hsc, fun fr0 fr00 fr09 => ?_⟩
  obtain ⟨fr, hfr, fr1, fr2⟩ := pickF fr00 fr09
  refine ⟨_, hfr, fun n n0 n9 => ⟨by omega, by omega, ?_⟩⟩
  obtain ⟨m, hm⟩ : ∃ m : Nat, 1 + n = (m : Int) := ⟨(1 + n).toNat, by omega⟩
  rw [hm, Int.toNat_natCast]
  obtain ⟨V, hV⟩ : ∃ V : Nat → Pl.Env → Prop, ∀ i ρ, V i ρ ↔ ∃ (rs : Rows) (s6 s7 s8 s9 : Pl.Sl), rs.length = i ∧ (∀ r, r ∈ rs → r.length ≤ 4) ∧ (∀ (k : Nat) (r : Row) (s : Wy.Step), rs[k]? = some r → s ∈ r → 0 ≤ s.1 ∧ k < s.2 ∧ s.2 < m) ∧ ρ = [.pool, .fz (.int sc), .fz (.int fr), .fz (.int (m : Int)), .own (.lst (rs.map rowD)), s6, s7, s8, s9] := ⟨_, fun _ _ => Iff.rfl⟩
  refine lpR V ((hV _ _).mpr ⟨[], _, _, _, _, rfl, fun r h => (by cases h), fun k r s h => (by cases h), rfl⟩) ?_ ?_
  · intro i ρ hi hv
    rw [hV] at hv
    obtain ⟨rs, s6, s7, s8, s9, hl, hw, hs, rfl⟩ := hv
    have fin : ∀ (row : Row) (s8 s9 : Pl.Sl), row.length ≤ 4 → (∀ s, s ∈ row → 0 ≤ s.1 ∧ i < s.2 ∧ s.2 < m) → V (i + 1) [.pool, .fz (.int sc), .fz (.int fr), .fz (.int (m : Int)), .own (.lst (rs.map rowD ++ [.lst (row.map stD)])), .fz (.int (i : Int)), .fz (.lst (row.map stD)), s8, s9] := fun row s8 s9 h1 h2 => by
      refine (hV _ _).mpr ⟨rs ++ [row], _, _, _, _, by rw [List.length_append, hl]; rfl, fun r mr => ?_, fun k r s hk ms => ?_, by rw [List.map_append]; rfl⟩
      · rcases List.mem_append.mp mr with mr | mr
        · exact hw r mr
        · rw [List.mem_singleton.mp mr]; exact h1
      · rcases Nat.lt_or_ge k rs.length with q | q
        · rw [List.getElem?_append_left q] at hk; exact hs k r s hk ms
        · rw [List.getElem?_append_right q] at hk
          have e0 : k - rs.length = 0 := by
            have := (List.getElem?_eq_some_iff.mp hk).1
            simpa using this
          rw [e0] at hk
          cases hk
          have := h2 s ms
          omega
    walk_at "pw"
    refine pifd (fun h => ?_) (fun h => ?_)
    · intro g g0 g9
      refine ⟨by omega, by omega, ?_⟩
      obtain ⟨U, hU⟩ : ∃ U : Nat → Pl.Env → Prop, ∀ j ρ, U j ρ ↔ ∃ (row : Row) (s8 s9 : Pl.Sl), row.length = j ∧ (∀ s, s ∈ row → 0 ≤ s.1 ∧ i < s.2 ∧ s.2 < m) ∧ ρ = [.pool, .fz (.int sc), .fz (.int fr), .fz (.int (m : Int)), .own (.lst (rs.map rowD)), .fz (.int (i : Int)), .own (.lst (row.map stD)), s8, s9] := ⟨_, fun _ _ => Iff.rfl⟩
      refine lpR U ((hU _ _).mpr ⟨[], _, _, rfl, fun s h => (by cases h), rfl⟩) ?_ ?_
      · intro j ρ hj hu
        rw [hU] at hu
        obtain ⟨row, s8, s9, hrl, hrs, rfl⟩ := hu
        walk_at "pw"
        refine ⟨_, rfl, sc0, sc9, fun c c0 => ?_⟩
        walk_at "pw"
        refine ⟨by omega, by omega, fun q q0 q9 => ⟨by rw [List.length_map]; omega, ?_⟩⟩
        obtain ⟨t, ht⟩ : ∃ t : Nat, (i : Int) + 1 + q = (t : Int) := ⟨((i : Int) + 1 + q).toNat, by omega⟩
        rw [ht]
        refine (hU _ _).mpr ⟨row ++ [(c, t)], _, _, by rw [List.length_append, hrl]; rfl, fun s ms => ?_, by rw [List.map_append]; rfl⟩
        rcases List.mem_append.mp ms with ms | ms
        · exact hrs s ms
        · rw [List.mem_singleton.mp ms]
          refine ⟨c0, ?_, ?_⟩
          · show i < t; omega
          · show t < m; omega
      · intro ρ hu
        rw [hU] at hu
        obtain ⟨row, s8, s9, hrl, hrs, rfl⟩ := hu
        walk_at "pw"
        refine ⟨by rw [List.length_map]; omega, ?_⟩
        exact fin row _ _ (by omega) hrs
    · refine ⟨by rw [List.length_map]; omega, ?_⟩
      exact fin [] _ _ (by simp) fun s h => (by cases h)
  · intro ρ hv
    rw [hV] at hv
    obtain ⟨rs, s6, s7, s8, s9, hl, hw, hs, rfl⟩ := hv
    walk_at "pw"
    exact hq rs ⟨by omega, by omega, fun r mr => Nat.le_trans (hw r mr) (by decide), fun k r s hk ms => by rw [hl]; exact hs k r s hk ms⟩
theorem ok_law_chain {f : Addr} {fd : FuncData} {C_TableTask : Addr} {C_Task : Addr} (F : Fun K "_law_chain" "_law_chain" s_law_chain f fd) (T : Txt K mg C_TableTask C_Task) (G_law_draw : Def P w K mg base 1 "_law_draw" ["pool", "many"] (lift K (pDraw))) : FnOk P w K mg base CX0 (2) f fd ["pool"] (lift K (pLChain)) := by
  refine F.ok sc_law_chain (fun vs H Q E h => (lift_len (n := 1) (fun xs Q h => by obtain ⟨u, rfl, _⟩ := h; rfl) h)) (fun cdv A outer s H vs Q E hr h => ?_)
  refine ⟨_, (pss_cons (ps_set (i := 1) sc_law_chain.nd rfl (by first | exact Or.inl rfl | exact Or.inr rfl) (pe_op (op_addU (K := K) rfl) pe_int (G_law_draw.call (hr.mono (by omega)) (by rfl) (pa_cons (pv 0) (pa_cons pe_int pa_nil)))))
  (pss_cons (ps_set (i := 2) sc_law_chain.nd rfl (by first | exact Or.inl rfl | exact Or.inr rfl) (G_law_draw.call (hr.mono (by omega)) (by rfl) (pa_cons (pv 0) (pa_cons pe_int pa_nil))))
  (pss_cons (ps_set (i := 3) sc_law_chain.nd rfl (by first | exact Or.inl rfl | exact Or.inr rfl) (pe_op (op_addU (K := K) rfl) pe_int (G_law_draw.call (hr.mono (by omega)) (by rfl) (pa_cons (pv 0) (pa_cons pe_int pa_nil)))))
  (pss_cons (ps_set (i := 4) sc_law_chain.nd rfl (by first | exact Or.inl rfl | exact Or.inr rfl) (G_law_draw.call (hr.mono (by omega)) (by rfl) (pa_cons (pv 0) (pa_cons pe_int pa_nil))))
  (pss_cons (ps_setLc (i := 5) (own := [("k", 6)]) (g := (gName 6)) (tt := tYes) (by rfl) sc_law_chain.nd rfl rfl (sw_true rfl rfl rfl (by decide +kernel)) (pi_range1 (by rfl) T.n_range (pa_cons (pe_op op_sub (pv 1) pe_int) pa_nil)) (blkOk_by (own := [("k", 6)]) (N := ["pool", "count", "turn", "far", "dear", "rows", "k"]) (sc := defScope s_law_chain) (by decide +kernel)) (fun _ _ _ _ _ => (pg_name (i := 6) sc_law_chain.nd rfl (by first | exact Or.inl rfl | exact Or.inr rfl))) (fun _ _ _ _ _ => pts_nil) (fun _ _ _ _ _ => (pe_lst (pa_cons (pe_tup (pa_cons (pe_op op_mod (pe_callTy Wp.c_int (by rfl) T.n_int (by decide +kernel) (pa_cons (pe_op op_mulW (pv 6) (pe_op (op_addU (K := K) rfl) (pv 2) pe_int)) pa_nil)) pe_int) (pa_cons (pe_op (op_addU (K := K) rfl) (pv 6) pe_int) pa_nil))) pa_nil))))
  (pss_cons (ps_for PassesOwn.never rfl (pi_range1 (by rfl) T.n_range (pa_cons (pe_op op_sub (pv 1) (pv 3)) pa_nil)) (pg_name (i := 6) sc_law_chain.nd rfl (by first | exact Or.inl rfl | exact Or.inr rfl))
  (pss_one (ps_if (pt_cmpR (op_eqU (K := K) rfl hr.units) (pe_op op_mod (pe_callTy Wp.c_int (by rfl) T.n_int (by decide +kernel) (pa_cons (pv 6) pa_nil)) pe_int) (pv 2) (nomark _))
  (pss_one (ps_expr (pe_bmK (K := K) rfl PySem.F.plainAttrs_list PySem.F.slot_list_append PySem.F.type_list_append mt_append (pe_ix (ixU (K := K) rfl) (pv 5) (pv 6) (fun _ _ => rfl)) (pa_cons (pe_tup (pa_cons (pv 4) (pa_cons (pe_op (op_addU (K := K) rfl) (pv 6) (pv 3)) pa_nil))) pa_nil))))
  pss_nil)))
  (pss_cons (ps_expr (pe_bmK (K := K) rfl PySem.F.plainAttrs_list PySem.F.slot_list_append PySem.F.type_list_append mt_append (pv 5) (pa_cons (pe_lst pa_nil) pa_nil)))
  (pss_one (ps_ret (pv 5)))))))))), ?_⟩
  refine fn_run (N := ["pool", "count", "turn", "far", "dear", "rows", "k"]) h (s_seq (s_asg (e_op r_add e_int (e_call [] (a_cons (e_var 0) (a_cons e_int a_nil)))))
  (s_seq (s_asg (e_call [] (a_cons (e_var 0) (a_cons e_int a_nil))))
  (s_seq (s_asg (e_op r_add e_int (e_call [] (a_cons (e_var 0) (a_cons e_int a_nil)))))
  (s_seq (s_asg (e_call [] (a_cons (e_var 0) (a_cons e_int a_nil))))
  (s_seq (s_asg (e_lcN (i_range1 (a_cons (e_op r_sub (e_var 1) e_int) a_nil)) g_name t_yes (e_lst (a_cons (e_tup (a_cons (e_op r_mod (e_cb Pl.c_int (a_cons (e_op r_mulW (e_var 6) (e_op r_add (e_var 2) e_int)) a_nil)) e_int) (a_cons (e_op r_add (e_var 6) e_int) a_nil))) a_nil)) (by decide)))
  (s_seq (s_for (i_range1 (a_cons (e_op r_sub (e_var 1) (e_var 3)) a_nil)) g_name
  (s_if (t_test (e_op r_eq (e_op r_mod (e_cb Pl.c_int (a_cons (e_var 6) a_nil)) e_int) (e_var 2)))
  (s_napd (e_var 6) (e_tup (a_cons (e_var 4) (a_cons (e_op r_add (e_var 6) (e_var 3)) a_nil))))
  s_next))
  (s_seq (s_apdN (e_lst a_nil))
  (s_retV 5)))))))) ?_
  clear h
  intro xs Q' h
  obtain ⟨u, rfl, hq⟩ := h
  refine startIs (ρ := [.pool, .no, .no, .no, .no, .no, .no]) rfl ?_
  have hz := hsz
  walk_at "pw"
  intro r r0 r9 tn tn0 tn9 fr fr0 fr9 dr dr0 dr9
  refine ⟨by omega, by omega, ?_⟩
  obtain ⟨n, hn⟩ : ∃ n : Nat, 1050 + r - 1 = (n : Int) := ⟨(1050 + r - 1).toNat, by omega⟩
  have hn2 : 1050 + r = (n : Int) + 1 := by omega
  rw [hn, Int.toNat_natCast]
  have vl : ∀ {rs : Rows} {m : Nat}, m + 1 = n → True := fun _ => trivial
  obtain ⟨Vd, hVd⟩ : ∃ Vd : Rows → Nat → Prop, ∀ rs i, Vd rs i ↔ (∀ (k : Nat) (r : Row), rs[k]? = some r → r.length ≤ (if k < i then 2 else 1) ∧ ∀ s, s ∈ r → 0 ≤ s.1 ∧ k < s.2 ∧ s.2 < n + 1) := ⟨_, fun _ _ => Iff.rfl⟩
  obtain ⟨Pv, hPv⟩ : ∃ Pv : Nat → List (List D) → Prop, ∀ i acc, Pv i acc ↔ ∃ rs : Rows, rs.length = i ∧ Vd rs 0 ∧ acc = rs.map fun r => r.map stD := ⟨_, fun _ _ => Iff.rfl⟩
  refine compNL Pv ((hPv _ _).mpr ⟨[], rfl, (hVd _ _).mpr fun k r h => (by cases h), rfl⟩) ?_ ?_
  · intro i d acc hi hp
    rw [hPv] at hp
    obtain ⟨rs, hl, hv, rfl⟩ := hp
    obtain ⟨il, rfl⟩ := rng_get hi
    rw [Int.zero_add]
    walk_at "pw"
    have ce : 0 ≤ ((i : Int) * (tn + 1)) % 5 := Int.emod_nonneg _ (by decide)
    refine ⟨NB.cm (a := 20) (b := 10) (by unfold NB; omega) (by unfold NB; omega) (by decide), by rw [List.length_map]; omega, (hPv _ _).mpr ⟨rs ++ [[(((i : Int) * (tn + 1)) % 5, i + 1)]], by rw [List.length_append, hl]; rfl, (hVd _ _).mpr fun k r h => ?_, by rw [List.map_append]; rfl⟩⟩
    rcases Nat.lt_or_ge k rs.length with q | q
    · rw [List.getElem?_append_left q] at h
      exact (hVd _ _).mp hv k r h
    · rw [List.getElem?_append_right q] at h
      have e0 : k - rs.length = 0 := by
        have := (List.getElem?_eq_some_iff.mp h).1
        simpa using this
      rw [e0] at h
      cases h
      refine ⟨by simp, fun s ms => ?_⟩
      rw [List.mem_singleton.mp ms]
      refine ⟨ce, ?_, ?_⟩
      · show k < i + 1; omega
      · show i + 1 < n + 1; omega
  · intro acc hp
    rw [hPv] at hp
    obtain ⟨rs, hl, hv, rfl⟩ := hp
    rw [rng_len] at hl
    walk_at "pw"
    refine ⟨by omega, by omega, ?_⟩
    obtain ⟨ff, hff⟩ : ∃ ff : Nat, 2 + fr = (ff : Int) := ⟨(2 + fr).toNat, by omega⟩
    obtain ⟨m, hm⟩ : ∃ m : Nat, 1050 + r - (2 + fr) = (m : Int) := ⟨(1050 + r - (2 + fr)).toNat, by omega⟩
    have hmn : n + 1 = m + ff := by omega
    rw [hm, Int.toNat_natCast]
    obtain ⟨V, hV⟩ : ∃ V : Nat → Pl.Env → Prop, ∀ i ρ, V i ρ ↔ ∃ (rs : Rows) (s6 : Pl.Sl), rs.length = n ∧ Vd rs i ∧ ρ = [.pool, .fz (.int (1050 + r)), .fz (.int tn), .fz (.int (2 + fr)), .fz (.int dr), .own (.lls (rs.map fun r => r.map stD)), s6] := ⟨_, fun _ _ => Iff.rfl⟩
    refine lpR V ((hV _ _).mpr ⟨rs, _, hl, hv, rfl⟩) ?_ ?_
    · intro i ρ hi hw
      rw [hV] at hw
      obtain ⟨rs, s6, hl, hv, rfl⟩ := hw
      rw [hVd] at hv
      walk_at "pw"
      refine pifd (fun h => ?_) (fun h => ?_)
      · have hil : i < rs.length := by omega
        obtain ⟨rw0, hrw⟩ : ∃ r0, rs[i]? = some r0 := ⟨_, List.getElem?_eq_getElem hil⟩
        have hv0 := hv i rw0 hrw
        rw [if_neg (Nat.lt_irrefl i)] at hv0
        have hvl := hv0.1
        refine ⟨i, by unfold ixN; rw [if_pos (by omega), if_pos (by rw [List.length_map]; omega)]; rfl, rw0.map stD, by rw [List.getElem?_map, hrw]; rfl, by rw [List.length_map]; omega, ?_⟩
        rw [hff, show ((i : Int) + (ff : Int)) = ((i + ff : Nat) : Int) from rfl]
        refine (hV _ _).mpr ⟨rs.set i (rw0 ++ [(dr, i + ff)]), .fz (.int (i : Int)), by rw [List.length_set]; exact hl, (hVd _ _).mpr fun k r hk => ?_, ?_⟩
        · by_cases e : i = k
          · subst e
            rw [List.getElem?_set_self hil] at hk
            cases hk
            refine ⟨?_, fun s ms => ?_⟩
            · rw [if_pos (Nat.lt_succ_self i), List.length_append, List.length_singleton]
              omega
            · rcases List.mem_append.mp ms with ms | ms
              · exact hv0.2 s ms
              · rw [List.mem_singleton.mp ms]
                refine ⟨dr0, by show i < i + ff; omega, by show i + ff < n + 1; omega⟩
          · rw [List.getElem?_set_ne e] at hk
            refine ⟨Nat.le_trans (hv k r hk).1 ?_, (hv k r hk).2⟩
            split <;> split <;> omega
        · rw [hff, List.map_set]
          simp only [List.map_append]
          rfl
      · refine (hV _ _).mpr ⟨rs, _, hl, (hVd _ _).mpr fun k r h => ⟨Nat.le_trans (hv k r h).1 ?_, (hv k r h).2⟩, rfl⟩
        split <;> split <;> omega
    · intro ρ hw
      rw [hV] at hw
      obtain ⟨rs, s6, hl, hv, rfl⟩ := hw
      rw [hVd] at hv
      walk_at "pw"
      refine ⟨by rw [List.length_map]; omega, ?_⟩
      have := hq (rs ++ [[]]) ⟨by simp, by rw [List.length_append, hl]; simp; omega, fun r mr => ?_, fun k r s hk ms => ?_⟩
      · rw [List.map_append] at this
        exact this
      · rcases List.mem_append.mp mr with mr | mr
        · obtain ⟨k, hk⟩ := List.getElem?_of_mem mr
          have := (hv k r hk).1
          split at this <;> omega
        · rw [List.mem_singleton.mp mr]; exact Nat.zero_le _
      · rw [List.length_append, hl, List.length_singleton]
        rcases Nat.lt_or_ge k rs.length with q | q
        · rw [List.getElem?_append_left q] at hk
          exact (hv k r hk).2 s ms
        · rw [List.getElem?_append_right q] at hk
          have m1 := List.mem_of_getElem? hk
          rw [List.mem_singleton.mp m1] at ms
          cases ms
theorem ok_law_row_table {f : Addr} {fd : FuncData} {C_TableTask : Addr} {C_Task : Addr} (F : Fun K "_law_row_table" "_law_row_table" s_law_row_table f fd) (T : Txt K mg C_TableTask C_Task) : FnOk P w K mg base CX0 (1) f fd ["rows"] (lift K (pRowTab)) := by
  refine F.ok sc_law_row_table (fun vs H Q E h => (lift_len (n := 1) (fun xs Q h => by obtain ⟨rs, rfl, _⟩ := h; rfl) h)) (fun cdv A outer s H vs Q E hr h => ?_)
  refine ⟨_, (pss_cons (ps_set (i := 1) sc_law_row_table.nd rfl (by first | exact Or.inl rfl | exact Or.inr rfl) pe_dnewK)
  (pss_cons (ps_dput (hu_of hr) (pv 1) pe_int (pe_callTy (c_listK (K := K) rfl) (by rfl) T.n_list (by decide +kernel) (pa_cons (pe_ix (ixU (K := K) rfl) (pv 0) pe_int (fun _ _ => rfl)) pa_nil)) rfl)
  (pss_cons (ps_for PassesOwn.never rfl (pi_range1 (by rfl) T.n_range (pa_cons (pe_callB (c_lenU (K := K) rfl) (by rfl) T.n_len (by decide +kernel) (pa_cons (pv 0) pa_nil)) pa_nil)) (pg_name (i := 2) sc_law_row_table.nd rfl (by first | exact Or.inl rfl | exact Or.inr rfl))
  (pss_one (ps_if (pt_cmp (pc_din (hu_of hr) (pv 2) (pv 1)))
  (pss_one (ps_for PassesOwn.never rfl (pi_any (K := K) rfl (pe_ix (ixU (K := K) rfl) (pv 0) (pv 2) (fun _ _ => rfl))) (pg_name (i := 3) sc_law_row_table.nd rfl (by first | exact Or.inl rfl | exact Or.inr rfl))
  (pss_one (ps_dput (hu_of hr) (pv 1) (pe_ix (ixU (K := K) rfl) (pv 3) pe_int (fun _ _ => rfl)) (pe_callTy (c_listK (K := K) rfl) (by rfl) T.n_list (by decide +kernel) (pa_cons (pe_ix (ixU (K := K) rfl) (pv 0) (pe_ix (ixU (K := K) rfl) (pv 3) pe_int (fun _ _ => rfl)) (fun _ _ => rfl)) pa_nil)) rfl))))
  pss_nil)))
  (pss_one (ps_ret (pv 1)))))), ?_⟩
  refine fn_run (N := ["rows", "table", "k", "step"]) h (s_seq (s_asg e_dnew)
  (s_seq (s_dset (e_cb Pl.c_list (a_cons (e_op r_ix (e_var 0) e_int) a_nil)) e_int)
  (s_seq (s_for (i_range1 (a_cons (e_cb Pl.c_len (a_cons (e_var 0) a_nil)) a_nil)) g_name
  (s_if (t_b (e_din (e_var 1) (e_var 2)))
  (s_for (i_any (e_op r_ix (e_var 0) (e_var 2))) g_name
  (s_dset (e_cb Pl.c_list (a_cons (e_op r_ix (e_var 0) (e_op r_ix (e_var 3) e_int)) a_nil)) (e_op r_ix (e_var 3) e_int)))
  s_next))
  (s_retV 1)))) ?_
  clear h
  intro xs Q' h
  obtain ⟨rs, rfl, hq⟩ := h
  refine startIs (ρ := [.fz (rowsD rs), .no, .no, .no]) rfl ?_
  obtain ⟨ok, hq⟩ := hq
  have hz := hsz
  have n9 := ok.n9
  have n0 := ok.n0
  unfold rowsD
  walk_at "pw"
  refine ⟨rowD (row rs 0), atRow n0, ?_⟩
  rw [rowD_eq]
  walk_at "pw"
  rw [List.length_map, Int.toNat_natCast]
  refine ⟨by omega, by omega, by omega, ?_⟩
  rw [show storeD [] (.inl 0) (D.lst ((row rs 0).map stD)) = tabD rs [0] from rfl]
  obtain ⟨V, hV⟩ : ∃ V : Nat → Pl.Env → Prop, ∀ i ρ, V i ρ ↔ ∃ (ks : List Nat) (s2 s3 : Pl.Sl), ks.Nodup ∧ (∀ k, k ∈ ks ↔ TI rs i k) ∧ ρ = [.fz (.lst (rs.map rowD)), .own (.dk (tabD rs ks)), s2, s3] := ⟨_, fun _ _ => Iff.rfl⟩
  refine lpR V ((hV _ _).mpr ⟨[0], _, _, by simp, fun k => ?_, rfl⟩) ?_ ?_
  · rw [List.mem_singleton]
    constructor
    · exact fun h => .inl h
    · rintro (h | ⟨j, s, h, _⟩)
      · exact h
      · exact absurd h (Nat.not_lt_zero _)
  · intro i ρ hi hv
    rw [hV] at hv
    obtain ⟨ks, s2, s3, nd, hk, rfl⟩ := hv
    have hki := (hk i).trans (TI_self ok (Nat.le_refl i))
    have klt : ∀ k, k ∈ ks → k < rs.length := fun k m => by
      rcases (hk k).mp m with rfl | ⟨j, s, _, r, m2, rfl⟩
      · exact n0
      · exact (ok.to (r.lt ok) m2).2.2
    walk_at "pw"
    rw [show atD (tabD rs ks) (.inl (i : Int)) = if i ∈ ks then some (rowD (row rs i)) else none from dictN_at]
    by_cases hm : i ∈ ks
    · rw [if_pos hm]
      refine pif_T rfl ?_
      have ri := hki.mp hm
      have rw40 := ok.rw hi
      refine ⟨_, atRow hi, ?_⟩
      rw [rowD_eq]
      walk_at "pw"
      obtain ⟨U, hU⟩ : ∃ U : Nat → Pl.Env → Prop, ∀ j ρ, U j ρ ↔ ∃ (ks : List Nat) (s3 : Pl.Sl), ks.Nodup ∧ (∀ k, k ∈ ks ↔ TI rs i k ∨ ∃ s, s ∈ (row rs i).take j ∧ s.2 = k) ∧ ρ = [.fz (.lst (rs.map rowD)), .own (.dk (tabD rs ks)), .fz (.int (i : Int)), s3] := ⟨_, fun _ _ => Iff.rfl⟩
      refine lpL U ((hU _ _).mpr ⟨ks, _, nd, fun k => by rw [hk k, List.take_zero]; simp, rfl⟩) ?_ ?_
      · intro j d ρ hj hu
        rw [hU] at hu
        obtain ⟨ks, s3, nd, hk, rfl⟩ := hu
        obtain ⟨s, hs0, rfl⟩ := get_mapE hj
        have ms := List.mem_of_getElem? hs0
        have z := ok.to hi ms
        have klen : ks.length ≤ rs.length := nodup_len nd fun k m => by
          rcases (hk k).mp m with h | ⟨t, mt, rfl⟩
          · rcases h with rfl | ⟨j, s, _, r, m2, rfl⟩
            · exact n0
            · exact (ok.to (r.lt ok) m2).2.2
          · exact (ok.to hi (List.mem_of_mem_take mt)).2.2
        unfold stD nD
        walk_at "pw"
        refine ⟨_, atRow z.2.2, ?_⟩
        rw [rowD_eq]
        walk_at "pw"
        refine ⟨by unfold tabD; rw [dictN_len]; omega, ?_⟩
        rw [← rowD_eq, tabD_put]
        refine (hU _ _).mpr ⟨_, _, ?_, fun k => ?_, rfl⟩
        · split
          · exact nd
          · rename_i hn
            rw [List.nodup_append]
            refine ⟨nd, by simp, fun x mx y my e => ?_⟩
            rw [List.mem_singleton.mp my] at e
            exact hn (e ▸ mx)
        · have e1 : (k ∈ if s.2 ∈ ks then ks else ks ++ [s.2]) ↔ k ∈ ks ∨ k = s.2 := by
            split
            · rename_i hm
              exact ⟨.inl, fun h => h.elim id fun e => e ▸ hm⟩
            · rw [List.mem_append, List.mem_singleton]
          rw [e1, hk k, take_snocA hs0]
          simp only [List.mem_append, List.mem_singleton]
          constructor
          · rintro ((h | ⟨t, mt, e⟩) | rfl)
            · exact .inl h
            · exact .inr ⟨t, .inl mt, e⟩
            · exact .inr ⟨s, .inr rfl, rfl⟩
          · rintro (h | ⟨t, mt | rfl, e⟩)
            · exact .inl (.inl h)
            · exact .inl (.inr ⟨t, mt, e⟩)
            · exact .inr e.symm
      · intro ρ hu
        rw [hU] at hu
        obtain ⟨ks, s3, nd, hk, rfl⟩ := hu
        rw [List.length_map, List.take_length] at hk
        refine (hV _ _).mpr ⟨ks, _, _, nd, fun k => ?_, rfl⟩
        rw [hk k, TI_succ]
        exact ⟨fun h => h.imp id fun h => ⟨ri, h⟩, fun h => h.imp id fun h => h.2⟩
    · rw [if_neg hm]
      refine pif_F rfl ?_
      refine (hV _ _).mpr ⟨ks, _, _, nd, fun k => ?_, rfl⟩
      rw [hk k, TI_succ]
      exact ⟨.inl, fun h => h.elim id fun h => absurd (hki.mpr h.1) hm⟩
  · intro ρ hv
    rw [hV] at hv
    obtain ⟨ks, s2, s3, nd, hk, rfl⟩ := hv
    walk_at "pw"
    refine hq ks nd fun k => ?_
    rw [hk k]
    constructor
    · rintro (rfl | ⟨j, s, _, r, m, rfl⟩)
      · exact .zero
      · exact .step r (r.lt ok) m
    · intro r
      exact (TI_self (i := rs.length) ok (Nat.le_of_lt (r.lt ok))).mpr r
theorem ok_law_togo {f : Addr} {fd : FuncData} {C_TableTask : Addr} {C_Task : Addr} (F : Fun K "_law_togo" "_law_togo" s_law_togo f fd) (T : Txt K mg C_TableTask C_Task) : FnOk P w K mg base CX0 (1) f fd ["table", "end"] (lift K (pLTogo)) := by
  refine F.ok sc_law_togo (fun vs H Q E h => (lift_len (n := 2) (fun xs Q h => by obtain ⟨rs, ks, rfl, _⟩ := h; rfl) h)) (fun cdv A outer s H vs Q E hr h => ?_)
  refine ⟨_, (pss_cons (ps_set (i := 2) sc_law_togo.nd rfl (by first | exact Or.inl rfl | exact Or.inr rfl) pe_dnewK)
  (pss_cons (ps_for PassesOwn.never rfl (pi_any (K := K) rfl (pe_callBK (L2.cr_sortedDRev rfl (b := true)) (by rfl) T.n_sorted (by decide +kernel) (pa_cons (pv 0) pa_nil) (pk_cons pe_bl pk_nil))) (pg_name (i := 3) sc_law_togo.nd rfl (by first | exact Or.inl rfl | exact Or.inr rfl))
  (pss_cons (ps_set (i := 4) sc_law_togo.nd rfl (by first | exact Or.inl rfl | exact Or.inr rfl) pe_non)
  (pss_cons (ps_if (pt_cmpR (op_eqU (K := K) rfl hr.units) (pv 3) (pv 1) (nomark _))
  (pss_one (ps_set (i := 4) sc_law_togo.nd rfl (by first | exact Or.inl rfl | exact Or.inr rfl) pe_int))
  pss_nil)
  (pss_cons (ps_for PassesOwn.never rfl (pi_any (K := K) rfl (pe_dget (hu_of hr) (pv 0) (pv 3) (fun _ _ => rfl))) (pg_name (i := 5) sc_law_togo.nd rfl (by first | exact Or.inl rfl | exact Or.inr rfl))
  (pss_cons (ps_set (i := 6) sc_law_togo.nd rfl (by first | exact Or.inl rfl | exact Or.inr rfl) (pe_dget (hu_of hr) (pv 2) (pe_ix (ixU (K := K) rfl) (pv 5) pe_int (fun _ _ => rfl)) (fun _ _ => rfl)))
  (pss_one (ps_if (PW.pt (pw_and (pt_cmpR o_notN (pv 6) pe_non (nomark _)) (pw_and1 (PW.pt (pw_or (pt_cmpR o_isN (pv 4) pe_non (nomark _)) (pw_or1 (pt_cmpR op_lt (pe_op (op_addU (K := K) rfl) (pe_ix (ixU (K := K) rfl) (pv 5) pe_int (fun _ _ => rfl)) (pv 6)) (pv 4) (nomark _))))))))
  (pss_one (ps_set (i := 4) sc_law_togo.nd rfl (by first | exact Or.inl rfl | exact Or.inr rfl) (pe_op (op_addU (K := K) rfl) (pe_ix (ixU (K := K) rfl) (pv 5) pe_int (fun _ _ => rfl)) (pv 6))))
  pss_nil))))
  (pss_one (ps_dput (hu_of hr) (pv 2) (pv 3) (pv 4) rfl))))))
  (pss_one (ps_ret (pv 2))))), ?_⟩
  refine fn_run (N := ["table", "end", "numbers", "state", "best", "step", "after"]) h (s_seq (s_asg e_dnew)
  (s_seq (s_for (i_any (e_sortR (a_cons (e_var 0) a_nil))) g_name
  (s_seq (s_asg e_non)
  (s_seq (s_if (t_test (e_op r_eq (e_var 3) (e_var 1)))
  (s_asg e_int)
  s_next)
  (s_seq (s_for (i_any (e_dget (e_var 0) (e_var 3))) g_name
  (s_seq (s_asg (e_dget (e_var 2) (e_op r_ix (e_var 5) e_int)))
  (s_if (t_and (t_test (e_op r_notN (e_var 6) e_non)) (t_or (t_test (e_op r_isN (e_var 4) e_non)) (t_test (e_op r_lt (e_op r_add (e_op r_ix (e_var 5) e_int) (e_var 6)) (e_var 4)))))
  (s_asg (e_op r_add (e_op r_ix (e_var 5) e_int) (e_var 6)))
  s_next)))
  (s_dset (e_var 4) (e_var 3))))))
  (s_retV 2))) ?_
  clear h
  intro xs Q' h
  obtain ⟨rs, ks, rfl, hq⟩ := h
  refine startIs (ρ := [.bor (.dk (tabD rs ks)), .fz (.int ((rs.length : Int) - 1)), .no, .no, .no, .no, .no]) rfl ?_
  obtain ⟨ok, nd, hm, hq⟩ := hq
  have hz := hsz
  have n9 := ok.n9
  have rl := reach_len rs
  have pk : ks.Perm (reachL rs) := perm_of nd (asc_nodup (reach_asc rs)) fun k => (hm k).trans (mem_reach ok).symm
  walk_at "pw"
  refine ⟨ks.map fun k : Nat => (k : Int), dictN_keys, fun ms hp ho => ?_⟩
  rw [sort_desc (reach_asc rs) (hp.trans (pk.map _)) ho, ← natsD_i]
  obtain ⟨l, hl⟩ : ∃ l, l = (reachL rs).reverse := ⟨_, rfl⟩
  have hlen : l.length = (reachL rs).length := by rw [hl, List.length_reverse]
  have hdesc : l.Pairwise (· > ·) := by rw [hl]; exact rev_desc rs
  have hmem : ∀ k, k ∈ l ↔ Rch rs k := fun k => by rw [hl, List.mem_reverse]; exact mem_reach ok
  unfold numsK at hq
  rw [← hl] at hq ⊢
  obtain ⟨V, hV⟩ : ∃ V : Nat → Pl.Env → Prop, ∀ i ρ, V i ρ ↔ ∃ (s3 s4 s5 s6 : Pl.Sl), ρ = [.bor (.dk (tabD rs ks)), .fz (.int ((rs.length : Int) - 1)), .own (.dk (dictN (fun k => numD (best rs k)) (l.take i))), s3, s4, s5, s6] := ⟨_, fun _ _ => Iff.rfl⟩
  refine lpL V ((hV _ _).mpr ⟨_, _, _, _, rfl⟩) ?_ ?_
  · intro i d ρ hi hv
    rw [hV] at hv
    obtain ⟨s3, s4, s5, s6, rfl⟩ := hv
    obtain ⟨k, hk, rfl⟩ := natsD_get hi
    have rk := (hmem k).mp (List.mem_of_getElem? hk)
    have kl := rk.lt ok
    have til : (l.take i).length ≤ 1200 := Nat.le_trans (List.length_take_le' _ _) (by omega)
    have put : storeD (dictN (fun k => numD (best rs k)) (l.take i)) (.inl (k : Int)) (numD (best rs k)) = dictN (fun k => numD (best rs k)) (l.take (i + 1)) := by
      have := dictN_put (g := fun k => numD (best rs k)) (ks := l.take i) (k := k)
      rw [if_neg (desc_not hdesc hk)] at this
      rw [take_snoc hk]
      exact this
    have inner : ∀ a0 : Option (Int × Nat), (((row rs k).foldl (ls (best rs)) a0).map (·.1) = best rs k) → ∀ s5 s6 : Pl.Sl, mLoop ((row rs k).map stD) (mGN 5)
        (mSeq (mAsg (mDGet (mVar 2) (mOp pIx (mVar 5) (mC (D.int 1)))) 6)
          (mIfS
            (mAnd (mTst (mOp pNotN (mVar 6) (mC D.non)))
              (mOr (mTst (mOp pIsN (mVar 4) (mC D.non)))
                (mTst (mOp pLt (mOp pAdd (mOp pIx (mVar 5) (mC (D.int 0))) (mVar 6)) (mVar 4)))))
            (mAsg (mOp pAdd (mOp pIx (mVar 5) (mC (D.int 0))) (mVar 6)) 4) mNext))
        { nx := mDSet 2 (mVar 3) (mVar 4) { nx := V (i + 1), rt := (Pd.out Q').rt, bk := mRetV 2 (Pd.out Q'), ct := V (i + 1) }, rt := (Pd.out Q').rt, bk := mRetV 2 (Pd.out Q'), ct := V (i + 1) }
        [.bor (.dk (tabD rs ks)), .fz (.int ((rs.length : Int) - 1)), .own (.dk (dictN (fun k => numD (best rs k)) (l.take i))), .fz (.int (k : Int)), .fz (numD (a0.map (·.1))), s5, s6] := by
      intro a0 ha0 s5 s6
      obtain ⟨U, hU⟩ : ∃ U : Nat → Pl.Env → Prop, ∀ j ρ, U j ρ ↔ ∃ (acc : Option (Int × Nat)) (s5 s6 : Pl.Sl), acc = ((row rs k).take j).foldl (ls (best rs)) a0 ∧ ρ = [.bor (.dk (tabD rs ks)), .fz (.int ((rs.length : Int) - 1)), .own (.dk (dictN (fun k => numD (best rs k)) (l.take i))), .fz (.int (k : Int)), .fz (numD (acc.map (·.1))), s5, s6] := ⟨_, fun _ _ => Iff.rfl⟩
      refine lpL U ((hU _ _).mpr ⟨_, _, _, rfl, rfl⟩) ?_ ?_
      · intro j d ρ hj hu
        rw [hU] at hu
        obtain ⟨acc, s5, s6, ha, rfl⟩ := hu
        obtain ⟨s, hs0, rfl⟩ := get_mapE hj
        have ms := List.mem_of_getElem? hs0
        have at1 : atD (dictN (fun k => numD (best rs k)) (l.take i)) (.inl (s.2 : Int)) = some (numD (best rs s.2)) := by
          rw [dictN_at, if_pos]
          exact desc_mem hdesc hk ((hmem _).mpr (.step rk kl ms)) (ok.to kl ms).2.1
        have ht : ((row rs k).take (j + 1)).foldl (ls (best rs)) a0 = ls (best rs) acc s := by rw [take_snocA hs0, List.foldl_append, ← ha]; rfl
        unfold stD nD
        walk_at "pw"
        refine ⟨_, at1, ?_⟩
        cases e : best rs s.2 with
        | none =>
          rw [show numD none = D.non from rfl]
          walk_at "pw"
          exact (hU _ _).mpr ⟨acc, _, _, by rw [ht]; unfold ls; rw [e], rfl⟩
        | some b =>
          rw [show numD (some b) = D.int b from rfl]
          cases acc with
          | none =>
            rw [show numD (Option.map (·.1) (none : Option (Int × Nat))) = D.non from rfl]
            walk_at "pw"
            exact (hU _ _).mpr ⟨some (s.1 + b, s.2), _, _, by rw [ht]; unfold ls; rw [e], rfl⟩
          | some p =>
            rw [show numD (Option.map (·.1) (some p)) = D.int p.1 from rfl]
            walk_at "pw"
            refine pifd (fun h => ?_) (fun h => ?_)
            · exact (hU _ _).mpr ⟨some (s.1 + b, s.2), _, _, by rw [ht]; unfold ls; rw [e]; dsimp only; rw [if_pos h], rfl⟩
            · exact (hU _ _).mpr ⟨some p, _, _, by rw [ht]; unfold ls; rw [e]; dsimp only; rw [if_neg h], rfl⟩
      · intro ρ hu
        rw [hU] at hu
        obtain ⟨acc, s5, s6, ha, rfl⟩ := hu
        rw [List.length_map, List.take_length] at ha
        rw [← ha] at ha0
        rw [ha0]
        walk_at "pw"
        refine ⟨by rw [dictN_len]; omega, ?_⟩
        rw [put]
        exact (hV _ _).mpr ⟨_, _, _, _, rfl⟩
    unfold nD
    walk_at "pw"
    refine pifd (fun h => ?_) (fun h => ?_)
    · refine ⟨_, tabD_at ((hm k).mpr rk), ?_⟩
      rw [rowD_eq]
      walk_at "pw"
      refine inner (some (0, 0)) ?_ _ _
      rw [ok.last (k := k) (by omega), best_end ok (k := k) (by omega)]
      rfl
    · refine ⟨_, tabD_at ((hm k).mpr rk), ?_⟩
      rw [rowD_eq]
      walk_at "pw"
      exact inner none (best_row ok kl (by omega)).symm _ _
  · intro ρ hv
    rw [hV] at hv
    obtain ⟨s3, s4, s5, s6, rfl⟩ := hv
    rw [natsD_len, List.take_length]
    walk_at "pw"
    exact hq
end
end K27
namespace K27
open PySem L2 Wp Pl Wy

/-- walks with their costs -/
inductive Wk (rs : Rows) : Nat → Int → Nat → Prop
  | nil {k : Nat} : Wk rs k 0 k
  | cons {k e : Nat} {s : Wy.Step} {c : Int} : k < rs.length → s ∈ row rs k → Wk rs s.2 c e → Wk rs k (s.1 + c) e
theorem Wk.snoc {rs : Rows} {k e : Nat} {c : Int} {s : Wy.Step} (h : Wk rs k c e) (hl : e < rs.length) (m : s ∈ row rs e) : Wk rs k (c + s.1) s.2 := by
  induction h with
  | nil =>
    have := Wk.cons hl m (.nil (rs := rs) (k := s.2))
    rw [show (0 : Int) + s.1 = s.1 + 0 by omega]
    exact this
  | cons h1 h2 _ ih =>
    rw [Int.add_assoc]
    exact .cons h1 h2 (ih hl m)
theorem Wk.best {rs : Rows} (ok : Ok rs) {k e : Nat} {c : Int} (h : Wk rs k c e) (he : e + 1 = rs.length) : ∃ b, Wy.best rs k = some b ∧ b ≤ c := by
  induction h with
  | nil => exact ⟨0, best_end ok he, Int.le_refl _⟩
  | @cons k e s c hl ms _ ih =>
    obtain ⟨b, hb, hle⟩ := ih he
    have ke : k + 1 ≠ rs.length := fun e => by rw [ok.last e] at ms; cases ms
    rw [best_row ok hl ke]
    cases e : lsR (Wy.best rs) (row rs k) with
    | none =>
      rw [(ls_none.mp e).2 s ms] at hb
      cases hb
    | some p =>
      obtain ⟨l, a⟩ := p
      obtain ⟨p, t, q, bt, hr, h1, h2, h3, h4, h5⟩ := ls_some e
      refine ⟨l, rfl, ?_⟩
      rw [hr] at ms
      rcases List.mem_append.mp ms with m | m
      · have := h4 s b m hb; omega
      · rcases List.mem_cons.mp m with rfl | m
        · rw [h1] at hb; cases hb; omega
        · have := h5 s b m hb; omega
theorem best_walk {rs : Rows} (ok : Ok rs) : ∀ (f k : Nat), k < rs.length → rs.length - k ≤ f → ∀ b, Wy.best rs k = some b → Wk rs k b (rs.length - 1) := by
  intro f
  induction f with
  | zero => intro k h1 h2; omega
  | succ f ih =>
    intro k hl hf b hb
    by_cases ke : k + 1 = rs.length
    · rw [best_end ok ke] at hb
      cases hb
      rw [show rs.length - 1 = k by omega]
      exact .nil
    · rw [best_row ok hl ke] at hb
      cases e : lsR (Wy.best rs) (row rs k) with
      | none => rw [e] at hb; cases hb
      | some p =>
        obtain ⟨l, a⟩ := p
        rw [e] at hb
        obtain rfl : l = b := by cases hb; rfl
        obtain ⟨p, t, q, bt, hr, h1, h2, h3, h4, h5⟩ := ls_some e
        have mt : t ∈ row rs k := by rw [hr]; simp
        have z := ok.to hl mt
        rw [← h2]
        exact .cons hl mt (ih t.2 z.2.2 (by omega) bt h1)
/-- a beginning of a way: its states, and the sums up to them -/
structure Bg where
  ps : List (Nat × Int)
  e : Nat
  c : Int
def Bg.all (x : Bg) : List (Nat × Int) := x.ps ++ [(x.e, x.c)]
def bD (x : Bg) : D := .lst [.lst (x.all.map fun p => nD p.1), .lst (x.all.map fun p => .int p.2)]
inductive Pt (rs : Rows) : Bg → Prop
  | nil : Pt rs ⟨[], 0, 0⟩
  | snoc {x : Bg} {s : Wy.Step} : Pt rs x → x.e < rs.length → s ∈ row rs x.e → Pt rs ⟨x.all, s.2, x.c + s.1⟩
theorem Pt.rch {rs : Rows} {x : Bg} (h : Pt rs x) : Rch rs x.e := by
  induction h with
  | nil => exact .zero
  | snoc _ hl hs ih => exact .step ih hl hs
theorem Pt.len {rs : Rows} (ok : Ok rs) {x : Bg} (h : Pt rs x) : x.ps.length ≤ x.e := by
  induction h with
  | nil => exact Nat.le_refl _
  | @snoc x s _ hl hs ih =>
    have := (ok.to hl hs).2.1
    show x.all.length ≤ s.2
    unfold Bg.all
    rw [List.length_append, List.length_singleton]
    omega
theorem Pt.wk {rs : Rows} {x : Bg} (h : Pt rs x) : ∀ p, p ∈ x.all → Rch rs p.1 ∧ Wk rs p.1 (x.c - p.2) x.e := by
  induction h with
  | nil =>
    intro p m
    rw [show Bg.all ⟨[], 0, 0⟩ = [(0, 0)] from rfl, List.mem_singleton] at m
    subst m
    exact ⟨.zero, .nil⟩
  | @snoc x s _ hl hs ih =>
    intro p m
    unfold Bg.all at m
    rcases List.mem_append.mp m with m | m
    · obtain ⟨h1, h2⟩ := ih p m
      refine ⟨h1, ?_⟩
      show Wk rs p.1 (x.c + s.1 - p.2) s.2
      rw [show x.c + s.1 - p.2 = x.c - p.2 + s.1 by omega]
      exact h2.snoc hl hs
    · rw [List.mem_singleton.mp m]
      have hp : Rch rs x.e := (ih (x.e, x.c) (List.mem_append_right _ (List.mem_singleton.mpr rfl))).1
      refine ⟨.step hp hl hs, ?_⟩
      show Wk rs s.2 (x.c + s.1 - (x.c + s.1)) s.2
      rw [Int.sub_self]
      exact .nil
theorem rch_pt {rs : Rows} {k : Nat} (h : Rch rs k) : ∃ x, Pt rs x ∧ x.e = k := by
  induction h with
  | zero => exact ⟨_, .nil, rfl⟩
  | step _ hl hs ih =>
    obtain ⟨x, hx, rfl⟩ := ih
    exact ⟨_, hx.snoc hl hs, rfl⟩
theorem ext_pt {rs : Rows} {k e : Nat} {c : Int} (h : Wk rs k c e) : ∀ {x : Bg}, Pt rs x → x.e = k → ∃ y, Pt rs y ∧ y.e = e ∧ y.c = x.c + c ∧ ∀ p, p ∈ x.all → p ∈ y.all := by
  induction h with
  | nil => intro x hx e; exact ⟨x, hx, e, by omega, fun p m => m⟩
  | cons hl hs _ ih =>
    intro x hx e
    subst e
    obtain ⟨y, h1, h2, h3, h4⟩ := ih (hx.snoc hl hs) rfl
    refine ⟨y, h1, h2, by rw [h3]; show x.c + _ + _ = _; omega, fun p m => h4 p (List.mem_append_left _ m)⟩
theorem atD_store {gs : List (Key × D)} {k k' : Key} {d : D} : atD (storeD gs k d) k' = if k' = k then some d else atD gs k' := by
  unfold storeD
  by_cases h : (gs.any fun kv => decide (kv.1 = k)) = true
  · rw [if_pos h]
    induction gs with
    | nil => cases h
    | cons x xs ih =>
      rw [List.map_cons]
      unfold atD at *
      rw [List.find?_cons, List.find?_cons]
      by_cases e : x.1 = k
      · rw [if_pos e]
        by_cases e2 : k' = k
        · subst e2; simp [e]
        · have e3 : ¬ x.1 = k' := fun z => e2 (z.symm.trans e)
          simp only [e3, decide_false, e2, if_false]
          by_cases h2 : (xs.any fun kv => decide (kv.1 = k)) = true
          · have := ih h2
            rw [if_neg e2] at this
            exact this
          · have hm : xs.map (fun kv => if kv.1 = k then (kv.1, d) else kv) = xs := by
              rw [List.map_congr_left (g := id)]
              · exact List.map_id xs
              · intro y my
                rw [if_neg]
                · rfl
                · exact fun z => h2 (List.any_eq_true.mpr ⟨y, my, decide_eq_true z⟩)
            rw [hm]
      · rw [if_neg e]
        have h2 : (xs.any fun kv => decide (kv.1 = k)) = true := by
          rw [List.any_cons] at h
          simpa [e] using h
        by_cases e3 : x.1 = k'
        · have e2 : ¬ k' = k := fun z => e (e3.trans z)
          simp [e3, e2]
        · simp only [e3, decide_false]
          exact ih h2
  · rw [if_neg h]
    unfold atD
    rw [List.find?_append]
    by_cases e : k' = k
    · subst e
      have : gs.find? (fun kv => decide (kv.1 = k')) = none := by
        rw [List.find?_eq_none]
        intro y my z
        exact h (List.any_eq_true.mpr ⟨y, my, z⟩)
      rw [this, if_pos rfl]
      simp
    · rw [if_neg e]
      have : ([(k, d)] : List (Key × D)).find? (fun kv => decide (kv.1 = k')) = none := by
        rw [List.find?_eq_none]
        intro y my z
        rw [List.mem_singleton.mp my] at z
        exact e (of_decide_eq_true z).symm
      rw [this]
      simp
theorem store_len {gs : List (Key × D)} {k : Key} {d : D} : (storeD gs k d).length ≤ gs.length + 1 := by
  unfold storeD
  split
  · rw [List.length_map]; omega
  · rw [List.length_append]; simp
/-- what the dict says: of all complete beginnings in es (those of index below i) the least rest -/
structure Ls (rs : Rows) (gs : List (Key × D)) (T : Nat → Int → Prop) : Prop where
  a : ∀ (k : Nat) d, atD gs (.inl (k : Int)) = some d → ∃ v, d = .int v ∧ T k v
  b : ∀ (k : Nat) v, T k v → ∃ w, atD gs (.inl (k : Int)) = some (.int w) ∧ w ≤ v
theorem Ls.fin {rs : Rows} (ok : Ok rs) {gs : List (Key × D)} {T : Nat → Int → Prop} (h : Ls rs gs T) (h1 : ∀ k v, T k v → Wk rs k v (rs.length - 1)) (h2 : ∀ k b, Rch rs k → best rs k = some b → T k b) {k : Nat} (rk : Rch rs k) : (atD gs (.inl (k : Int))).getD .non = numD (best rs k) := by
  have n0 := ok.n0
  cases eb : best rs k with
  | none =>
    cases e : atD gs (.inl (k : Int)) with
    | none => rfl
    | some d =>
      obtain ⟨v, _, t⟩ := h.a k d e
      obtain ⟨b, hb, _⟩ := (h1 k v t).best ok (by omega)
      rw [eb] at hb
      cases hb
  | some b =>
    obtain ⟨w, hw, hle⟩ := h.b k b (h2 k b rk eb)
    obtain ⟨v, e, t⟩ := h.a k _ hw
    cases e
    obtain ⟨b', hb, hle2⟩ := (h1 k w t).best ok (by omega)
    rw [eb] at hb
    cases hb
    have : w = b := by omega
    rw [hw, this]
    rfl
/-- one more pair -/
theorem Ls.add {rs : Rows} {gs : List (Key × D)} {T : Nat → Int → Prop} (h : Ls rs gs T) {k : Nat} {v : Int} : 
    (atD gs (.inl (k : Int)) = none → Ls rs (storeD gs (.inl (k : Int)) (.int v)) fun k' v' => T k' v' ∨ (k' = k ∧ v' = v)) ∧
    ∀ w, atD gs (.inl (k : Int)) = some (.int w) → (v < w → Ls rs (storeD gs (.inl (k : Int)) (.int v)) fun k' v' => T k' v' ∨ (k' = k ∧ v' = v)) ∧ (¬ v < w → Ls rs gs fun k' v' => T k' v' ∨ (k' = k ∧ v' = v)) := by
  have key : (∀ w, atD gs (.inl (k : Int)) = some (.int w) → v < w) → Ls rs (storeD gs (.inl (k : Int)) (.int v)) fun k' v' => T k' v' ∨ (k' = k ∧ v' = v) := fun hw => by
    refine ⟨fun k' d e => ?_, fun k' v' t => ?_⟩
    · rw [atD_store] at e
      by_cases ek : k' = k
      · subst ek
        rw [if_pos rfl] at e
        cases e
        exact ⟨v, rfl, .inr ⟨rfl, rfl⟩⟩
      · rw [if_neg (by intro z; exact ek (by have := Sum.inl.inj z; omega))] at e
        obtain ⟨u, e1, t⟩ := h.a k' d e
        exact ⟨u, e1, .inl t⟩
    · rw [atD_store]
      by_cases ek : k' = k
      · subst ek
        rw [if_pos rfl]
        refine ⟨v, rfl, ?_⟩
        rcases t with t | ⟨_, rfl⟩
        · obtain ⟨w, e, hle⟩ := h.b k' v' t
          have := hw w e
          omega
        · exact Int.le_refl _
      · rw [if_neg (by intro z; exact ek (by have := Sum.inl.inj z; omega))]
        rcases t with t | ⟨rfl, _⟩
        · exact h.b k' v' t
        · exact absurd rfl ek
  refine ⟨fun e => key (fun w z => by rw [e] at z; cases z), fun w e => ⟨fun hv => key (fun w' z => by rw [e] at z; cases z; exact hv), fun hv => ⟨fun k' d e' => ?_, fun k' v' t => ?_⟩⟩⟩
  · obtain ⟨u, e1, t⟩ := h.a k' d e'
    exact ⟨u, e1, .inl t⟩
  · rcases t with t | ⟨rfl, rfl⟩
    · exact h.b k' v' t
    · exact ⟨w, e, by omega⟩
theorem Ls.congr {rs : Rows} {gs : List (Key × D)} {T T' : Nat → Int → Prop} (h : Ls rs gs T) (e : ∀ k v, T k v ↔ T' k v) : Ls rs gs T' := ⟨fun k d z => by
  obtain ⟨v, e1, t⟩ := h.a k d z
  exact ⟨v, e1, (e k v).mp t⟩, fun k v t => h.b k v ((e k v).mpr t)⟩
def Tc (rs : Rows) (es : List Bg) (i k : Nat) (v : Int) : Prop := ∃ (j : Nat) (x : Bg) (ck : Int), j < i ∧ es[j]? = some x ∧ x.e + 1 = rs.length ∧ (k, ck) ∈ x.all ∧ v = x.c - ck
def Cl (rs : Rows) (es : List Bg) (i : Nat) : Prop := ∀ (j : Nat) (x : Bg), j < i → es[j]? = some x → x.e + 1 ≠ rs.length → ∀ s, s ∈ row rs x.e → (⟨x.all, s.2, x.c + s.1⟩ : Bg) ∈ es
theorem Cl.all {rs : Rows} (ok : Ok rs) {es : List Bg} (h : Cl rs es es.length) (h0 : ⟨[], 0, 0⟩ ∈ es) {x : Bg} (hx : Pt rs x) : x ∈ es := by
  induction hx with
  | nil => exact h0
  | @snoc x s _ hl hs ih =>
    obtain ⟨j, hj⟩ := List.mem_iff_getElem?.mp ih
    exact h j x (List.getElem?_eq_some_iff.mp hj).1 hj (fun e => by rw [ok.last e] at hs; cases hs) s hs
theorem Tc.fin {rs : Rows} (ok : Ok rs) {es : List Bg} {gs : List (Key × D)} (h : Cl rs es es.length) (h0 : ⟨[], 0, 0⟩ ∈ es) (hp : ∀ x, x ∈ es → Pt rs x) (hl : Ls rs gs (Tc rs es es.length)) {k : Nat} (rk : Rch rs k) : (atD gs (.inl (k : Int))).getD .non = numD (best rs k) := by
  refine hl.fin ok (fun k v t => ?_) (fun k b rk eb => ?_) rk
  · obtain ⟨j, x, ck, hj, hx, xe, m, rfl⟩ := t
    rw [show rs.length - 1 = x.e by omega]
    exact ((hp x (List.mem_of_getElem? hx)).wk _ m).2
  · obtain ⟨x, px, rfl⟩ := rch_pt rk
    obtain ⟨y, py, ye, yc, ys⟩ := ext_pt (best_walk ok rs.length x.e (rk.lt ok) (by omega) b eb) px rfl
    obtain ⟨j, hj⟩ := List.mem_iff_getElem?.mp (h.all ok h0 py)
    have n0 := ok.n0
    exact ⟨j, y, x.c, (List.getElem?_eq_some_iff.mp hj).1, hj, by omega, ys _ (List.mem_append_right _ (List.mem_singleton.mpr rfl)), by omega⟩
def statD (x : Bg) : List D := x.all.map fun p => nD p.1
def sumD (x : Bg) : List D := x.all.map fun p => .int p.2
theorem statD_last {x : Bg} : atI (statD x) (-1) = some (nD x.e) := by
  unfold statD Bg.all
  rw [List.map_append]
  exact at_last
theorem sumD_last {x : Bg} : atI (sumD x) (-1) = some (.int x.c) := by
  unfold sumD Bg.all
  rw [List.map_append]
  exact at_last
theorem statD_len {x : Bg} : (statD x).length = x.ps.length + 1 := by unfold statD Bg.all; simp
theorem sumD_len {x : Bg} : (sumD x).length = x.ps.length + 1 := by unfold sumD Bg.all; simp
def pTails (xs : List X) (Q : X → Prop) : Prop := ∃ (rs : Rows) (ks : List Nat), xs = [.b (.dk (tabD rs ks)), .f (.int ((rs.length : Int) - 1)), .f (.int 2000)] ∧ Ok rs ∧ ks.Nodup ∧ (∀ k, k ∈ ks ↔ Rch rs k) ∧ Q (.f .non) ∧ ∀ gs : List (Key × D), (∀ k, Rch rs k → (atD gs (.inl (k : Int))).getD .non = numD (best rs k)) → Q (.o (.dk gs))
section
variable {P : Program} {w : World} {K : PySem.W.Frag} {mg : Str → Option Value} {base : Heap}
theorem ok_law_tails {f : Addr} {fd : FuncData} {C_TableTask : Addr} {C_Task : Addr} (F : Fun K "_law_tails" "_law_tails" s_law_tails f fd) (T : Txt K mg C_TableTask C_Task) : FnOk P w K mg base CX0 (1) f fd ["table", "end", "most"] (lift K (pTails)) := by
  refine F.ok sc_law_tails (fun vs H Q E h => (lift_len (n := 3) (fun xs Q h => by obtain ⟨rs, ks, rfl, _⟩ := h; rfl) h)) (fun cdv A outer s H vs Q E hr h => ?_)
  refine ⟨_, (pss_cons (ps_set (i := 3) sc_law_tails.nd rfl (by first | exact Or.inl rfl | exact Or.inr rfl) pe_dnewK)
  (pss_cons (ps_set (i := 4) sc_law_tails.nd rfl (by first | exact Or.inl rfl | exact Or.inr rfl) (pe_lst (pa_cons (pe_lst (pa_cons (pe_lst (pa_cons pe_int pa_nil)) (pa_cons (pe_lst (pa_cons pe_int pa_nil)) pa_nil))) pa_nil)))
  (pss_cons (ps_for PassesOwn.never rfl (pi_range1 (by rfl) T.n_range (pa_cons (pe_op (op_addU (K := K) rfl) (pv 2) pe_int) pa_nil)) (pg_name (i := 5) sc_law_tails.nd rfl (by first | exact Or.inl rfl | exact Or.inr rfl))
  (pss_cons (ps_if (pt_cmpR (op_eqU (K := K) rfl hr.units) (pv 5) (pe_callB (c_lenU (K := K) rfl) (by rfl) T.n_len (by decide +kernel) (pa_cons (pv 4) pa_nil)) (nomark _))
  (pss_one (ps_ret (pv 3)))
  pss_nil)
  (pss_cons (ps_set (i := 6) sc_law_tails.nd rfl (by first | exact Or.inl rfl | exact Or.inr rfl) (pe_ix (ixU (K := K) rfl) (pe_ix (ixU (K := K) rfl) (pv 4) (pv 5) (fun _ _ => rfl)) pe_int (fun _ _ => rfl)))
  (pss_cons (ps_set (i := 7) sc_law_tails.nd rfl (by first | exact Or.inl rfl | exact Or.inr rfl) (pe_ix (ixU (K := K) rfl) (pe_ix (ixU (K := K) rfl) (pv 4) (pv 5) (fun _ _ => rfl)) pe_int (fun _ _ => rfl)))
  (pss_one (ps_if (pt_cmpR (op_eqU (K := K) rfl hr.units) (pe_ix (ixU (K := K) rfl) (pv 6) (pe_un un_neg pe_int) (fun _ _ => rfl)) (pv 1) (nomark _))
  (pss_one (ps_for PassesOwn.never rfl (pi_range1 (by rfl) T.n_range (pa_cons (pe_callB (c_lenU (K := K) rfl) (by rfl) T.n_len (by decide +kernel) (pa_cons (pv 6) pa_nil)) pa_nil)) (pg_name (i := 8) sc_law_tails.nd rfl (by first | exact Or.inl rfl | exact Or.inr rfl))
  (pss_cons (ps_set (i := 9) sc_law_tails.nd rfl (by first | exact Or.inl rfl | exact Or.inr rfl) (pe_op op_sub (pe_ix (ixU (K := K) rfl) (pv 7) (pe_un un_neg pe_int) (fun _ _ => rfl)) (pe_ix (ixU (K := K) rfl) (pv 7) (pv 8) (fun _ _ => rfl))))
  (pss_one (ps_if (PW.pt (pw_or (pt_cmp (pc_dnotin (hu_of hr) (pe_ix (ixU (K := K) rfl) (pv 6) (pv 8) (fun _ _ => rfl)) (pv 3))) (pw_or1 (pt_cmpR op_lt (pv 9) (pe_dget (hu_of hr) (pv 3) (pe_ix (ixU (K := K) rfl) (pv 6) (pv 8) (fun _ _ => rfl)) (fun _ _ => rfl)) (nomark _)))))
  (pss_one (ps_dput (hu_of hr) (pv 3) (pe_ix (ixU (K := K) rfl) (pv 6) (pv 8) (fun _ _ => rfl)) (pv 9) rfl))
  pss_nil)))))
  (pss_one (ps_for PassesOwn.never rfl (pi_any (K := K) rfl (pe_dget (hu_of hr) (pv 0) (pe_ix (ixU (K := K) rfl) (pv 6) (pe_un un_neg pe_int) (fun _ _ => rfl)) (fun _ _ => rfl))) (pg_name (i := 10) sc_law_tails.nd rfl (by first | exact Or.inl rfl | exact Or.inr rfl))
  (pss_one (ps_expr (pe_bmK (K := K) rfl PySem.F.plainAttrs_list PySem.F.slot_list_append PySem.F.type_list_append mt_append (pv 4) (pa_cons (pe_lst (pa_cons (pe_op (op_addU (K := K) rfl) (pv 6) (pe_lst (pa_cons (pe_ix (ixU (K := K) rfl) (pv 10) pe_int (fun _ _ => rfl)) pa_nil))) (pa_cons (pe_op (op_addU (K := K) rfl) (pv 7) (pe_lst (pa_cons (pe_op (op_addU (K := K) rfl) (pe_ix (ixU (K := K) rfl) (pv 7) (pe_un un_neg pe_int) (fun _ _ => rfl)) (pe_ix (ixU (K := K) rfl) (pv 10) pe_int (fun _ _ => rfl))) pa_nil))) pa_nil))) pa_nil))))))))))))
  (pss_one (ps_ret pe_non))))), ?_⟩
  refine fn_run (N := ["table", "end", "most", "least", "todo", "k", "states", "sums", "n", "rest", "step"]) h (s_seq (s_asg e_dnew)
  (s_seq (s_asg (e_lst (a_cons (e_lst (a_cons (e_lst (a_cons e_int a_nil)) (a_cons (e_lst (a_cons e_int a_nil)) a_nil))) a_nil)))
  (s_seq (s_for (i_range1 (a_cons (e_op r_add (e_var 2) e_int) a_nil)) g_name
  (s_seq (s_if (t_test (e_op r_eq (e_var 5) (e_cb Pl.c_len (a_cons (e_var 4) a_nil))))
  (s_retV 3)
  s_next)
  (s_seq (s_asg (e_op r_ix (e_op r_ix (e_var 4) (e_var 5)) e_int))
  (s_seq (s_asg (e_op r_ix (e_op r_ix (e_var 4) (e_var 5)) e_int))
  (s_if (t_test (e_op r_eq (e_op r_ix (e_var 6) (e_un r_neg e_int)) (e_var 1)))
  (s_for (i_range1 (a_cons (e_cb Pl.c_len (a_cons (e_var 6) a_nil)) a_nil)) g_name
  (s_seq (s_asg (e_op r_sub (e_op r_ix (e_var 7) (e_un r_neg e_int)) (e_op r_ix (e_var 7) (e_var 8))))
  (s_if (t_or (t_b (e_dnin (e_var 3) (e_op r_ix (e_var 6) (e_var 8)))) (t_test (e_op r_lt (e_var 9) (e_dget (e_var 3) (e_op r_ix (e_var 6) (e_var 8))))))
  (s_dset (e_var 9) (e_op r_ix (e_var 6) (e_var 8)))
  s_next)))
  (s_for (i_any (e_dget (e_var 0) (e_op r_ix (e_var 6) (e_un r_neg e_int)))) g_name
  (s_apd (e_lst (a_cons (e_op r_add (e_var 6) (e_lst (a_cons (e_op r_ix (e_var 10) e_int) a_nil))) (a_cons (e_op r_add (e_var 7) (e_lst (a_cons (e_op r_add (e_op r_ix (e_var 7) (e_un r_neg e_int)) (e_op r_ix (e_var 10) e_int)) a_nil))) a_nil))))))))))
  (s_ret e_non)))) ?_
  clear h
  intro xs Q' h
  obtain ⟨rs, ks, rfl, hq⟩ := h
  refine startIs (ρ := [.bor (.dk (tabD rs ks)), .fz (.int ((rs.length : Int) - 1)), .fz (.int 2000), .no, .no, .no, .no, .no, .no, .no, .no]) rfl ?_
  obtain ⟨ok, nd, hm, q0, q1⟩ := hq
  have hz := hsz
  have n0 := ok.n0
  have n9 := ok.n9
  walk_at "pw"
  obtain ⟨V, hV⟩ : ∃ V : Nat → Pl.Env → Prop, ∀ i ρ, V i ρ ↔ ∃ (es : List Bg) (gs : List (Key × D)) (s5 s6 s7 s8 s9 s10 : Pl.Sl), es.length ≤ 1 + 40 * i ∧ i ≤ es.length ∧ (∀ x, x ∈ es → Pt rs x) ∧ ⟨[], 0, 0⟩ ∈ es ∧ Cl rs es i ∧ gs.length ≤ 1200 * i ∧ Ls rs gs (Tc rs es i) ∧ ρ = [.bor (.dk (tabD rs ks)), .fz (.int ((rs.length : Int) - 1)), .fz (.int 2000), .own (.dk gs), .own (.lst (es.map bD)), s5, s6, s7, s8, s9, s10] := ⟨_, fun _ _ => Iff.rfl⟩
  refine lpR V ((hV _ _).mpr ⟨[⟨[], 0, 0⟩], [], _, _, _, _, _, _, Nat.le_refl _, by decide, fun x m => by rw [List.mem_singleton.mp m]; exact .nil, List.mem_singleton.mpr rfl, fun j x h => absurd h (Nat.not_lt_zero _), by decide, ⟨fun k d e => (by cases e), fun k v t => (by obtain ⟨j, _, _, hj, _⟩ := t; exact absurd hj (Nat.not_lt_zero _))⟩, rfl⟩) ?_ ?_
  · intro i ρ hi hv
    rw [hV] at hv
    obtain ⟨es, gs, s5, s6, s7, s8, s9, s10, el, ie, hp, hr, hc, gl, hl, rfl⟩ := hv
    walk_at "pw"
    refine pifd (fun h => ?_) (fun h => ?_)
    · rw [List.length_map] at h
      have e : i = es.length := by omega
      subst e
      exact q1 gs fun k rk => Tc.fin ok hc hr hp hl rk
    · rw [List.length_map] at h
      have il : i < es.length := by omega
      obtain ⟨x, hx⟩ : ∃ x, es[i]? = some x := ⟨_, List.getElem?_eq_getElem il⟩
      have px := hp x (List.mem_of_getElem? hx)
      have xl := px.rch.lt ok
      have xlen := px.len ok
      have rw40 := ok.rw xl
      have ai : atI (es.map bD) (i : Int) = some (bD x) := atI_nat (by rw [List.getElem?_map, hx]; rfl)
      refine ⟨_, ai, ?_⟩
      rw [show bD x = .lst [.lst (statD x), .lst (sumD x)] from rfl] at ai ⊢
      walk_at "pw"
      refine ⟨_, ai, ?_⟩
      walk_at "pw"
      refine ⟨_, statD_last, ?_⟩
      unfold nD
      walk_at "pw"
      refine pifd (fun h => ?_) (fun h => ?_)
      · have xe : x.e + 1 = rs.length := by omega
        have sl := statD_len (x := x)
        have ul := sumD_len (x := x)
        have al : x.all.length = x.ps.length + 1 := by unfold Bg.all; simp
        refine ⟨by omega, by omega, ?_⟩
        rw [Int.toNat_natCast]
        obtain ⟨U, hU⟩ : ∃ U : Nat → Pl.Env → Prop, ∀ m ρ, U m ρ ↔ ∃ (g2 : List (Key × D)) (s8 s9 : Pl.Sl), g2.length ≤ gs.length + m ∧ Ls rs g2 (fun k v => Tc rs es i k v ∨ ∃ (j : Nat) (ck : Int), j < m ∧ x.all[j]? = some (k, ck) ∧ v = x.c - ck) ∧ ρ = [.bor (.dk (tabD rs ks)), .fz (.int ((rs.length : Int) - 1)), .fz (.int 2000), .own (.dk g2), .own (.lst (es.map bD)), .fz (.int (i : Int)), .fz (.lst (statD x)), .fz (.lst (sumD x)), s8, s9, s10] := ⟨_, fun _ _ => Iff.rfl⟩
        refine lpR U ((hU _ _).mpr ⟨gs, _, _, Nat.le_refl _, hl.congr fun k v => ⟨.inl, fun t => by
          rcases t with t | ⟨_, _, hj, _⟩
          · exact t
          · exact absurd hj (Nat.not_lt_zero _)⟩, rfl⟩) ?_ ?_
        · intro m ρ hml hu
          rw [hU] at hu
          obtain ⟨g2, s8, s9, g2l, hl2, rfl⟩ := hu
          obtain ⟨⟨k, ck⟩, hk⟩ : ∃ p, x.all[m]? = some p := ⟨_, List.getElem?_eq_getElem (by omega)⟩
          have a1 : atI (statD x) (m : Int) = some (.int (k : Int)) := atI_nat (by unfold statD; rw [List.getElem?_map, hk]; rfl)
          have a2 : atI (sumD x) (m : Int) = some (.int ck) := atI_nat (by unfold sumD; rw [List.getElem?_map, hk]; rfl)
          walk_at "pw"
          refine ⟨_, sumD_last, _, a2, ?_⟩
          walk_at "pw"
          refine ⟨_, a1, ?_⟩
          walk_at "pw"
          have cg : ∀ k' v', (((Tc rs es i k' v') ∨ ∃ (j : Nat) (ck : Int), j < m ∧ x.all[j]? = some (k', ck) ∧ v' = x.c - ck) ∨ (k' = k ∧ v' = x.c - ck)) ↔ ((Tc rs es i k' v') ∨ ∃ (j : Nat) (ck : Int), j < m + 1 ∧ x.all[j]? = some (k', ck) ∧ v' = x.c - ck) := fun k' v' => by
            constructor
            · rintro ((t | ⟨j, c, hj, h1, h2⟩) | ⟨rfl, rfl⟩)
              · exact .inl t
              · exact .inr ⟨j, c, by omega, h1, h2⟩
              · exact .inr ⟨m, ck, Nat.lt_succ_self _, hk, rfl⟩
            · rintro (t | ⟨j, c, hj, h1, h2⟩)
              · exact .inl (.inl t)
              · rcases Nat.lt_or_ge j m with q | q
                · exact .inl (.inr ⟨j, c, q, h1, h2⟩)
                · obtain rfl : j = m := by omega
                  rw [hk] at h1; cases h1
                  exact .inr ⟨rfl, h2⟩
          have ad := hl2.add (k := k) (v := x.c - ck)
          have sz : g2.length < sizeLine := by omega
          have put : Ls rs (storeD g2 (.inl (k : Int)) (.int (x.c - ck))) _ → U (m + 1) [.bor (.dk (tabD rs ks)), .fz (.int ((rs.length : Int) - 1)), .fz (.int 2000), .own (.dk (storeD g2 (.inl (k : Int)) (.int (x.c - ck)))), .own (.lst (es.map bD)), .fz (.int (i : Int)), .fz (.lst (statD x)), .fz (.lst (sumD x)), .fz (.int (m : Int)), .fz (.int (x.c - ck)), s10] := fun h => (hU _ _).mpr ⟨_, _, _, by have := store_len (gs := g2) (k := .inl (k : Int)) (d := .int (x.c - ck)); omega, h.congr cg, rfl⟩
          cases eg : atD g2 (.inl (k : Int)) with
          | none =>
            refine pif (fun h => by cases h) (fun _ => ⟨_, a1, _, rfl, sz, put (ad.1 eg)⟩)
          | some d =>
            obtain ⟨w, rfl, _⟩ := hl2.a k d eg
            refine pif (fun _ => ⟨_, a1, _, rfl, _, eg, ?_⟩) (fun h => by cases h)
            walk_at "pw"
            refine pifd (fun h => ⟨_, a1, _, rfl, sz, put ((ad.2 w eg).1 h)⟩) (fun h => (hU _ _).mpr ⟨g2, _, _, by omega, ((ad.2 w eg).2 h).congr cg, rfl⟩)
        · intro ρ hu
          rw [hU] at hu
          obtain ⟨g2, s8, s9, g2l, hl2, rfl⟩ := hu
          walk_at "pw"
          refine (hV _ _).mpr ⟨es, g2, _, _, _, _, _, _, by omega, by omega, hp, hr, fun j y hj hy hye => ?_, by omega, hl2.congr fun k v => ⟨fun t => ?_, fun t => ?_⟩, rfl⟩
          · rcases Nat.lt_or_ge j i with q | q
            · exact hc j y q hy hye
            · obtain rfl : j = i := by omega
              rw [hx] at hy; cases hy
              exact absurd xe hye
          · rcases t with ⟨j, y, ck, hj, hy, ye, m, e⟩ | ⟨j, ck, _, hj, e⟩
            · exact ⟨j, y, ck, by omega, hy, ye, m, e⟩
            · exact ⟨i, x, ck, by omega, hx, xe, List.mem_of_getElem? hj, e⟩
          · obtain ⟨j, y, ck, hj, hy, ye, m, e⟩ := t
            rcases Nat.lt_or_ge j i with q | q
            · exact .inl ⟨j, y, ck, q, hy, ye, m, e⟩
            · obtain rfl : j = i := by omega
              rw [hx] at hy; cases hy
              obtain ⟨n, hn⟩ := List.mem_iff_getElem?.mp m
              exact .inr ⟨n, ck, by have := (List.getElem?_eq_some_iff.mp hn).1; omega, hn, e⟩
      · have xe : x.e + 1 ≠ rs.length := by omega
        refine ⟨_, statD_last, _, rfl, _, tabD_at ((hm _).mpr px.rch), ?_⟩
        rw [rowD_eq]
        walk_at "pw"
        have sl := statD_len (x := x)
        have ul := sumD_len (x := x)
        obtain ⟨U, hU⟩ : ∃ U : Nat → Pl.Env → Prop, ∀ m ρ, U m ρ ↔ ∃ (xs : List Bg) (s10 : Pl.Sl), xs.length = m ∧ (∀ y, y ∈ xs → Pt rs y) ∧ (∀ (m' : Nat) (s : Wy.Step), m' < m → (row rs x.e)[m']? = some s → (⟨x.all, s.2, x.c + s.1⟩ : Bg) ∈ xs) ∧ ρ = [.bor (.dk (tabD rs ks)), .fz (.int ((rs.length : Int) - 1)), .fz (.int 2000), .own (.dk gs), .own (.lst ((es ++ xs).map bD)), .fz (.int (i : Int)), .fz (.lst (statD x)), .fz (.lst (sumD x)), s8, s9, s10] := ⟨_, fun _ _ => Iff.rfl⟩
        refine lpL U ((hU _ _).mpr ⟨[], _, rfl, fun y h => (by cases h), fun m' s h => absurd h (Nat.not_lt_zero _), by rw [List.append_nil]⟩) ?_ ?_
        · intro m d ρ hml hu
          rw [hU] at hu
          obtain ⟨xs, s10, xl2, xp, xc, rfl⟩ := hu
          rw [List.getElem?_map, Option.map_eq_some_iff] at hml
          obtain ⟨s, hs0, rfl⟩ := hml
          have mlt := (List.getElem?_eq_some_iff.mp hs0).1
          rw [show stD s = .tup [.int s.1, nD s.2] from rfl]
          walk_at "pw"
          refine ⟨by rw [sl]; omega, _, sumD_last, ?_⟩
          walk_at "pw"
          refine ⟨by rw [ul]; omega, by rw [List.length_map, List.length_append]; omega, ?_⟩
          refine (hU _ _).mpr ⟨xs ++ [⟨x.all, s.2, x.c + s.1⟩], .fz (.tup [.int s.1, nD s.2]), by rw [List.length_append, xl2]; rfl, fun y my => ?_, fun m' s' hm' hs' => ?_, ?_⟩
          · rcases List.mem_append.mp my with my | my
            · exact xp y my
            · rw [List.mem_singleton.mp my]; exact px.snoc xl (List.mem_of_getElem? hs0)
          · rcases Nat.lt_or_ge m' m with q | q
            · exact List.mem_append_left _ (xc m' s' q hs')
            · obtain rfl : m' = m := by omega
              rw [hs0] at hs'
              obtain rfl := Option.some.inj hs'
              exact List.mem_append_right _ (List.mem_singleton.mpr rfl)
          · rw [← List.append_assoc, List.map_append (l₁ := es ++ xs), List.map_singleton, show bD ⟨x.all, s.2, x.c + s.1⟩ = .lst [.lst (statD x ++ [nD s.2]), .lst (sumD x ++ [.int (x.c + s.1)])] from by unfold bD; rw [Bg.all, List.map_append, List.map_append]; rfl]
        · intro ρ hu
          rw [hU] at hu
          obtain ⟨xs, s10, xl2, xp, xc, rfl⟩ := hu
          rw [List.length_map] at xl2 xc
          refine (hV _ _).mpr ⟨es ++ xs, gs, _, _, _, _, _, _, by rw [List.length_append]; omega, by rw [List.length_append]; omega, fun y my => (List.mem_append.mp my).elim (hp y) (xp y), List.mem_append_left _ hr, fun j y hj hy hye s ms => ?_, by omega, hl.congr fun k v => ⟨fun t => ?_, fun t => ?_⟩, rfl⟩
          · rw [List.getElem?_append_left (by omega)] at hy
            rcases Nat.lt_or_ge j i with q | q
            · exact List.mem_append_left _ (hc j y q hy hye s ms)
            · obtain rfl : j = i := by omega
              rw [hx] at hy; cases hy
              obtain ⟨n, hn⟩ := List.mem_iff_getElem?.mp ms
              exact List.mem_append_right _ (xc n s (List.getElem?_eq_some_iff.mp hn).1 hn)
          · obtain ⟨j, y, ck, hj, hy, ye, m, e⟩ := t
            exact ⟨j, y, ck, by omega, by rw [List.getElem?_append_left (by omega)]; exact hy, ye, m, e⟩
          · obtain ⟨j, y, ck, hj, hy, ye, m, e⟩ := t
            rw [List.getElem?_append_left (by omega)] at hy
            rcases Nat.lt_or_ge j i with q | q
            · exact ⟨j, y, ck, q, hy, ye, m, e⟩
            · obtain rfl : j = i := by omega
              rw [hx] at hy; cases hy
              exact absurd ye xe
  · intro ρ hv
    rw [hV] at hv
    obtain ⟨es, gs, s5, s6, s7, s8, s9, s10, el, ie, hp, hr, hc, gl, hl, rfl⟩ := hv
    walk_at "pw"
    exact q0
end
end K27
namespace K27
open PySem L2 Wp Pl Wy

theorem okD_row {n : Nat} {r : Row} (h : r.length ≤ 40) : okD (n + 2) (.lst (r.map stD)) := by
  rw [show n + 2 = (n + 1) + 1 from rfl]
  simp only [okD]
  refine ⟨by rw [List.length_map]; omega, fun d m => ?_⟩
  obtain ⟨s, _, rfl⟩ := List.mem_map.mp m
  unfold stD nD
  simp only [okD]
  refine ⟨by simp, fun d m => ?_⟩
  simp only [List.mem_cons, List.not_mem_nil, or_false] at m
  rcases m with rfl | rfl <;> simp only [okD]
theorem okD_rows {rs : Rows} (ok : Ok rs) {n : Nat} : okD (n + 3) (.lst (rs.map rowD)) := by
  have n9 := ok.n9
  rw [show n + 3 = (n + 2) + 1 from rfl]
  simp only [okD]
  refine ⟨by rw [List.length_map]; omega, fun d m => ?_⟩
  obtain ⟨r, mr, rfl⟩ := List.mem_map.mp m
  exact okD_row (ok.w r mr)
theorem okD_num {n : Nat} {o : Option Int} : okD n (numD o) := by
  cases o with
  | none => unfold numD; cases n <;> simp only [okD]
  | some b => unfold numD; cases n <;> simp only [okD]
def numsN (rs : Rows) (ks : List Nat) : List (Key × D) := dictN (fun k => numD (best rs k)) ks
theorem numsN_at {rs : Rows} {ks : List Nat} {k : Nat} (h : k ∈ ks) : atD (numsN rs ks) (.inl (k : Int)) = some (numD (best rs k)) := by unfold numsN; rw [dictN_at, if_pos h]
theorem numsN_put {rs : Rows} {ks : List Nat} {k : Nat} : storeD (numsN rs ks) (.inl (k : Int)) (numD (best rs k)) = numsN rs (if k ∈ ks then ks else ks ++ [k]) := dictN_put
theorem take_notin {ks : List Nat} {i k : Nat} (nd : ks.Nodup) (h : ks[i]? = some k) : k ∉ ks.take i := fun m => by
  obtain ⟨j, hj⟩ := List.mem_iff_getElem?.mp m
  have jl := (List.getElem?_eq_some_iff.mp hj).1
  rw [List.length_take] at jl
  rw [List.getElem?_take_of_lt (by omega)] at hj
  obtain ⟨l1, e1⟩ := List.getElem?_eq_some_iff.mp hj
  obtain ⟨l2, e2⟩ := List.getElem?_eq_some_iff.mp h
  have := (List.pairwise_iff_getElem.mp nd) j i l1 l2 (by omega)
  exact this (e1.trans e2.symm)
def pNumbers (xs : List X) (Q : X → Prop) : Prop := ∃ (rs : Rows) (ch : Bool), xs = [.f (rowsD rs), .f (.bl ch)] ∧ Ok rs ∧ ∀ ks : List Nat, ks.Nodup → (∀ k, k ∈ ks ↔ Rch rs k) → Q (.o (.dk (numsN rs ks)))
def pAsTold (C : Addr) (xs : List X) (Q : X → Prop) : Prop := ∃ (rs : Rows) (ap : Int), xs = [.f (tk C rs), .f (rowsD rs), .f (.int ap)] ∧ Ok rs ∧ 0 < ap ∧ ap < 1000 ∧ Q (.f (.bl true))
def pSameDict (xs : List X) (Q : X → Prop) : Prop := ∃ (rs : Rows) (ks : List Nat), xs = [.b (.dk (numsK rs)), .b (.dk (numsN rs ks))] ∧ Ok rs ∧ ks.Nodup ∧ (∀ k, k ∈ ks ↔ Rch rs k) ∧ Q (.f (.bl true))
section
variable {P : Program} {w : World} {K : PySem.W.Frag} {mg : Str → Option Value} {base : Heap}
theorem ok_law_numbers {f : Addr} {fd : FuncData} {C_TableTask : Addr} {C_Task : Addr} (F : Fun K "_law_numbers" "_law_numbers" s_law_numbers f fd) (T : Txt K mg C_TableTask C_Task) (G_law_row_table : Def P w K mg base 1 "_law_row_table" ["rows"] (lift K (pRowTab))) (G_law_tails : Def P w K mg base 1 "_law_tails" ["table", "end", "most"] (lift K (pTails))) (G_law_togo : Def P w K mg base 1 "_law_togo" ["table", "end"] (lift K (pLTogo))) : FnOk P w K mg base CX0 (2) f fd ["rows", "chain"] (lift K (pNumbers)) := by
  refine F.ok sc_law_numbers (fun vs H Q E h => (lift_len (n := 2) (fun xs Q h => by obtain ⟨rs, ch, rfl, _⟩ := h; rfl) h)) (fun cdv A outer s H vs Q E hr h => ?_)
  refine ⟨_, (pss_cons (ps_set (i := 2) sc_law_numbers.nd rfl (by first | exact Or.inl rfl | exact Or.inr rfl) (G_law_row_table.call (hr.mono (by omega)) (by rfl) (pa_cons (pv 0) pa_nil)))
  (pss_cons (ps_set (i := 3) sc_law_numbers.nd rfl (by first | exact Or.inl rfl | exact Or.inr rfl) (pe_op op_sub (pe_callB (c_lenU (K := K) rfl) (by rfl) T.n_len (by decide +kernel) (pa_cons (pv 0) pa_nil)) pe_int))
  (pss_cons (ps_set (i := 4) sc_law_numbers.nd rfl (by first | exact Or.inl rfl | exact Or.inr rfl) pe_non)
  (pss_cons (ps_if (pt_not (pt_tru (K := K) rfl (pv 1)))
  (pss_one (ps_set (i := 4) sc_law_numbers.nd rfl (by first | exact Or.inl rfl | exact Or.inr rfl) (G_law_tails.call (hr.mono (by omega)) (by rfl) (pa_cons (pv 2) (pa_cons (pv 3) (pa_cons pe_int pa_nil))))))
  pss_nil)
  (pss_cons (ps_if (pt_cmpR o_isN (pv 4) pe_non (nomark _))
  (pss_one (ps_set (i := 4) sc_law_numbers.nd rfl (by first | exact Or.inl rfl | exact Or.inr rfl) (G_law_togo.call (hr.mono (by omega)) (by rfl) (pa_cons (pv 2) (pa_cons (pv 3) pa_nil)))))
  pss_nil)
  (pss_cons (ps_set (i := 5) sc_law_numbers.nd rfl (by first | exact Or.inl rfl | exact Or.inr rfl) pe_dnewK)
  (pss_cons (ps_lock (ps_for PassesOwn.never rfl (pi_keys (pv 2)) (pg_name (i := 6) sc_law_numbers.nd rfl (by first | exact Or.inl rfl | exact Or.inr rfl))
  (pss_one (ps_dput (hu_of hr) (pv 5) (pv 6) (pe_dget2 (hu_of hr) (pv 4) (pv 6) pe_non ⟨by rfl, by rfl, by rfl, by rfl⟩) rfl))))
  (pss_one (ps_ret (pv 5)))))))))), ?_⟩
  refine fn_run (N := ["rows", "chain", "table", "end", "least", "numbers", "state"]) h (s_seq (s_asg (e_call [] (a_cons (e_var 0) a_nil)))
  (s_seq (s_asg (e_op r_sub (e_cb Pl.c_len (a_cons (e_var 0) a_nil)) e_int))
  (s_seq (s_asg e_non)
  (s_seq (s_if (t_not (t_tru (e_var 1)))
  (s_asg (e_call [] (a_cons (e_var 2) (a_cons (e_var 3) (a_cons e_int a_nil)))))
  s_next)
  (s_seq (s_if (t_test (e_op r_isN (e_var 4) e_non))
  (s_asg (e_call [] (a_cons (e_var 2) (a_cons (e_var 3) a_nil))))
  s_next)
  (s_seq (s_asg e_dnew)
  (s_seq (s_lock (i := 2) (s_for (i_keys 2) g_name
  (s_dset (e_dget2 (e_var 4) (e_var 6) e_non) (e_var 6))))
  (s_retV 5)))))))) ?_
  clear h
  intro xs Q' h
  obtain ⟨rs, ch, rfl, hq⟩ := h
  refine startIs (ρ := [.fz (rowsD rs), .fz (.bl ch), .no, .no, .no, .no, .no]) rfl ?_
  obtain ⟨ok, hq⟩ := hq
  have hz := hsz
  have n0 := ok.n0
  have n9 := ok.n9
  walk_at "pw"
  refine ⟨rs, rfl, ok, fun ks nd hm => ?_⟩
  rw [show dictN (fun k => rowD (row rs k)) ks = tabD rs ks from rfl, show rowsD rs = .lst (rs.map rowD) from rfl]
  walk_at "pw"
  rw [List.length_map]
  have ksl : ks.length ≤ rs.length := by
    have := nodup_sub (b := List.range rs.length) nd fun k m => List.mem_range.mpr (((hm k).mp m).lt ok)
    rw [List.length_range] at this
    exact this
  obtain ⟨W, hW⟩ : ∃ W : List (Key × D) → Nat → Pl.Env → Prop, ∀ gs i ρ, W gs i ρ ↔ ∃ s6, ρ = [.fz (.lst (rs.map rowD)), .fz (.bl ch), .bor (.dkl (tabD rs ks)), .fz (.int ((rs.length : Int) - 1)), .own (.dk gs), .own (.dk (numsN rs (ks.take i))), s6] := ⟨_, fun _ _ _ => Iff.rfl⟩
  have hK : ∀ k, Rch rs k → (atD (numsK rs) (.inl (k : Int))).getD .non = numD (best rs k) := fun k r => by rw [numsK_at ok r]; rfl
  refine pif (fun hc => ⟨rs, ks, rfl, ok, nd, hm, ?_⟩) (fun hc => ⟨rs, ks, rfl, ok, nd, hm, ?_, fun gs hgs => ?_⟩)
  · walk_at "pw"
    rw [show keysD (tabD rs ks) = ks.map nD from dictN_keysD]
    refine lpL (W (numsK rs)) ((hW _ _ _).mpr ⟨_, rfl⟩) ?_ ?_
    · intro i d ρ hd hw
      rw [hW] at hw
      obtain ⟨s6, rfl⟩ := hw
      rw [List.getElem?_map, Option.map_eq_some_iff] at hd
      obtain ⟨k, hk, rfl⟩ := hd
      unfold nD
      walk_at "pw"
      refine ⟨by unfold numsN; rw [dictN_len, List.length_take]; omega, (hW _ _ _).mpr ⟨.fz (.int (k : Int)), ?_⟩⟩
      rw [hK k ((hm k).mp (List.mem_of_getElem? hk)), numsN_put, if_neg (take_notin nd hk), ← take_snocA hk]
    · intro ρ hw
      rw [hW] at hw
      obtain ⟨s6, rfl⟩ := hw
      rw [List.length_map, List.take_length]
      walk_at "pw"
      exact hq ks nd hm
  · walk_at "pw"
    refine ⟨rs, ks, rfl, ok, nd, hm, ?_⟩
    walk_at "pw"
    rw [show keysD (tabD rs ks) = ks.map nD from dictN_keysD]
    refine lpL (W (numsK rs)) ((hW _ _ _).mpr ⟨_, rfl⟩) ?_ ?_
    · intro i d ρ hd hw
      rw [hW] at hw
      obtain ⟨s6, rfl⟩ := hw
      rw [List.getElem?_map, Option.map_eq_some_iff] at hd
      obtain ⟨k, hk, rfl⟩ := hd
      unfold nD
      walk_at "pw"
      refine ⟨by unfold numsN; rw [dictN_len, List.length_take]; omega, (hW _ _ _).mpr ⟨.fz (.int (k : Int)), ?_⟩⟩
      rw [hK k ((hm k).mp (List.mem_of_getElem? hk)), numsN_put, if_neg (take_notin nd hk), ← take_snocA hk]
    · intro ρ hw
      rw [hW] at hw
      obtain ⟨s6, rfl⟩ := hw
      rw [List.length_map, List.take_length]
      walk_at "pw"
      exact hq ks nd hm
  · walk_at "pw"
    rw [show keysD (tabD rs ks) = ks.map nD from dictN_keysD]
    refine lpL (W gs) ((hW _ _ _).mpr ⟨_, rfl⟩) ?_ ?_
    · intro i d ρ hd hw
      rw [hW] at hw
      obtain ⟨s6, rfl⟩ := hw
      rw [List.getElem?_map, Option.map_eq_some_iff] at hd
      obtain ⟨k, hk, rfl⟩ := hd
      unfold nD
      walk_at "pw"
      refine ⟨by unfold numsN; rw [dictN_len, List.length_take]; omega, (hW _ _ _).mpr ⟨.fz (.int (k : Int)), ?_⟩⟩
      rw [hgs k ((hm k).mp (List.mem_of_getElem? hk)), numsN_put, if_neg (take_notin nd hk), ← take_snocA hk]
    · intro ρ hw
      rw [hW] at hw
      obtain ⟨s6, rfl⟩ := hw
      rw [List.length_map, List.take_length]
      walk_at "pw"
      exact hq ks nd hm
theorem ok_law_as_told {f : Addr} {fd : FuncData} {C_TableTask : Addr} {C_Task : Addr} (F : Fun K "_law_as_told" "_law_as_told" s_law_as_told f fd) (T : Txt K mg C_TableTask C_Task) (G_law_same : Def P w K mg base 9 "_law_same" ["got", "due"] (lift K (pSame 8))) (GM_TableTask_first : DefM P w K mg base 1 C_TableTask "first" ["self"] (lift K (pFirst C_TableTask))) (GM_TableTask_steps : DefM P w K mg base 1 C_TableTask "steps" ["self", "state"] (lift K (pSteps C_TableTask))) (GM_TableTask_is_end : DefM P w K mg base 1 C_TableTask "is_end" ["self", "state"] (lift K (pIsEnd C_TableTask))) (GM_TableTask_rank : DefM P w K mg base 1 C_TableTask "rank" ["self", "state"] (lift K (pRank C_TableTask))) : FnOk P w K mg base CX0 (10) f fd ["task", "rows", "apart"] (lift K (pAsTold C_TableTask)) := by
  refine F.ok sc_law_as_told (fun vs H Q E h => (lift_len (n := 3) (fun xs Q h => by obtain ⟨rs, ap, rfl, _⟩ := h; rfl) h)) (fun cdv A outer s H vs Q E hr h => ?_)
  refine ⟨_, (pss_cons (ps_if (pt_not (pt_val (G_law_same.call (hr.mono (by omega)) (by rfl) (pa_cons (GM_TableTask_first.call0 (hr.mono (by omega)) (pv 0)) (pa_cons pe_int pa_nil)))))
  (pss_one (ps_ret pe_bl))
  pss_nil)
  (pss_cons (ps_for PassesOwn.never rfl (pi_range1 (by rfl) T.n_range (pa_cons (pe_callB (c_lenU (K := K) rfl) (by rfl) T.n_len (by decide +kernel) (pa_cons (pv 1) pa_nil)) pa_nil)) (pg_name (i := 3) sc_law_as_told.nd rfl (by first | exact Or.inl rfl | exact Or.inr rfl))
  (pss_one (ps_if (PW.pt (pw_or (pt_cmpR (op_eqU (K := K) rfl hr.units) (pe_op op_mod (pe_callTy Wp.c_int (by rfl) T.n_int (by decide +kernel) (pa_cons (pv 3) pa_nil)) (pv 2)) pe_int (nomark _)) (pw_or1 (pt_cmpR (op_eqU (K := K) rfl hr.units) (pv 3) (pe_op op_sub (pe_callB (c_lenU (K := K) rfl) (by rfl) T.n_len (by decide +kernel) (pa_cons (pv 1) pa_nil)) pe_int) (nomark _)))))
  (pss_cons (ps_if (PW.pt (pw_or (pt_not (pt_val (G_law_same.call (hr.mono (by omega)) (by rfl) (pa_cons (Pl.DefM.call GM_TableTask_is_end (hr.mono (by omega)) (pv 0) (pa_cons (pv 3) pa_nil)) (pa_cons (pe_cmpR (op_eqU (K := K) rfl hr.units) (pv 3) (pe_op op_sub (pe_callB (c_lenU (K := K) rfl) (by rfl) T.n_len (by decide +kernel) (pa_cons (pv 1) pa_nil)) pe_int) (nomark _)) pa_nil))))) (pw_or1 (pt_not (pt_val (G_law_same.call (hr.mono (by omega)) (by rfl) (pa_cons (Pl.DefM.call GM_TableTask_rank (hr.mono (by omega)) (pv 0) (pa_cons (pv 3) pa_nil)) (pa_cons (pv 3) pa_nil))))))))
  (pss_one (ps_ret pe_bl))
  pss_nil)
  (pss_one (ps_if (pt_not (pt_val (G_law_same.call (hr.mono (by omega)) (by rfl) (pa_cons (Pl.DefM.call GM_TableTask_steps (hr.mono (by omega)) (pv 0) (pa_cons (pv 3) pa_nil)) (pa_cons (pe_ix (ixU (K := K) rfl) (pv 1) (pv 3) (fun _ _ => rfl)) pa_nil)))))
  (pss_one (ps_ret pe_bl))
  pss_nil)))
  pss_nil)))
  (pss_one (ps_ret pe_bl)))), ?_⟩
  refine fn_run (N := ["task", "rows", "apart", "k"]) h (s_seq (s_if (t_not (t_b (e_call [true, true] (a_cons (e_meth [] (e_var 0) a_nil) (a_cons e_int a_nil)))))
  (s_ret e_bl)
  s_next)
  (s_seq (s_for (i_range1 (a_cons (e_cb Pl.c_len (a_cons (e_var 1) a_nil)) a_nil)) g_name
  (s_if (t_or (t_test (e_op r_eq (e_op r_mod (e_cb Pl.c_int (a_cons (e_var 3) a_nil)) (e_var 2)) e_int)) (t_test (e_op r_eq (e_var 3) (e_op r_sub (e_cb Pl.c_len (a_cons (e_var 1) a_nil)) e_int))))
  (s_seq (s_if (t_or (t_not (t_b (e_call [true, true] (a_cons (e_meth [] (e_var 0) (a_cons (e_var 3) a_nil)) (a_cons (e_op r_eq (e_var 3) (e_op r_sub (e_cb Pl.c_len (a_cons (e_var 1) a_nil)) e_int)) a_nil))))) (t_not (t_b (e_call [true, true] (a_cons (e_meth [] (e_var 0) (a_cons (e_var 3) a_nil)) (a_cons (e_var 3) a_nil))))))
  (s_ret e_bl)
  s_next)
  (s_if (t_not (t_b (e_call [true, true] (a_cons (e_meth [] (e_var 0) (a_cons (e_var 3) a_nil)) (a_cons (e_op r_ix (e_var 1) (e_var 3)) a_nil)))))
  (s_ret e_bl)
  s_next))
  s_next))
  (s_ret e_bl))) ?_
  clear h
  intro xs Q' h
  obtain ⟨rs, ap, rfl, hq⟩ := h
  refine startIs (ρ := [.fz (tk C_TableTask rs), .fz (rowsD rs), .fz (.int ap), .no]) rfl ?_
  obtain ⟨ok, a0, a9, hq⟩ := hq
  have hz := hsz
  have n0 := ok.n0
  have n9 := ok.n9
  walk_at "pw"
  refine ⟨_, rfl, tk_no (by decide), rs, rfl, ?_⟩
  walk_at "pw"
  refine same_i rfl ?_
  rw [show rowsD rs = .lst (rs.map rowD) from rfl]
  walk_at "pw"
  rw [List.length_map]
  refine ⟨by omega, by omega, ?_⟩
  rw [Int.toNat_natCast]
  refine lpR (fun _ ρ => ∃ s3, ρ = [.fz (tk C_TableTask rs), .fz (.lst (rs.map rowD)), .fz (.int ap), s3]) ⟨_, rfl⟩ ?_ ?_
  · rintro i ρ hi ⟨s3, rfl⟩
    walk_at "pw"
    refine ⟨a0, pif (fun _ => ?_) (fun _ => pif (fun _ => ?_) (fun _ => trivial))⟩
    all_goals
      refine ⟨_, rfl, tk_no (by decide), rs, (i : Int), rfl, ?_⟩
      walk_at "pw"
      rw [List.length_map]
      refine same_b rfl ?_
      walk_at "pw"
      refine ⟨_, rfl, tk_no (by decide), rs, i, rfl, ?_⟩
      walk_at "pw"
      refine same_i rfl ?_
      walk_at "pw"
      refine ⟨_, rfl, tk_no (by decide), rs, i, rfl, hi, ?_⟩
      walk_at "pw"
      refine ⟨rowD (row rs i), atI_nat (by rw [List.getElem?_map, row_at hi]; rfl), ?_⟩
      rw [rowD_eq]
      refine same_l rfl (okD_row (ok.rw hi)) ?_
      walk_at "pw"
      try exact ⟨_, rfl⟩
  · rintro ρ ⟨s3, rfl⟩
    walk_at "pw"
    exact hq
theorem ok_law_same_dict {f : Addr} {fd : FuncData} {C_TableTask : Addr} {C_Task : Addr} (F : Fun K "_law_same_dict" "_law_same_dict" s_law_same_dict f fd) (T : Txt K mg C_TableTask C_Task) (G_law_int : Def P w K mg base 1 "_law_int" ["got"] (lift K (pIntB))) (G_law_same : Def P w K mg base 9 "_law_same" ["got", "due"] (lift K (pSame 8))) : FnOk P w K mg base CX0 (10) f fd ["told", "numbers"] (lift K (pSameDict)) := by
  refine F.ok sc_law_same_dict (fun vs H Q E h => (lift_len (n := 2) (fun xs Q h => by obtain ⟨rs, ks, rfl, _⟩ := h; rfl) h)) (fun cdv A outer s H vs Q E hr h => ?_)
  refine ⟨_, (pss_cons (ps_if (PW.pt (pw_or (pt_not (pt_val (pe_callB (call_isiK (K := K) rfl) (by rfl) T.n_isinstance (by decide +kernel) (pa_cons (pv 0) (pa_cons (pe_bltn (v := .ty "dict") (by rfl) T.n_dict (by decide +kernel) rfl) pa_nil))))) (pw_or1 (pt_cmpR (op_neU (K := K) rfl hr.units) (pe_callB Pl.c_lenDK (by rfl) T.n_len (by decide +kernel) (pa_cons (pv 0) pa_nil)) (pe_callB Pl.c_lenDK (by rfl) T.n_len (by decide +kernel) (pa_cons (pv 1) pa_nil)) (nomark _)))))
  (pss_one (ps_ret pe_bl))
  pss_nil)
  (pss_cons (ps_lock (ps_for PassesOwn.never rfl (pi_keys (pv 0)) (pg_name (i := 2) sc_law_same_dict.nd rfl (by first | exact Or.inl rfl | exact Or.inr rfl))
  (pss_one (ps_if (pt_not (pt_val (G_law_int.call (hr.mono (by omega)) (by rfl) (pa_cons (pv 2) pa_nil))))
  (pss_one (ps_ret pe_bl))
  pss_nil))))
  (pss_cons (ps_lock (ps_for PassesOwn.never rfl (pi_keys (pv 1)) (pg_name (i := 2) sc_law_same_dict.nd rfl (by first | exact Or.inl rfl | exact Or.inr rfl))
  (pss_one (ps_if (PW.pt (pw_or (pt_cmp (pc_dnotin (hu_of hr) (pv 2) (pv 0))) (pw_or1 (pt_not (pt_val (G_law_same.call (hr.mono (by omega)) (by rfl) (pa_cons (pe_dget (hu_of hr) (pv 0) (pv 2) (fun _ _ => rfl)) (pa_cons (pe_dget (hu_of hr) (pv 1) (pv 2) (fun _ _ => rfl)) pa_nil))))))))
  (pss_one (ps_ret pe_bl))
  pss_nil))))
  (pss_one (ps_ret pe_bl))))), ?_⟩
  refine fn_run (N := ["told", "numbers", "state"]) h (s_seq (s_if (t_or (t_not (t_b (e_cb Pl.c_isi (a_cons (e_var 0) (a_cons e_ty a_nil))))) (t_test (e_op r_ne (e_cb Pl.c_lenD (a_cons (e_var 0) a_nil)) (e_cb Pl.c_lenD (a_cons (e_var 1) a_nil)))))
  (s_ret e_bl)
  s_next)
  (s_seq (s_lockB (i := 0) (s_for (i_keys 0) g_name
  (s_if (t_not (t_b (e_call [] (a_cons (e_var 2) a_nil))))
  (s_ret e_bl)
  s_next)))
  (s_seq (s_lockB (i := 1) (s_for (i_keys 1) g_name
  (s_if (t_or (t_b (e_dnin (e_var 0) (e_var 2))) (t_not (t_b (e_call [true, true] (a_cons (e_dget (e_var 0) (e_var 2)) (a_cons (e_dget (e_var 1) (e_var 2)) a_nil))))))
  (s_ret e_bl)
  s_next)))
  (s_ret e_bl)))) ?_
  clear h
  intro xs Q' h
  obtain ⟨rs, ks, rfl, hq⟩ := h
  refine startIs (ρ := [.bor (.dk (numsK rs)), .bor (.dk (numsN rs ks)), .no]) rfl ?_
  obtain ⟨ok, nd, hm, hq⟩ := hq
  have hz := hsz
  have n0 := ok.n0
  have n9 := ok.n9
  have pk : ks.Perm (reachL rs) := perm_of nd (asc_nodup (reach_asc rs)) fun k => (hm k).trans (mem_reach ok).symm
  walk_at "pw"
  refine pif (fun _ => ?_) (fun h => absurd (decide_eq_false_iff_not.mp h) (fun z => z (by unfold numsK numsN; rw [dictN_len, dictN_len, List.length_reverse, pk.length_eq])))
  rw [show keysD (numsK rs) = (reachL rs).reverse.map nD from dictN_keysD]
  refine lpL (fun _ ρ => ∃ s2, ρ = [.bor (.dkl (numsK rs)), .bor (.dkm (numsN rs ks)), s2]) ⟨_, rfl⟩ ?_ ?_
  · rintro i d ρ hd ⟨s2, rfl⟩
    rw [List.getElem?_map, Option.map_eq_some_iff] at hd
    obtain ⟨k, hk, rfl⟩ := hd
    unfold nD
    walk_at "pw"
  · rintro ρ ⟨s2, rfl⟩
    walk_at "pw"
    rw [show keysD (numsN rs ks) = ks.map nD from dictN_keysD]
    refine lpL (fun _ ρ => ∃ s2, ρ = [.bor (.dkm (numsK rs)), .bor (.dkl (numsN rs ks)), s2]) ⟨_, rfl⟩ ?_ ?_
    · rintro i d ρ hd ⟨s2, rfl⟩
      rw [List.getElem?_map, Option.map_eq_some_iff] at hd
      obtain ⟨k, hk, rfl⟩ := hd
      have mk := List.mem_of_getElem? hk
      have a1 := numsK_at ok ((hm k).mp mk)
      have a2 := numsN_at (rs := rs) mk
      unfold nD
      walk_at "pw"
      rw [a1, a2]
      refine pif (fun _ => ⟨_, rfl, _, rfl, same_d okD_num ?_⟩) (fun h => by cases h)
      walk_at "pw"
      try exact ⟨_, rfl⟩
    · rintro ρ ⟨s2, rfl⟩
      walk_at "pw"
      exact hq
end
end K27
namespace K27
open PySem L2 Wp Pl Wy

def tupD : D → D
  | .lst l => .tup l
  | d => d
theorem mapT (rs : Rows) : (rs.map rowD).map tupD = rs.map rowTD := by rw [List.map_map]; rfl
def lstD : D → D
  | .tup l => .lst l
  | d => d
theorem rowTD_eq (r : Row) : rowTD r = .tup (r.map stD) := rfl
theorem mapL (rs : Rows) : (rs.map rowTD).map lstD = rs.map rowD := by rw [List.map_map]; rfl
theorem okD_nats {n : Nat} {l : List Nat} (h : l.length < 2 ^ 60) : okD (n + 1) (.tup (natsD l)) ∧ okD (n + 1) (.lst (natsD l)) := by
  have hk : ∀ d, d ∈ natsD l → okD n d := fun d m => by
    obtain ⟨i, _, rfl⟩ := List.mem_map.mp m
    unfold nD
    simp only [okD]
  simp only [okD]
  exact ⟨⟨by rw [natsD_len]; exact h, hk⟩, by rw [natsD_len]; exact h, hk⟩
section
variable {P : Program} {w : World} {K : PySem.W.Frag} {mg : Str → Option Value} {base : Heap}
theorem ok_law {f : Addr} {fd : FuncData} {C_TableTask : Addr} {C_Task : Addr} (F : Fun K "law" "law" s_law f fd) (T : Txt K mg C_TableTask C_Task) (G_law_pool : Def P w K mg base 1 "_law_pool" ["script"] (spPoolL K)) (G_law_rare : Def P w K mg base 2 "_law_rare" ["pool", "many"] (lift K (pRare))) (G_law_numbers : Def P w K mg base 2 "_law_numbers" ["rows", "chain"] (lift K (pNumbers))) (G_law_draw : Def P w K mg base 1 "_law_draw" ["pool", "many"] (lift K (pDraw))) (GC_TableTask : DefC P w K mg base 1 "TableTask" C_TableTask ["self", "rows"] (liftI K C_TableTask (pTask C_TableTask))) (G_law_same : Def P w K mg base 9 "_law_same" ["got", "due"] (lift K (pSame 8))) (G_law_chain : Def P w K mg base 2 "_law_chain" ["pool"] (lift K (pLChain))) (G_law_rows : Def P w K mg base 4 "_law_rows" ["pool"] (lift K (pLRows))) (G_reached : Def P w K mg base 3 "reached" ["task"] (lift K (pReached C_TableTask))) (G_togo : Def P w K mg base 3 "togo" ["task"] (lift K (pTogo C_TableTask))) (GM_TableTask_steps : DefM P w K mg base 1 C_TableTask "steps" ["self", "state"] (lift K (pSteps C_TableTask))) (G_law_as_told : Def P w K mg base 10 "_law_as_told" ["task", "rows", "apart"] (lift K (pAsTold C_TableTask))) (G_law_same_dict : Def P w K mg base 10 "_law_same_dict" ["told", "numbers"] (lift K (pSameDict))) : FnOk P w K mg base CX0 11 f fd ["script"] (spLawL K) := by
  refine F.ok sc_law (fun vs H Q E h => (by obtain ⟨a, ns, rfl, _⟩ := h; rfl)) (fun cdv A outer s H vs Q E hr h => ?_)
  refine ⟨_, (pss_cons (ps_set (i := 1) sc_law.nd rfl (by first | exact Or.inl rfl | exact Or.inr rfl) (G_law_pool.call (hr.mono (by omega)) (by rfl) (pa_cons (pv 0) pa_nil)))
  (pss_cons (ps_set (i := 2) sc_law.nd rfl (by first | exact Or.inl rfl | exact Or.inr rfl) (G_law_rare.call (hr.mono (by omega)) (by rfl) (pa_cons (pv 1) (pa_cons pe_int pa_nil))))
  (pss_cons (ps_set (i := 3) sc_law.nd rfl (by first | exact Or.inl rfl | exact Or.inr rfl) pe_int)
  (pss_cons (ps_if (pt_tru (K := K) rfl (pv 2))
  (pss_cons (ps_set (i := 4) sc_law.nd rfl (by first | exact Or.inl rfl | exact Or.inr rfl) (G_law_chain.call (hr.mono (by omega)) (by rfl) (pa_cons (pv 1) pa_nil)))
  (pss_one (ps_set (i := 3) sc_law.nd rfl (by first | exact Or.inl rfl | exact Or.inr rfl) pe_int)))
  (pss_one (ps_set (i := 4) sc_law.nd rfl (by first | exact Or.inl rfl | exact Or.inr rfl) (G_law_rows.call (hr.mono (by omega)) (by rfl) (pa_cons (pv 1) pa_nil)))))
  (pss_cons (ps_set (i := 5) sc_law.nd rfl (by first | exact Or.inl rfl | exact Or.inr rfl) (G_law_numbers.call (hr.mono (by omega)) (by rfl) (pa_cons (pv 4) (pa_cons (pv 2) pa_nil))))
  (pss_cons (ps_set (i := 6) sc_law.nd rfl (by first | exact Or.inl rfl | exact Or.inr rfl) (G_law_draw.call (hr.mono (by omega)) (by rfl) (pa_cons (pv 1) (pa_cons pe_int pa_nil))))
  (pss_cons (ps_setLc (i := 7) (own := [("row", 8)]) (g := (gName 8)) (tt := tYes) (by rfl) sc_law.nd rfl rfl (sw_true rfl rfl rfl (by decide +kernel)) (pi_any (K := K) rfl (pv 4)) (blkOk_by (own := [("row", 8)]) (N := ["script", "pool", "chain", "apart", "rows", "numbers", "shape", "handed", "row", "task", "turn", "listed", "found", "steps"]) (sc := defScope s_law) (by decide +kernel)) (fun _ _ _ _ _ => (pg_name (i := 8) sc_law.nd rfl (by first | exact Or.inl rfl | exact Or.inr rfl))) (fun _ _ _ _ _ => pts_nil) (fun _ _ _ _ _ => (pe_callTy (c_listK (K := K) rfl) (by rfl) T.n_list (by decide +kernel) (pa_cons (pv 8) pa_nil))))
  (pss_cons (ps_if (pt_cmpR op_gt (pv 6) pe_int (nomark _))
  (pss_one (ps_setLc (i := 7) (own := [("row", 8)]) (g := (gName 8)) (tt := tYes) (by rfl) sc_law.nd rfl rfl (sw_true rfl rfl rfl (by decide +kernel)) (pi_any (K := K) rfl (pv 4)) (blkOk_by (own := [("row", 8)]) (N := ["script", "pool", "chain", "apart", "rows", "numbers", "shape", "handed", "row", "task", "turn", "listed", "found", "steps"]) (sc := defScope s_law) (by decide +kernel)) (fun _ _ _ _ _ => (pg_name (i := 8) sc_law.nd rfl (by first | exact Or.inl rfl | exact Or.inr rfl))) (fun _ _ _ _ _ => pts_nil) (fun _ _ _ _ _ => (pe_callTy (c_tupleO (K := K) rfl) (by rfl) T.n_tuple (by decide +kernel) (pa_cons (pv 8) pa_nil)))))
  pss_nil)
  (pss_cons (ps_if (pt_cmpR (op_eqU (K := K) rfl hr.units) (pv 6) pe_int (nomark _))
  (pss_one (ps_set (i := 7) sc_law.nd rfl (by first | exact Or.inl rfl | exact Or.inr rfl) (pe_callTy (c_tupleO (K := K) rfl) (by rfl) T.n_tuple (by decide +kernel) (pa_cons (pv 7) pa_nil))))
  pss_nil)
  (pss_cons (ps_set (i := 9) sc_law.nd rfl (by first | exact Or.inl rfl | exact Or.inr rfl) (GC_TableTask.call (hr.mono (by omega)) (by rfl) (pa_cons (pv 7) pa_nil)))
  (pss_cons (ps_if (pt_not (pt_val (pe_callB (call_isiK (K := K) rfl) (by rfl) T.n_isinstance (by decide +kernel) (pa_cons (pv 9) (pa_cons (pe_glob (v := .ref C_Task) (by rfl) T.g_Task rfl) pa_nil)))))
  (pss_one (ps_ret pe_bl))
  pss_nil)
  (pss_cons (ps_for PassesOwn.never rfl (pi_range1 (by rfl) T.n_range (pa_cons pe_int pa_nil)) (pg_name (i := 10) sc_law.nd rfl (by first | exact Or.inl rfl | exact Or.inr rfl))
  (pss_cons (ps_if (pt_not (pt_val (G_law_as_told.call (hr.mono (by omega)) (by rfl) (pa_cons (pv 9) (pa_cons (pv 4) (pa_cons (pv 3) pa_nil))))))
  (pss_one (ps_ret pe_bl))
  pss_nil)
  (pss_cons (ps_set (i := 11) sc_law.nd rfl (by first | exact Or.inl rfl | exact Or.inr rfl) (G_reached.call (hr.mono (by omega)) (by rfl) (pa_cons (pv 9) pa_nil)))
  (pss_cons (ps_if (pt_not (pt_val (G_law_same.call (hr.mono (by omega)) (by rfl) (pa_cons (pv 11) (pa_cons (pe_callB (Pl.c_sortDK rfl) (by rfl) T.n_sorted (by decide +kernel) (pa_cons (pv 5) pa_nil)) pa_nil)))))
  (pss_one (ps_ret pe_bl))
  pss_nil)
  (pss_cons (ps_set (i := 12) sc_law.nd rfl (by first | exact Or.inl rfl | exact Or.inr rfl) (G_togo.call (hr.mono (by omega)) (by rfl) (pa_cons (pv 9) pa_nil)))
  (pss_cons (ps_if (pt_not (pt_val (G_law_same_dict.call (hr.mono (by omega)) (by rfl) (pa_cons (pv 12) (pa_cons (pv 5) pa_nil)))))
  (pss_one (ps_ret pe_bl))
  pss_nil)
  (pss_cons (ps_set (i := 13) sc_law.nd rfl (by first | exact Or.inl rfl | exact Or.inr rfl) (Pl.DefM.call GM_TableTask_steps (hr.mono (by omega)) (pv 9) (pa_cons pe_int pa_nil)))
  (pss_cons (ps_if (pt_not (pt_val (G_law_same.call (hr.mono (by omega)) (by rfl) (pa_cons (pv 13) (pa_cons (pe_ix (ixU (K := K) rfl) (pv 4) pe_int (fun _ _ => rfl)) pa_nil)))))
  (pss_one (ps_ret pe_bl))
  pss_nil)
  (pss_cons (ps_expr (pe_bm0K (K := K) rfl PySem.F.plainAttrs_list PySem.F.slot_list_clear PySem.F.type_list_clear mt_clear (pv 11)))
  (pss_cons (ps_expr (pe_dclear (pv 12)))
  (pss_one (ps_expr (pe_bmK (K := K) rfl PySem.F.plainAttrs_list PySem.F.slot_list_append PySem.F.type_list_append mt_append (pv 13) (pa_cons (pe_tup (pa_cons pe_int (pa_cons (pe_op op_sub (pe_callB (c_lenU (K := K) rfl) (by rfl) T.n_len (by decide +kernel) (pa_cons (pv 4) pa_nil)) pe_int) pa_nil))) pa_nil))))))))))))))
  (pss_one (ps_ret (G_law_same.call (hr.mono (by omega)) (by rfl) (pa_cons (pe_lc (own := [("row", 8)]) (g := (gName 8)) (tt := tYes) (by rfl) sc_law.nd (pi_any (K := K) rfl (pv 7)) (blkOk_by (own := [("row", 8)]) (N := ["script", "pool", "chain", "apart", "rows", "numbers", "shape", "handed", "row", "task", "turn", "listed", "found", "steps"]) (sc := defScope s_law) (by decide +kernel)) (fun _ _ _ _ _ => (pg_name (i := 8) sc_law.nd rfl (by first | exact Or.inl rfl | exact Or.inr rfl))) (fun _ _ _ _ _ => pts_nil) (fun _ _ _ _ _ => (pe_callTy (c_listK (K := K) rfl) (by rfl) T.n_list (by decide +kernel) (pa_cons (pv 8) pa_nil)))) (pa_cons (pv 4) pa_nil))))))))))))))))), ?_⟩
  refine law_run (N := ["script", "pool", "chain", "apart", "rows", "numbers", "shape", "handed", "row", "task", "turn", "listed", "found", "steps"]) h (s_seq (s_asg (e_call [] (a_cons (e_var 1) (a_cons e_int a_nil))))
  (s_seq (s_asg e_int)
  (s_seq (s_if (t_tru (e_var 2))
  (s_seq (s_asg (e_call [] (a_cons (e_var 1) a_nil)))
  (s_asg e_int))
  (s_asg (e_call [] (a_cons (e_var 1) a_nil))))
  (s_seq (s_fr 4 (s_asg (e_call [] (a_cons (e_var 4) (a_cons (e_var 2) a_nil)))))
  (s_seq (s_asg (e_call [] (a_cons (e_var 1) (a_cons e_int a_nil))))
  (s_seq (s_asg (e_lc (i_any (e_var 4)) g_name t_yes (e_cb Pl.c_list (a_cons (e_var 8) a_nil)) (by decide)))
  (s_seq (s_if (t_test (e_op r_gt (e_var 6) e_int))
  (s_asg (e_lc (i_any (e_var 4)) g_name t_yes (e_cb Pl.c_tuple (a_cons (e_var 8) a_nil)) (by decide)))
  s_next)
  (s_seq (s_if (t_test (e_op r_eq (e_var 6) e_int))
  (s_asg (e_cb Pl.c_tuple (a_cons (e_var 7) a_nil)))
  s_next)
  (s_seq (s_fr 7 (s_asg (e_make [] (a_cons (e_var 7) a_nil))))
  (s_seq (s_if (t_not (t_b (e_cb Pl.c_isiO (a_cons (e_var 9) (a_cons e_obj a_nil)))))
  (s_ret e_bl)
  s_next)
  (s_seq (s_for (i_range1 (a_cons e_int a_nil)) g_name
  (s_seq (s_if (t_not (t_b (e_call [] (a_cons (e_var 9) (a_cons (e_var 4) (a_cons (e_var 3) a_nil))))))
  (s_ret e_bl)
  s_next)
  (s_seq (s_asg (e_call [] (a_cons (e_var 9) a_nil)))
  (s_seq (s_if (t_not (t_b (e_call [true, true] (a_cons (e_var 11) (a_cons (e_cb Pl.c_sortD (a_cons (e_var 5) a_nil)) a_nil)))))
  (s_ret e_bl)
  s_next)
  (s_seq (s_asg (e_call [] (a_cons (e_var 9) a_nil)))
  (s_seq (s_if (t_not (t_b (e_call [] (a_cons (e_var 12) (a_cons (e_var 5) a_nil)))))
  (s_ret e_bl)
  s_next)
  (s_seq (s_asg (e_meth [] (e_var 9) (a_cons e_int a_nil)))
  (s_seq (s_if (t_not (t_b (e_call [true, true] (a_cons (e_var 13) (a_cons (e_op r_ix (e_var 4) e_int) a_nil)))))
  (s_ret e_bl)
  s_next)
  (s_seq s_clr
  (s_seq s_dclr
  (s_apd (e_tup (a_cons e_int (a_cons (e_op r_sub (e_cb Pl.c_len (a_cons (e_var 4) a_nil)) e_int) a_nil))))))))))))))
  (s_ret (e_call [true, true] (a_cons (e_lc (i_any (e_var 7)) g_name t_yes (e_cb Pl.c_list (a_cons (e_var 8) a_nil)) (by decide)) (a_cons (e_var 4) a_nil))))))))))))))) ?_
  clear h
  simp only [List.length_cons, List.length_nil, List.replicate, Nat.reduceAdd, Nat.reduceSub]
  have hz := hsz
  walk_at "pw"
  refine fun b => pif (fun _ => ⟨(), rfl, fun rs ok => ?_⟩) (fun _ => ⟨(), rfl, fun rs ok => ?_⟩)
  all_goals have n0 := ok.n0
  all_goals have n9 := ok.n9
  all_goals have rlen := reach_len rs
  · walk_at "pw"
    rw [show (rs.map fun r => r.map stD).map D.lst = rs.map rowD by rw [List.map_map]; rfl]
    refine ⟨rs, _, rfl, ok, fun ks nd hm => ?_⟩
    walk_at "pw"
    intro shp s0 s9
    have hs : shp = 0 ∨ shp = 1 ∨ shp = 2 := by omega
    refine compM (fun d => d) (by rw [List.length_map]; omega) (fun d m N hN => ?_) ?_
    · obtain ⟨r, mr, rfl⟩ := List.mem_map.mp m
      rw [rowD_eq]
      walk_at "pw"
      exact hN
    rw [mapId]
    walk_at "pw"
    rcases hs with rfl | rfl | rfl
    · walk_at "pw"
      refine ⟨rs, _, _, rfl, ok, .inl rfl, .inl rfl, ?_⟩
      walk_at "pw"
      refine ⟨_, _, _, true, rfl, T.is_TableTask_Task, ?_⟩
      walk_at "pw"
      obtain ⟨V, hV⟩ : ∃ V : Nat → Pl.Env → Prop, ∀ i ρ, V i ρ ↔ ∃ (s8 s10 s11 s12 s13 : Pl.Sl), ρ = [.no, .pool, .fz (.bl b), .fz (.int 97), .fz (.lst (rs.map rowD)), .own (.dk (numsN rs ks)), .fz (.int 0), .fz (.lst (rs.map rowD)), s8, .fz (tk C_TableTask rs), s10, s11, s12, s13] := ⟨_, fun _ _ => Iff.rfl⟩
      refine lpR V ((hV _ _).mpr ⟨_, _, _, _, _, rfl⟩) ?_ ?_
      · intro i ρ hi hv
        rw [hV] at hv
        obtain ⟨s8, s10, s11, s12, s13, rfl⟩ := hv
        walk_at "pw"
        refine ⟨rs, 97, rfl, ok, by decide, by decide, ?_⟩
        walk_at "pw"
        refine ⟨rs, rfl, ok, ?_⟩
        walk_at "pw"
        refine ⟨ks.map fun k : Nat => (k : Int), dictN_keys, fun ms hp ho => ?_⟩
        have pk : ks.Perm (reachL rs) := perm_of nd (asc_nodup (reach_asc rs)) fun k => (hm k).trans (mem_reach ok).symm
        rw [sort_asc (reach_asc rs) (hp.trans (pk.map _)) ho, ← natsD_i]
        refine same_l rfl (okD_nats (by omega)).2 ?_
        walk_at "pw"
        refine ⟨rs, rfl, ok, ?_⟩
        walk_at "pw"
        refine ⟨rs, ks, rfl, ok, nd, hm, ?_⟩
        walk_at "pw"
        refine ⟨_, rfl, tk_no (by decide), rs, 0, rfl, n0, ?_⟩
        walk_at "pw"
        refine ⟨_, atRow n0, ?_⟩
        rw [rowD_eq]
        refine same_l rfl (okD_row (ok.rw n0)) ?_
        walk_at "pw"
        have := ok.rw n0
        exact ⟨by rw [List.length_map]; omega, (hV _ _).mpr ⟨_, _, _, _, _, rfl⟩⟩
      · intro ρ hv
        rw [hV] at hv
        obtain ⟨s8, s10, s11, s12, s13, rfl⟩ := hv
        walk_at "pw"
        refine compM (fun d => d) (by rw [List.length_map]; omega) (fun d m N hN => ?_) ?_
        · obtain ⟨r, mr, rfl⟩ := List.mem_map.mp m
          rw [rowD_eq]
          walk_at "pw"
          exact hN
        rw [mapId]
        walk_at "pw"
        refine same_l rfl (okD_rows ok) ?_
        walk_at "pw"
    · walk_at "pw"
      refine compM tupD (by rw [List.length_map]; omega) (fun d m N hN => ?_) ?_
      · obtain ⟨r, mr, rfl⟩ := List.mem_map.mp m
        rw [rowD_eq]
        walk_at "pw"
        exact hN
      rw [mapT]
      walk_at "pw"
      refine ⟨rs, _, _, rfl, ok, .inl rfl, .inr rfl, ?_⟩
      walk_at "pw"
      refine ⟨_, _, _, true, rfl, T.is_TableTask_Task, ?_⟩
      walk_at "pw"
      obtain ⟨V, hV⟩ : ∃ V : Nat → Pl.Env → Prop, ∀ i ρ, V i ρ ↔ ∃ (s8 s10 s11 s12 s13 : Pl.Sl), ρ = [.no, .pool, .fz (.bl b), .fz (.int 97), .fz (.lst (rs.map rowD)), .own (.dk (numsN rs ks)), .fz (.int 1), .fz (.lst (rs.map rowTD)), s8, .fz (tk C_TableTask rs), s10, s11, s12, s13] := ⟨_, fun _ _ => Iff.rfl⟩
      refine lpR V ((hV _ _).mpr ⟨_, _, _, _, _, rfl⟩) ?_ ?_
      · intro i ρ hi hv
        rw [hV] at hv
        obtain ⟨s8, s10, s11, s12, s13, rfl⟩ := hv
        walk_at "pw"
        refine ⟨rs, 97, rfl, ok, by decide, by decide, ?_⟩
        walk_at "pw"
        refine ⟨rs, rfl, ok, ?_⟩
        walk_at "pw"
        refine ⟨ks.map fun k : Nat => (k : Int), dictN_keys, fun ms hp ho => ?_⟩
        have pk : ks.Perm (reachL rs) := perm_of nd (asc_nodup (reach_asc rs)) fun k => (hm k).trans (mem_reach ok).symm
        rw [sort_asc (reach_asc rs) (hp.trans (pk.map _)) ho, ← natsD_i]
        refine same_l rfl (okD_nats (by omega)).2 ?_
        walk_at "pw"
        refine ⟨rs, rfl, ok, ?_⟩
        walk_at "pw"
        refine ⟨rs, ks, rfl, ok, nd, hm, ?_⟩
        walk_at "pw"
        refine ⟨_, rfl, tk_no (by decide), rs, 0, rfl, n0, ?_⟩
        walk_at "pw"
        refine ⟨_, atRow n0, ?_⟩
        rw [rowD_eq]
        refine same_l rfl (okD_row (ok.rw n0)) ?_
        walk_at "pw"
        have := ok.rw n0
        exact ⟨by rw [List.length_map]; omega, (hV _ _).mpr ⟨_, _, _, _, _, rfl⟩⟩
      · intro ρ hv
        rw [hV] at hv
        obtain ⟨s8, s10, s11, s12, s13, rfl⟩ := hv
        walk_at "pw"
        refine compM lstD (by rw [List.length_map]; omega) (fun d m N hN => ?_) ?_
        · obtain ⟨r, mr, rfl⟩ := List.mem_map.mp m
          rw [rowTD_eq]
          walk_at "pw"
          exact hN
        rw [mapL]
        walk_at "pw"
        refine same_l rfl (okD_rows ok) ?_
        walk_at "pw"
    · walk_at "pw"
      refine compM tupD (by rw [List.length_map]; omega) (fun d m N hN => ?_) ?_
      · obtain ⟨r, mr, rfl⟩ := List.mem_map.mp m
        rw [rowD_eq]
        walk_at "pw"
        exact hN
      rw [mapT]
      walk_at "pw"
      refine ⟨rs, _, _, rfl, ok, .inr rfl, .inr rfl, ?_⟩
      walk_at "pw"
      refine ⟨_, _, _, true, rfl, T.is_TableTask_Task, ?_⟩
      walk_at "pw"
      obtain ⟨V, hV⟩ : ∃ V : Nat → Pl.Env → Prop, ∀ i ρ, V i ρ ↔ ∃ (s8 s10 s11 s12 s13 : Pl.Sl), ρ = [.no, .pool, .fz (.bl b), .fz (.int 97), .fz (.lst (rs.map rowD)), .own (.dk (numsN rs ks)), .fz (.int 2), .fz (.tup (rs.map rowTD)), s8, .fz (tk C_TableTask rs), s10, s11, s12, s13] := ⟨_, fun _ _ => Iff.rfl⟩
      refine lpR V ((hV _ _).mpr ⟨_, _, _, _, _, rfl⟩) ?_ ?_
      · intro i ρ hi hv
        rw [hV] at hv
        obtain ⟨s8, s10, s11, s12, s13, rfl⟩ := hv
        walk_at "pw"
        refine ⟨rs, 97, rfl, ok, by decide, by decide, ?_⟩
        walk_at "pw"
        refine ⟨rs, rfl, ok, ?_⟩
        walk_at "pw"
        refine ⟨ks.map fun k : Nat => (k : Int), dictN_keys, fun ms hp ho => ?_⟩
        have pk : ks.Perm (reachL rs) := perm_of nd (asc_nodup (reach_asc rs)) fun k => (hm k).trans (mem_reach ok).symm
        rw [sort_asc (reach_asc rs) (hp.trans (pk.map _)) ho, ← natsD_i]
        refine same_l rfl (okD_nats (by omega)).2 ?_
        walk_at "pw"
        refine ⟨rs, rfl, ok, ?_⟩
        walk_at "pw"
        refine ⟨rs, ks, rfl, ok, nd, hm, ?_⟩
        walk_at "pw"
        refine ⟨_, rfl, tk_no (by decide), rs, 0, rfl, n0, ?_⟩
        walk_at "pw"
        refine ⟨_, atRow n0, ?_⟩
        rw [rowD_eq]
        refine same_l rfl (okD_row (ok.rw n0)) ?_
        walk_at "pw"
        have := ok.rw n0
        exact ⟨by rw [List.length_map]; omega, (hV _ _).mpr ⟨_, _, _, _, _, rfl⟩⟩
      · intro ρ hv
        rw [hV] at hv
        obtain ⟨s8, s10, s11, s12, s13, rfl⟩ := hv
        walk_at "pw"
        refine compM lstD (by rw [List.length_map]; omega) (fun d m N hN => ?_) ?_
        · obtain ⟨r, mr, rfl⟩ := List.mem_map.mp m
          rw [rowTD_eq]
          walk_at "pw"
          exact hN
        rw [mapL]
        walk_at "pw"
        refine same_l rfl (okD_rows ok) ?_
        walk_at "pw"
  · walk_at "pw"
    refine ⟨rs, _, rfl, ok, fun ks nd hm => ?_⟩
    walk_at "pw"
    intro shp s0 s9
    have hs : shp = 0 ∨ shp = 1 ∨ shp = 2 := by omega
    refine compM (fun d => d) (by rw [List.length_map]; omega) (fun d m N hN => ?_) ?_
    · obtain ⟨r, mr, rfl⟩ := List.mem_map.mp m
      rw [rowD_eq]
      walk_at "pw"
      exact hN
    rw [mapId]
    walk_at "pw"
    rcases hs with rfl | rfl | rfl
    · walk_at "pw"
      refine ⟨rs, _, _, rfl, ok, .inl rfl, .inl rfl, ?_⟩
      walk_at "pw"
      refine ⟨_, _, _, true, rfl, T.is_TableTask_Task, ?_⟩
      walk_at "pw"
      obtain ⟨V, hV⟩ : ∃ V : Nat → Pl.Env → Prop, ∀ i ρ, V i ρ ↔ ∃ (s8 s10 s11 s12 s13 : Pl.Sl), ρ = [.no, .pool, .fz (.bl b), .fz (.int 1), .fz (.lst (rs.map rowD)), .own (.dk (numsN rs ks)), .fz (.int 0), .fz (.lst (rs.map rowD)), s8, .fz (tk C_TableTask rs), s10, s11, s12, s13] := ⟨_, fun _ _ => Iff.rfl⟩
      refine lpR V ((hV _ _).mpr ⟨_, _, _, _, _, rfl⟩) ?_ ?_
      · intro i ρ hi hv
        rw [hV] at hv
        obtain ⟨s8, s10, s11, s12, s13, rfl⟩ := hv
        walk_at "pw"
        refine ⟨rs, 1, rfl, ok, by decide, by decide, ?_⟩
        walk_at "pw"
        refine ⟨rs, rfl, ok, ?_⟩
        walk_at "pw"
        refine ⟨ks.map fun k : Nat => (k : Int), dictN_keys, fun ms hp ho => ?_⟩
        have pk : ks.Perm (reachL rs) := perm_of nd (asc_nodup (reach_asc rs)) fun k => (hm k).trans (mem_reach ok).symm
        rw [sort_asc (reach_asc rs) (hp.trans (pk.map _)) ho, ← natsD_i]
        refine same_l rfl (okD_nats (by omega)).2 ?_
        walk_at "pw"
        refine ⟨rs, rfl, ok, ?_⟩
        walk_at "pw"
        refine ⟨rs, ks, rfl, ok, nd, hm, ?_⟩
        walk_at "pw"
        refine ⟨_, rfl, tk_no (by decide), rs, 0, rfl, n0, ?_⟩
        walk_at "pw"
        refine ⟨_, atRow n0, ?_⟩
        rw [rowD_eq]
        refine same_l rfl (okD_row (ok.rw n0)) ?_
        walk_at "pw"
        have := ok.rw n0
        exact ⟨by rw [List.length_map]; omega, (hV _ _).mpr ⟨_, _, _, _, _, rfl⟩⟩
      · intro ρ hv
        rw [hV] at hv
        obtain ⟨s8, s10, s11, s12, s13, rfl⟩ := hv
        walk_at "pw"
        refine compM (fun d => d) (by rw [List.length_map]; omega) (fun d m N hN => ?_) ?_
        · obtain ⟨r, mr, rfl⟩ := List.mem_map.mp m
          rw [rowD_eq]
          walk_at "pw"
          exact hN
        rw [mapId]
        walk_at "pw"
        refine same_l rfl (okD_rows ok) ?_
        walk_at "pw"
    · walk_at "pw"
      refine compM tupD (by rw [List.length_map]; omega) (fun d m N hN => ?_) ?_
      · obtain ⟨r, mr, rfl⟩ := List.mem_map.mp m
        rw [rowD_eq]
        walk_at "pw"
        exact hN
      rw [mapT]
      walk_at "pw"
      refine ⟨rs, _, _, rfl, ok, .inl rfl, .inr rfl, ?_⟩
      walk_at "pw"
      refine ⟨_, _, _, true, rfl, T.is_TableTask_Task, ?_⟩
      walk_at "pw"
      obtain ⟨V, hV⟩ : ∃ V : Nat → Pl.Env → Prop, ∀ i ρ, V i ρ ↔ ∃ (s8 s10 s11 s12 s13 : Pl.Sl), ρ = [.no, .pool, .fz (.bl b), .fz (.int 1), .fz (.lst (rs.map rowD)), .own (.dk (numsN rs ks)), .fz (.int 1), .fz (.lst (rs.map rowTD)), s8, .fz (tk C_TableTask rs), s10, s11, s12, s13] := ⟨_, fun _ _ => Iff.rfl⟩
      refine lpR V ((hV _ _).mpr ⟨_, _, _, _, _, rfl⟩) ?_ ?_
      · intro i ρ hi hv
        rw [hV] at hv
        obtain ⟨s8, s10, s11, s12, s13, rfl⟩ := hv
        walk_at "pw"
        refine ⟨rs, 1, rfl, ok, by decide, by decide, ?_⟩
        walk_at "pw"
        refine ⟨rs, rfl, ok, ?_⟩
        walk_at "pw"
        refine ⟨ks.map fun k : Nat => (k : Int), dictN_keys, fun ms hp ho => ?_⟩
        have pk : ks.Perm (reachL rs) := perm_of nd (asc_nodup (reach_asc rs)) fun k => (hm k).trans (mem_reach ok).symm
        rw [sort_asc (reach_asc rs) (hp.trans (pk.map _)) ho, ← natsD_i]
        refine same_l rfl (okD_nats (by omega)).2 ?_
        walk_at "pw"
        refine ⟨rs, rfl, ok, ?_⟩
        walk_at "pw"
        refine ⟨rs, ks, rfl, ok, nd, hm, ?_⟩
        walk_at "pw"
        refine ⟨_, rfl, tk_no (by decide), rs, 0, rfl, n0, ?_⟩
        walk_at "pw"
        refine ⟨_, atRow n0, ?_⟩
        rw [rowD_eq]
        refine same_l rfl (okD_row (ok.rw n0)) ?_
        walk_at "pw"
        have := ok.rw n0
        exact ⟨by rw [List.length_map]; omega, (hV _ _).mpr ⟨_, _, _, _, _, rfl⟩⟩
      · intro ρ hv
        rw [hV] at hv
        obtain ⟨s8, s10, s11, s12, s13, rfl⟩ := hv
        walk_at "pw"
        refine compM lstD (by rw [List.length_map]; omega) (fun d m N hN => ?_) ?_
        · obtain ⟨r, mr, rfl⟩ := List.mem_map.mp m
          rw [rowTD_eq]
          walk_at "pw"
          exact hN
        rw [mapL]
        walk_at "pw"
        refine same_l rfl (okD_rows ok) ?_
        walk_at "pw"
    · walk_at "pw"
      refine compM tupD (by rw [List.length_map]; omega) (fun d m N hN => ?_) ?_
      · obtain ⟨r, mr, rfl⟩ := List.mem_map.mp m
        rw [rowD_eq]
        walk_at "pw"
        exact hN
      rw [mapT]
      walk_at "pw"
      refine ⟨rs, _, _, rfl, ok, .inr rfl, .inr rfl, ?_⟩
      walk_at "pw"
      refine ⟨_, _, _, true, rfl, T.is_TableTask_Task, ?_⟩
      walk_at "pw"
      obtain ⟨V, hV⟩ : ∃ V : Nat → Pl.Env → Prop, ∀ i ρ, V i ρ ↔ ∃ (s8 s10 s11 s12 s13 : Pl.Sl), ρ = [.no, .pool, .fz (.bl b), .fz (.int 1), .fz (.lst (rs.map rowD)), .own (.dk (numsN rs ks)), .fz (.int 2), .fz (.tup (rs.map rowTD)), s8, .fz (tk C_TableTask rs), s10, s11, s12, s13] := ⟨_, fun _ _ => Iff.rfl⟩
      refine lpR V ((hV _ _).mpr ⟨_, _, _, _, _, rfl⟩) ?_ ?_
      · intro i ρ hi hv
        rw [hV] at hv
        obtain ⟨s8, s10, s11, s12, s13, rfl⟩ := hv
        walk_at "pw"
        refine ⟨rs, 1, rfl, ok, by decide, by decide, ?_⟩
        walk_at "pw"
        refine ⟨rs, rfl, ok, ?_⟩
        walk_at "pw"
        refine ⟨ks.map fun k : Nat => (k : Int), dictN_keys, fun ms hp ho => ?_⟩
        have pk : ks.Perm (reachL rs) := perm_of nd (asc_nodup (reach_asc rs)) fun k => (hm k).trans (mem_reach ok).symm
        rw [sort_asc (reach_asc rs) (hp.trans (pk.map _)) ho, ← natsD_i]
        refine same_l rfl (okD_nats (by omega)).2 ?_
        walk_at "pw"
        refine ⟨rs, rfl, ok, ?_⟩
        walk_at "pw"
        refine ⟨rs, ks, rfl, ok, nd, hm, ?_⟩
        walk_at "pw"
        refine ⟨_, rfl, tk_no (by decide), rs, 0, rfl, n0, ?_⟩
        walk_at "pw"
        refine ⟨_, atRow n0, ?_⟩
        rw [rowD_eq]
        refine same_l rfl (okD_row (ok.rw n0)) ?_
        walk_at "pw"
        have := ok.rw n0
        exact ⟨by rw [List.length_map]; omega, (hV _ _).mpr ⟨_, _, _, _, _, rfl⟩⟩
      · intro ρ hv
        rw [hV] at hv
        obtain ⟨s8, s10, s11, s12, s13, rfl⟩ := hv
        walk_at "pw"
        refine compM lstD (by rw [List.length_map]; omega) (fun d m N hN => ?_) ?_
        · obtain ⟨r, mr, rfl⟩ := List.mem_map.mp m
          rw [rowTD_eq]
          walk_at "pw"
          exact hN
        rw [mapL]
        walk_at "pw"
        refine same_l rfl (okD_rows ok) ?_
        walk_at "pw"
end
end K27
namespace K27
open PySem L2 Wp Pl
theorem lift_no {K : PySem.W.Frag} {vs H Q E} (h : lift K (fun _ _ => False) vs H Q E) : False := by
  obtain ⟨_, _, _, _, _, _, _, hs, _⟩ := h
  exact hs
theorem all_mk {l : PySem.W.OpenLaw} {w : World} {K : PySem.W.Frag} {h : Heap} {mg : Str → Option Value} {fa C_TableTask C_Task f_reached f_togo f_least_step f_by_rank f_law_pool f_law_draw f_law_rare f_law_few f_law_same f_law_int f_law_price f_law_rows f_law_chain f_law_row_table f_law_tails f_law_togo f_law_numbers f_law_as_told f_law_same_dict f_law f_TableTask_init f_TableTask_first f_TableTask_steps f_TableTask_rank f_TableTask_is_end : Addr} (X : K.In h) (G : h.Ns mainGlobals mg) (hfa : mg "law" = some (.ref fa))
    {od0 an0 od1 an1 od2 an2 od3 an3 od4 an4 od5 an5 od6 an6 od7 an7 od8 an8 od9 an9 od10 an10 od11 an11 od12 an12 od13 an13 od14 an14 od15 an15 od16 an16 od17 an17 od18 an18 od19 an19 od20 an20 od21 an21 od22 an22 od23 an23 od24 an24 : Option Addr} {sl0 sl1 sl2 sl3 sl4 sl5 sl6 sl7 sl8 sl9 sl10 sl11 sl12 sl13 sl14 sl15 sl16 sl17 sl18 sl19 sl20 sl21 sl22 sl23 sl24 : Array (Option Value)} {oc0 kV0 dc0 pm0 cd0 ct0 oc1 kV1 dc1 pm1 cd1 ct1 oc2 kV2 dc2 pm2 cd2 ct2 oc3 kV3 dc3 pm3 cd3 ct3 oc4 kV4 dc4 pm4 cd4 ct4 oc5 kV5 dc5 pm5 cd5 ct5 oc6 kV6 dc6 pm6 cd6 ct6 oc7 kV7 dc7 pm7 cd7 ct7 oc8 kV8 dc8 pm8 cd8 ct8 oc9 kV9 dc9 pm9 cd9 ct9 oc10 kV10 dc10 pm10 cd10 ct10 oc11 kV11 dc11 pm11 cd11 ct11 oc12 kV12 dc12 pm12 cd12 ct12 oc13 kV13 dc13 pm13 cd13 ct13 oc14 kV14 dc14 pm14 cd14 ct14 oc15 kV15 dc15 pm15 cd15 ct15 oc16 kV16 dc16 pm16 cd16 ct16 oc17 kV17 dc17 pm17 cd17 ct17 oc18 kV18 dc18 pm18 cd18 ct18 oc19 kV19 dc19 pm19 cd19 ct19 oc20 kV20 dc20 pm20 cd20 ct20 oc21 kV21 dc21 pm21 cd21 ct21 oc22 kV22 dc22 pm22 cd22 ct22 oc23 kV23 dc23 pm23 cd23 ct23 oc24 kV24 dc24 pm24 cd24 ct24 : Value}
    (a_CTableTask : PySem.W.nsIn K mainGlobals "TableTask" = some (some (.ref C_TableTask)))
    (pg_TableTask : PySem.W.plainGet K C_TableTask Str.empty = true)
    (hd_TableTask : PySem.W.hasDictIn K C_TableTask = true)
    (po_TableTask : PySem.W.plainOver K C_TableTask = true)
    (sa_TableTask : PySem.W.findIn K (.ref C_TableTask) "__setattr__" = some (some (.builtin "object.__setattr__")))
    (nf_TableTask__rows : PySem.W.findIn K (.ref C_TableTask) "_rows" = some none)
    (a_CTask : PySem.W.nsIn K mainGlobals "Task" = some (some (.ref C_Task)))
    (pg_Task : PySem.W.plainGet K C_Task Str.empty = true)
    (hd_Task : PySem.W.hasDictIn K C_Task = true)
    (po_Task : PySem.W.plainOver K C_Task = true)
    (sa_Task : PySem.W.findIn K (.ref C_Task) "__setattr__" = some (some (.builtin "object.__setattr__")))
    (ia_TableTask_Task : PySem.W.findIn K (.ref C_TableTask) "__class__" = some (some (.builtin "object.__class__")))
    (ib_TableTask_Task : PySem.W.specialIn K (.builtin "object.__class__") "__get__" = some (some (.builtin "getset_descriptor.__get__")))
    (ic_TableTask_Task : PySem.W.takesIn K (.builtin "object.__class__") = some true)
    (id_TableTask_Task : PySem.W.mroIn K C_TableTask (.type "object") = some true)
    (ie_TableTask_Task : PySem.W.kitOne K (.ref C_TableTask) (.ref C_Task) = some true)
    (mk_TableTask : PySem.W.makesIn K C_TableTask = true)
    (kc_TableTask : PySem.W.keepIn K (.ref C_TableTask) = true)
    (a0 : PySem.W.nsIn K mainGlobals "reached" = some (some (.ref f_reached)))
    (l0 : K.lookup f_reached = some ⟨oc0, od0, .func (PySem.W.fnOf "reached" "reached" (defArgs s_reached) (defBody s_reached) (defScope s_reached) .none kV0 dc0 pm0 an0 cd0 ct0), sl0⟩)
    (c0 : PySem.W.codeIn K cd0 "reached" = true)
    (k0 : PySem.W.keepIn K (.ref f_reached) = true)
    (a1 : PySem.W.nsIn K mainGlobals "togo" = some (some (.ref f_togo)))
    (l1 : K.lookup f_togo = some ⟨oc1, od1, .func (PySem.W.fnOf "togo" "togo" (defArgs s_togo) (defBody s_togo) (defScope s_togo) .none kV1 dc1 pm1 an1 cd1 ct1), sl1⟩)
    (c1 : PySem.W.codeIn K cd1 "togo" = true)
    (k1 : PySem.W.keepIn K (.ref f_togo) = true)
    (a2 : PySem.W.nsIn K mainGlobals "least_step" = some (some (.ref f_least_step)))
    (l2 : K.lookup f_least_step = some ⟨oc2, od2, .func (PySem.W.fnOf "least_step" "least_step" (defArgs s_least_step) (defBody s_least_step) (defScope s_least_step) .none kV2 dc2 pm2 an2 cd2 ct2), sl2⟩)
    (c2 : PySem.W.codeIn K cd2 "least_step" = true)
    (k2 : PySem.W.keepIn K (.ref f_least_step) = true)
    (a3 : PySem.W.nsIn K mainGlobals "_by_rank" = some (some (.ref f_by_rank)))
    (l3 : K.lookup f_by_rank = some ⟨oc3, od3, .func (PySem.W.fnOf "_by_rank" "_by_rank" (defArgs s_by_rank) (defBody s_by_rank) (defScope s_by_rank) .none kV3 dc3 pm3 an3 cd3 ct3), sl3⟩)
    (c3 : PySem.W.codeIn K cd3 "_by_rank" = true)
    (k3 : PySem.W.keepIn K (.ref f_by_rank) = true)
    (a4 : PySem.W.nsIn K mainGlobals "_law_pool" = some (some (.ref f_law_pool)))
    (l4 : K.lookup f_law_pool = some ⟨oc4, od4, .func (PySem.W.fnOf "_law_pool" "_law_pool" (defArgs s_law_pool) (defBody s_law_pool) (defScope s_law_pool) .none kV4 dc4 pm4 an4 cd4 ct4), sl4⟩)
    (c4 : PySem.W.codeIn K cd4 "_law_pool" = true)
    (k4 : PySem.W.keepIn K (.ref f_law_pool) = true)
    (a5 : PySem.W.nsIn K mainGlobals "_law_draw" = some (some (.ref f_law_draw)))
    (l5 : K.lookup f_law_draw = some ⟨oc5, od5, .func (PySem.W.fnOf "_law_draw" "_law_draw" (defArgs s_law_draw) (defBody s_law_draw) (defScope s_law_draw) .none kV5 dc5 pm5 an5 cd5 ct5), sl5⟩)
    (c5 : PySem.W.codeIn K cd5 "_law_draw" = true)
    (k5 : PySem.W.keepIn K (.ref f_law_draw) = true)
    (a6 : PySem.W.nsIn K mainGlobals "_law_rare" = some (some (.ref f_law_rare)))
    (l6 : K.lookup f_law_rare = some ⟨oc6, od6, .func (PySem.W.fnOf "_law_rare" "_law_rare" (defArgs s_law_rare) (defBody s_law_rare) (defScope s_law_rare) .none kV6 dc6 pm6 an6 cd6 ct6), sl6⟩)
    (c6 : PySem.W.codeIn K cd6 "_law_rare" = true)
    (k6 : PySem.W.keepIn K (.ref f_law_rare) = true)
    (a7 : PySem.W.nsIn K mainGlobals "_law_few" = some (some (.ref f_law_few)))
    (l7 : K.lookup f_law_few = some ⟨oc7, od7, .func (PySem.W.fnOf "_law_few" "_law_few" (defArgs s_law_few) (defBody s_law_few) (defScope s_law_few) .none kV7 dc7 pm7 an7 cd7 ct7), sl7⟩)
    (c7 : PySem.W.codeIn K cd7 "_law_few" = true)
    (k7 : PySem.W.keepIn K (.ref f_law_few) = true)
    (a8 : PySem.W.nsIn K mainGlobals "_law_same" = some (some (.ref f_law_same)))
    (l8 : K.lookup f_law_same = some ⟨oc8, od8, .func (PySem.W.fnOf "_law_same" "_law_same" (defArgs s_law_same) (defBody s_law_same) (defScope s_law_same) .none kV8 dc8 pm8 an8 cd8 ct8), sl8⟩)
    (c8 : PySem.W.codeIn K cd8 "_law_same" = true)
    (k8 : PySem.W.keepIn K (.ref f_law_same) = true)
    (a9 : PySem.W.nsIn K mainGlobals "_law_int" = some (some (.ref f_law_int)))
    (l9 : K.lookup f_law_int = some ⟨oc9, od9, .func (PySem.W.fnOf "_law_int" "_law_int" (defArgs s_law_int) (defBody s_law_int) (defScope s_law_int) .none kV9 dc9 pm9 an9 cd9 ct9), sl9⟩)
    (c9 : PySem.W.codeIn K cd9 "_law_int" = true)
    (k9 : PySem.W.keepIn K (.ref f_law_int) = true)
    (a10 : PySem.W.nsIn K mainGlobals "_law_price" = some (some (.ref f_law_price)))
    (l10 : K.lookup f_law_price = some ⟨oc10, od10, .func (PySem.W.fnOf "_law_price" "_law_price" (defArgs s_law_price) (defBody s_law_price) (defScope s_law_price) .none kV10 dc10 pm10 an10 cd10 ct10), sl10⟩)
    (c10 : PySem.W.codeIn K cd10 "_law_price" = true)
    (k10 : PySem.W.keepIn K (.ref f_law_price) = true)
    (a11 : PySem.W.nsIn K mainGlobals "_law_rows" = some (some (.ref f_law_rows)))
    (l11 : K.lookup f_law_rows = some ⟨oc11, od11, .func (PySem.W.fnOf "_law_rows" "_law_rows" (defArgs s_law_rows) (defBody s_law_rows) (defScope s_law_rows) .none kV11 dc11 pm11 an11 cd11 ct11), sl11⟩)
    (c11 : PySem.W.codeIn K cd11 "_law_rows" = true)
    (k11 : PySem.W.keepIn K (.ref f_law_rows) = true)
    (a12 : PySem.W.nsIn K mainGlobals "_law_chain" = some (some (.ref f_law_chain)))
    (l12 : K.lookup f_law_chain = some ⟨oc12, od12, .func (PySem.W.fnOf "_law_chain" "_law_chain" (defArgs s_law_chain) (defBody s_law_chain) (defScope s_law_chain) .none kV12 dc12 pm12 an12 cd12 ct12), sl12⟩)
    (c12 : PySem.W.codeIn K cd12 "_law_chain" = true)
    (k12 : PySem.W.keepIn K (.ref f_law_chain) = true)
    (a13 : PySem.W.nsIn K mainGlobals "_law_row_table" = some (some (.ref f_law_row_table)))
    (l13 : K.lookup f_law_row_table = some ⟨oc13, od13, .func (PySem.W.fnOf "_law_row_table" "_law_row_table" (defArgs s_law_row_table) (defBody s_law_row_table) (defScope s_law_row_table) .none kV13 dc13 pm13 an13 cd13 ct13), sl13⟩)
    (c13 : PySem.W.codeIn K cd13 "_law_row_table" = true)
    (k13 : PySem.W.keepIn K (.ref f_law_row_table) = true)
    (a14 : PySem.W.nsIn K mainGlobals "_law_tails" = some (some (.ref f_law_tails)))
    (l14 : K.lookup f_law_tails = some ⟨oc14, od14, .func (PySem.W.fnOf "_law_tails" "_law_tails" (defArgs s_law_tails) (defBody s_law_tails) (defScope s_law_tails) .none kV14 dc14 pm14 an14 cd14 ct14), sl14⟩)
    (c14 : PySem.W.codeIn K cd14 "_law_tails" = true)
    (k14 : PySem.W.keepIn K (.ref f_law_tails) = true)
    (a15 : PySem.W.nsIn K mainGlobals "_law_togo" = some (some (.ref f_law_togo)))
    (l15 : K.lookup f_law_togo = some ⟨oc15, od15, .func (PySem.W.fnOf "_law_togo" "_law_togo" (defArgs s_law_togo) (defBody s_law_togo) (defScope s_law_togo) .none kV15 dc15 pm15 an15 cd15 ct15), sl15⟩)
    (c15 : PySem.W.codeIn K cd15 "_law_togo" = true)
    (k15 : PySem.W.keepIn K (.ref f_law_togo) = true)
    (a16 : PySem.W.nsIn K mainGlobals "_law_numbers" = some (some (.ref f_law_numbers)))
    (l16 : K.lookup f_law_numbers = some ⟨oc16, od16, .func (PySem.W.fnOf "_law_numbers" "_law_numbers" (defArgs s_law_numbers) (defBody s_law_numbers) (defScope s_law_numbers) .none kV16 dc16 pm16 an16 cd16 ct16), sl16⟩)
    (c16 : PySem.W.codeIn K cd16 "_law_numbers" = true)
    (k16 : PySem.W.keepIn K (.ref f_law_numbers) = true)
    (a17 : PySem.W.nsIn K mainGlobals "_law_as_told" = some (some (.ref f_law_as_told)))
    (l17 : K.lookup f_law_as_told = some ⟨oc17, od17, .func (PySem.W.fnOf "_law_as_told" "_law_as_told" (defArgs s_law_as_told) (defBody s_law_as_told) (defScope s_law_as_told) .none kV17 dc17 pm17 an17 cd17 ct17), sl17⟩)
    (c17 : PySem.W.codeIn K cd17 "_law_as_told" = true)
    (k17 : PySem.W.keepIn K (.ref f_law_as_told) = true)
    (a18 : PySem.W.nsIn K mainGlobals "_law_same_dict" = some (some (.ref f_law_same_dict)))
    (l18 : K.lookup f_law_same_dict = some ⟨oc18, od18, .func (PySem.W.fnOf "_law_same_dict" "_law_same_dict" (defArgs s_law_same_dict) (defBody s_law_same_dict) (defScope s_law_same_dict) .none kV18 dc18 pm18 an18 cd18 ct18), sl18⟩)
    (c18 : PySem.W.codeIn K cd18 "_law_same_dict" = true)
    (k18 : PySem.W.keepIn K (.ref f_law_same_dict) = true)
    (a19 : PySem.W.nsIn K mainGlobals "law" = some (some (.ref f_law)))
    (l19 : K.lookup f_law = some ⟨oc19, od19, .func (PySem.W.fnOf "law" "law" (defArgs s_law) (defBody s_law) (defScope s_law) .none kV19 dc19 pm19 an19 cd19 ct19), sl19⟩)
    (c19 : PySem.W.codeIn K cd19 "law" = true)
    (k19 : PySem.W.keepIn K (.ref f_law) = true)
    (a20 : PySem.W.findIn K (.ref C_TableTask) "__init__" = some (some (.ref f_TableTask_init)))
    (i20 : PySem.W.isFn K (.ref f_TableTask_init) = true)
    (l20 : K.lookup f_TableTask_init = some ⟨oc20, od20, .func (PySem.W.fnOf "__init__" "TableTask.__init__" (defArgs s_TableTask_init) (defBody s_TableTask_init) (defScope s_TableTask_init) .none kV20 dc20 pm20 an20 cd20 ct20), sl20⟩)
    (c20 : PySem.W.codeIn K cd20 "TableTask.__init__" = true)
    (k20 : PySem.W.keepIn K (.ref f_TableTask_init) = true)
    (a21 : PySem.W.findIn K (.ref C_TableTask) "first" = some (some (.ref f_TableTask_first)))
    (i21 : PySem.W.isFn K (.ref f_TableTask_first) = true)
    (l21 : K.lookup f_TableTask_first = some ⟨oc21, od21, .func (PySem.W.fnOf "first" "TableTask.first" (defArgs s_TableTask_first) (defBody s_TableTask_first) (defScope s_TableTask_first) .none kV21 dc21 pm21 an21 cd21 ct21), sl21⟩)
    (c21 : PySem.W.codeIn K cd21 "TableTask.first" = true)
    (k21 : PySem.W.keepIn K (.ref f_TableTask_first) = true)
    (a22 : PySem.W.findIn K (.ref C_TableTask) "steps" = some (some (.ref f_TableTask_steps)))
    (i22 : PySem.W.isFn K (.ref f_TableTask_steps) = true)
    (l22 : K.lookup f_TableTask_steps = some ⟨oc22, od22, .func (PySem.W.fnOf "steps" "TableTask.steps" (defArgs s_TableTask_steps) (defBody s_TableTask_steps) (defScope s_TableTask_steps) .none kV22 dc22 pm22 an22 cd22 ct22), sl22⟩)
    (c22 : PySem.W.codeIn K cd22 "TableTask.steps" = true)
    (k22 : PySem.W.keepIn K (.ref f_TableTask_steps) = true)
    (a23 : PySem.W.findIn K (.ref C_TableTask) "rank" = some (some (.ref f_TableTask_rank)))
    (i23 : PySem.W.isFn K (.ref f_TableTask_rank) = true)
    (l23 : K.lookup f_TableTask_rank = some ⟨oc23, od23, .func (PySem.W.fnOf "rank" "TableTask.rank" (defArgs s_TableTask_rank) (defBody s_TableTask_rank) (defScope s_TableTask_rank) .none kV23 dc23 pm23 an23 cd23 ct23), sl23⟩)
    (c23 : PySem.W.codeIn K cd23 "TableTask.rank" = true)
    (k23 : PySem.W.keepIn K (.ref f_TableTask_rank) = true)
    (a24 : PySem.W.findIn K (.ref C_TableTask) "is_end" = some (some (.ref f_TableTask_is_end)))
    (i24 : PySem.W.isFn K (.ref f_TableTask_is_end) = true)
    (l24 : K.lookup f_TableTask_is_end = some ⟨oc24, od24, .func (PySem.W.fnOf "is_end" "TableTask.is_end" (defArgs s_TableTask_is_end) (defBody s_TableTask_is_end) (defScope s_TableTask_is_end) .none kV24 dc24 pm24 an24 cd24 ct24), sl24⟩)
    (c24 : PySem.W.codeIn K cd24 "TableTask.is_end" = true)
    (k24 : PySem.W.keepIn K (.ref f_TableTask_is_end) = true)
    (z_abs : PySem.W.nsIn K mainGlobals "abs" = some none)
    (z_bool : PySem.W.nsIn K mainGlobals "bool" = some none)
    (z_dict : PySem.W.nsIn K mainGlobals "dict" = some none)
    (z_enumerate : PySem.W.nsIn K mainGlobals "enumerate" = some none)
    (z_int : PySem.W.nsIn K mainGlobals "int" = some none)
    (z_isinstance : PySem.W.nsIn K mainGlobals "isinstance" = some none)
    (z_len : PySem.W.nsIn K mainGlobals "len" = some none)
    (z_list : PySem.W.nsIn K mainGlobals "list" = some none)
    (z_min : PySem.W.nsIn K mainGlobals "min" = some none)
    (z_range : PySem.W.nsIn K mainGlobals "range" = some none)
    (z_reversed : PySem.W.nsIn K mainGlobals "reversed" = some none)
    (z_sorted : PySem.W.nsIn K mainGlobals "sorted" = some none)
    (z_str : PySem.W.nsIn K mainGlobals "str" = some none)
    (z_tuple : PySem.W.nsIn K mainGlobals "tuple" = some none)
    (z_heappop : PySem.W.nsIn K mainGlobals "heappop" = some (some (.builtin "_heapq.heappop")))
    (z_heappush : PySem.W.nsIn K mainGlobals "heappush" = some (some (.builtin "_heapq.heappush")))
    : ∃ fd : FuncData, (∀ (s : Shared) (v : Value), BindsTo s fd ⟨[v], []⟩ [("script", v)]) ∧ ∀ base : Heap, K.In base → base.Ns mainGlobals mg → FnOk l.prog w K mg base CX0 11 fa fd ["script"] (spLawL K) := by
  have e := hfa.symm.trans (PySem.W.mg_of X G a19)
  cases e
  have T : Txt K mg C_TableTask C_Task := ⟨PySem.W.mg_none_of X G z_abs, PySem.W.mg_none_of X G z_bool, PySem.W.mg_none_of X G z_dict, PySem.W.mg_none_of X G z_enumerate, PySem.W.mg_none_of X G z_int, PySem.W.mg_none_of X G z_isinstance, PySem.W.mg_none_of X G z_len, PySem.W.mg_none_of X G z_list, PySem.W.mg_none_of X G z_min, PySem.W.mg_none_of X G z_range, PySem.W.mg_none_of X G z_reversed, PySem.W.mg_none_of X G z_sorted, PySem.W.mg_none_of X G z_str, PySem.W.mg_none_of X G z_tuple, PySem.W.mg_of X G z_heappop, PySem.W.mg_of X G z_heappush, PySem.W.mg_of X G a_CTableTask, ⟨pg_TableTask, hd_TableTask, po_TableTask, sa_TableTask⟩, nf_TableTask__rows, PySem.W.mg_of X G a_CTask, ⟨pg_Task, hd_Task, po_Task, sa_Task⟩, ⟨⟨pg_TableTask, hd_TableTask, po_TableTask, sa_TableTask⟩, ia_TableTask_Task, ib_TableTask_Task, ic_TableTask_Task, id_TableTask_Task, ie_TableTask_Task⟩⟩
  have F0 := fun_mk (st := s_reached) l0 c0 k0
  have b0 := F0.binds (ps := ["task"]) fun _ _ _ _ _ _ us hl => match us, hl with | [_], _ => rfl
  have F1 := fun_mk (st := s_togo) l1 c1 k1
  have b1 := F1.binds (ps := ["task"]) fun _ _ _ _ _ _ us hl => match us, hl with | [_], _ => rfl
  have F2 := fun_mk (st := s_least_step) l2 c2 k2
  have b2 := F2.binds (ps := ["steps", "numbers"]) fun _ _ _ _ _ _ us hl => match us, hl with | [_, _], _ => rfl
  have F3 := fun_mk (st := s_by_rank) l3 c3 k3
  have b3 := F3.binds (ps := ["task"]) fun _ _ _ _ _ _ us hl => match us, hl with | [_], _ => rfl
  have F4 := fun_mk (st := s_law_pool) l4 c4 k4
  have b4 := F4.binds (ps := ["script"]) fun _ _ _ _ _ _ us hl => match us, hl with | [_], _ => rfl
  have F5 := fun_mk (st := s_law_draw) l5 c5 k5
  have b5 := F5.binds (ps := ["pool", "many"]) fun _ _ _ _ _ _ us hl => match us, hl with | [_, _], _ => rfl
  have F6 := fun_mk (st := s_law_rare) l6 c6 k6
  have b6 := F6.binds (ps := ["pool", "many"]) fun _ _ _ _ _ _ us hl => match us, hl with | [_, _], _ => rfl
  have F7 := fun_mk (st := s_law_few) l7 c7 k7
  have b7 := F7.binds (ps := ["pool", "usual", "most"]) fun _ _ _ _ _ _ us hl => match us, hl with | [_, _, _], _ => rfl
  have F8 := fun_mk (st := s_law_same) l8 c8 k8
  have b8 := F8.binds (ps := ["got", "due"]) fun _ _ _ _ _ _ us hl => match us, hl with | [_, _], _ => rfl
  have F9 := fun_mk (st := s_law_int) l9 c9 k9
  have b9 := F9.binds (ps := ["got"]) fun _ _ _ _ _ _ us hl => match us, hl with | [_], _ => rfl
  have F10 := fun_mk (st := s_law_price) l10 c10 k10
  have b10 := F10.binds (ps := ["pool", "scale"]) fun _ _ _ _ _ _ us hl => match us, hl with | [_, _], _ => rfl
  have F11 := fun_mk (st := s_law_rows) l11 c11 k11
  have b11 := F11.binds (ps := ["pool"]) fun _ _ _ _ _ _ us hl => match us, hl with | [_], _ => rfl
  have F12 := fun_mk (st := s_law_chain) l12 c12 k12
  have b12 := F12.binds (ps := ["pool"]) fun _ _ _ _ _ _ us hl => match us, hl with | [_], _ => rfl
  have F13 := fun_mk (st := s_law_row_table) l13 c13 k13
  have b13 := F13.binds (ps := ["rows"]) fun _ _ _ _ _ _ us hl => match us, hl with | [_], _ => rfl
  have F14 := fun_mk (st := s_law_tails) l14 c14 k14
  have b14 := F14.binds (ps := ["table", "end", "most"]) fun _ _ _ _ _ _ us hl => match us, hl with | [_, _, _], _ => rfl
  have F15 := fun_mk (st := s_law_togo) l15 c15 k15
  have b15 := F15.binds (ps := ["table", "end"]) fun _ _ _ _ _ _ us hl => match us, hl with | [_, _], _ => rfl
  have F16 := fun_mk (st := s_law_numbers) l16 c16 k16
  have b16 := F16.binds (ps := ["rows", "chain"]) fun _ _ _ _ _ _ us hl => match us, hl with | [_, _], _ => rfl
  have F17 := fun_mk (st := s_law_as_told) l17 c17 k17
  have b17 := F17.binds (ps := ["task", "rows", "apart"]) fun _ _ _ _ _ _ us hl => match us, hl with | [_, _, _], _ => rfl
  have F18 := fun_mk (st := s_law_same_dict) l18 c18 k18
  have b18 := F18.binds (ps := ["told", "numbers"]) fun _ _ _ _ _ _ us hl => match us, hl with | [_, _], _ => rfl
  have F19 := fun_mk (st := s_law) l19 c19 k19
  have F20 := fun_mk (st := s_TableTask_init) l20 c20 k20
  have b20 := F20.binds (ps := ["self", "rows"]) fun _ _ _ _ _ _ us hl => match us, hl with | [_, _], _ => rfl
  have F21 := fun_mk (st := s_TableTask_first) l21 c21 k21
  have b21 := F21.binds (ps := ["self"]) fun _ _ _ _ _ _ us hl => match us, hl with | [_], _ => rfl
  have F22 := fun_mk (st := s_TableTask_steps) l22 c22 k22
  have b22 := F22.binds (ps := ["self", "state"]) fun _ _ _ _ _ _ us hl => match us, hl with | [_, _], _ => rfl
  have F23 := fun_mk (st := s_TableTask_rank) l23 c23 k23
  have b23 := F23.binds (ps := ["self", "state"]) fun _ _ _ _ _ _ us hl => match us, hl with | [_, _], _ => rfl
  have F24 := fun_mk (st := s_TableTask_is_end) l24 c24 k24
  have b24 := F24.binds (ps := ["self", "state"]) fun _ _ _ _ _ _ us hl => match us, hl with | [_, _], _ => rfl
  refine ⟨PySem.W.fnOf "law" "law" (defArgs s_law) (defBody s_law) (defScope s_law) .none kV19 dc19 pm19 an19 cd19 ct19, fun s v => .of_eq rfl, fun base _ _ => ?_⟩
  have G_least_step : Def l.prog w K mg base 1 "least_step" ["steps", "numbers"] (lift K (pLeast)) := ⟨_, _, ok_least_step F2 T  , PySem.W.mg_of X G a2, k2, b2⟩
  have G_law_pool : Def l.prog w K mg base 1 "_law_pool" ["script"] (spPoolL K) := ⟨_, _, ok_law_pool F4 T, PySem.W.mg_of X G a4, k4, b4⟩
  have G_law_draw : Def l.prog w K mg base 1 "_law_draw" ["pool", "many"] (lift K pDraw) := DefL.draw ⟨_, _, ok_law_draw F5 T, PySem.W.mg_of X G a5, k5, b5⟩
  have G_law_int : Def l.prog w K mg base 1 "_law_int" ["got"] (lift K (pIntB)) := ⟨_, _, ok_law_int F9 T  , PySem.W.mg_of X G a9, k9, b9⟩
  have G_law_row_table : Def l.prog w K mg base 1 "_law_row_table" ["rows"] (lift K (pRowTab)) := ⟨_, _, ok_law_row_table F13 T  , PySem.W.mg_of X G a13, k13, b13⟩
  have G_law_tails : Def l.prog w K mg base 1 "_law_tails" ["table", "end", "most"] (lift K (pTails)) := ⟨_, _, ok_law_tails F14 T  , PySem.W.mg_of X G a14, k14, b14⟩
  have G_law_togo : Def l.prog w K mg base 1 "_law_togo" ["table", "end"] (lift K (pLTogo)) := ⟨_, _, ok_law_togo F15 T  , PySem.W.mg_of X G a15, k15, b15⟩
  have GC_TableTask : DefC l.prog w K mg base 1 "TableTask" C_TableTask ["self", "rows"] (liftI K C_TableTask (pTask C_TableTask)) := ⟨_, _, ⟨mk_TableTask, a20, i20, kc_TableTask⟩, ok_TableTask_init F20 T  , PySem.W.mg_of X G a_CTableTask, b20⟩
  have GM_TableTask_first : DefM l.prog w K mg base 1 C_TableTask "first" ["self"] (lift K (pFirst C_TableTask)) := ⟨_, _, ⟨pg_TableTask, hd_TableTask, po_TableTask, sa_TableTask⟩, ⟨a21, i21, k21⟩, ok_TableTask_first F21 T  , b21⟩
  have GM_TableTask_steps : DefM l.prog w K mg base 1 C_TableTask "steps" ["self", "state"] (lift K (pSteps C_TableTask)) := ⟨_, _, ⟨pg_TableTask, hd_TableTask, po_TableTask, sa_TableTask⟩, ⟨a22, i22, k22⟩, ok_TableTask_steps F22 T  , b22⟩
  have GM_TableTask_rank : DefM l.prog w K mg base 1 C_TableTask "rank" ["self", "state"] (lift K (pRank C_TableTask)) := ⟨_, _, ⟨pg_TableTask, hd_TableTask, po_TableTask, sa_TableTask⟩, ⟨a23, i23, k23⟩, ok_TableTask_rank F23 T  , b23⟩
  have GM_TableTask_is_end : DefM l.prog w K mg base 1 C_TableTask "is_end" ["self", "state"] (lift K (pIsEnd C_TableTask)) := ⟨_, _, ⟨pg_TableTask, hd_TableTask, po_TableTask, sa_TableTask⟩, ⟨a24, i24, k24⟩, ok_TableTask_is_end F24 T  , b24⟩
  have G_by_rank : Def l.prog w K mg base 2 "_by_rank" ["task"] (lift K (pRanked C_TableTask)) := ⟨_, _, ok_by_rank F3 T  GM_TableTask_first GM_TableTask_steps GM_TableTask_rank, PySem.W.mg_of X G a3, k3, b3⟩
  have G_law_rare : Def l.prog w K mg base 2 "_law_rare" ["pool", "many"] (lift K (pRare)) := ⟨_, _, ok_law_rare F6 T  G_law_draw, PySem.W.mg_of X G a6, k6, b6⟩
  have G_law_chain : Def l.prog w K mg base 2 "_law_chain" ["pool"] (lift K (pLChain)) := ⟨_, _, ok_law_chain F12 T  G_law_draw, PySem.W.mg_of X G a12, k12, b12⟩
  have G_law_numbers : Def l.prog w K mg base 2 "_law_numbers" ["rows", "chain"] (lift K (pNumbers)) := ⟨_, _, ok_law_numbers F16 T  G_law_row_table G_law_tails G_law_togo, PySem.W.mg_of X G a16, k16, b16⟩
  have G_reached : Def l.prog w K mg base 3 "reached" ["task"] (lift K (pReached C_TableTask)) := ⟨_, _, ok_reached F0 T  G_by_rank, PySem.W.mg_of X G a0, k0, b0⟩
  have G_togo : Def l.prog w K mg base 3 "togo" ["task"] (lift K (pTogo C_TableTask)) := ⟨_, _, ok_togo F1 T  G_by_rank GM_TableTask_is_end G_least_step GM_TableTask_steps, PySem.W.mg_of X G a1, k1, b1⟩
  have G_law_few : Def l.prog w K mg base 3 "_law_few" ["pool", "usual", "most"] (lift K (pFew)) := ⟨_, _, ok_law_few F7 T  G_law_rare G_law_draw, PySem.W.mg_of X G a7, k7, b7⟩
  have G_law_price : Def l.prog w K mg base 3 "_law_price" ["pool", "scale"] (lift K (pPrice)) := ⟨_, _, ok_law_price F10 T  G_law_rare G_law_draw, PySem.W.mg_of X G a10, k10, b10⟩
  have G_law_rows : Def l.prog w K mg base 4 "_law_rows" ["pool"] (lift K (pLRows)) := ⟨_, _, ok_law_rows F11 T  G_law_draw G_law_few G_law_price, PySem.W.mg_of X G a11, k11, b11⟩
  have G8_0 : Def l.prog w K mg base 0 "_law_same" ["got", "due"] (lift K (fun _ _ => False)) := ⟨_, _, ⟨fun _ _ _ _ h => (lift_no h).elim, fun _ _ _ _ _ _ _ _ _ _ _ _ _ h => (lift_no h).elim⟩, PySem.W.mg_of X G a8, k8, b8⟩
  have G8_1 : Def l.prog w K mg base 1 "_law_same" ["got", "due"] (lift K (pSame 0)) := ⟨_, _, ok_law_same0 F8 T G8_0 , PySem.W.mg_of X G a8, k8, b8⟩
  have G8_2 : Def l.prog w K mg base 2 "_law_same" ["got", "due"] (lift K (pSame 1)) := ⟨_, _, ok_law_sameS (n := 0) F8 T G8_1 , PySem.W.mg_of X G a8, k8, b8⟩
  have G8_3 : Def l.prog w K mg base 3 "_law_same" ["got", "due"] (lift K (pSame 2)) := ⟨_, _, ok_law_sameS (n := 1) F8 T G8_2 , PySem.W.mg_of X G a8, k8, b8⟩
  have G8_4 : Def l.prog w K mg base 4 "_law_same" ["got", "due"] (lift K (pSame 3)) := ⟨_, _, ok_law_sameS (n := 2) F8 T G8_3 , PySem.W.mg_of X G a8, k8, b8⟩
  have G8_5 : Def l.prog w K mg base 5 "_law_same" ["got", "due"] (lift K (pSame 4)) := ⟨_, _, ok_law_sameS (n := 3) F8 T G8_4 , PySem.W.mg_of X G a8, k8, b8⟩
  have G8_6 : Def l.prog w K mg base 6 "_law_same" ["got", "due"] (lift K (pSame 5)) := ⟨_, _, ok_law_sameS (n := 4) F8 T G8_5 , PySem.W.mg_of X G a8, k8, b8⟩
  have G8_7 : Def l.prog w K mg base 7 "_law_same" ["got", "due"] (lift K (pSame 6)) := ⟨_, _, ok_law_sameS (n := 5) F8 T G8_6 , PySem.W.mg_of X G a8, k8, b8⟩
  have G8_8 : Def l.prog w K mg base 8 "_law_same" ["got", "due"] (lift K (pSame 7)) := ⟨_, _, ok_law_sameS (n := 6) F8 T G8_7 , PySem.W.mg_of X G a8, k8, b8⟩
  have G8_9 : Def l.prog w K mg base 9 "_law_same" ["got", "due"] (lift K (pSame 8)) := ⟨_, _, ok_law_sameS (n := 7) F8 T G8_8 , PySem.W.mg_of X G a8, k8, b8⟩
  have G_law_same := G8_9
  have G_law_as_told : Def l.prog w K mg base 10 "_law_as_told" ["task", "rows", "apart"] (lift K (pAsTold C_TableTask)) := ⟨_, _, ok_law_as_told F17 T  G_law_same GM_TableTask_first GM_TableTask_steps GM_TableTask_is_end GM_TableTask_rank, PySem.W.mg_of X G a17, k17, b17⟩
  have G_law_same_dict : Def l.prog w K mg base 10 "_law_same_dict" ["told", "numbers"] (lift K (pSameDict)) := ⟨_, _, ok_law_same_dict F18 T  G_law_int G_law_same, PySem.W.mg_of X G a18, k18, b18⟩
  exact ok_law F19 T G_law_pool G_law_rare G_law_numbers G_law_draw GC_TableTask G_law_same G_law_chain G_law_rows G_reached G_togo GM_TableTask_steps G_law_as_told G_law_same_dict
theorem walk {l : PySem.W.OpenLaw} {q : Program} {loose : List Str} {XP : (Str → Option Value) → Heap → Prop} {YP : World → Heap → Prop} {d : DefRec} {K : Params → PySem.W.Frag} (hn : l.most = some 63) (hdf : d.params.defaults = [])
    (hY : ∀ (w : World) (h : Heap), YP w h → (K w.params).In h)
    (F : ∀ (w : World) (mg : Str → Option Value) (fa : Addr) (h : Heap), (K w.params).In h → h.Ns mainGlobals mg → mg d.name = some (.ref fa) →
      ∃ fd : FuncData, (∀ (s : Shared) (u : Value), BindsTo s fd ⟨[u], []⟩ [("script", u)]) ∧ ∀ base : Heap, (K w.params).In base → base.Ns mainGlobals mg → FnOk l.prog w (K w.params) mg base CX0 11 fa fd ["script"] (spLawL (K w.params))) :
    PySem.W.WalkO q loose XP YP l.row.toRowW d [] (fun f vs => PySem.call f vs) := by
  exact L2.walk_of (n := 63) (k := 11) (x := "script") (CX := fun _ => CX0) (sp := fun w => spLawL (K w.params)) hn (by decide) hdf ⟨rfl, by decide, by decide⟩ hY F (fun _ _ a ns hl _ hS => ⟨a, ns, rfl, hS, hl, fun _ => rfl⟩) fun _ _ _ _ _ z => z
end K27
open PySem PySem.W PyProof.Rows
set_option maxRecDepth 100000 in
set_option maxHeartbeats 0 in
theorem PySem.Challenge.cw_galleywork_k27_least_numbers_holds : PySem.Challenge.rw_galleywork_k27_least_numbers.Holds := by
  w_on; o_law; k_head; (case hw => w_witness2)
  k_fill
  refine K27.walk (l := PySem.Challenge.rw_galleywork_k27_least_numbers) rfl rfl (fun w h Y => PySem.W.kIn_of Y) ?F
  case F =>
    intro w mg fa h KX G hmg
    refine' K27.all_mk KX G hmg ?a_CTableTask ?pg_TableTask ?hd_TableTask ?po_TableTask ?sa_TableTask ?nf_TableTask__rows ?a_CTask ?pg_Task ?hd_Task ?po_Task ?sa_Task ?ia_TableTask_Task ?ib_TableTask_Task ?ic_TableTask_Task ?id_TableTask_Task ?ie_TableTask_Task ?mk_TableTask ?kc_TableTask ?a0 ?l0 ?c0 ?k0 ?a1 ?l1 ?c1 ?k1 ?a2 ?l2 ?c2 ?k2 ?a3 ?l3 ?c3 ?k3 ?a4 ?l4 ?c4 ?k4 ?a5 ?l5 ?c5 ?k5 ?a6 ?l6 ?c6 ?k6 ?a7 ?l7 ?c7 ?k7 ?a8 ?l8 ?c8 ?k8 ?a9 ?l9 ?c9 ?k9 ?a10 ?l10 ?c10 ?k10 ?a11 ?l11 ?c11 ?k11 ?a12 ?l12 ?c12 ?k12 ?a13 ?l13 ?c13 ?k13 ?a14 ?l14 ?c14 ?k14 ?a15 ?l15 ?c15 ?k15 ?a16 ?l16 ?c16 ?k16 ?a17 ?l17 ?c17 ?k17 ?a18 ?l18 ?c18 ?k18 ?a19 ?l19 ?c19 ?k19 ?a20 ?i20 ?l20 ?c20 ?k20 ?a21 ?i21 ?l21 ?c21 ?k21 ?a22 ?i22 ?l22 ?c22 ?k22 ?a23 ?i23 ?l23 ?c23 ?k23 ?a24 ?i24 ?l24 ?c24 ?k24 ?z_abs ?z_bool ?z_dict ?z_enumerate ?z_int ?z_isinstance ?z_len ?z_list ?z_min ?z_range ?z_reversed ?z_sorted ?z_str ?z_tuple ?z_heappop ?z_heappush
    (case a_CTableTask => k_is)
    (case pg_TableTask => k_is)
    (case hd_TableTask => k_is)
    (case po_TableTask => k_is)
    (case sa_TableTask => k_is)
    (case nf_TableTask__rows => k_is)
    (case a_CTask => k_is)
    (case pg_Task => k_is)
    (case hd_Task => k_is)
    (case po_Task => k_is)
    (case sa_Task => k_is)
    (case ia_TableTask_Task => k_is)
    (case ib_TableTask_Task => k_is)
    (case ic_TableTask_Task => k_is)
    (case id_TableTask_Task => k_is)
    (case ie_TableTask_Task => kit_is)
    (case mk_TableTask => k_is)
    (case kc_TableTask => k_is)
    (case a0 => k_is)
    (case l0 => k_is)
    (case c0 => k_is)
    (case k0 => k_is)
    (case a1 => k_is)
    (case l1 => k_is)
    (case c1 => k_is)
    (case k1 => k_is)
    (case a2 => k_is)
    (case l2 => k_is)
    (case c2 => k_is)
    (case k2 => k_is)
    (case a3 => k_is)
    (case l3 => k_is)
    (case c3 => k_is)
    (case k3 => k_is)
    (case a4 => k_is)
    (case l4 => k_is)
    (case c4 => k_is)
    (case k4 => k_is)
    (case a5 => k_is)
    (case l5 => k_is)
    (case c5 => k_is)
    (case k5 => k_is)
    (case a6 => k_is)
    (case l6 => k_is)
    (case c6 => k_is)
    (case k6 => k_is)
    (case a7 => k_is)
    (case l7 => k_is)
    (case c7 => k_is)
    (case k7 => k_is)
    (case a8 => k_is)
    (case l8 => k_is)
    (case c8 => k_is)
    (case k8 => k_is)
    (case a9 => k_is)
    (case l9 => k_is)
    (case c9 => k_is)
    (case k9 => k_is)
    (case a10 => k_is)
    (case l10 => k_is)
    (case c10 => k_is)
    (case k10 => k_is)
    (case a11 => k_is)
    (case l11 => k_is)
    (case c11 => k_is)
    (case k11 => k_is)
    (case a12 => k_is)
    (case l12 => k_is)
    (case c12 => k_is)
    (case k12 => k_is)
    (case a13 => k_is)
    (case l13 => k_is)
    (case c13 => k_is)
    (case k13 => k_is)
    (case a14 => k_is)
    (case l14 => k_is)
    (case c14 => k_is)
    (case k14 => k_is)
    (case a15 => k_is)
    (case l15 => k_is)
    (case c15 => k_is)
    (case k15 => k_is)
    (case a16 => k_is)
    (case l16 => k_is)
    (case c16 => k_is)
    (case k16 => k_is)
    (case a17 => k_is)
    (case l17 => k_is)
    (case c17 => k_is)
    (case k17 => k_is)
    (case a18 => k_is)
    (case l18 => k_is)
    (case c18 => k_is)
    (case k18 => k_is)
    (case a19 => k_is)
    (case l19 => k_is)
    (case c19 => k_is)
    (case k19 => k_is)
    (case a20 => k_is)
    (case i20 => k_is)
    (case l20 => k_is)
    (case c20 => k_is)
    (case k20 => k_is)
    (case a21 => k_is)
    (case i21 => k_is)
    (case l21 => k_is)
    (case c21 => k_is)
    (case k21 => k_is)
    (case a22 => k_is)
    (case i22 => k_is)
    (case l22 => k_is)
    (case c22 => k_is)
    (case k22 => k_is)
    (case a23 => k_is)
    (case i23 => k_is)
    (case l23 => k_is)
    (case c23 => k_is)
    (case k23 => k_is)
    (case a24 => k_is)
    (case i24 => k_is)
    (case l24 => k_is)
    (case c24 => k_is)
    (case k24 => k_is)
    (case z_abs => k_is)
    (case z_bool => k_is)
    (case z_dict => k_is)
    (case z_enumerate => k_is)
    (case z_int => k_is)
    (case z_isinstance => k_is)
    (case z_len => k_is)
    (case z_list => k_is)
    (case z_min => k_is)
    (case z_range => k_is)
    (case z_reversed => k_is)
    (case z_sorted => k_is)
    (case z_str => k_is)
    (case z_tuple => k_is)
    (case z_heappop => k_is)
    (case z_heappush => k_is)
#print axioms PySem.Challenge.cw_galleywork_k27_least_numbers_holds
