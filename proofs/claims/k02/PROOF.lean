import PyProof.Rows.All
import Wide.All
import OpenK.AllK
import Wide.FinOn
import HandS.Base
import HandS.Call
import HandS.List
import HandS.Comp
import HandS.Ends
import HandS.Words
import HandS.IsInst
import HandS.Wide
import HandS.Style
import HandS.Exc
import HandS.TryOnly
import HandS.ExcOwn
import HandS.ExcInit
import HandS.ExcField
import HandS.ExcIs
import HandS.WordsList
import HandS.WordsExc
import HandS.SetFor
import PySem.Challenge.RW_galleywork_k02_braces_and_groups

set_option Elab.async false
set_option linter.all false
set_option maxRecDepth 100000
/-! Wp: readings as weakest preconditions, turned into plain formulas by simp. -/
namespace Wp
open PySem L2
section
variable {σ : L2.St} {H : Hp} {Q : VK} {D : Ends}
theorem seq {t u : TS} : tSeq t u D σ H = t { D with nx := u D } σ H := rfl
theorem next : tNext D σ H = D.nx σ H := rfl
theorem asg {te : TE} {g : TG} : tAsg te g D σ H = te σ H fun x H1 => g x σ H1 D.nx := rfl
theorem gn {i : Nat} {v : V} {R : L2.St → Hp → Prop} : gName i v σ H R = R (σ.set i (some v)) H := rfl
theorem gsub {to ti : TE} {t : TSet} {v : V} {R : L2.St → Hp → Prop} : gSub to ti t v σ H R = to σ H fun o H1 => ti σ H1 fun i H2 => t o i v H2 fun H3 => R σ H3 := rfl
theorem ret {te : TE} : tRet te D σ H = te σ H D.rt := rfl
theorem drop {te : TE} : tDrop te D σ H = te σ H fun _ H1 => D.nx σ H1 := rfl
theorem ifs {c : TT} {t u : TS} : tIfS c t u D σ H = c σ H fun b H1 => if b = true then t D σ H1 else u D σ H1 := rfl
theorem brk : tBreak D σ H = D.bk σ H := rfl
theorem cont : tCont D σ H = D.ct σ H := rfl
theorem op {r : R2} {ta tb : TE} : tOp r ta tb σ H Q = ta σ H fun x H1 => tb σ H1 fun y H2 => r x y H2 Q := rfl
theorem un {r : V → Hp → VK → Prop} {ta : TE} : tUn r ta σ H Q = ta σ H fun x H1 => r x H1 Q := rfl
theorem cb {r : List V → Hp → VK → Prop} {t : TA} : tCB r t σ H Q = t σ H fun vs H1 => r vs H1 Q := rfl
theorem call {sp : Sp} {dvs : List V} {E : XK} {t : TA} : tCall sp dvs E t σ H Q = t σ H fun vs H1 => sp (vs ++ dvs) H1 Q E := rfl
theorem nil {R : List V → Hp → Prop} : tNil σ H R = R [] H := rfl
theorem cons {ta : TE} {tr : TA} {R : List V → Hp → Prop} : tCons ta tr σ H R = ta σ H fun x H1 => tr σ H1 fun xs H2 => R (x :: xs) H2 := rfl
theorem c {v : V} : tC v σ H Q = Q v H := rfl
theorem ifx {t : TT} {ta tb : TE} : tIf t ta tb σ H Q = t σ H fun b H1 => if b = true then ta σ H1 Q else tb σ H1 Q := rfl
theorem lst {t : TA} : tLst t σ H Q = t σ H fun xs H1 => xs.length ≤ sizeLine ∧ ∀ p, H1 p = none → Q (.ref p) (upd H1 p (.lst xs)) := rfl
theorem tup {t : TA} : tTup t σ H Q = t σ H fun xs H1 => xs.length ≤ sizeLine ∧ ∀ p, H1 p = none → Q (.ref p) (upd H1 p (.tup xs)) := rfl
theorem test {t : TE} {R : Bool → Hp → Prop} : tTest t σ H R = t σ H fun x H' => ∃ k, x = .bl k ∧ R k H' := rfl
theorem tb {t : TE} {R : Bool → Hp → Prop} : tB t σ H R = t σ H fun x H' => ∃ k, x = .bl k ∧ R k H' := rfl
theorem tnot {t : TT} {R : Bool → Hp → Prop} : tNot t σ H R = t σ H fun b H1 => R (!b) H1 := rfl
theorem tand {t u : TT} {R : Bool → Hp → Prop} : tAnd t u σ H R = t σ H fun b H1 => if b = true then u σ H1 R else R false H1 := rfl
theorem tor {t u : TT} {R : Bool → Hp → Prop} : tOr t u σ H R = t σ H fun b H1 => if b = true then R true H1 else u σ H1 R := rfl
theorem tandv {ta tb : TE} : tAndV ta tb σ H Q = ta σ H fun x H1 => ∃ b, x = .bl b ∧ if b = true then tb σ H1 Q else Q (.bl false) H1 := rfl
theorem torv {ta tb : TE} : tOrV ta tb σ H Q = ta σ H fun x H1 => ∃ b, x = .bl b ∧ if b = true then Q (.bl true) H1 else tb σ H1 Q := rfl
theorem tnotv {ta : TE} : tNotV ta σ H Q = ta σ H fun x H1 => ∃ b, x = .bl b ∧ Q (.bl (!b)) H1 := rfl
theorem chain {r r' : R2} {ta tb tc : TE} : tChain r r' ta tb tc σ H Q = ta σ H fun x H1 => tb σ H1 fun y H2 => r x y H2 fun z H3 => ∃ k, z = .bl k ∧ (if k = true then tc σ H3 fun w' H4 => r' y w' H4 Q else Q (.bl false) H3) := rfl
theorem bx {b : Bool} {R : Bool → Prop} : (∃ k, V.bl b = V.bl k ∧ R k) = R b := propext ⟨fun ⟨k, h, q⟩ => by cases h; exact q, fun q => ⟨b, rfl, q⟩⟩
theorem i0 {g : Int → Int → V} {i j : Int} : rI0 g (.int i) (.int j) H Q = Q (g i j) H := propext ⟨fun ⟨_, _, h1, h2, q⟩ => by cases h1; cases h2; exact q, fun q => ⟨i, j, rfl, rfl, q⟩⟩
theorem i1 {C : Int → Int → Prop} {g : Int → Int → V} {i j : Int} : rI C g (.int i) (.int j) H Q = (C i j ∧ Q (g i j) H) := propext ⟨fun ⟨_, _, h1, h2, c, q⟩ => by cases h1; cases h2; exact ⟨c, q⟩, fun ⟨c, q⟩ => ⟨i, j, rfl, rfl, c, q⟩⟩
theorem u1 {g : Int → V} {i : Int} : rU g (.int i) H Q = Q (g i) H := propext ⟨fun ⟨_, h1, q⟩ => by cases h1; exact q, fun q => ⟨i, rfl, q⟩⟩
theorem di {i j : Int} : decide (V.int i = V.int j) = decide (i = j) := by
  by_cases h : i = j
  · subst h; simp
  · rw [decide_eq_false h, decide_eq_false]; intro q; cases q; exact h rfl
theorem eqi {i j : Int} : rEq (.int i) (.int j) H Q = Q (.bl (decide (i = j))) H := by
  unfold rEq; rw [di]; exact propext ⟨fun q => q.2, fun q => ⟨rfl, q⟩⟩
theorem nei {i j : Int} : rNe (.int i) (.int j) H Q = Q (.bl (!decide (i = j))) H := by
  unfold rNe; rw [di]; exact propext ⟨fun q => q.2, fun q => ⟨rfl, q⟩⟩
/-! calls of built-ins -/
theorem dummy_ : True := trivial
end
/-- isinstance of a scalar and a built-in type -/
def isiF : V → String → Option Bool
  | .int _, T => kitB "int" T
  | .bl _, T => kitB "bool" T
  | .str _, T => kitB "str" T
  | .non, T => kitB "NoneType" T
  | _, _ => none
def rIsiV : List V → Hp → VK → Prop := fun xs H Q => ∃ x T b, xs = [x, .ty T] ∧ isiF x T = some b ∧ Q (.bl b) H
theorem isv {x : V} {T : String} {b : Bool} {H : Hp} {Q : VK} (h : isiF x T = some b) : rIsiV [x, .ty T] H Q = Q (.bl b) H := propext ⟨fun ⟨_, _, _, e, f, q⟩ => by
  cases e
  rw [h] at f
  cases f
  exact q, fun q => ⟨x, T, b, rfl, h, q⟩⟩
theorem isv_ii {i : Int} {H : Hp} {Q : VK} : rIsiV [.int i, .ty "int"] H Q = Q (.bl true) H := isv (by show kitB "int" "int" = some true; decide +kernel)
theorem isv_ib {i : Int} {H : Hp} {Q : VK} : rIsiV [.int i, .ty "bool"] H Q = Q (.bl false) H := isv (by show kitB "int" "bool" = some false; decide +kernel)
section
variable {X : Cx}
theorem call_isiV : CallR X (.builtin "isinstance") rIsiV := by
  intro pins s σ H xs us Q I r h
  obtain ⟨x, T, b, rfl, e, q⟩ := h
  refine call_isi pins s σ H _ us Q I r ?_
  cases x with
  | int i => exact ⟨_, _, .type "int", .type T, b, rfl, .ty T, .base (.int i), kit_ty e, q⟩
  | bl i => exact ⟨_, _, .type "bool", .type T, b, rfl, .ty T, .base (.bl i), kit_ty e, q⟩
  | str i => exact ⟨_, _, .type "str", .type T, b, rfl, .ty T, .base (.str i), kit_ty e, q⟩
  | non => exact ⟨_, _, .type "NoneType", .type T, b, rfl, .ty T, .base .non, kit_ty e, q⟩
  | ref a => cases e
  | ty a => cases e
  | flt a => cases e
  | byt a => cases e
theorem pe_gint {x : Str} {i : Int} {pos : Pos} (h : ∃ t, X.mg x = some (.int i t)) (hg : Gl X x) (hd : (x == ("__debug__" : Str)) = false := by decide) : PE X (.Name x pos) (tC (.int i)) := by
  obtain ⟨t, h⟩ := h
  exact pe_glob hg h ⟨_, rfl⟩ hd
end
/-! calls of built-ins by name -/
def rAbs : List V → Hp → VK → Prop := fun xs H Q => ∃ i, xs = [.int i] ∧ Q (.int (if i < 0 then -i else i)) H
def rMax2 : List V → Hp → VK → Prop := fun xs H Q => ∃ i j, xs = [.int i, .int j] ∧ Q (.int (if j > i then j else i)) H
def rMin2 : List V → Hp → VK → Prop := fun xs H Q => ∃ i j, xs = [.int i, .int j] ∧ Q (.int (if j < i then j else i)) H
def rInt : List V → Hp → VK → Prop := fun xs H Q => (∃ i, xs = [.int i] ∧ Q (.int i) H) ∨ ∃ k, xs = [.bl k] ∧ Q (.int (if k then 1 else 0)) H
def rLen (K : PySem.W.Frag) : List V → Hp → VK → Prop := fun xs H Q => ∃ p ys, xs = [.ref p] ∧ (SqL K H p ys ∨ SqT K H p ys) ∧ Q (.int ys.length) H
def rList (K : PySem.W.Frag) : List V → Hp → VK → Prop := fun xs H Q => ∃ p ys, xs = [.ref p] ∧ (SqL K H p ys ∨ SqT K H p ys) ∧ ∀ l, H l = none → Q (.ref l) (upd H l (.lst ys))
section
variable {X : Cx} {H : Hp} {Q : VK}
theorem c_abs : CallR X (.builtin "abs") rAbs := call_abs
theorem c_max2 (hc : X.calm = true) : CallR X (.builtin "max") rMax2 := call_max2 hc
theorem c_min2 (hc : X.calm = true) : CallR X (.builtin "min") rMin2 := call_min2 hc
theorem c_int : CallR X (.type "int") rInt := call_int1
theorem c_len : CallR X (.builtin "len") (rLen X.K) := call_len_seq
theorem c_list : CallR X (.type "list") (rList X.K) := call_list_of
theorem cabs {i : Int} : rAbs [.int i] H Q = Q (.int (if i < 0 then -i else i)) H := propext ⟨fun ⟨_, h, q⟩ => by cases h; exact q, fun q => ⟨i, rfl, q⟩⟩
theorem cmax {i j : Int} : rMax2 [.int i, .int j] H Q = Q (.int (if j > i then j else i)) H := propext ⟨fun ⟨_, _, h, q⟩ => by cases h; exact q, fun q => ⟨i, j, rfl, q⟩⟩
theorem cmin {i j : Int} : rMin2 [.int i, .int j] H Q = Q (.int (if j < i then j else i)) H := propext ⟨fun ⟨_, _, h, q⟩ => by cases h; exact q, fun q => ⟨i, j, rfl, q⟩⟩
theorem cinti {i : Int} : rInt [.int i] H Q = Q (.int i) H := by
  apply propext
  constructor
  · intro q
    rcases q with ⟨k, h, q⟩ | ⟨k, h, q⟩
    · cases h; exact q
    · cases h
  · intro q
    exact Or.inl ⟨i, rfl, q⟩
theorem cintb {b : Bool} : rInt [.bl b] H Q = Q (.int (if b then 1 else 0)) H := by
  apply propext
  constructor
  · intro q
    rcases q with ⟨k, h, q⟩ | ⟨k, h, q⟩
    · cases h
    · cases h; exact q
  · intro q
    exact Or.inr ⟨b, rfl, q⟩
end
/-- a def of the module with its promise, as others call it -/
structure Def (P : Program) (w : World) (K : PySem.W.Frag) (mg : Str → Option Value) (base : Heap) (k : Nat) (x : Str) (ps : List Str) (sp : Sp) : Prop where
  ex : ∃ f fd, FnOk P w K mg base CX0 k f fd ps sp ∧ mg x = some (.ref f) ∧ PySem.W.keepIn K (.ref f) = true ∧ Binds K fd ps []
theorem Def.call {X : Cx} {k : Nat} {x : Str} {ps : List Str} {sp : Sp} {e : Expr} {es : List Expr} {t : TA} {p pos : Pos} (G : Def X.prog X.w X.K X.mg X.base k x ps sp) (hr : Room k X.A) (hg : Gl X x)
    (ha : PA X (e :: es) t) (hdb : (x == ("__debug__" : Str)) = false := by decide) (he : starEach (e :: es) X.env = (false, eval e X.env) :: starEach es X.env := by rfl) (hpl : (backTo pos (starEach es X.env)).any (·.1) = false := by rfl) :
    PE X (.Call (.Name x p) (e :: es) [] pos) (tCall sp [] (fun _ _ _ => False) t) := by
  refine ⟨fun pins s σ H Q I h => ?_⟩
  obtain ⟨f, fd, F, hm, hk, hb⟩ := G.ex
  exact (pe_call F hr hg hm hk hb .nil (fun _ _ _ _ _ _ _ h => h.elim) ha hdb he hpl).run pins s σ H Q I h
/-! ### the laws' pool -/
def PoolC (H : Hp) (p l : Addr) (ns : List Int) (i x c e : Int) : Prop := H p = some (.lst [.ref l, .int i, .int x, .int c, .int e]) ∧ H l = some (.lst (ns.map V.int)) ∧ 0 ≤ i
def PoolAt (H : Hp) (p : Addr) : Prop := ∃ l ns i x c e, PoolC H p l ns i x c e
theorem PoolC.ne {H : Hp} {p l : Addr} {ns : List Int} {i x c e : Int} (h : PoolC H p l ns i x c e) : l ≠ p := fun z => by
  obtain ⟨h1, h2, _⟩ := h
  subst z
  rw [h1] at h2
  have h3 := HO.lst.inj (Option.some.inj h2)
  cases ns with
  | nil => cases h3
  | cons n ns => rw [List.map_cons] at h3; cases h3
/-- all but p stands as it stood -/
def But (p : Addr) (H H' : Hp) : Prop := ∀ b, b ≠ p → H' b = H b
/-- what H told, and not at p, stands -/
def Ext (p : Addr) (H H' : Hp) : Prop := ∀ b o, b ≠ p → H b = some o → H' b = some o
def spPool (K : PySem.W.Frag) : Sp := fun vs H Q _ => ∃ (a : Addr) (ns : List Int), vs = [.ref a] ∧ SqL K H a (ns.map V.int) ∧ ∀ p H', H p = none → (∀ b o, H b = some o → H' b = some o) → PoolAt H' p → Q (.ref p) H'
def spDraw : Sp := fun vs H Q _ => ∃ (p : Addr) (m : Int), vs = [.ref p, .int m] ∧ PoolAt H p ∧ 0 < m ∧ m.natAbs < 2 ^ 200 ∧ ∀ r H', 0 ≤ r → r < m → PoolAt H' p → But p H H' → Q (.int r) H'
end Wp

namespace Wp
open PySem L2
section
variable {H : Hp} {Q : VK} {l : L2.St} {v : V} {a0 : Option V} {a1 : Option V} {a2 : Option V} {a3 : Option V} {a4 : Option V} {a5 : Option V} {a6 : Option V} {a7 : Option V} {a8 : Option V} {a9 : Option V} {a10 : Option V} {a11 : Option V} {a12 : Option V} {a13 : Option V} {a14 : Option V} {a15 : Option V} {a16 : Option V} {a17 : Option V} {a18 : Option V} {a19 : Option V} {a20 : Option V} {a21 : Option V} {a22 : Option V} {a23 : Option V}
theorem v0 : tVar 0 (some v :: l) H Q = Q v H := propext ⟨fun ⟨_, h, q⟩ => by cases h; exact q, fun q => ⟨v, rfl, q⟩⟩
theorem v1 : tVar 1 (a0 :: some v :: l) H Q = Q v H := propext ⟨fun ⟨_, h, q⟩ => by cases h; exact q, fun q => ⟨v, rfl, q⟩⟩
theorem v2 : tVar 2 (a0 :: a1 :: some v :: l) H Q = Q v H := propext ⟨fun ⟨_, h, q⟩ => by cases h; exact q, fun q => ⟨v, rfl, q⟩⟩
theorem v3 : tVar 3 (a0 :: a1 :: a2 :: some v :: l) H Q = Q v H := propext ⟨fun ⟨_, h, q⟩ => by cases h; exact q, fun q => ⟨v, rfl, q⟩⟩
theorem v4 : tVar 4 (a0 :: a1 :: a2 :: a3 :: some v :: l) H Q = Q v H := propext ⟨fun ⟨_, h, q⟩ => by cases h; exact q, fun q => ⟨v, rfl, q⟩⟩
theorem v5 : tVar 5 (a0 :: a1 :: a2 :: a3 :: a4 :: some v :: l) H Q = Q v H := propext ⟨fun ⟨_, h, q⟩ => by cases h; exact q, fun q => ⟨v, rfl, q⟩⟩
theorem v6 : tVar 6 (a0 :: a1 :: a2 :: a3 :: a4 :: a5 :: some v :: l) H Q = Q v H := propext ⟨fun ⟨_, h, q⟩ => by cases h; exact q, fun q => ⟨v, rfl, q⟩⟩
theorem v7 : tVar 7 (a0 :: a1 :: a2 :: a3 :: a4 :: a5 :: a6 :: some v :: l) H Q = Q v H := propext ⟨fun ⟨_, h, q⟩ => by cases h; exact q, fun q => ⟨v, rfl, q⟩⟩
theorem v8 : tVar 8 (a0 :: a1 :: a2 :: a3 :: a4 :: a5 :: a6 :: a7 :: some v :: l) H Q = Q v H := propext ⟨fun ⟨_, h, q⟩ => by cases h; exact q, fun q => ⟨v, rfl, q⟩⟩
theorem v9 : tVar 9 (a0 :: a1 :: a2 :: a3 :: a4 :: a5 :: a6 :: a7 :: a8 :: some v :: l) H Q = Q v H := propext ⟨fun ⟨_, h, q⟩ => by cases h; exact q, fun q => ⟨v, rfl, q⟩⟩
theorem v10 : tVar 10 (a0 :: a1 :: a2 :: a3 :: a4 :: a5 :: a6 :: a7 :: a8 :: a9 :: some v :: l) H Q = Q v H := propext ⟨fun ⟨_, h, q⟩ => by cases h; exact q, fun q => ⟨v, rfl, q⟩⟩
theorem v11 : tVar 11 (a0 :: a1 :: a2 :: a3 :: a4 :: a5 :: a6 :: a7 :: a8 :: a9 :: a10 :: some v :: l) H Q = Q v H := propext ⟨fun ⟨_, h, q⟩ => by cases h; exact q, fun q => ⟨v, rfl, q⟩⟩
theorem v12 : tVar 12 (a0 :: a1 :: a2 :: a3 :: a4 :: a5 :: a6 :: a7 :: a8 :: a9 :: a10 :: a11 :: some v :: l) H Q = Q v H := propext ⟨fun ⟨_, h, q⟩ => by cases h; exact q, fun q => ⟨v, rfl, q⟩⟩
theorem v13 : tVar 13 (a0 :: a1 :: a2 :: a3 :: a4 :: a5 :: a6 :: a7 :: a8 :: a9 :: a10 :: a11 :: a12 :: some v :: l) H Q = Q v H := propext ⟨fun ⟨_, h, q⟩ => by cases h; exact q, fun q => ⟨v, rfl, q⟩⟩
theorem v14 : tVar 14 (a0 :: a1 :: a2 :: a3 :: a4 :: a5 :: a6 :: a7 :: a8 :: a9 :: a10 :: a11 :: a12 :: a13 :: some v :: l) H Q = Q v H := propext ⟨fun ⟨_, h, q⟩ => by cases h; exact q, fun q => ⟨v, rfl, q⟩⟩
theorem v15 : tVar 15 (a0 :: a1 :: a2 :: a3 :: a4 :: a5 :: a6 :: a7 :: a8 :: a9 :: a10 :: a11 :: a12 :: a13 :: a14 :: some v :: l) H Q = Q v H := propext ⟨fun ⟨_, h, q⟩ => by cases h; exact q, fun q => ⟨v, rfl, q⟩⟩
theorem v16 : tVar 16 (a0 :: a1 :: a2 :: a3 :: a4 :: a5 :: a6 :: a7 :: a8 :: a9 :: a10 :: a11 :: a12 :: a13 :: a14 :: a15 :: some v :: l) H Q = Q v H := propext ⟨fun ⟨_, h, q⟩ => by cases h; exact q, fun q => ⟨v, rfl, q⟩⟩
theorem v17 : tVar 17 (a0 :: a1 :: a2 :: a3 :: a4 :: a5 :: a6 :: a7 :: a8 :: a9 :: a10 :: a11 :: a12 :: a13 :: a14 :: a15 :: a16 :: some v :: l) H Q = Q v H := propext ⟨fun ⟨_, h, q⟩ => by cases h; exact q, fun q => ⟨v, rfl, q⟩⟩
theorem v18 : tVar 18 (a0 :: a1 :: a2 :: a3 :: a4 :: a5 :: a6 :: a7 :: a8 :: a9 :: a10 :: a11 :: a12 :: a13 :: a14 :: a15 :: a16 :: a17 :: some v :: l) H Q = Q v H := propext ⟨fun ⟨_, h, q⟩ => by cases h; exact q, fun q => ⟨v, rfl, q⟩⟩
theorem v19 : tVar 19 (a0 :: a1 :: a2 :: a3 :: a4 :: a5 :: a6 :: a7 :: a8 :: a9 :: a10 :: a11 :: a12 :: a13 :: a14 :: a15 :: a16 :: a17 :: a18 :: some v :: l) H Q = Q v H := propext ⟨fun ⟨_, h, q⟩ => by cases h; exact q, fun q => ⟨v, rfl, q⟩⟩
theorem v20 : tVar 20 (a0 :: a1 :: a2 :: a3 :: a4 :: a5 :: a6 :: a7 :: a8 :: a9 :: a10 :: a11 :: a12 :: a13 :: a14 :: a15 :: a16 :: a17 :: a18 :: a19 :: some v :: l) H Q = Q v H := propext ⟨fun ⟨_, h, q⟩ => by cases h; exact q, fun q => ⟨v, rfl, q⟩⟩
theorem v21 : tVar 21 (a0 :: a1 :: a2 :: a3 :: a4 :: a5 :: a6 :: a7 :: a8 :: a9 :: a10 :: a11 :: a12 :: a13 :: a14 :: a15 :: a16 :: a17 :: a18 :: a19 :: a20 :: some v :: l) H Q = Q v H := propext ⟨fun ⟨_, h, q⟩ => by cases h; exact q, fun q => ⟨v, rfl, q⟩⟩
theorem v22 : tVar 22 (a0 :: a1 :: a2 :: a3 :: a4 :: a5 :: a6 :: a7 :: a8 :: a9 :: a10 :: a11 :: a12 :: a13 :: a14 :: a15 :: a16 :: a17 :: a18 :: a19 :: a20 :: a21 :: some v :: l) H Q = Q v H := propext ⟨fun ⟨_, h, q⟩ => by cases h; exact q, fun q => ⟨v, rfl, q⟩⟩
theorem v23 : tVar 23 (a0 :: a1 :: a2 :: a3 :: a4 :: a5 :: a6 :: a7 :: a8 :: a9 :: a10 :: a11 :: a12 :: a13 :: a14 :: a15 :: a16 :: a17 :: a18 :: a19 :: a20 :: a21 :: a22 :: some v :: l) H Q = Q v H := propext ⟨fun ⟨_, h, q⟩ => by cases h; exact q, fun q => ⟨v, rfl, q⟩⟩
theorem s0 {α : Type} {b : α} {l : List α} {a0 : α} : List.set (a0 :: l) 0 b = b :: l := rfl
theorem s1 {α : Type} {b : α} {l : List α} {a0 : α} {a1 : α} : List.set (a0 :: a1 :: l) 1 b = a0 :: b :: l := rfl
theorem s2 {α : Type} {b : α} {l : List α} {a0 : α} {a1 : α} {a2 : α} : List.set (a0 :: a1 :: a2 :: l) 2 b = a0 :: a1 :: b :: l := rfl
theorem s3 {α : Type} {b : α} {l : List α} {a0 : α} {a1 : α} {a2 : α} {a3 : α} : List.set (a0 :: a1 :: a2 :: a3 :: l) 3 b = a0 :: a1 :: a2 :: b :: l := rfl
theorem s4 {α : Type} {b : α} {l : List α} {a0 : α} {a1 : α} {a2 : α} {a3 : α} {a4 : α} : List.set (a0 :: a1 :: a2 :: a3 :: a4 :: l) 4 b = a0 :: a1 :: a2 :: a3 :: b :: l := rfl
theorem s5 {α : Type} {b : α} {l : List α} {a0 : α} {a1 : α} {a2 : α} {a3 : α} {a4 : α} {a5 : α} : List.set (a0 :: a1 :: a2 :: a3 :: a4 :: a5 :: l) 5 b = a0 :: a1 :: a2 :: a3 :: a4 :: b :: l := rfl
theorem s6 {α : Type} {b : α} {l : List α} {a0 : α} {a1 : α} {a2 : α} {a3 : α} {a4 : α} {a5 : α} {a6 : α} : List.set (a0 :: a1 :: a2 :: a3 :: a4 :: a5 :: a6 :: l) 6 b = a0 :: a1 :: a2 :: a3 :: a4 :: a5 :: b :: l := rfl
theorem s7 {α : Type} {b : α} {l : List α} {a0 : α} {a1 : α} {a2 : α} {a3 : α} {a4 : α} {a5 : α} {a6 : α} {a7 : α} : List.set (a0 :: a1 :: a2 :: a3 :: a4 :: a5 :: a6 :: a7 :: l) 7 b = a0 :: a1 :: a2 :: a3 :: a4 :: a5 :: a6 :: b :: l := rfl
theorem s8 {α : Type} {b : α} {l : List α} {a0 : α} {a1 : α} {a2 : α} {a3 : α} {a4 : α} {a5 : α} {a6 : α} {a7 : α} {a8 : α} : List.set (a0 :: a1 :: a2 :: a3 :: a4 :: a5 :: a6 :: a7 :: a8 :: l) 8 b = a0 :: a1 :: a2 :: a3 :: a4 :: a5 :: a6 :: a7 :: b :: l := rfl
theorem s9 {α : Type} {b : α} {l : List α} {a0 : α} {a1 : α} {a2 : α} {a3 : α} {a4 : α} {a5 : α} {a6 : α} {a7 : α} {a8 : α} {a9 : α} : List.set (a0 :: a1 :: a2 :: a3 :: a4 :: a5 :: a6 :: a7 :: a8 :: a9 :: l) 9 b = a0 :: a1 :: a2 :: a3 :: a4 :: a5 :: a6 :: a7 :: a8 :: b :: l := rfl
theorem s10 {α : Type} {b : α} {l : List α} {a0 : α} {a1 : α} {a2 : α} {a3 : α} {a4 : α} {a5 : α} {a6 : α} {a7 : α} {a8 : α} {a9 : α} {a10 : α} : List.set (a0 :: a1 :: a2 :: a3 :: a4 :: a5 :: a6 :: a7 :: a8 :: a9 :: a10 :: l) 10 b = a0 :: a1 :: a2 :: a3 :: a4 :: a5 :: a6 :: a7 :: a8 :: a9 :: b :: l := rfl
theorem s11 {α : Type} {b : α} {l : List α} {a0 : α} {a1 : α} {a2 : α} {a3 : α} {a4 : α} {a5 : α} {a6 : α} {a7 : α} {a8 : α} {a9 : α} {a10 : α} {a11 : α} : List.set (a0 :: a1 :: a2 :: a3 :: a4 :: a5 :: a6 :: a7 :: a8 :: a9 :: a10 :: a11 :: l) 11 b = a0 :: a1 :: a2 :: a3 :: a4 :: a5 :: a6 :: a7 :: a8 :: a9 :: a10 :: b :: l := rfl
theorem s12 {α : Type} {b : α} {l : List α} {a0 : α} {a1 : α} {a2 : α} {a3 : α} {a4 : α} {a5 : α} {a6 : α} {a7 : α} {a8 : α} {a9 : α} {a10 : α} {a11 : α} {a12 : α} : List.set (a0 :: a1 :: a2 :: a3 :: a4 :: a5 :: a6 :: a7 :: a8 :: a9 :: a10 :: a11 :: a12 :: l) 12 b = a0 :: a1 :: a2 :: a3 :: a4 :: a5 :: a6 :: a7 :: a8 :: a9 :: a10 :: a11 :: b :: l := rfl
theorem s13 {α : Type} {b : α} {l : List α} {a0 : α} {a1 : α} {a2 : α} {a3 : α} {a4 : α} {a5 : α} {a6 : α} {a7 : α} {a8 : α} {a9 : α} {a10 : α} {a11 : α} {a12 : α} {a13 : α} : List.set (a0 :: a1 :: a2 :: a3 :: a4 :: a5 :: a6 :: a7 :: a8 :: a9 :: a10 :: a11 :: a12 :: a13 :: l) 13 b = a0 :: a1 :: a2 :: a3 :: a4 :: a5 :: a6 :: a7 :: a8 :: a9 :: a10 :: a11 :: a12 :: b :: l := rfl
theorem s14 {α : Type} {b : α} {l : List α} {a0 : α} {a1 : α} {a2 : α} {a3 : α} {a4 : α} {a5 : α} {a6 : α} {a7 : α} {a8 : α} {a9 : α} {a10 : α} {a11 : α} {a12 : α} {a13 : α} {a14 : α} : List.set (a0 :: a1 :: a2 :: a3 :: a4 :: a5 :: a6 :: a7 :: a8 :: a9 :: a10 :: a11 :: a12 :: a13 :: a14 :: l) 14 b = a0 :: a1 :: a2 :: a3 :: a4 :: a5 :: a6 :: a7 :: a8 :: a9 :: a10 :: a11 :: a12 :: a13 :: b :: l := rfl
theorem s15 {α : Type} {b : α} {l : List α} {a0 : α} {a1 : α} {a2 : α} {a3 : α} {a4 : α} {a5 : α} {a6 : α} {a7 : α} {a8 : α} {a9 : α} {a10 : α} {a11 : α} {a12 : α} {a13 : α} {a14 : α} {a15 : α} : List.set (a0 :: a1 :: a2 :: a3 :: a4 :: a5 :: a6 :: a7 :: a8 :: a9 :: a10 :: a11 :: a12 :: a13 :: a14 :: a15 :: l) 15 b = a0 :: a1 :: a2 :: a3 :: a4 :: a5 :: a6 :: a7 :: a8 :: a9 :: a10 :: a11 :: a12 :: a13 :: a14 :: b :: l := rfl
theorem s16 {α : Type} {b : α} {l : List α} {a0 : α} {a1 : α} {a2 : α} {a3 : α} {a4 : α} {a5 : α} {a6 : α} {a7 : α} {a8 : α} {a9 : α} {a10 : α} {a11 : α} {a12 : α} {a13 : α} {a14 : α} {a15 : α} {a16 : α} : List.set (a0 :: a1 :: a2 :: a3 :: a4 :: a5 :: a6 :: a7 :: a8 :: a9 :: a10 :: a11 :: a12 :: a13 :: a14 :: a15 :: a16 :: l) 16 b = a0 :: a1 :: a2 :: a3 :: a4 :: a5 :: a6 :: a7 :: a8 :: a9 :: a10 :: a11 :: a12 :: a13 :: a14 :: a15 :: b :: l := rfl
theorem s17 {α : Type} {b : α} {l : List α} {a0 : α} {a1 : α} {a2 : α} {a3 : α} {a4 : α} {a5 : α} {a6 : α} {a7 : α} {a8 : α} {a9 : α} {a10 : α} {a11 : α} {a12 : α} {a13 : α} {a14 : α} {a15 : α} {a16 : α} {a17 : α} : List.set (a0 :: a1 :: a2 :: a3 :: a4 :: a5 :: a6 :: a7 :: a8 :: a9 :: a10 :: a11 :: a12 :: a13 :: a14 :: a15 :: a16 :: a17 :: l) 17 b = a0 :: a1 :: a2 :: a3 :: a4 :: a5 :: a6 :: a7 :: a8 :: a9 :: a10 :: a11 :: a12 :: a13 :: a14 :: a15 :: a16 :: b :: l := rfl
theorem s18 {α : Type} {b : α} {l : List α} {a0 : α} {a1 : α} {a2 : α} {a3 : α} {a4 : α} {a5 : α} {a6 : α} {a7 : α} {a8 : α} {a9 : α} {a10 : α} {a11 : α} {a12 : α} {a13 : α} {a14 : α} {a15 : α} {a16 : α} {a17 : α} {a18 : α} : List.set (a0 :: a1 :: a2 :: a3 :: a4 :: a5 :: a6 :: a7 :: a8 :: a9 :: a10 :: a11 :: a12 :: a13 :: a14 :: a15 :: a16 :: a17 :: a18 :: l) 18 b = a0 :: a1 :: a2 :: a3 :: a4 :: a5 :: a6 :: a7 :: a8 :: a9 :: a10 :: a11 :: a12 :: a13 :: a14 :: a15 :: a16 :: a17 :: b :: l := rfl
theorem s19 {α : Type} {b : α} {l : List α} {a0 : α} {a1 : α} {a2 : α} {a3 : α} {a4 : α} {a5 : α} {a6 : α} {a7 : α} {a8 : α} {a9 : α} {a10 : α} {a11 : α} {a12 : α} {a13 : α} {a14 : α} {a15 : α} {a16 : α} {a17 : α} {a18 : α} {a19 : α} : List.set (a0 :: a1 :: a2 :: a3 :: a4 :: a5 :: a6 :: a7 :: a8 :: a9 :: a10 :: a11 :: a12 :: a13 :: a14 :: a15 :: a16 :: a17 :: a18 :: a19 :: l) 19 b = a0 :: a1 :: a2 :: a3 :: a4 :: a5 :: a6 :: a7 :: a8 :: a9 :: a10 :: a11 :: a12 :: a13 :: a14 :: a15 :: a16 :: a17 :: a18 :: b :: l := rfl
theorem s20 {α : Type} {b : α} {l : List α} {a0 : α} {a1 : α} {a2 : α} {a3 : α} {a4 : α} {a5 : α} {a6 : α} {a7 : α} {a8 : α} {a9 : α} {a10 : α} {a11 : α} {a12 : α} {a13 : α} {a14 : α} {a15 : α} {a16 : α} {a17 : α} {a18 : α} {a19 : α} {a20 : α} : List.set (a0 :: a1 :: a2 :: a3 :: a4 :: a5 :: a6 :: a7 :: a8 :: a9 :: a10 :: a11 :: a12 :: a13 :: a14 :: a15 :: a16 :: a17 :: a18 :: a19 :: a20 :: l) 20 b = a0 :: a1 :: a2 :: a3 :: a4 :: a5 :: a6 :: a7 :: a8 :: a9 :: a10 :: a11 :: a12 :: a13 :: a14 :: a15 :: a16 :: a17 :: a18 :: a19 :: b :: l := rfl
theorem s21 {α : Type} {b : α} {l : List α} {a0 : α} {a1 : α} {a2 : α} {a3 : α} {a4 : α} {a5 : α} {a6 : α} {a7 : α} {a8 : α} {a9 : α} {a10 : α} {a11 : α} {a12 : α} {a13 : α} {a14 : α} {a15 : α} {a16 : α} {a17 : α} {a18 : α} {a19 : α} {a20 : α} {a21 : α} : List.set (a0 :: a1 :: a2 :: a3 :: a4 :: a5 :: a6 :: a7 :: a8 :: a9 :: a10 :: a11 :: a12 :: a13 :: a14 :: a15 :: a16 :: a17 :: a18 :: a19 :: a20 :: a21 :: l) 21 b = a0 :: a1 :: a2 :: a3 :: a4 :: a5 :: a6 :: a7 :: a8 :: a9 :: a10 :: a11 :: a12 :: a13 :: a14 :: a15 :: a16 :: a17 :: a18 :: a19 :: a20 :: b :: l := rfl
theorem s22 {α : Type} {b : α} {l : List α} {a0 : α} {a1 : α} {a2 : α} {a3 : α} {a4 : α} {a5 : α} {a6 : α} {a7 : α} {a8 : α} {a9 : α} {a10 : α} {a11 : α} {a12 : α} {a13 : α} {a14 : α} {a15 : α} {a16 : α} {a17 : α} {a18 : α} {a19 : α} {a20 : α} {a21 : α} {a22 : α} : List.set (a0 :: a1 :: a2 :: a3 :: a4 :: a5 :: a6 :: a7 :: a8 :: a9 :: a10 :: a11 :: a12 :: a13 :: a14 :: a15 :: a16 :: a17 :: a18 :: a19 :: a20 :: a21 :: a22 :: l) 22 b = a0 :: a1 :: a2 :: a3 :: a4 :: a5 :: a6 :: a7 :: a8 :: a9 :: a10 :: a11 :: a12 :: a13 :: a14 :: a15 :: a16 :: a17 :: a18 :: a19 :: a20 :: a21 :: b :: l := rfl
theorem s23 {α : Type} {b : α} {l : List α} {a0 : α} {a1 : α} {a2 : α} {a3 : α} {a4 : α} {a5 : α} {a6 : α} {a7 : α} {a8 : α} {a9 : α} {a10 : α} {a11 : α} {a12 : α} {a13 : α} {a14 : α} {a15 : α} {a16 : α} {a17 : α} {a18 : α} {a19 : α} {a20 : α} {a21 : α} {a22 : α} {a23 : α} : List.set (a0 :: a1 :: a2 :: a3 :: a4 :: a5 :: a6 :: a7 :: a8 :: a9 :: a10 :: a11 :: a12 :: a13 :: a14 :: a15 :: a16 :: a17 :: a18 :: a19 :: a20 :: a21 :: a22 :: a23 :: l) 23 b = a0 :: a1 :: a2 :: a3 :: a4 :: a5 :: a6 :: a7 :: a8 :: a9 :: a10 :: a11 :: a12 :: a13 :: a14 :: a15 :: a16 :: a17 :: a18 :: a19 :: a20 :: a21 :: a22 :: b :: l := rfl
end
end Wp

namespace Wp
open PySem L2
section
variable {K : PySem.W.Frag} {H : Hp} {Q : VK} {p : Addr} {xs : List V} {i : Int} {j : Nat} {v : V}
theorem ixl (h : H p = some (.lst xs)) (hi : atI xs i = some v) (q : Q v H) : rIxL K (.ref p) (.int i) H Q := ⟨p, xs, i, v, rfl, rfl, SqL.of h, hi, q⟩
theorem ixq (h : SqL K H p xs) (hi : atI xs i = some v) (q : Q v H) : rIxL K (.ref p) (.int i) H Q := ⟨p, xs, i, v, rfl, rfl, h, hi, q⟩
theorem setl {R : Hp → Prop} (h : H p = some (.lst xs)) (hj : ixN xs.length i = some j) (q : R (upd H p (.lst (xs.set j v)))) : rSetL (.ref p) (.int i) v H R := ⟨p, xs, i, j, rfl, rfl, h, hj, q⟩
theorem lenl (h : H p = some (.lst xs)) (q : Q (.int (xs.length : Int)) H) : rLen K [V.ref p] H Q := ⟨p, xs, rfl, .inl (SqL.of h), q⟩
theorem lent (h : H p = some (.tup xs)) (q : Q (.int (xs.length : Int)) H) : rLen K [V.ref p] H Q := ⟨p, xs, rfl, .inr (SqT.of h), q⟩
theorem lens (h : SqL K H p xs) (q : Q (.int (xs.length : Int)) H) : rLen K [V.ref p] H Q := ⟨p, xs, rfl, .inl h, q⟩
theorem lists (h : SqL K H p xs) (q : ∀ l, H l = none → Q (.ref l) (upd H l (.lst xs))) : rList K [V.ref p] H Q := ⟨p, xs, rfl, .inl h, q⟩
theorem listt (h : SqT K H p xs) (q : ∀ l, H l = none → Q (.ref l) (upd H l (.lst xs))) : rList K [V.ref p] H Q := ⟨p, xs, rfl, .inr h, q⟩
theorem u_ne {a : Addr} {o u : HO} (n : p ≠ a) (h : H p = some u) : upd H a o p = some u := (upd_ne n).trans h
theorem fresh_ne {a : Addr} {u : HO} (h : H p = some u) (n : H a = none) : p ≠ a := ne_of_none h n
theorem But.refl : But p H H := fun _ _ => rfl
theorem But.upd {H' : Hp} {o : HO} (b : But p H H') : But p H (upd H' p o) := fun c n => (upd_ne n).trans (b c n)
theorem atI_map {ns : List Int} {k : Int} (h0 : 0 ≤ k) (h : k < (ns.map V.int).length) : ∃ n, atI (ns.map V.int) k = some (.int n) := by
  obtain ⟨m, rfl⟩ : ∃ m : Nat, k = (m : Int) := ⟨k.toNat, by omega⟩
  have hm : m < (ns.map V.int).length := by omega
  have hm2 : m < ns.length := by rw [List.length_map] at hm; exact hm
  refine ⟨ns[m], atI_nat ?_⟩
  rw [List.getElem?_map, List.getElem?_eq_getElem hm2]
  rfl
end
end Wp

namespace Wp
open PySem L2
def NB (i : Int) (a : Nat) : Prop := i.natAbs < 2 ^ a
theorem NB.mul {i j : Int} {a b : Nat} (h : NB i a) (h' : NB j b) : NB (i * j) (a + b) := wide_lt h h'
theorem NB.of {i : Int} {a : Nat} (h0 : 0 ≤ i) (h : i < 2 ^ a) : NB i a := by
  unfold NB
  have h2 : ((2 ^ a : Nat) : Int) = (2 : Int) ^ a := by simp
  rw [← h2] at h
  omega
theorem NB.cm {i j : Int} {a b : Nat} (h : NB i a) (h' : NB j b) (h0 : 0 < a ∧ 0 < b ∧ a + b ≤ 1000000) : CMulW i j := wide_mul h h' h0.1 h0.2.1 h0.2.2
theorem NB.mod {a m : Int} (h0 : 0 < m) (h : m < 2 ^ 64) : NB (a % m) 64 := NB.of (Int.emod_nonneg _ (by omega)) (Int.lt_trans (Int.emod_lt_of_pos _ h0) h)
theorem cmm {a b m n : Int} (h0 : 0 < m) (h : m < 2 ^ 64) (h1 : 0 < n) (h2 : n < 2 ^ 64) : CMulW (a % m) (b % n) := (NB.mod h0 h).cm (NB.mod h1 h2) (by decide)
theorem dvs {a m : Int} (h0 : 0 < m) (h : m < 2 ^ 64) : CDivW a m := wide_div h0 (NB.of (Int.le_of_lt h0) h) (by decide) (by decide)
end Wp

namespace Wp
open PySem L2
section
variable {H H' H1 : Hp} {p l : Addr} {o : HO}
theorem PoolAt.new (h : PoolAt H p) (n : H l = none) : PoolAt (upd H l o) p := by
  obtain ⟨k, ns, i, x, c, e, h1, h2, h3⟩ := h
  exact ⟨k, ns, i, x, c, e, u_ne (ne_of_none h1 n) h1, u_ne (ne_of_none h2 n) h2, h3⟩
theorem PoolAt.has (h : PoolAt H p) : ∃ o, H p = some o := by
  obtain ⟨k, ns, i, x, c, e, h1, h2, h3⟩ := h
  exact ⟨_, h1⟩
theorem PoolAt.nefresh (h : PoolAt H p) (n : H l = none) : p ≠ l := by
  obtain ⟨o, h⟩ := h.has
  exact ne_of_none h n
theorem Ext.refl : Ext p H H := fun _ _ _ h => h
theorem Ext.trans (a : Ext p H H') (b : Ext p H' H1) : Ext p H H1 := fun c o n h => b c o n (a c o n h)
theorem But.ext (a : But p H H') : Ext p H H' := fun c o n h => (a c n).trans h
theorem Ext.new (n : H l = none) : Ext p H (upd H l o) := fun c u _ h => u_ne (ne_of_none h n) h
end
end Wp

namespace Wp
open PySem L2
/-! loops -/
def LOOP (J : It) (g : TG) (b : TS) (D : Ends) (st : L2.St) (h : Hp) : Prop := ∃ W : Nat → Nat → L2.St → Hp → Prop, (∃ m, W 0 m st h) ∧ ∀ i m st h, W i m st h → (J.stop i h ∧ D.nx st h) ∨ (J.go i h ∧ ∃ N : L2.St → Hp → Prop, (∀ st' h', N st' h' → ∃ m', m' < m ∧ W (i + 1) m' st' h') ∧ ∀ x h', J.yld i h x h' → g x st h' fun st2 h2 => b { D with nx := N, ct := N, bk := D.nx } st2 h2)
def LC (J : It) (g : TG) (tt : TT) (te : TE) (vs : List Nat) (st : L2.St) (h1 : Hp) (D : Addr) (Q : VK) : Prop := ∃ W : Nat → Nat → Hp → Prop, (∃ m, W 0 m (upd h1 D (.lst []))) ∧ ∀ i m h, W i m h → (J.stop i h ∧ Q (.ref D) h) ∨ (J.go i h ∧ ∃ N : Hp → Prop, (∀ h', N h' → ∃ m', m' < m ∧ W (i + 1) m' h') ∧ ∀ x h', J.yld i h x h' → g x (wipe st vs) h' fun st2 h2 => wipe st2 vs = wipe st vs ∧ tt st2 h2 fun b h3 => if b = true then te st2 h3 fun y h4 => ∃ acc, h4 D = some (.lst acc) ∧ acc.length < sizeLine ∧ N (upd h4 D (.lst (acc ++ [y]))) else N h3)
def rR1 (vs : List V) (H : Hp) (R : It → Hp → Prop) : Prop := ∃ j : Int, vs = [.int j] ∧ -(2 ^ 62) ≤ j ∧ j < 2 ^ 62 ∧ R (Itr 0 j.toNat) H
def rR2 (vs : List V) (H : Hp) (R : It → Hp → Prop) : Prop := ∃ i j : Int, vs = [.int i, .int j] ∧ (-(2 ^ 62) ≤ i ∧ i < 2 ^ 62 ∧ -(2 ^ 62) ≤ j ∧ j < 2 ^ 62) ∧ R (Itr i (j - i).toNat) H
def rIL (K : PySem.W.Frag) (x : V) (H : Hp) (R : It → Hp → Prop) : Prop := ∃ a, x = .ref a ∧ (∃ xs, SqL K H a xs) ∧ R (Itl K a) H
def rIT (K : PySem.W.Frag) (x : V) (H : Hp) (R : It → Hp → Prop) : Prop := ∃ a, x = .ref a ∧ (∃ xs, SqT K H a xs) ∧ R (Itt K a) H
section
variable {σ : L2.St} {H : Hp} {Q : VK} {D : Ends} {K : PySem.W.Frag} {R : It → Hp → Prop} {g : TG} {tb : TS}
theorem for_ {wi : TI} : tFor wi g tb D σ H = wi σ H fun J H1 => LOOP J g tb D σ H1 := rfl
theorem lc_ {wi : TI} {tt : TT} {te : TE} {vs : List Nat} : tLc wi g tt te vs σ H Q = wi σ H fun J H1 => ∀ D, H1 D = none → LC J g tt te vs σ H1 D Q := rfl
theorem ilist {tl : TE} : iList K tl σ H R = tl σ H fun x H1 => rIL K x H1 R := rfl
theorem itup {tl : TE} : iTup K tl σ H R = tl σ H fun x H1 => rIT K x H1 R := rfl
theorem irng1 {ta : TA} : iRng1 ta σ H R = ta σ H fun vs H1 => rR1 vs H1 R := rfl
theorem irng2 {ta : TA} : iRng2 ta σ H R = ta σ H fun vs H1 => rR2 vs H1 R := rfl
theorem rr1 {n : Int} : rR1 [.int n] H R = ((-(2 ^ 62) ≤ n ∧ n < 2 ^ 62) ∧ R (Itr 0 n.toNat) H) := propext ⟨fun ⟨_, e, a, b, c⟩ => by cases e; exact ⟨⟨a, b⟩, c⟩, fun ⟨⟨a, b⟩, c⟩ => ⟨n, rfl, a, b, c⟩⟩
theorem rr2 {i n : Int} : rR2 [.int i, .int n] H R = ((-(2 ^ 62) ≤ i ∧ i < 2 ^ 62 ∧ -(2 ^ 62) ≤ n ∧ n < 2 ^ 62) ∧ R (Itr i (n - i).toNat) H) := propext ⟨fun ⟨_, _, e, a, c⟩ => by cases e; exact ⟨a, c⟩, fun ⟨a, c⟩ => ⟨i, n, rfl, a, c⟩⟩
theorem ril {a : Addr} {xs : List V} (h : H a = some (.lst xs)) (q : R (Itl K a) H) : rIL K (.ref a) H R := ⟨a, rfl, ⟨xs, SqL.of h⟩, q⟩
theorem rilq {a : Addr} {xs : List V} (h : SqL K H a xs) (q : R (Itl K a) H) : rIL K (.ref a) H R := ⟨a, rfl, ⟨xs, h⟩, q⟩
theorem rit {a : Addr} {xs : List V} (h : H a = some (.tup xs)) (q : R (Itt K a) H) : rIT K (.ref a) H R := ⟨a, rfl, ⟨xs, SqT.of h⟩, q⟩
theorem loopR {lo : Int} {n : Nat} (Pv : Nat → L2.St → Hp → Prop) (h0 : Pv 0 σ H)
    (hs : ∀ (i : Nat) σ H, i < n → Pv i σ H → g (.int (lo + i)) σ H fun σ2 H2 => tb { D with nx := Pv (i + 1), ct := Pv (i + 1), bk := D.nx } σ2 H2) (hd : ∀ σ H, Pv n σ H → D.nx σ H) : LOOP (Itr lo n) g tb D σ H := for_range Pv h0 hs hd
theorem loopL {a : Addr} (xs : List V) (Pv : Nat → L2.St → Hp → Prop) (h0 : Pv 0 σ H) (hl : ∀ i σ H, i ≤ xs.length → Pv i σ H → SqL K H a xs)
    (hs : ∀ i x σ H, xs[i]? = some x → Pv i σ H → g x σ H fun σ2 H2 => tb { D with nx := Pv (i + 1), ct := Pv (i + 1), bk := D.nx } σ2 H2) (hd : ∀ σ H, Pv xs.length σ H → D.nx σ H) : LOOP (Itl K a) g tb D σ H := for_list Pv h0 hl hs hd
theorem loopT {a : Addr} (xs : List V) (Pv : Nat → L2.St → Hp → Prop) (h0 : Pv 0 σ H) (hl : ∀ i σ H, i ≤ xs.length → Pv i σ H → SqT K H a xs)
    (hs : ∀ i x σ H, xs[i]? = some x → Pv i σ H → g x σ H fun σ2 H2 => tb { D with nx := Pv (i + 1), ct := Pv (i + 1), bk := D.nx } σ2 H2) (hd : ∀ σ H, Pv xs.length σ H → D.nx σ H) : LOOP (Itt K a) g tb D σ H := for_tup Pv h0 hl hs hd
/-- a loop over a list, turn by turn -/
def RunL (K : PySem.W.Frag) (a : Addr) (full : List V) (g : TG) (tb : TS) (D : Ends) : List V → L2.St → Hp → Prop
  | [], σ, H => SqL K H a full ∧ D.nx σ H
  | x :: r, σ, H => SqL K H a full ∧ g x σ H fun σ2 H2 => tb { D with nx := RunL K a full g tb D r, ct := RunL K a full g tb D r, bk := D.nx } σ2 H2
theorem runL {a : Addr} {xs : List V} (h : H a = some (.lst xs)) (q : RunL K a xs g tb D xs σ H) : LOOP (Itl K a) g tb D σ H := by
  refine loopL xs (fun i σ H => RunL K a xs g tb D (xs.drop i) σ H) q (fun i σ H hi p => ?_) (fun i x σ H hx p => ?_) (fun σ H p => ?_)
  · cases e : xs.drop i with
    | nil => rw [e] at p; exact p.1
    | cons y r => rw [e] at p; exact p.1
  · have hi : i < xs.length := (List.getElem?_eq_some_iff.mp hx).1
    have e : xs.drop i = x :: xs.drop (i + 1) := by
      rw [List.drop_eq_getElem_cons hi]
      rw [List.getElem?_eq_getElem hi] at hx
      rw [Option.some.inj hx]
    rw [e] at p
    exact p.2
  · rw [List.drop_length] at p
    exact p.2
def RunC (K : PySem.W.Frag) (a : Addr) (full : List V) (g : TG) (tt : TT) (te : TE) (vs : List Nat) (σ : L2.St) (D : Addr) (Q : VK) : List V → Hp → Prop
  | [], H => SqL K H a full ∧ Q (.ref D) H
  | x :: r, H => SqL K H a full ∧ g x (wipe σ vs) H fun σ2 H2 => wipe σ2 vs = wipe σ vs ∧ tt σ2 H2 fun b H3 =>
      if b = true then te σ2 H3 fun y H4 => ∃ acc, H4 D = some (.lst acc) ∧ acc.length < sizeLine ∧ RunC K a full g tt te vs σ D Q r (upd H4 D (.lst (acc ++ [y]))) else RunC K a full g tt te vs σ D Q r H3
theorem runC {a D : Addr} {xs : List V} {tt : TT} {te : TE} {vs : List Nat} (q : RunC K a xs g tt te vs σ D Q xs (upd H D (.lst []))) : LC (Itl K a) g tt te vs σ H D Q := by
  refine lc_list (xs := xs) (fun i H => RunC K a xs g tt te vs σ D Q (xs.drop i) H) q (fun i H hi p => ?_) (fun i x H hx p => ?_) (fun H p => ?_)
  · cases e : xs.drop i with
    | nil => rw [e] at p; exact p.1
    | cons y r => rw [e] at p; exact p.1
  · have hi : i < xs.length := (List.getElem?_eq_some_iff.mp hx).1
    have e : xs.drop i = x :: xs.drop (i + 1) := by
      rw [List.drop_eq_getElem_cons hi]
      rw [List.getElem?_eq_getElem hi] at hx
      rw [Option.some.inj hx]
    rw [e] at p
    exact p.2
  · rw [List.drop_length] at p
    exact p.2
theorem tyes {R : Bool → Hp → Prop} : tYes σ H R = R true H := rfl
end
section
variable {X : Cx}
theorem ixL {K : PySem.W.Frag} (h : X.K = K) : IxR X (rIxL K) := h ▸ ix_list
theorem ixT {K : PySem.W.Frag} (h : X.K = K) : IxR X (rIxT K) := h ▸ ix_tup
theorem c_lenK {K : PySem.W.Frag} (h : X.K = K) : CallR X (.builtin "len") (rLen K) := h ▸ c_len
theorem c_listK {K : PySem.W.Frag} (h : X.K = K) : CallR X (.type "list") (rList K) := h ▸ c_list
theorem pi_listK {K : PySem.W.Frag} {tg l : Expr} {tl : TE} (h : X.K = K) (hl : PE X l tl) : PI X tg l (iList K tl) := h ▸ pi_list hl
theorem pi_tupK {K : PySem.W.Frag} {tg l : Expr} {tl : TE} (h : X.K = K) (hl : PE X l tl) : PI X tg l (iTup K tl) := h ▸ pi_tup hl
end
end Wp

namespace Wp
theorem ite_t {c A B : Prop} [Decidable c] (h : c) (q : A) : if c then A else B := by rw [if_pos h]; exact q
theorem ite_f {c A B : Prop} [Decidable c] (h : ¬ c) (q : B) : if c then A else B := by rw [if_neg h]; exact q
end Wp
set_option maxHeartbeats 2000000
/-! Wp1: lists, texts, truth, is True, isinstance of objects, while, slices, methods, one comprehension of pure parts. -/
namespace Wp
open PySem L2 PyProof.Rows
theorem kb_int_int : kitB "int" "int" = some true := by decide +kernel
theorem kb_int_str : kitB "int" "str" = some false := by decide +kernel
theorem kb_int_bool : kitB "int" "bool" = some false := by decide +kernel
theorem kb_int_list : kitB "int" "list" = some false := by decide +kernel
theorem kb_int_tuple : kitB "int" "tuple" = some false := by decide +kernel
theorem kb_str_int : kitB "str" "int" = some false := by decide +kernel
theorem kb_str_str : kitB "str" "str" = some true := by decide +kernel
theorem kb_str_bool : kitB "str" "bool" = some false := by decide +kernel
theorem kb_str_list : kitB "str" "list" = some false := by decide +kernel
theorem kb_str_tuple : kitB "str" "tuple" = some false := by decide +kernel
theorem kb_bool_int : kitB "bool" "int" = some true := by decide +kernel
theorem kb_bool_str : kitB "bool" "str" = some false := by decide +kernel
theorem kb_bool_bool : kitB "bool" "bool" = some true := by decide +kernel
theorem kb_bool_list : kitB "bool" "list" = some false := by decide +kernel
theorem kb_bool_tuple : kitB "bool" "tuple" = some false := by decide +kernel
theorem kb_list_int : kitB "list" "int" = some false := by decide +kernel
theorem kb_list_str : kitB "list" "str" = some false := by decide +kernel
theorem kb_list_bool : kitB "list" "bool" = some false := by decide +kernel
theorem kb_list_list : kitB "list" "list" = some true := by decide +kernel
theorem kb_list_tuple : kitB "list" "tuple" = some false := by decide +kernel
theorem kb_tuple_int : kitB "tuple" "int" = some false := by decide +kernel
theorem kb_tuple_str : kitB "tuple" "str" = some false := by decide +kernel
theorem kb_tuple_bool : kitB "tuple" "bool" = some false := by decide +kernel
theorem kb_tuple_list : kitB "tuple" "list" = some false := by decide +kernel
theorem kb_tuple_tuple : kitB "tuple" "tuple" = some true := by decide +kernel
theorem kb_NoneType_int : kitB "NoneType" "int" = some false := by decide +kernel
theorem kb_NoneType_str : kitB "NoneType" "str" = some false := by decide +kernel
theorem kb_NoneType_bool : kitB "NoneType" "bool" = some false := by decide +kernel
theorem kb_NoneType_list : kitB "NoneType" "list" = some false := by decide +kernel
theorem kb_NoneType_tuple : kitB "NoneType" "tuple" = some false := by decide +kernel
section
variable {X : Cx} {K : PySem.W.Frag} {σ : L2.St} {H : Hp} {Q : VK} {D : Ends}
/-! + of ints and of lists; subscripts of lists and tuples -/
def rAddL : R2 := fun x y H Q => rI0 (fun i j => .int (i + j)) x y H Q ∨ rCat x y H Q
theorem op_addL : OpR X (binaryOp .Add) rAddL := op_add.or op_cat
theorem addi {i j : Int} : rAddL (.int i) (.int j) H Q = Q (.int (i + j)) H := by
  apply propext
  constructor
  · intro h
    rcases h with h | ⟨l, b, xs, zs, h, _⟩
    · rw [i0] at h; exact h
    · cases h
  · intro h
    exact Or.inl (by rw [i0]; exact h)
theorem addl {a b : Addr} {xs ys : List V} (ha : H a = some (.lst xs)) (hb : H b = some (.lst ys)) (hz : xs.length + ys.length ≤ sizeLine) (q : ∀ p, H p = none → Q (.ref p) (upd H p (.lst (xs ++ ys)))) : rAddL (.ref a) (.ref b) H Q :=
  Or.inr ⟨a, b, xs, ys, rfl, rfl, ha, hb, hz, q⟩
theorem repl {a : Addr} {xs : List V} {k : Int} (ha : H a = some (.lst xs)) (h1 : -(2 ^ 63) ≤ k ∧ k < 2 ^ 63) (hz : xs.length * k.toNat ≤ sizeLine) (q : ∀ p, H p = none → Q (.ref p) (upd H p (.lst (List.replicate k.toNat xs).flatten))) : rRep (.ref a) (.int k) H Q :=
  ⟨a, k, xs, rfl, rfl, ha, h1.1, h1.2, hz, q⟩
def rIxA (K : PySem.W.Frag) : R2 := fun x y H Q => rIxL K x y H Q ∨ rIxT K x y H Q
theorem ixA (h : X.K = K) : IxR X (rIxA K) := h ▸ ix_list.or ix_tup
theorem ixal {p : Addr} {xs : List V} {i : Int} {v : V} (h : H p = some (.lst xs)) (hi : atI xs i = some v) (q : Q v H) : rIxA K (.ref p) (.int i) H Q := Or.inl (ixl h hi q)
theorem ixaq {p : Addr} {xs : List V} {i : Int} {v : V} (h : SqL K H p xs) (hi : atI xs i = some v) (q : Q v H) : rIxA K (.ref p) (.int i) H Q := Or.inl (ixq h hi q)
theorem ixat {p : Addr} {xs : List V} {i : Int} {v : V} (h : H p = some (.tup xs)) (hi : atI xs i = some v) (q : Q v H) : rIxA K (.ref p) (.int i) H Q := Or.inr ⟨p, xs, i, v, rfl, rfl, SqT.of h, hi, q⟩
/-! texts -/
theorem ds {i j : Str} : decide (V.str i = V.str j) = decide (i = j) := by
  by_cases h : i = j
  · subst h; simp
  · rw [decide_eq_false h, decide_eq_false]; intro q; cases q; exact h rfl
theorem eqs {i j : Str} : rEq (.str i) (.str j) H Q = Q (.bl (decide (i = j))) H := by
  unfold rEq; rw [ds]; exact propext ⟨fun q => q.2, fun q => ⟨rfl, q⟩⟩
theorem nes {i j : Str} : rNe (.str i) (.str j) H Q = Q (.bl (!decide (i = j))) H := by
  unfold rNe; rw [ds]; exact propext ⟨fun q => q.2, fun q => ⟨rfl, q⟩⟩
/-! is None, is True -/
def rIsN : R2 := fun x y H Q => y = .non ∧ Q (.bl (decide (x = .non))) H
def rNotN : R2 := fun x y H Q => y = .non ∧ Q (.bl (!decide (x = .non))) H
theorem o_isN : OpR X (compareOp .Is) rIsN := op_isN
theorem o_notN : OpR X (compareOp .IsNot) rNotN := op_notN
theorem isn {x : V} : rIsN x .non H Q = Q (.bl (decide (x = .non))) H := propext ⟨fun h => h.2, fun h => ⟨rfl, h⟩⟩
theorem notn {x : V} : rNotN x .non H Q = Q (.bl (!decide (x = .non))) H := propext ⟨fun h => h.2, fun h => ⟨rfl, h⟩⟩
theorem n_i {i : Int} : (V.int i = V.non) = False := eq_false (fun z => by cases z)
theorem n_s {i : Str} : (V.str i = V.non) = False := eq_false (fun z => by cases z)
theorem n_b {i : Bool} : (V.bl i = V.non) = False := eq_false (fun z => by cases z)
theorem n_r {i : Addr} : (V.ref i = V.non) = False := eq_false (fun z => by cases z)
/-- is, the right side a truth value -/
def rIsT : R2 := fun x y H Q => ∃ b : Bool, y = .bl b ∧ Q (.bl (decide (x = .bl b))) H
theorem op_isT : OpR X (compareOp .Is) rIsT := by
  intro pins s σ H x y v u Q I rx ry h
  obtain ⟨b, rfl, q⟩ := h
  cases (show u = Value.bool b from ry)
  have fin : ∀ c : Bool, c = decide (x = .bl b) → EP X pins σ Q (.bool c) s := fun c e => ⟨.bl c, H, I, rfl, by rw [e]; exact q⟩
  have no : x ≠ .bl b → EP X pins σ Q (.bool false) s := fun h => fin _ (decide_eq_false h).symm
  cases x with
  | non => cases (show v = Value.none from rx); exact wpAny_is_other rfl (fun z => by cases z) (no (fun z => by cases z))
  | bl a =>
    cases (show v = Value.bool a from rx)
    by_cases e : a = b
    · subst e
      exact wpAny_is_self rfl (fin _ (by simp))
    · exact wpAny_is_other rfl (fun z => e (Value.bool.inj z)) (no (fun z => by cases z; exact e rfl))
  | int i => obtain ⟨t, e⟩ := (show ∃ t, v = Value.int i t from rx); cases e; exact wpAny_is_other rfl (fun z => by cases z) (no (fun z => by cases z))
  | str i => obtain ⟨t, e⟩ := (show ∃ t, v = Value.str i t from rx); cases e; exact wpAny_is_other rfl (fun z => by cases z) (no (fun z => by cases z))
  | byt i => obtain ⟨t, e⟩ := (show ∃ t, v = Value.bytes i t from rx); cases e; exact wpAny_is_other rfl (fun z => by cases z) (no (fun z => by cases z))
  | flt i => obtain ⟨t, e⟩ := (show ∃ t, v = Value.float i t from rx); cases e; exact wpAny_is_other rfl (fun z => by cases z) (no (fun z => by cases z))
  | ref a => cases (show v = Value.ref a from rx); exact wpAny_is_other rfl (fun z => by cases z) (no (fun z => by cases z))
  | ty n => cases (show v = Value.type n from rx); exact wpAny_is_other rfl (fun z => by cases z) (no (fun z => by cases z))
theorem ist {x : V} {b : Bool} : rIsT x (.bl b) H Q = Q (.bl (decide (x = .bl b))) H := propext ⟨fun ⟨_, e, h⟩ => by cases e; exact h, fun h => ⟨b, rfl, h⟩⟩
theorem t_i {i : Int} {b : Bool} : (V.int i = V.bl b) = False := eq_false (fun z => by cases z)
theorem t_s {i : Str} {b : Bool} : (V.str i = V.bl b) = False := eq_false (fun z => by cases z)
theorem t_n {b : Bool} : (V.non = V.bl b) = False := eq_false (fun z => by cases z)
theorem t_r {i : Addr} {b : Bool} : (V.ref i = V.bl b) = False := eq_false (fun z => by cases z)
theorem t_b {a b : Bool} : (V.bl a = V.bl b) = (a = b) := propext ⟨fun z => by cases z; rfl, fun z => by rw [z]⟩
theorem n_n : (V.non = V.non) = True := eq_true rfl
/-! truth -/
def tTru (K : PySem.W.Frag) (te : TE) : TT := fun σ H Q => te σ H fun x H' => ∃ k, TruV K x H' k ∧ Q k H'
def rTru (K : PySem.W.Frag) (x : V) (H : Hp) (R : Bool → Hp → Prop) : Prop := ∃ k, TruV K x H k ∧ R k H
theorem pt_tru {a : Expr} {ta : TE} (h : X.K = K) (ha : PE X a ta) (he : ∀ whole, isTrue a X.env whole = (do let v ← whole; standAt a.pos; holding [v] (truthy v)) := by intro _; rfl) : PT X a (tTru K ta) := h ▸ pt_truth ha he
theorem tru {te : TE} {R : Bool → Hp → Prop} : tTru K te σ H R = te σ H fun x H' => rTru K x H' R := rfl
theorem tru_b {b : Bool} {R : Bool → Hp → Prop} : rTru K (.bl b) H R = R b H := propext ⟨fun ⟨k, e, r⟩ => by cases (show k = b from e); exact r, fun r => ⟨b, rfl, r⟩⟩
theorem tru_l {p : Addr} {xs : List V} {R : Bool → Hp → Prop} (h : H p = some (.lst xs)) (r : R (!xs.isEmpty) H) : rTru K (.ref p) H R := ⟨_, Or.inl ⟨xs, SqL.of h, rfl⟩, r⟩
/-! isinstance -/
def rIsiW (K : PySem.W.Frag) : List V → Hp → VK → Prop := rIsi K
theorem call_isiK {K : PySem.W.Frag} (h : X.K = K) : CallR X (.builtin "isinstance") (rIsiW K) := h ▸ call_isi
theorem isi_i {i : Int} {T : String} {b : Bool} (h : kitB "int" T = some b) (q : Q (.bl b) H) : rIsiW K [.int i, .ty T] H Q := ⟨_, _, .type "int", .type T, b, rfl, .ty T, .base (.int i), kit_ty h, q⟩
theorem isi_s {i : Str} {T : String} {b : Bool} (h : kitB "str" T = some b) (q : Q (.bl b) H) : rIsiW K [.str i, .ty T] H Q := ⟨_, _, .type "str", .type T, b, rfl, .ty T, .base (.str i), kit_ty h, q⟩
theorem isi_b {i : Bool} {T : String} {b : Bool} (h : kitB "bool" T = some b) (q : Q (.bl b) H) : rIsiW K [.bl i, .ty T] H Q := ⟨_, _, .type "bool", .type T, b, rfl, .ty T, .base (.bl i), kit_ty h, q⟩
theorem isi_n {T : String} {b : Bool} (h : kitB "NoneType" T = some b) (q : Q (.bl b) H) : rIsiW K [.non, .ty T] H Q := ⟨_, _, .type "NoneType", .type T, b, rfl, .ty T, .base .non, kit_ty h, q⟩
theorem isi_l {a : Addr} {xs : List V} {T : String} {b : Bool} (e : H a = some (.lst xs)) (h : kitB "list" T = some b) (q : Q (.bl b) H) : rIsiW K [.ref a, .ty T] H Q := ⟨_, _, .type "list", .type T, b, rfl, .ty T, .base (.lst e), kit_ty h, q⟩
theorem isi_t {a : Addr} {xs : List V} {T : String} {b : Bool} (e : H a = some (.tup xs)) (h : kitB "tuple" T = some b) (q : Q (.bl b) H) : rIsiW K [.ref a, .ty T] H Q := ⟨_, _, .type "tuple", .type T, b, rfl, .ty T, .base (.tup e), kit_ty h, q⟩
/-! slices of lists -/
theorem sl {r : V → Option Int → Option Int → Hp → VK → Prop} {te : TE} {tl th : TO} : tSl r te tl th σ H Q = te σ H fun x H1 => tl σ H1 fun l H2 => th σ H2 fun u H3 => r x l u H3 Q := rfl
theorem nopart {R : Option Int → Hp → Prop} : tNoPart σ H R = R none H := rfl
def rPart (x : V) (H : Hp) (R : Option Int → Hp → Prop) : Prop := ∃ i, x = .int i ∧ R (some i) H
theorem part {t : TE} {R : Option Int → Hp → Prop} : tPart t σ H R = t σ H fun x H1 => rPart x H1 R := rfl
theorem rpart {i : Int} {R : Option Int → Hp → Prop} : rPart (.int i) H R = R (some i) H := propext ⟨fun ⟨_, e, h⟩ => by cases e; exact h, fun h => ⟨i, rfl, h⟩⟩
theorem sl_listK {K : PySem.W.Frag} (h : X.K = K) : SlR X (rSlL K) := h ▸ sl_list
theorem slq {a : Addr} {xs : List V} {lo hi : Option Int} (h : SqL K H a xs) (q : ∀ p, H p = none → Q (.ref p) (upd H p (.lst (cutV xs lo hi)))) : rSlL K (.ref a) lo hi H Q := ⟨a, xs, rfl, h, q⟩
theorem sll {a : Addr} {xs : List V} {lo hi : Option Int} (h : H a = some (.lst xs)) (q : ∀ p, H p = none → Q (.ref p) (upd H p (.lst (cutV xs lo hi)))) : rSlL K (.ref a) lo hi H Q := ⟨a, xs, rfl, SqL.of h, q⟩
/-! methods of lists -/
def rMt (K : PySem.W.Frag) (T : String) (r : V → List V → Hp → VK → Prop) (t : TA) (σ : L2.St) (x : V) (H : Hp) (Q : VK) : Prop := tyV K T x H ∧ t σ H fun xs H2 => r x xs H2 Q
theorem bm {T : String} {r : V → List V → Hp → VK → Prop} {to : TE} {t : TA} : tBM K T r to t σ H Q = to σ H fun x H1 => rMt K T r t σ x H1 Q := rfl
theorem bm0 {T : String} {r : V → List V → Hp → VK → Prop} {to : TE} : tBM0 K T r to σ H Q = to σ H fun x H1 => rMt K T r tNil σ x H1 Q := rfl
theorem mtl {a : Addr} {xs : List V} {r : V → List V → Hp → VK → Prop} {t : TA} (h : H a = some (.lst xs)) (q : t σ H fun ys H2 => r (.ref a) ys H2 Q) : rMt K "list" r t σ (.ref a) H Q := ⟨Or.inl ⟨rfl, xs, SqL.of h⟩, q⟩
theorem apd {l : Addr} {xs : List V} {y : V} (h : H l = some (.lst xs)) (hz : xs.length < sizeLine) (q : Q .non (upd H l (.lst (xs ++ [y])))) : rAppend (.ref l) [y] H Q := ⟨l, xs, y, rfl, rfl, h, hz, q⟩
theorem popd {l : Addr} {xs : List V} {y : V} (h : H l = some (.lst xs)) (hy : xs[xs.length - 1]? = some y) (q : Q y (upd H l (.lst xs.dropLast))) : rPop (.ref l) [] H Q := ⟨l, xs, y, rfl, rfl, h, hy, q⟩
section
open PySem.W
variable {o e : Expr} {es : List Expr} {to : TE} {t : TA} {name : Str} {apos cpos : Pos} {T id : String} {r : V → List V → Hp → VK → Prop}
theorem pe_bm0K {X : Cx} {K : PySem.W.Frag} (h : X.K = K) (pa : PlainAttrs T) (slot : Slot T name id) (hty : typeOf (.builtin id) = pure (.type "method_descriptor")) (hm : MtR X id r) (ho : PE X o to)
    (hbase : attributeBase o name X.env (eval o X.env) = eval o X.env := by rfl) (hline : (apos.endLine == cpos.line) = true := by rfl) : PE X (.Call (.Attribute o name apos) [] [] cpos) (tBM0 K T r to) := h ▸ pe_bm0 pa slot hty hm ho hbase hline
theorem pe_bmK {X : Cx} {K : PySem.W.Frag} (h : X.K = K) (pa : PlainAttrs T) (slot : Slot T name id) (hty : typeOf (.builtin id) = pure (.type "method_descriptor")) (hm : MtR X id r) (ho : PE X o to) (ha : PA X (e :: es) t)
    (hbase : attributeBase o name X.env (eval o X.env) = eval o X.env := by rfl)
    (hfew : ((backTo cpos (starEach (e :: es) X.env)).all (fun x => !x.1) && (backToKw cpos (keywordEach [] X.env)).all (fun x => x.1.isSome) && decide ((e :: es).length + ([] : List Keyword).length + (if ([] : List Keyword).isEmpty then 0 else 1) < 30)) = true := by rfl)
    (hline : (apos.endLine == cpos.line) = true := by rfl) (hs : starEach (e :: es) X.env = (false, eval e X.env) :: starEach es X.env := by rfl) (hplain : (backTo cpos (starEach es X.env)).any (·.1) = false := by rfl) :
    PE X (.Call (.Attribute o name apos) (e :: es) [] cpos) (tBM K T r to t) := h ▸ pe_bm pa slot hty hm ho ha hbase hfew hline hs hplain
end
/-! x op= e -/
theorem aug {i : Nat} {te : TE} {ti : TIp} : tAug i te ti D σ H = tVar i σ H fun x H0 => te σ H0 fun y H1 => ti x y H1 fun z H2 => D.nx (σ.set i (some z)) H2 := rfl
theorem ipi {f : Int → Int → Int} {i j : Int} : ipI f (.int i) (.int j) H Q = Q (.int (f i j)) H := propext ⟨fun ⟨_, _, e1, e2, h⟩ => by cases e1; cases e2; exact h, fun h => ⟨i, j, rfl, rfl, h⟩⟩
/-! while -/
theorem wh {c : TT} {b : TS} (W : Nat → L2.St → Hp → Prop) (m0 : Nat) (h0 : W m0 σ H)
    (hs : ∀ m σ H, W m σ H → c σ H fun k H1 => if k = true then ∃ N : L2.St → Hp → Prop, (∀ σ' H', N σ' H' → ∃ m', m' < m ∧ W m' σ' H') ∧ b { D with nx := N, ct := N, bk := D.nx } σ H1 else D.nx σ H1) : tWhile c b D σ H := ⟨W, ⟨m0, h0⟩, hs⟩
end
section
variable {K : PySem.W.Frag} {σ : L2.St} {H : Hp} {Q : VK} {tt : TT} {te : TE} {vs : List Nat}
/-- a comprehension whose test and element only look -/
theorem lcP {a Dl : Addr} {xs : List V} {j : Nat} (bf : V → Bool) (vf : V → V) (h : H a = some (.lst xs)) (hD : H Dl = none) (hz : xs.length ≤ 100000) (hw : ∀ x, wipe ((wipe σ vs).set j (some x)) vs = wipe σ vs)
    (ht : ∀ x, x ∈ xs → ∀ (l : List V) (R : Bool → Hp → Prop), R (bf x) (upd H Dl (.lst l)) → tt ((wipe σ vs).set j (some x)) (upd H Dl (.lst l)) R)
    (he : ∀ x, x ∈ xs → bf x = true → ∀ (l : List V) (R : VK), R (vf x) (upd H Dl (.lst l)) → te ((wipe σ vs).set j (some x)) (upd H Dl (.lst l)) R)
    (q : Q (.ref Dl) (upd H Dl (.lst ((xs.filter bf).map vf)))) : LC (Itl K a) (gName j) tt te vs σ H Dl Q := by
  have hne : a ≠ Dl := ne_of_none h hD
  refine lc_list (xs := xs) (fun i H' => H' = upd H Dl (.lst (((xs.take i).filter bf).map vf))) rfl (fun i H' hi e => by rw [e]; exact SqL.of (u_ne hne h)) (fun i x H' hx e => ?_) (fun H' e => ?_)
  · subst e
    have et : xs.take (i + 1) = xs.take i ++ [x] := by rw [List.take_succ, hx]; rfl
    refine ⟨hw x, ht x (List.mem_of_getElem? hx) _ _ ?_⟩
    cases e : bf x with
    | false =>
      show _ = _
      rw [et, List.filter_append]
      simp [e]
    | true =>
      refine he x (List.mem_of_getElem? hx) e _ _ ⟨_, upd_same, ?_, ?_⟩
      · have h1 := List.length_filter_le bf (xs.take i)
        rw [List.length_map]
        have h2 : (xs.take i).length ≤ xs.length := by rw [List.length_take]; omega
        exact Nat.lt_of_le_of_lt (Nat.le_trans h1 (Nat.le_trans h2 hz)) (by decide)
      · rw [upd_upd, et, List.filter_append, List.map_append]
        simp [e]
  · subst e
    rw [List.take_length]
    exact q
end
theorem sz_lt {n : Nat} (h : n < 100000) : n < sizeLine := Nat.lt_of_lt_of_le h (by decide)
theorem sz_le {n : Nat} (h : n ≤ 100000) : n ≤ sizeLine := Nat.le_trans h (by decide)
/-- what H told stands -/
def Ex (H H' : Hp) : Prop := ∀ b o, H b = some o → H' b = some o
theorem Ex.refl {H : Hp} : Ex H H := fun _ _ h => h
theorem Ex.trans {H H1 H2 : Hp} (a : Ex H H1) (b : Ex H1 H2) : Ex H H2 := fun x o h => b x o (a x o h)
theorem Ex.new {H H1 : Hp} {p : Addr} {o : HO} (a : Ex H H1) (n : H1 p = none) : Ex H (upd H1 p o) := fun b u h => u_ne (ne_of_none (a b u h) n) (a b u h)
theorem Ex.mut {H H1 : Hp} {p : Addr} {o : HO} (a : Ex H H1) (n : H p = none) : Ex H (upd H1 p o) := fun b u h => u_ne (ne_of_none h n) (a b u h)
theorem Ex.free {H H1 : Hp} {p : Addr} (a : Ex H H1) (n : H1 p = none) : H p = none := by
  cases e : H p with
  | none => rfl
  | some o => rw [a p o e] at n; cases n
theorem Ex.ext {p : Addr} {H H' : Hp} (a : Ex H H') : Ext p H H' := fun b o _ h => a b o h
theorem PoolAt.ex {H H' : Hp} {p : Addr} (h : PoolAt H p) (a : Ex H H') : PoolAt H' p := by
  obtain ⟨l, ns, i, x, c, e, h1, h2, h3⟩ := h
  exact ⟨l, ns, i, x, c, e, a _ _ h1, a _ _ h2, h3⟩
theorem Ext.new' {p l : Addr} {o : HO} {H H1 : Hp} (a : Ext p H H1) (n : H1 l = none) : Ext p H (upd H1 l o) := fun b u hb h => u_ne (ne_of_none (a b u hb h) n) (a b u hb h)
theorem Ext.mut {p l : Addr} {o : HO} {H H1 : Hp} (a : Ext p H H1) (n : H l = none) : Ext p H (upd H1 l o) := fun b u hb h => u_ne (ne_of_none h n) (a b u hb h)
end Wp
/-! Wp2: what the laws' common helpers promise; count of a list; odds and ends. -/
namespace Wp
open PySem L2 PyProof.Rows
section
variable {X : Cx}
/-- how often a flat thing stands in a list of flat things: some number up to the length -/
def rCntB (K : PySem.W.Frag) : V → List V → Hp → VK → Prop := fun x xs H Q => ∃ (a : Addr) (ys : List V) (y : V), x = V.ref a ∧ xs = [y] ∧ SqL K H a ys ∧ flatV y = true ∧ ys.all flatV = true ∧ ∀ n : Nat, n ≤ ys.length → Q (.int (n : Int)) H
theorem mt_countS : MtR X "list.count" (rCntB X.K) := by
  intro pins s σ H x xs v us Q I rx rxs h
  obtain ⟨a, ys, y, rfl, rfl, hs, fy, fys, q⟩ := h
  cases rx
  cases rxs with
  | cons ry rt =>
    rename_i uy ut
    cases rt
    obtain ⟨its, rv, ⟨⟨cls, dd, data, sl⟩, n, ho, hc, hdn, hd⟩, hlen⟩ := I.list hs
    simp only at hc hd
    subst hc hd
    refine call_meets PySem.F.slot_list_count ⟨_, ho, rfl⟩ PySem.F.entry_list_count (PySem.F.args_list_count_2 _ _)
      (SeqAt.list_countAt a its.toArray n dd sl uy (eqU y)) ⟨ho, fun u' hu' => mem_eqAt ry fy rv fys u' (by simpa using hu'), ?_⟩
    have hc := List.countP_le_length (p := eqU y) (l := its.toArray.toList)
    have e2 : its.toArray.toList.length = ys.length := by have := rv.length; simp; omega
    exact ⟨.int _, H, I.tok _, ⟨_, rfl⟩, q _ (by omega)⟩
theorem mt_countK {K : PySem.W.Frag} (h : X.K = K) : MtR X "list.count" (rCntB K) := h ▸ mt_countS
end
theorem cntb {K : PySem.W.Frag} {H : Hp} {Q : VK} {a : Addr} {ys : List V} {y : V} (h : H a = some (.lst ys)) (fy : flatV y = true) (fys : ys.all flatV = true) (q : ∀ n : Nat, n ≤ ys.length → Q (.int (n : Int)) H) : rCntB K (.ref a) [y] H Q := ⟨a, ys, y, rfl, rfl, SqL.of h, fy, fys, q⟩
theorem all_flat_str (cs : List Str) : (cs.map V.str).all flatV = true := by
  rw [List.all_eq_true]
  intro x hx
  obtain ⟨c, _, rfl⟩ := List.mem_map.mp hx
  rfl
theorem cutV_map {α : Type} (f : α → V) (xs : List α) (lo hi : Option Int) : ∃ ys : List α, cutV (xs.map f) lo hi = ys.map f ∧ (∀ y, y ∈ ys → y ∈ xs) ∧ ys.length ≤ xs.length := by
  refine ⟨(xs.drop (HT.sIx (xs.map f).length 0 lo)).take (HT.sIx (xs.map f).length (xs.map f).length hi - HT.sIx (xs.map f).length 0 lo), ?_, fun y h => List.mem_of_mem_drop (List.mem_of_mem_take h), ?_⟩
  · unfold cutV
    rw [List.map_take, List.map_drop]
  · rw [List.length_take, List.length_drop]
    omega
theorem rep_map {α : Type} (f : α → V) (xs : List α) (n : Nat) : (List.replicate n (xs.map f)).flatten = ((List.replicate n xs).flatten).map f := by
  rw [List.map_flatten, List.map_replicate]
theorem rep_len {α : Type} (xs : List α) (n : Nat) : (List.replicate n xs).flatten.length = n * xs.length := by
  rw [List.length_flatten, List.map_replicate, List.sum_replicate_nat]
theorem rep_mem {α : Type} {xs : List α} {n : Nat} {y : α} (h : y ∈ (List.replicate n xs).flatten) : y ∈ xs := by
  obtain ⟨l, hl, hy⟩ := List.mem_flatten.mp h
  rw [List.eq_of_mem_replicate hl] at hy
  exact hy
/-- the pool at p, its list at l -/
def PoolL (H : Hp) (p l : Addr) : Prop := ∃ ns i x c e, PoolC H p l ns i x c e
section
variable {H H' H1 : Hp} {p l b : Addr} {o : HO}
theorem PoolL.ne (h : PoolL H p l) : l ≠ p := by
  obtain ⟨ns, i, x, c, e, h⟩ := h
  exact h.ne
theorem PoolL.upd (h : PoolL H p l) (n1 : b ≠ p) (n2 : b ≠ l) : PoolL (upd H b o) p l := by
  obtain ⟨ns, i, x, c, e, h1, h2, h3⟩ := h
  exact ⟨ns, i, x, c, e, u_ne n1.symm h1, u_ne n2.symm h2, h3⟩
theorem PoolL.nep (h : PoolL H p l) (n : H b = none) : b ≠ p := by
  obtain ⟨ns, i, x, c, e, h1, h2, h3⟩ := h
  exact (ne_of_none h1 n).symm
theorem PoolL.nel (h : PoolL H p l) (n : H b = none) : b ≠ l := by
  obtain ⟨ns, i, x, c, e, h1, h2, h3⟩ := h
  exact (ne_of_none h2 n).symm
theorem PoolL.new (h : PoolL H p l) (n : H b = none) : PoolL (L2.upd H b o) p l := h.upd (h.nep n) (h.nel n)
theorem PoolL.ex (h : PoolL H p l) (a : Ex H H') : PoolL H' p l := by
  obtain ⟨ns, i, x, c, e, h1, h2, h3⟩ := h
  exact ⟨ns, i, x, c, e, a _ _ h1, a _ _ h2, h3⟩
theorem But.trans (a : But p H H1) (b : But p H1 H') : But p H H' := fun c n => (b c n).trans (a c n)
theorem But.get (a : But p H H1) (n : b ≠ p) (h : H b = some o) : H1 b = some o := (a b n).trans h
end
def spPoolL (K : PySem.W.Frag) : Sp := fun vs H Q _ => ∃ (a : Addr) (ns : List Int), vs = [.ref a] ∧ SqL K H a (ns.map V.int) ∧ ∀ p l H', H p = none → H l = none → Ex H H' → PoolL H' p l → Q (.ref p) H'
def spDrawL : Sp := fun vs H Q _ => ∃ (p : Addr) (m : Int), vs = [.ref p, .int m] ∧ ∃ l, PoolL H p l ∧ 0 < m ∧ m.natAbs < 2 ^ 200 ∧ ∀ r H', 0 ≤ r → r < m → PoolL H' p l → But p H H' → Q (.int r) H'
def spPick : Sp := fun vs H Q _ => ∃ (p a : Addr), vs = [.ref p, .ref a] ∧ ∃ (l : Addr) (xs : List V), PoolL H p l ∧ H a = some (.lst xs) ∧ a ≠ p ∧ 0 < xs.length ∧ xs.length < 2 ^ 60 ∧ ∀ (i : Nat) (x : V) (H' : Hp), xs[i]? = some x → PoolL H' p l → But p H H' → Q x H'
def spRare : Sp := fun vs H Q _ => ∃ (p : Addr) (m : Int), vs = [.ref p, .int m] ∧ ∃ l, PoolL H p l ∧ 0 < m ∧ m < 2 ^ 60 ∧ ∀ b H', PoolL H' p l → But p H H' → Q (.bl b) H'
def spFew : Sp := fun vs H Q _ => ∃ (p : Addr) (u m : Int), vs = [.ref p, .int u, .int m] ∧ ∃ l, PoolL H p l ∧ 0 ≤ u ∧ u ≤ m ∧ m < 2 ^ 60 ∧ ∀ r H', 0 ≤ r → r ≤ m → PoolL H' p l → But p H H' → Q (.int r) H'
/-- what is known of a heap on the way: the pool, what stood, a list of what stands where -/
structure SS (p l : Addr) (H0 H : Hp) (L : List (Addr × HO)) : Prop where
  pool : PoolL H p l
  ext : Ext p H0 H
  has : ∀ e, e ∈ L → e.1 ≠ p ∧ H e.1 = some e.2
section
variable {p l b a : Addr} {H0 H H' : Hp} {L : List (Addr × HO)} {o : HO}
theorem SS.first (h : PoolL H p l) : SS p l H H [] := ⟨h, Ext.refl, fun e he => by cases he⟩
theorem SS.add (S : SS p l H0 H L) (n : a ≠ p) (h : H a = some o) : SS p l H0 H ((a, o) :: L) := ⟨S.pool, S.ext, fun e he => by
  rcases List.mem_cons.mp he with rfl | he
  · exact ⟨n, h⟩
  · exact S.has e he⟩
theorem SS.new (S : SS p l H0 H L) (n : H b = none) (o : HO) : SS p l H0 (upd H b o) ((b, o) :: L) := ⟨S.pool.new n, S.ext.new' n, fun e he => by
  rcases List.mem_cons.mp he with rfl | he
  · exact ⟨S.pool.nep n, upd_same⟩
  · exact ⟨(S.has e he).1, u_ne (ne_of_none (S.has e he).2 n) (S.has e he).2⟩⟩
theorem SS.draw (S : SS p l H0 H L) (h : PoolL H' p l) (bt : But p H H') : SS p l H0 H' L := ⟨h, S.ext.trans bt.ext, fun e he => ⟨(S.has e he).1, bt.get (S.has e he).1 (S.has e he).2⟩⟩
theorem SS.step (S : SS p l H0 H L) (h : PoolL H' p l) (x : Ext p H H') : SS p l H0 H' L := ⟨h, S.ext.trans x, fun e he => ⟨(S.has e he).1, x _ _ (S.has e he).1 (S.has e he).2⟩⟩
theorem SS.at (S : SS p l H0 H L) {i : Nat} (h : L[i]? = some (a, o)) : H a = some o := (S.has _ (List.mem_of_getElem? h)).2
theorem SS.ne (S : SS p l H0 H L) {i : Nat} (h : L[i]? = some (a, o)) : a ≠ p := (S.has _ (List.mem_of_getElem? h)).1
theorem SS.less (S : SS p l H0 H L) {L' : List (Addr × HO)} (h : ∀ e, e ∈ L' → e ∈ L) : SS p l H0 H L' := ⟨S.pool, S.ext, fun e he => S.has e (h e he)⟩
end
/-- what is known of a heap on the way, without a pool -/
structure KK (H0 H : Hp) (L : List (Addr × HO)) : Prop where
  ext : Ex H0 H
  has : ∀ e, e ∈ L → H e.1 = some e.2
section
variable {b a : Addr} {H0 H H' : Hp} {L : List (Addr × HO)} {o : HO}
theorem KK.first : KK H H [] := ⟨Ex.refl, fun e he => by cases he⟩
theorem KK.add (S : KK H0 H L) (h : H a = some o) : KK H0 H ((a, o) :: L) := ⟨S.ext, fun e he => by
  rcases List.mem_cons.mp he with rfl | he
  · exact h
  · exact S.has e he⟩
theorem KK.new (S : KK H0 H L) (n : H b = none) (o : HO) : KK H0 (upd H b o) ((b, o) :: L) := ⟨S.ext.new n, fun e he => by
  rcases List.mem_cons.mp he with rfl | he
  · exact upd_same
  · exact u_ne (ne_of_none (S.has e he) n) (S.has e he)⟩
theorem KK.step (S : KK H0 H L) (x : Ex H H') : KK H0 H' L := ⟨S.ext.trans x, fun e he => x _ _ (S.has e he)⟩
theorem KK.at (S : KK H0 H L) {i : Nat} (h : L[i]? = some (a, o)) : H a = some o := S.has _ (List.mem_of_getElem? h)
theorem KK.less (S : KK H0 H L) {L' : List (Addr × HO)} (h : ∀ e, e ∈ L' → e ∈ L) : KK H0 H L' := ⟨S.ext, fun e he => S.has e (h e he)⟩
end
/-! errors made, their fields stored and read -/
def rMk (C : Addr) (sp : Sp) (vs : List V) (H1 : Hp) (Q : XK) : Prop := vs.length ≤ 1000 ∧ ∀ a, H1 a = none → sp (.ref a :: vs) (upd H1 a (exo a C none))
  (fun v H2 => v = .non ∧ ∃ (d : Addr) (fs : List (Str × V)), H2 a = some (exo a C (some d)) ∧ H2 d = some (exd d fs) ∧ H1 d = none ∧ Q (.ref C) (some d) (upd (del H2 a) d (.xd fs))) (fun _ _ _ => False)
section
variable {K : PySem.W.Frag} {σ : L2.St} {H : Hp} {Q : VK} {D : Ends}
theorem mko {C : Addr} {sp : Sp} {ta : TA} {R : XK} : tMkO C sp [] ta σ H R = ta σ H fun vs H1 => rMk C sp vs H1 R := by
  unfold tMkO rMk
  simp only [List.append_nil]
def rOst (K : PySem.W.Frag) (f : Str) (x y : V) (H2 : Hp) (R : Hp → Prop) : Prop := ∃ a C : Addr, x = .ref a ∧ OexC K C ∧ PySem.W.findIn K (.ref C) f = some none ∧
  ((H2 a = some (exo a C none) ∧ ∀ dx, H2 dx = none → dx ≠ a → R (upd (upd H2 dx (exd dx [(f, y)])) a (exo a C (some dx)))) ∨
    ∃ (dx : Addr) (fs : List (Str × V)), H2 a = some (exo a C (some dx)) ∧ H2 dx = some (exd dx fs) ∧ fs.length ≤ 900 ∧ R (upd H2 dx (exd dx ((f, y) :: fs))))
theorem ost {f : Str} {to te : TE} : tOst K f to te D σ H = te σ H fun y H1 => to σ H1 fun x H2 => rOst K f x y H2 (D.nx σ) := rfl
def rXf (a : Addr) (cls : Value) (d : Option Addr) (C : Addr) (f : Str) (x : V) (H1 : Hp) (Q : VK) : Prop := x = .ref a ∧ cls = .ref C ∧ ∃ (dd : Addr) (fs : List (Str × V)) (v : V), d = some dd ∧ H1 dd = some (.xd fs) ∧ fs.lookup f = some v ∧ Q v H1
theorem xf {a C : Addr} {cls : Value} {d : Option Addr} {f : Str} {te : TE} : tXf a cls d C f te σ H Q = te σ H fun x H1 => rXf a cls d C f x H1 Q := rfl
theorem callS {sp : Sp} {E : L2.St → XK} {t : TA} : tCallS sp E t σ H Q = t σ H fun vs H1 => sp vs H1 Q (E σ) := rfl
end
theorem ps_ostK {X : Cx} {K : PySem.W.Frag} {o e : Expr} {to te : TE} {f : Str} {p' pos : Pos} (h : X.K = K) (ho : PE X o to) (he : PE X e te) (hs : swapsWith e (some (.Attribute o f p')) pos.line X.env = pure false := by rfl) : PS X (.Assign [.Attribute o f p'] e pos) (tOst K f to te) := h ▸ ps_ost ho he hs
theorem Ext.free {p b : Addr} {H H' : Hp} (a : Ext p H H') (n : H' b = none) (h : b ≠ p) : H b = none := by
  cases e : H b with
  | none => rfl
  | some o => rw [a b o h e] at n; cases n
end Wp
set_option maxHeartbeats 4000000
/-! Wp3: isinstance of a caught error that has fields. -/
namespace Wq
open PySem PySem.W PySem.Spec PySem.Calls PyProof.Rows L2
section
variable {prog : Program} {w : World} {A : Around} {E : Value → Shared → Prop} {s : Shared} {K : Frag} {x D : Addr} {ox od : Obj}
theorem cls_of_err {Q : Option Value → Shared → Prop} (C : ExcC K D) (X : K.In s.heap) (I : InstAt s.heap x ox D (some od)) (h : Q (some (.ref D)) { s with toks := s.toks + 1 }) : wpAny (model prog w) A (getAttr? (.ref x) "__class__") Q E s := by
  have hf : findObj K D (some od) "__class__" = some (.bind (.builtin "getset_descriptor.__get__") (.builtin "object.__class__")) := findObj_data (by obtain ⟨cd, hc, _⟩ := any_some C.hd; rw [hc] <;> rfl) C.ha C.hn C.ht
  obtain ⟨hq, gs, dr, tk, os⟩ := s
  have l0 := I.type (M := model prog w)
  have l1 := looks_findIn (M := model prog w) X C.hg
  have l2 := looks_findIn (M := model prog w) X C.hk
  have l3 := looks_find (M := model prog w) X I hf
  have isB : Looks (model prog w) hq (isInstance (.ref x) (.type "BaseException")) true := l0.andThen (looks_subIn X C.hs)
  have no0 : (false && onTheHeap (Value.builtin "BaseException.__getattribute__")) = false := rfl
  have no2 : (Value.builtin "BaseException.__getattribute__" == Value.builtin "object.__getattribute__") = false := by decide +kernel
  have no1 : (onTheHeap (Value.ref D) && Value.builtin "BaseException.__getattribute__" == Value.builtin "object.__getattribute__") = false := by rw [no2] <;> rfl
  unfold getAttr? getAttrBy? getAttrBy; refine wpAny_bind (wpAny_mkText (wpAny_bind (wpAny_attempt (wpAny_holding (wpAny_bind (l0.at (wpAny_bind (l1.at ?_))))))))
  show wpAny _ _ (if (onTheHeap (Value.ref D) && Value.builtin "BaseException.__getattribute__" == Value.builtin "object.__getattribute__") = true then _ else _) _ _ _; rw [no1, if_neg Bool.false_ne_true]
  unfold getAttrByItsOwn hookBefore; refine wpAny_bind ?_; rw [if_pos (show onTheHeap (Value.ref D) = true from rfl)]; refine l2.at ?_
  refine wpAny_bind (wpAny_attempt (wpAny_holding ?_)); unfold callGetattribute; rw [no0, if_neg Bool.false_ne_true]; unfold boundAndCalled
  rw [PySem.F.excAttr_ValueError.ga.bind (.ref x)]; refine wpAny_bind (wpAny_pure ?_)
  show wpAny _ _ (call (.builtin "BaseException.__getattribute__") [.ref x, .str "__class__" tk]) _ _ _; refine wpAny_call (codeAny_call_builtin PySem.F.excAttr_ValueError.ga.plain PySem.F.entry_bexc_ga ?_)
  refine @check_slot (model prog w) _ _ ⟨hq, gs, dr, tk + 1, os⟩ "BaseException.__getattribute__" "BaseException" "__getattribute__" (.ref x) [.str "__class__" tk] [] _ (by decide +kernel) (by decide +kernel) isB (PySem.F.args_bexc_ga (.ref x) (.str "__class__" tk)) ?_
  unfold Builtin.«object.__getattribute__»; refine wpAny_bind (wpAny_of_eq (a := ((Value.ref x : Value), [Value.str "__class__" tk])) (by first | rfl | (simp only [slotArgs]; rfl)) ?_)
  refine wpAny_bind (wpAny_pure (wpAny_bind (l0.at (wpAny_bind (l3.at ?_))))); show wpAny _ _ (holding [Value.builtin "object.__class__"] (call (.builtin "getset_descriptor.__get__") [.builtin "object.__class__", .ref x, .ref D]) >>= ret) _ _ _
  refine wpAny_bind (wpAny_holding (wpAny_call (class_get (s := ⟨hq, gs, dr, tk + 1, os⟩) (ox := ox) (od := some od) X I C.hm ?_))); refine wpAny_pure ?_
  show wpAny _ _ (handedOut (.ref D)) _ _ _; rw [handedOut_of (v := .ref D) rfl]
  first | exact wpAny_pure (wpAny_pure h) | exact wpAny_pure h | exact wpAny_pure (wpAny_bind (wpAny_pure (wpAny_pure h)))
theorem kit_err (C : ExcC K D) : KitX K (.ref x) (.ref D) (fun h => InstAt h x ox D (some od)) where
  ty := fun _ _ _ I => I.type
  it := fun _ _ X _ => by
    obtain ⟨cd0, hc0, _⟩ := any_some C.hd
    unfold clsIn at hc0
    split at hc0
    · rename_i c1 d1 cd1 sl1 ho; intro A1 Q1 E1 s1 k q; unfold isType loadHead; exact wpAny_bind (wpAny_loadPart (k _ _ (X _ _ ho)) (wpAny_pure q))
    · cases hc0
  ne := fun h tp dd its n sl X htp => by
    obtain ⟨cd0, hc0, _⟩ := any_some C.hd
    refine Bool.eq_false_iff.mpr fun q => ?_
    have e : D = tp := Value.ref.inj (beq_iff_eq.mp q)
    subst e; unfold clsIn at hc0
    split at hc0
    · rename_i c1 d1 cd1 sl1 ho; have z := (X _ _ ho).symm.trans htp; cases z
    · cases hc0
  ca := fun X I k => cls_of_err C X I k
end
/-- isinstance(e, c), e the error that the suite holds, d its dict -/
def rIsF (K : PySem.W.Frag) (D a d : Addr) : List V → Hp → VK → Prop := fun xs H Q => ∃ (c : V) (cv : Value) (b : Bool) (fs : List (Str × V)), xs = [.ref a, c] ∧ H d = some (.xd fs) ∧ (∀ u, RelV c u → u = cv) ∧ PySem.W.kitOne K (.ref D) cv = some b ∧ Q (.bl b) H
theorem call_isF {X : Cx} {a D d : Addr} {oe : Obj} {pn : List (Addr × Obj)} (C : ExcC X.K D) (hz : Zc (.ref D) (some d) oe) (hf : ∃ vs, oe.data = .fields vs) : CallR (X.suite a ((a, oe) :: pn)) (.builtin "isinstance") (rIsF X.K D a d) := by
  intro pins s σ H xs us Q I r h
  obtain ⟨c, cv, b, fs, rfl, hd, hcv, e, q⟩ := h
  cases r with
  | cons rx rr =>
    cases rr with
    | cons rt rr =>
      cases rr
      cases rx
      have ec := hcv _ rt
      subst ec
      obtain ⟨hget, _⟩ := I.pin (a, oe) (List.mem_append.mpr (.inl List.mem_cons_self))
      obtain ⟨vs, hv⟩ := hf
      have hx : ObjOk X.prog X.w H s.heap d (.xd fs) := I.hok d _ hd
      obtain ⟨mA, hns, hr⟩ := hx
      obtain ⟨od, ho, hl⟩ := lookIn_ns hns
      have J : PySem.W.InstAt s.heap a oe D (some od) := ⟨hget, hz.1, by unfold PySem.W.notCls; rw [hv] <;> rfl, by rw [hz.2]; exact ho⟩
      exact PySem.W.kia_one (kit_err C) I.kIn J e (fun z => nomatch z) fun tk => ⟨.bl b, H, I.kept (t' := tk) fun _ _ z => z, rfl, q⟩
/-- the same where the class and the dict are told by the suite -/
def rIsG (K : PySem.W.Frag) (D a : Addr) (cls : Value) (d : Option Addr) : List V → Hp → VK → Prop := fun xs H Q => ∃ dd, cls = .ref D ∧ d = some dd ∧ rIsF K D a dd xs H Q
theorem call_isG {X : Cx} {K : PySem.W.Frag} {a D : Addr} {cls : Value} {d : Option Addr} {oe : Obj} {pn : List (Addr × Obj)} (hK : X.K = K) (C : ExcC K D) (hz : Zc cls d oe) (hf : ∃ vs, oe.data = .fields vs) : CallR (X.suite a ((a, oe) :: pn)) (.builtin "isinstance") (rIsG K D a cls d) := by
  subst hK
  intro pins s σ H xs us Q I r h
  obtain ⟨dd, rfl, rfl, h⟩ := h
  exact call_isF C hz hf pins s σ H xs us Q I r h
/-- a def that may raise, as others call it -/
structure DefX (P : Program) (w : World) (K : PySem.W.Frag) (mg : Str → Option Value) (base : Heap) (k : Nat) (x : Str) (ps : List Str) (sp : Sp) : Prop where
  ex : ∃ f fd, FnOk P w K mg base (L2.CX P w) k f fd ps sp ∧ mg x = some (.ref f) ∧ PySem.W.keepIn K (.ref f) = true ∧ Binds K fd ps []
theorem DefX.callS {X : Cx} {W : WX} {k : Nat} {x : Str} {ps : List Str} {sp : Sp} {e : Expr} {es : List Expr} {t : TA} {p pos : Pos} (G : DefX X.prog X.w X.K X.mg X.base k x ps sp) (hr : Room k X.A) (hg : Gl X x) (tk : Takes X W)
    (ha : PA X (e :: es) t) (hdb : (x == ("__debug__" : Str)) = false := by decide) (he : starEach (e :: es) X.env = (false, eval e X.env) :: starEach es X.env := by rfl) (hpl : (backTo pos (starEach es X.env)).any (·.1) = false := by rfl) :
    PE X (.Call (.Name x p) (e :: es) [] pos) (tCallS sp (WE W) t) := by
  refine ⟨fun pins s σ H Q I h => ?_⟩
  obtain ⟨f, fd, F, hm, hk, hb⟩ := G.ex
  exact (pe_callS F hr hg hm hk hb (fun σ => passAt tk σ) ha hdb he hpl).run pins s σ H Q I h
end Wq
local macro_rules | `(tactic| walk_at "wp") => `(tactic| simp only [↓Wp.seq, ↓Wp.next, ↓Wp.asg, ↓Wp.gn, ↓Wp.gsub, ↓Wp.ret, ↓Wp.drop, ↓Wp.ifs, ↓Wp.brk, ↓Wp.cont, ↓Wp.op, ↓Wp.un, ↓Wp.cb, ↓Wp.call, ↓Wp.nil, ↓Wp.cons, ↓Wp.c, ↓Wp.ifx, ↓Wp.lst, ↓Wp.tup, ↓Wp.test, ↓Wp.tb, ↓Wp.tnot, ↓Wp.tand, ↓Wp.tor, ↓Wp.tandv, ↓Wp.torv, ↓Wp.tnotv, ↓Wp.chain, ↓Wp.bx, ↓Wp.i0, ↓Wp.i1, ↓Wp.u1, ↓Wp.eqi, ↓Wp.nei, ↓Wp.cabs, ↓Wp.cmax, ↓Wp.cmin, ↓Wp.cinti, ↓Wp.cintb, ↓Wp.isv_ii, ↓Wp.isv_ib, ↓Wp.for_, ↓Wp.lc_, ↓Wp.ilist, ↓Wp.itup, ↓Wp.irng1, ↓Wp.irng2, ↓Wp.rr1, ↓Wp.rr2, ↓Wp.tyes, ↓Wp.RunC, ↓Wp.RunL, ↓Wp.v0, ↓Wp.v1, ↓Wp.v2, ↓Wp.v3, ↓Wp.v4, ↓Wp.v5, ↓Wp.v6, ↓Wp.v7, ↓Wp.v8, ↓Wp.v9, ↓Wp.v10, ↓Wp.v11, ↓Wp.v12, ↓Wp.v13, ↓Wp.v14, ↓Wp.v15, ↓Wp.v16, ↓Wp.v17, ↓Wp.v18, ↓Wp.v19, ↓Wp.v20, ↓Wp.v21, ↓Wp.v22, ↓Wp.v23, ↓Wp.s0, ↓Wp.s1, ↓Wp.s2, ↓Wp.s3, ↓Wp.s4, ↓Wp.s5, ↓Wp.s6, ↓Wp.s7, ↓Wp.s8, ↓Wp.s9, ↓Wp.s10, ↓Wp.s11, ↓Wp.s12, ↓Wp.s13, ↓Wp.s14, ↓Wp.s15, ↓Wp.s16, ↓Wp.s17, ↓Wp.s18, ↓Wp.s19, ↓Wp.s20, ↓Wp.s21, ↓Wp.s22, ↓Wp.s23, ↓Wp.addi, ↓Wp.eqs, ↓Wp.nes, ↓Wp.isn, ↓Wp.notn, ↓Wp.ist, ↓Wp.tru, ↓Wp.tru_b, ↓Wp.sl, ↓Wp.nopart, ↓Wp.part, ↓Wp.rpart, ↓Wp.bm, ↓Wp.bm0, ↓Wp.aug, ↓Wp.ipi, ↓Wp.mko, ↓Wp.ost, ↓Wp.xf, ↓Wp.callS, Wp.n_i, Wp.n_s, Wp.n_b, Wp.n_r, Wp.n_n, Wp.t_i, Wp.t_s, Wp.t_n, Wp.t_r, Wp.t_b, List.append_nil, Int.zero_add, List.map_cons, List.map_nil, L2.wipe, List.foldl_cons, List.foldl_nil, List.cons_append, List.nil_append, L2.upd_upd, eq_self, decide_eq_true_eq, Bool.not_eq_true', decide_eq_false_iff_not, if_true, if_false, ite_true, ite_false, Bool.false_eq_true, Bool.true_eq_false, Bool.not_true, Bool.not_false, decide_true, decide_false, ↓reduceIte, Int.reduceToNat, Int.reducePow, Int.reduceMul, Int.reduceAdd, Int.reduceSub, Int.reduceNeg, Int.reduceDiv, Int.reduceMod, Int.reduceLT, Int.reduceLE, Int.reduceEq])
local macro_rules | `(tactic| walk_at "hp") => `(tactic| first | assumption | exact Wp.SS.at (i := 0) (by assumption) (by exact rfl) | exact Wp.SS.at (i := 1) (by assumption) (by exact rfl) | exact Wp.SS.at (i := 2) (by assumption) (by exact rfl) | exact Wp.SS.at (i := 3) (by assumption) (by exact rfl) | exact Wp.SS.at (i := 4) (by assumption) (by exact rfl) | exact Wp.SS.at (i := 5) (by assumption) (by exact rfl) | exact Wp.SS.at (i := 6) (by assumption) (by exact rfl) | exact Wp.SS.at (i := 7) (by assumption) (by exact rfl) | exact Wp.SS.at (i := 8) (by assumption) (by exact rfl) | exact Wp.SS.at (i := 9) (by assumption) (by exact rfl) | exact Wp.KK.at (i := 0) (by assumption) (by exact rfl) | exact Wp.KK.at (i := 1) (by assumption) (by exact rfl) | exact Wp.KK.at (i := 2) (by assumption) (by exact rfl) | exact Wp.KK.at (i := 3) (by assumption) (by exact rfl) | exact Wp.KK.at (i := 4) (by assumption) (by exact rfl) | exact Wp.KK.at (i := 5) (by assumption) (by exact rfl) | exact Wp.KK.at (i := 6) (by assumption) (by exact rfl) | exact Wp.KK.at (i := 7) (by assumption) (by exact rfl) | exact Wp.KK.at (i := 8) (by assumption) (by exact rfl) | exact Wp.KK.at (i := 9) (by assumption) (by exact rfl) | exact Wp.KK.at (i := 10) (by assumption) (by exact rfl) | exact Wp.KK.at (i := 11) (by assumption) (by exact rfl) | exact Wp.KK.at (i := 12) (by assumption) (by exact rfl) | exact Wp.KK.at (i := 13) (by assumption) (by exact rfl) | exact Wp.KK.at (i := 14) (by assumption) (by exact rfl) | exact Wp.KK.at (i := 15) (by assumption) (by exact rfl) | exact Wp.KK.at (i := 16) (by assumption) (by exact rfl) | exact Wp.KK.at (i := 17) (by assumption) (by exact rfl) | exact L2.upd_same | (refine Wp.u_ne ?_ ?_ <;> walk_at "hp") | exact L2.ne_of_none (by assumption) (by assumption) | exact (L2.ne_of_none (by assumption) (by assumption)).symm)
local macro_rules | `(tactic| walk_at "sz") => `(tactic| first | assumption | (simp only [List.length_cons, List.length_nil, List.length_map, List.length_append]; decide) | exact Wp.sz_lt (by simp only [List.length_cons, List.length_nil, List.length_map, List.length_append]; omega))
local macro_rules | `(tactic| walk_at "rd") => `(tactic| first | ((with_reducible refine' Wp.ixal ?h1 ?h2 ?h3); (case h1 => walk_at "hp"); (case h2 => exact rfl)) | ((with_reducible refine' Wp.ixat ?h1 ?h2 ?h3); (case h1 => walk_at "hp"); (case h2 => exact rfl)) | ((with_reducible refine' Wp.ixl ?h1 ?h2 ?h3); (case h1 => walk_at "hp"); (case h2 => exact rfl)) | ((with_reducible refine' Wp.setl (j := 0) ?h1 ?h2 ?h3); (case h1 => walk_at "hp"); (case h2 => exact rfl)) | ((with_reducible refine' Wp.setl (j := 1) ?h1 ?h2 ?h3); (case h1 => walk_at "hp"); (case h2 => exact rfl)) | ((with_reducible refine' Wp.setl (j := 2) ?h1 ?h2 ?h3); (case h1 => walk_at "hp"); (case h2 => exact rfl)) | ((with_reducible refine' Wp.setl (j := 3) ?h1 ?h2 ?h3); (case h1 => walk_at "hp"); (case h2 => exact rfl)) | ((with_reducible refine' Wp.setl (j := 4) ?h1 ?h2 ?h3); (case h1 => walk_at "hp"); (case h2 => exact rfl)) | ((with_reducible refine' Wp.setl (j := 5) ?h1 ?h2 ?h3); (case h1 => walk_at "hp"); (case h2 => exact rfl)) | ((with_reducible refine' Wp.lenl ?h1 ?h3); (case h1 => walk_at "hp")) | ((with_reducible refine' Wp.lent ?h1 ?h3); (case h1 => walk_at "hp")) | ((with_reducible refine' Wp.ril ?h1 ?h3); (case h1 => walk_at "hp")) | ((with_reducible refine' Wp.rit ?h1 ?h3); (case h1 => walk_at "hp")) | ((with_reducible refine' Wp.tru_l ?h1 ?h3); (case h1 => walk_at "hp")) | ((with_reducible refine' Wp.mtl ?h1 ?h3); (case h1 => walk_at "hp")) | ((with_reducible refine' Wp.sll ?h1 ?h3); (case h1 => walk_at "hp")) | ((with_reducible refine' Wp.apd ?h1 ?h2 ?h3); (case h1 => walk_at "hp"); (case h2 => walk_at "sz")) | (with_reducible refine' Wp.isi_i (T := "int") Wp.kb_int_int ?h3) | (with_reducible refine' Wp.isi_i (T := "str") Wp.kb_int_str ?h3) | (with_reducible refine' Wp.isi_i (T := "bool") Wp.kb_int_bool ?h3) | (with_reducible refine' Wp.isi_i (T := "list") Wp.kb_int_list ?h3) | (with_reducible refine' Wp.isi_i (T := "tuple") Wp.kb_int_tuple ?h3) | (with_reducible refine' Wp.isi_s (T := "int") Wp.kb_str_int ?h3) | (with_reducible refine' Wp.isi_s (T := "str") Wp.kb_str_str ?h3) | (with_reducible refine' Wp.isi_s (T := "bool") Wp.kb_str_bool ?h3) | (with_reducible refine' Wp.isi_s (T := "list") Wp.kb_str_list ?h3) | (with_reducible refine' Wp.isi_s (T := "tuple") Wp.kb_str_tuple ?h3) | (with_reducible refine' Wp.isi_b (T := "int") Wp.kb_bool_int ?h3) | (with_reducible refine' Wp.isi_b (T := "str") Wp.kb_bool_str ?h3) | (with_reducible refine' Wp.isi_b (T := "bool") Wp.kb_bool_bool ?h3) | (with_reducible refine' Wp.isi_b (T := "list") Wp.kb_bool_list ?h3) | (with_reducible refine' Wp.isi_b (T := "tuple") Wp.kb_bool_tuple ?h3) | (with_reducible refine' Wp.isi_n (T := "int") Wp.kb_NoneType_int ?h3) | (with_reducible refine' Wp.isi_n (T := "str") Wp.kb_NoneType_str ?h3) | (with_reducible refine' Wp.isi_n (T := "bool") Wp.kb_NoneType_bool ?h3) | (with_reducible refine' Wp.isi_n (T := "list") Wp.kb_NoneType_list ?h3) | (with_reducible refine' Wp.isi_n (T := "tuple") Wp.kb_NoneType_tuple ?h3) | ((with_reducible refine' Wp.isi_l (T := "int") ?h1 Wp.kb_list_int ?h3); (case h1 => walk_at "hp")) | ((with_reducible refine' Wp.isi_l (T := "str") ?h1 Wp.kb_list_str ?h3); (case h1 => walk_at "hp")) | ((with_reducible refine' Wp.isi_l (T := "bool") ?h1 Wp.kb_list_bool ?h3); (case h1 => walk_at "hp")) | ((with_reducible refine' Wp.isi_l (T := "list") ?h1 Wp.kb_list_list ?h3); (case h1 => walk_at "hp")) | ((with_reducible refine' Wp.isi_l (T := "tuple") ?h1 Wp.kb_list_tuple ?h3); (case h1 => walk_at "hp")) | ((with_reducible refine' Wp.isi_t (T := "int") ?h1 Wp.kb_tuple_int ?h3); (case h1 => walk_at "hp")) | ((with_reducible refine' Wp.isi_t (T := "str") ?h1 Wp.kb_tuple_str ?h3); (case h1 => walk_at "hp")) | ((with_reducible refine' Wp.isi_t (T := "bool") ?h1 Wp.kb_tuple_bool ?h3); (case h1 => walk_at "hp")) | ((with_reducible refine' Wp.isi_t (T := "list") ?h1 Wp.kb_tuple_list ?h3); (case h1 => walk_at "hp")) | ((with_reducible refine' Wp.isi_t (T := "tuple") ?h1 Wp.kb_tuple_tuple ?h3); (case h1 => walk_at "hp")))
local macro_rules | `(tactic| walk_at "sc") => `(tactic| first | assumption | decide | exact ⟨by decide, by decide, by decide⟩ | exact Or.inr ⟨by decide, by decide⟩ | exact Or.inl ⟨by decide, by decide⟩ | (simp only [List.length_cons, List.length_nil]; decide) | exact L2.SqL.of (by walk_at "hp") | exact Wp.cmm (by decide) (by decide) (by decide) (by decide) | exact Wp.dvs (by decide) (by decide))
local macro_rules | `(tactic| walk_at "go") => `(tactic| repeat (first | walk_at "wp" | walk_at "rd" | (refine And.intro (by walk_at "sc") ?_) | (refine Exists.intro _ (And.intro (by walk_at "hp") (And.intro (by walk_at "sc") ?_)))))
local macro_rules | `(tactic| walk_at "gi") => `(tactic| repeat (first | walk_at "wp" | walk_at "rd" | (refine And.intro (by walk_at "sc") ?_) | (refine Exists.intro _ (And.intro (by walk_at "hp") (And.intro (by walk_at "sc") ?_))) | (refine Wp.ite_t (by first | assumption | omega | decide +kernel) ?_) | (refine Wp.ite_f (by first | assumption | omega | decide +kernel) ?_)))
namespace K02
open PySem L2 Wp
def top (i : Nat) : Stmt := PySem.Challenge.pw_galleywork_k02_braces_and_groups.main.body.getD i (.Pass ⟨0, 0, 0, 0⟩)
abbrev s_check_braces : Stmt := top 6
abbrev s_group_end : Stmt := top 7
abbrev s_groups_behind : Stmt := top 8
abbrev s_groups_within : Stmt := top 9
abbrev s_law_pool : Stmt := top 11
abbrev s_law_draw : Stmt := top 12
abbrev s_law_pick : Stmt := top 13
abbrev s_law_rare : Stmt := top 14
abbrev s_law_few : Stmt := top 15
abbrev s_law_same : Stmt := top 16
abbrev s_law_codes : Stmt := top 17
abbrev s_law_towered : Stmt := top 18
abbrev s_law_spoilt : Stmt := top 19
abbrev s_law_tokens : Stmt := top 20
abbrev s_law_end : Stmt := top 21
abbrev s_law_wrong : Stmt := top 22
abbrev s_law_behind : Stmt := top 23
abbrev s_law_checked : Stmt := top 24
abbrev s_law_found : Stmt := top 25
abbrev s_law : Stmt := top 26
theorem sc_check_braces : FnScope ["tokens", "begun", "token"] ["tokens"] (defScope s_check_braces) := ⟨rfl, rfl, rfl, by decide +kernel, rfl, by decide +kernel, by decide +kernel⟩
theorem sc_group_end : FnScope ["tokens", "at", "depth"] ["tokens", "at"] (defScope s_group_end) := ⟨rfl, rfl, rfl, by decide +kernel, rfl, by decide +kernel, by decide +kernel⟩
theorem sc_groups_behind : FnScope ["tokens", "at", "count"] ["tokens", "at", "count"] (defScope s_groups_behind) := ⟨rfl, rfl, rfl, by decide +kernel, rfl, by decide +kernel, by decide +kernel⟩
theorem sc_groups_within : FnScope ["tokens", "at", "hi", "count", "pairs", "_", "end"] ["tokens", "at", "hi", "count"] (defScope s_groups_within) := ⟨rfl, rfl, rfl, by decide +kernel, rfl, by decide +kernel, by decide +kernel⟩
theorem sc_law_pool : FnScope ["script"] ["script"] (defScope s_law_pool) := ⟨rfl, rfl, rfl, by decide +kernel, rfl, by decide +kernel, by decide +kernel⟩
theorem sc_law_draw : FnScope ["pool", "many", "cell", "got", "one"] ["pool", "many"] (defScope s_law_draw) := ⟨rfl, rfl, rfl, by decide +kernel, rfl, by decide +kernel, by decide +kernel⟩
theorem sc_law_pick : FnScope ["pool", "row"] ["pool", "row"] (defScope s_law_pick) := ⟨rfl, rfl, rfl, by decide +kernel, rfl, by decide +kernel, by decide +kernel⟩
theorem sc_law_rare : FnScope ["pool", "many"] ["pool", "many"] (defScope s_law_rare) := ⟨rfl, rfl, rfl, by decide +kernel, rfl, by decide +kernel, by decide +kernel⟩
theorem sc_law_few : FnScope ["pool", "usual", "most"] ["pool", "usual", "most"] (defScope s_law_few) := ⟨rfl, rfl, rfl, by decide +kernel, rfl, by decide +kernel, by decide +kernel⟩
theorem sc_law_same : FnScope ["got", "due", "k"] ["got", "due"] (defScope s_law_same) := ⟨rfl, rfl, rfl, by decide +kernel, rfl, by decide +kernel, by decide +kernel⟩
theorem sc_law_codes : FnScope ["pool", "codes", "depth", "k", "way"] ["pool"] (defScope s_law_codes) := ⟨rfl, rfl, rfl, by decide +kernel, rfl, by decide +kernel, by decide +kernel⟩
theorem sc_law_towered : FnScope ["pool", "codes", "at", "inner", "depth", "many"] ["pool", "codes"] (defScope s_law_towered) := ⟨rfl, rfl, rfl, by decide +kernel, rfl, by decide +kernel, by decide +kernel⟩
theorem sc_law_spoilt : FnScope ["pool", "codes", "way", "at"] ["pool", "codes"] (defScope s_law_spoilt) := ⟨rfl, rfl, rfl, by decide +kernel, rfl, by decide +kernel, by decide +kernel⟩
theorem sc_law_tokens : FnScope ["codes", "line", "column", "wide", "values", "found", "k", "value", "row"] ["codes", "line", "column", "wide"] (defScope s_law_tokens) := ⟨rfl, rfl, rfl, by decide +kernel, rfl, by decide +kernel, by decide +kernel⟩
theorem sc_law_end : FnScope ["tokens", "at", "depth", "k"] ["tokens", "at"] (defScope s_law_end) := ⟨rfl, rfl, rfl, by decide +kernel, rfl, by decide +kernel, by decide +kernel⟩
theorem sc_law_wrong : FnScope ["tokens", "depth", "k"] ["tokens"] (defScope s_law_wrong) := ⟨rfl, rfl, rfl, by decide +kernel, rfl, by decide +kernel, by decide +kernel⟩
theorem sc_law_behind : FnScope ["tokens", "at", "count", "found", "k", "stop"] ["tokens", "at", "count"] (defScope s_law_behind) := ⟨rfl, rfl, rfl, by decide +kernel, rfl, by decide +kernel, by decide +kernel⟩
theorem sc_law_checked : FnScope ["tokens", "wrong", "handed", "told", "fields", "under", "e", "due"] ["tokens", "wrong"] (defScope s_law_checked) := ⟨rfl, rfl, rfl, by decide +kernel, rfl, by decide +kernel, by decide +kernel⟩
theorem sc_law_found : FnScope ["tokens", "handed", "at", "count", "due", "told"] ["tokens"] (defScope s_law_found) := ⟨rfl, rfl, rfl, by decide +kernel, rfl, by decide +kernel, by decide +kernel⟩
theorem sc_law : FnScope ["script", "pool", "codes", "rows", "spoilt", "k", "line", "column", "wide", "row", "tokens", "wrong"] ["script"] (defScope s_law) := ⟨rfl, rfl, rfl, by decide +kernel, rfl, by decide +kernel, by decide +kernel⟩
structure Txt (mg : Str → Option Value) : Prop where
  n_abs : mg "abs" = none
  n_bool : mg "bool" = none
  n_int : mg "int" = none
  n_isinstance : mg "isinstance" = none
  n_len : mg "len" = none
  n_list : mg "list" = none
  n_max : mg "max" = none
  n_range : mg "range" = none
  n_str : mg "str" = none
  n_tuple : mg "tuple" = none
  g_DEPTH_LIMIT : ∃ t, mg "DEPTH_LIMIT" = some (.int 12 t)

/-! data as the laws compare it -/
inductive Dat where
  | int (i : Int) | str (s : Str) | non | bl (b : Bool) | lst (xs : List Dat) | tup (xs : List Dat)
/-- v stands for d in H; n bounds the depth -/
def Rep (H : Hp) : Nat → V → Dat → Prop
  | _, v, .int i => v = .int i
  | _, v, .str s => v = .str s
  | _, v, .non => v = .non
  | _, v, .bl b => v = .bl b
  | 0, _, .lst _ => False
  | 0, _, .tup _ => False
  | n + 1, v, .lst ds => ∃ a vs, v = .ref a ∧ H a = some (.lst vs) ∧ vs.length = ds.length ∧ vs.length < 2 ^ 60 ∧ ∀ (i : Nat) (x : V) (d : Dat), vs[i]? = some x → ds[i]? = some d → Rep H n x d
  | n + 1, v, .tup ds => ∃ a vs, v = .ref a ∧ H a = some (.tup vs) ∧ vs.length = ds.length ∧ vs.length < 2 ^ 60 ∧ ∀ (i : Nat) (x : V) (d : Dat), vs[i]? = some x → ds[i]? = some d → Rep H n x d
theorem Rep.ex {H H' : Hp} (e : Ex H H') : ∀ (n : Nat) (v : V) (d : Dat), Rep H n v d → Rep H' n v d := by
  intro n
  induction n with
  | zero =>
    intro v d h
    cases d <;> simp only [Rep] at h ⊢ <;> exact h
  | succ n ih =>
    intro v d h
    cases d with
    | lst ds =>
      simp only [Rep] at h ⊢
      obtain ⟨a, vs, h1, h2, h3, h5, h4⟩ := h
      exact ⟨a, vs, h1, e _ _ h2, h3, h5, fun i x d hx hd => ih x d (h4 i x d hx hd)⟩
    | tup ds =>
      simp only [Rep] at h ⊢
      obtain ⟨a, vs, h1, h2, h3, h5, h4⟩ := h
      exact ⟨a, vs, h1, e _ _ h2, h3, h5, fun i x d hx hd => ih x d (h4 i x d hx hd)⟩
    | int i => simp only [Rep] at h ⊢; exact h
    | str s => simp only [Rep] at h ⊢; exact h
    | non => simp only [Rep] at h ⊢; exact h
    | bl b => simp only [Rep] at h ⊢; exact h
def spSame (n : Nat) : Sp := fun vs H Q _ => ∃ (x y : V) , vs = [x, y] ∧ ∃ d : Dat, Rep H n x d ∧ Rep H n y d ∧ Q (.bl true) H
def PvSame (H : Hp) (x y : V) : Nat → L2.St → Hp → Prop := fun _ σ' H' => H' = H ∧ ∃ v, σ' = [some x, some y, v]
section
variable {P : Program} {w : World} {K : PySem.W.Frag} {mg : Str → Option Value} {base : Heap}
theorem ok_law_same0 {f : Addr} {fd : FuncData} (F : Fun K "_law_same" "_law_same" s_law_same f fd) (T : Txt mg) (G_law_same : Def P w K mg base 0 "_law_same" ["got", "due"] (fun _ _ _ _ => False)) : FnOk P w K mg base CX0 1 f fd ["got", "due"] (spSame 0) := by
  refine F.ok sc_law_same (fun vs H Q E h => ?_) (fun cdv A outer s H vs Q E hr h => ?_)
  · obtain ⟨x, y, rfl, _⟩ := h
    rfl
  · obtain ⟨x, y, rfl, h⟩ := h
    refine ⟨_, (pss_cons (ps_if (pt_cmpR o_isN (pv 1) pe_non (nomark _))
  (pss_one (ps_ret (pe_cmpR o_isN (pv 0) pe_non (nomark _))))
  pss_nil)
  (pss_cons (ps_if (pt_cmpR op_isT (pv 1) pe_bl (nomark _))
  (pss_one (ps_ret (pe_cmpR op_isT (pv 0) pe_bl (nomark _))))
  pss_nil)
  (pss_cons (ps_if (pt_cmpR op_isT (pv 1) pe_bl (nomark _))
  (pss_one (ps_ret (pe_cmpR op_isT (pv 0) pe_bl (nomark _))))
  pss_nil)
  (pss_cons (ps_if (pt_val (pe_callB (call_isiK (K := K) rfl) (by rfl) T.n_isinstance (by decide +kernel) (pa_cons (pv 1) (pa_cons (pe_bltn (v := .ty "int") (by rfl) T.n_int (by decide +kernel) rfl) pa_nil))))
  (pss_one (ps_ret (pe_and (pe_callB (call_isiK (K := K) rfl) (by rfl) T.n_isinstance (by decide +kernel) (pa_cons (pv 0) (pa_cons (pe_bltn (v := .ty "int") (by rfl) T.n_int (by decide +kernel) rfl) pa_nil))) (pe_and (pe_not (pe_callB (call_isiK (K := K) rfl) (by rfl) T.n_isinstance (by decide +kernel) (pa_cons (pv 0) (pa_cons (pe_bltn (v := .ty "bool") (by rfl) T.n_bool (by decide +kernel) rfl) pa_nil)))) (pe_one (pe_cmpR op_eq (pv 0) (pv 1) (nomark _)))))))
  pss_nil)
  (pss_cons (ps_if (pt_val (pe_callB (call_isiK (K := K) rfl) (by rfl) T.n_isinstance (by decide +kernel) (pa_cons (pv 1) (pa_cons (pe_bltn (v := .ty "str") (by rfl) T.n_str (by decide +kernel) rfl) pa_nil))))
  (pss_one (ps_ret (pe_and (pe_callB (call_isiK (K := K) rfl) (by rfl) T.n_isinstance (by decide +kernel) (pa_cons (pv 0) (pa_cons (pe_bltn (v := .ty "str") (by rfl) T.n_str (by decide +kernel) rfl) pa_nil))) (pe_one (pe_cmpR op_eq (pv 0) (pv 1) (nomark _))))))
  pss_nil)
  (pss_cons (ps_if (pt_val (pe_callB (call_isiK (K := K) rfl) (by rfl) T.n_isinstance (by decide +kernel) (pa_cons (pv 1) (pa_cons (pe_bltn (v := .ty "tuple") (by rfl) T.n_tuple (by decide +kernel) rfl) pa_nil))))
  (pss_one (ps_if (PW.pt (pw_or (pt_not (pt_val (pe_callB (call_isiK (K := K) rfl) (by rfl) T.n_isinstance (by decide +kernel) (pa_cons (pv 0) (pa_cons (pe_bltn (v := .ty "tuple") (by rfl) T.n_tuple (by decide +kernel) rfl) pa_nil))))) (pw_or1 (pt_cmpR op_ne (pe_callB (c_lenK (K := K) rfl) (by rfl) T.n_len (by decide +kernel) (pa_cons (pv 0) pa_nil)) (pe_callB (c_lenK (K := K) rfl) (by rfl) T.n_len (by decide +kernel) (pa_cons (pv 1) pa_nil)) (nomark _)))))
  (pss_one (ps_ret pe_bl))
  pss_nil))
  (pss_one (ps_if (PW.pt (pw_or (pt_not (pt_val (pe_callB (call_isiK (K := K) rfl) (by rfl) T.n_isinstance (by decide +kernel) (pa_cons (pv 0) (pa_cons (pe_bltn (v := .ty "list") (by rfl) T.n_list (by decide +kernel) rfl) pa_nil))))) (pw_or1 (pt_cmpR op_ne (pe_callB (c_lenK (K := K) rfl) (by rfl) T.n_len (by decide +kernel) (pa_cons (pv 0) pa_nil)) (pe_callB (c_lenK (K := K) rfl) (by rfl) T.n_len (by decide +kernel) (pa_cons (pv 1) pa_nil)) (nomark _)))))
  (pss_one (ps_ret pe_bl))
  pss_nil)))
  (pss_cons (ps_for PassesOwn.never rfl (pi_range1 (by rfl) T.n_range (pa_cons (pe_callB (c_lenK (K := K) rfl) (by rfl) T.n_len (by decide +kernel) (pa_cons (pv 1) pa_nil)) pa_nil)) (pg_name (i := 2) sc_law_same.nd rfl (by first | exact Or.inl rfl | exact Or.inr rfl))
  (pss_one (ps_if (pt_not (pt_val (G_law_same.call (hr.mono (by omega)) (by rfl) (pa_cons (pe_ix (ixA (K := K) rfl) (pv 0) (pv 2) (fun _ _ => rfl)) (pa_cons (pe_ix (ixA (K := K) rfl) (pv 1) (pv 2) (fun _ _ => rfl)) pa_nil)))))
  (pss_one (ps_ret pe_bl))
  pss_nil)))
  (pss_one (ps_ret pe_bl))))))))), ?_⟩
    rw [show start ["got", "due", "k"] [x, y] = [some (x), some (y), none] from rfl]
    obtain ⟨d, hx, hy, q⟩ := h
    cases d with
    | non => simp only [Rep] at hx hy; subst hx hy; walk_at "go"; exact q
    | bl b =>
      simp only [Rep] at hx hy; subst hx hy
      cases b
      · walk_at "go"; exact q
      · walk_at "go"; exact q
    | int i => simp only [Rep] at hx hy; subst hx hy; walk_at "go"; exact q
    | str i => simp only [Rep] at hx hy; subst hx hy; walk_at "go"; exact q
    | lst ds =>
      simp only [Rep] at hx
    | tup ds =>
      simp only [Rep] at hx
theorem ok_law_sameS {n : Nat} {f : Addr} {fd : FuncData} (F : Fun K "_law_same" "_law_same" s_law_same f fd) (T : Txt mg) (G_law_same : Def P w K mg base (n + 1) "_law_same" ["got", "due"] (spSame n)) : FnOk P w K mg base CX0 (n + 2) f fd ["got", "due"] (spSame (n + 1)) := by
  refine F.ok sc_law_same (fun vs H Q E h => ?_) (fun cdv A outer s H vs Q E hr h => ?_)
  · obtain ⟨x, y, rfl, _⟩ := h
    rfl
  · obtain ⟨x, y, rfl, h⟩ := h
    refine ⟨_, (pss_cons (ps_if (pt_cmpR o_isN (pv 1) pe_non (nomark _))
  (pss_one (ps_ret (pe_cmpR o_isN (pv 0) pe_non (nomark _))))
  pss_nil)
  (pss_cons (ps_if (pt_cmpR op_isT (pv 1) pe_bl (nomark _))
  (pss_one (ps_ret (pe_cmpR op_isT (pv 0) pe_bl (nomark _))))
  pss_nil)
  (pss_cons (ps_if (pt_cmpR op_isT (pv 1) pe_bl (nomark _))
  (pss_one (ps_ret (pe_cmpR op_isT (pv 0) pe_bl (nomark _))))
  pss_nil)
  (pss_cons (ps_if (pt_val (pe_callB (call_isiK (K := K) rfl) (by rfl) T.n_isinstance (by decide +kernel) (pa_cons (pv 1) (pa_cons (pe_bltn (v := .ty "int") (by rfl) T.n_int (by decide +kernel) rfl) pa_nil))))
  (pss_one (ps_ret (pe_and (pe_callB (call_isiK (K := K) rfl) (by rfl) T.n_isinstance (by decide +kernel) (pa_cons (pv 0) (pa_cons (pe_bltn (v := .ty "int") (by rfl) T.n_int (by decide +kernel) rfl) pa_nil))) (pe_and (pe_not (pe_callB (call_isiK (K := K) rfl) (by rfl) T.n_isinstance (by decide +kernel) (pa_cons (pv 0) (pa_cons (pe_bltn (v := .ty "bool") (by rfl) T.n_bool (by decide +kernel) rfl) pa_nil)))) (pe_one (pe_cmpR op_eq (pv 0) (pv 1) (nomark _)))))))
  pss_nil)
  (pss_cons (ps_if (pt_val (pe_callB (call_isiK (K := K) rfl) (by rfl) T.n_isinstance (by decide +kernel) (pa_cons (pv 1) (pa_cons (pe_bltn (v := .ty "str") (by rfl) T.n_str (by decide +kernel) rfl) pa_nil))))
  (pss_one (ps_ret (pe_and (pe_callB (call_isiK (K := K) rfl) (by rfl) T.n_isinstance (by decide +kernel) (pa_cons (pv 0) (pa_cons (pe_bltn (v := .ty "str") (by rfl) T.n_str (by decide +kernel) rfl) pa_nil))) (pe_one (pe_cmpR op_eq (pv 0) (pv 1) (nomark _))))))
  pss_nil)
  (pss_cons (ps_if (pt_val (pe_callB (call_isiK (K := K) rfl) (by rfl) T.n_isinstance (by decide +kernel) (pa_cons (pv 1) (pa_cons (pe_bltn (v := .ty "tuple") (by rfl) T.n_tuple (by decide +kernel) rfl) pa_nil))))
  (pss_one (ps_if (PW.pt (pw_or (pt_not (pt_val (pe_callB (call_isiK (K := K) rfl) (by rfl) T.n_isinstance (by decide +kernel) (pa_cons (pv 0) (pa_cons (pe_bltn (v := .ty "tuple") (by rfl) T.n_tuple (by decide +kernel) rfl) pa_nil))))) (pw_or1 (pt_cmpR op_ne (pe_callB (c_lenK (K := K) rfl) (by rfl) T.n_len (by decide +kernel) (pa_cons (pv 0) pa_nil)) (pe_callB (c_lenK (K := K) rfl) (by rfl) T.n_len (by decide +kernel) (pa_cons (pv 1) pa_nil)) (nomark _)))))
  (pss_one (ps_ret pe_bl))
  pss_nil))
  (pss_one (ps_if (PW.pt (pw_or (pt_not (pt_val (pe_callB (call_isiK (K := K) rfl) (by rfl) T.n_isinstance (by decide +kernel) (pa_cons (pv 0) (pa_cons (pe_bltn (v := .ty "list") (by rfl) T.n_list (by decide +kernel) rfl) pa_nil))))) (pw_or1 (pt_cmpR op_ne (pe_callB (c_lenK (K := K) rfl) (by rfl) T.n_len (by decide +kernel) (pa_cons (pv 0) pa_nil)) (pe_callB (c_lenK (K := K) rfl) (by rfl) T.n_len (by decide +kernel) (pa_cons (pv 1) pa_nil)) (nomark _)))))
  (pss_one (ps_ret pe_bl))
  pss_nil)))
  (pss_cons (ps_for PassesOwn.never rfl (pi_range1 (by rfl) T.n_range (pa_cons (pe_callB (c_lenK (K := K) rfl) (by rfl) T.n_len (by decide +kernel) (pa_cons (pv 1) pa_nil)) pa_nil)) (pg_name (i := 2) sc_law_same.nd rfl (by first | exact Or.inl rfl | exact Or.inr rfl))
  (pss_one (ps_if (pt_not (pt_val (G_law_same.call (hr.mono (by omega)) (by rfl) (pa_cons (pe_ix (ixA (K := K) rfl) (pv 0) (pv 2) (fun _ _ => rfl)) (pa_cons (pe_ix (ixA (K := K) rfl) (pv 1) (pv 2) (fun _ _ => rfl)) pa_nil)))))
  (pss_one (ps_ret pe_bl))
  pss_nil)))
  (pss_one (ps_ret pe_bl))))))))), ?_⟩
    rw [show start ["got", "due", "k"] [x, y] = [some (x), some (y), none] from rfl]
    obtain ⟨d, hx, hy, q⟩ := h
    cases d with
    | non => simp only [Rep] at hx hy; subst hx hy; walk_at "go"; exact q
    | bl b =>
      simp only [Rep] at hx hy; subst hx hy
      cases b
      · walk_at "go"; exact q
      · walk_at "go"; exact q
    | int i => simp only [Rep] at hx hy; subst hx hy; walk_at "go"; exact q
    | str i => simp only [Rep] at hx hy; subst hx hy; walk_at "go"; exact q
    | lst ds =>
      simp only [Rep] at hx hy
      obtain ⟨a, xs, rfl, ha, hla, hza, hxa⟩ := hx
      obtain ⟨b, ys, rfl, hb, hlb, hzb, hxb⟩ := hy
      walk_at "go"
      refine ite_f (by omega) ?_
      walk_at "go"
      refine ⟨by omega, ?_⟩
      refine loopR (PvSame H (.ref a) (.ref b)) ⟨rfl, _, rfl⟩ ?_ ?_
      · rintro i σ' H' hi ⟨rfl, v, rfl⟩
        walk_at "go"
        have h1 : i < xs.length := by omega
        have h2 : i < ys.length := by omega
        have h3 : i < ds.length := by omega
        refine ixal (by walk_at "hp") (atI_nat (List.getElem?_eq_getElem h1)) ?_
        walk_at "go"
        refine ixal (by walk_at "hp") (atI_nat (List.getElem?_eq_getElem h2)) ?_
        walk_at "go"
        refine ⟨_, _, rfl, ds[i], hxa i _ _ (List.getElem?_eq_getElem h1) (List.getElem?_eq_getElem h3), hxb i _ _ (List.getElem?_eq_getElem h2) (List.getElem?_eq_getElem h3), ?_⟩
        walk_at "go"
        exact ⟨rfl, _, rfl⟩
      · rintro σ' H' ⟨rfl, v, rfl⟩
        walk_at "go"
        exact q
    | tup ds =>
      simp only [Rep] at hx hy
      obtain ⟨a, xs, rfl, ha, hla, hza, hxa⟩ := hx
      obtain ⟨b, ys, rfl, hb, hlb, hzb, hxb⟩ := hy
      walk_at "go"
      refine ite_f (by omega) ?_
      walk_at "go"
      refine ⟨by omega, ?_⟩
      refine loopR (PvSame H (.ref a) (.ref b)) ⟨rfl, _, rfl⟩ ?_ ?_
      · rintro i σ' H' hi ⟨rfl, v, rfl⟩
        walk_at "go"
        have h1 : i < xs.length := by omega
        have h2 : i < ys.length := by omega
        have h3 : i < ds.length := by omega
        refine ixat (by walk_at "hp") (atI_nat (List.getElem?_eq_getElem h1)) ?_
        walk_at "go"
        refine ixat (by walk_at "hp") (atI_nat (List.getElem?_eq_getElem h2)) ?_
        walk_at "go"
        refine ⟨_, _, rfl, ds[i], hxa i _ _ (List.getElem?_eq_getElem h1) (List.getElem?_eq_getElem h3), hxb i _ _ (List.getElem?_eq_getElem h2) (List.getElem?_eq_getElem h3), ?_⟩
        walk_at "go"
        exact ⟨rfl, _, rfl⟩
      · rintro σ' H' ⟨rfl, v, rfl⟩
        walk_at "go"
        exact q
end
end K02
namespace K02
open PySem L2 Wp
section
variable {P : Program} {w : World} {K : PySem.W.Frag} {mg : Str → Option Value} {base : Heap}
theorem ok_law_pool {f : Addr} {fd : FuncData} (F : Fun K "_law_pool" "_law_pool" s_law_pool f fd) (T : Txt mg) : FnOk P w K mg base CX0 1 f fd ["script"] (spPoolL K) := by
  refine F.ok sc_law_pool (fun vs H Q E h => ?_) (fun cdv A outer s H vs Q E hr h => ?_)
  · obtain ⟨a1, ns, rfl, _⟩ := h
    rfl
  · obtain ⟨a1, ns, rfl, h⟩ := h
    refine ⟨_, (pss_one (ps_ret (pe_lst (pa_cons (pe_callTy (c_listK (K := K) rfl) (by rfl) T.n_list (by decide +kernel) (pa_cons (pv 0) pa_nil)) (pa_cons pe_int (pa_cons pe_int (pa_cons pe_int (pa_cons pe_int pa_nil)))))))), ?_⟩
    rw [show start ["script"] [.ref a1] = [some (.ref a1)] from rfl]
    obtain ⟨hs, k⟩ := h
    walk_at "go"
    refine Wp.lists hs fun l hl => ?_
    walk_at "go"
    intro p hp
    have hne : l ≠ p := fun z => by subst z; rw [upd_same] at hp; cases hp
    have hp0 : H p = none := by rw [upd_ne hne.symm] at hp; exact hp
    exact k p l _ hp0 hl (fun b o e => u_ne (ne_of_none e hp0) (u_ne (ne_of_none e hl) e)) ⟨ns, _, _, _, _, upd_same, u_ne hne upd_same, by decide⟩
theorem ok_law_draw {f : Addr} {fd : FuncData} (F : Fun K "_law_draw" "_law_draw" s_law_draw f fd) (T : Txt mg) : FnOk P w K mg base CX0 1 f fd ["pool", "many"] (spDrawL) := by
  refine F.ok sc_law_draw (fun vs H Q E h => ?_) (fun cdv A outer s H vs Q E hr h => ?_)
  · obtain ⟨p1, m1, rfl, _⟩ := h
    rfl
  · obtain ⟨p1, m1, rfl, h⟩ := h
    refine ⟨_, (pss_cons (ps_asg (pe_op op_addL (pe_ix (ixA (K := K) rfl) (pv 0) pe_int (fun _ _ => rfl)) pe_int) (pg_sub (pv 0) pe_int set_list))
  (pss_cons (ps_if (PW.pt (pw_and (pt_cmpR op_eq (pe_ix (ixA (K := K) rfl) (pv 0) pe_int (fun _ _ => rfl)) pe_int (nomark _)) (pw_and1 (pt_cmpR op_lt (pe_ix (ixA (K := K) rfl) (pv 0) pe_int (fun _ _ => rfl)) (pe_callB (c_lenK (K := K) rfl) (by rfl) T.n_len (by decide +kernel) (pa_cons (pe_ix (ixA (K := K) rfl) (pv 0) pe_int (fun _ _ => rfl)) pa_nil)) (nomark _)))))
  (pss_cons (ps_set (i := 2) sc_law_draw.nd rfl (by first | exact Or.inl rfl | exact Or.inr rfl) (pe_ix (ixA (K := K) rfl) (pe_ix (ixA (K := K) rfl) (pv 0) pe_int (fun _ _ => rfl)) (pe_ix (ixA (K := K) rfl) (pv 0) pe_int (fun _ _ => rfl)) (fun _ _ => rfl)))
  (pss_cons (ps_asg (pe_op op_addL (pe_ix (ixA (K := K) rfl) (pv 0) pe_int (fun _ _ => rfl)) pe_int) (pg_sub (pv 0) pe_int set_list))
  (pss_one (ps_if (pt_cmpR op_ge (pe_callB c_abs (by rfl) T.n_abs (by decide +kernel) (pa_cons (pv 2) pa_nil)) (pe_op op_pow pe_int pe_int) (nomark _))
  (pss_one (ps_asg (pe_callB c_abs (by rfl) T.n_abs (by decide +kernel) (pa_cons (pv 2) pa_nil)) (pg_sub (pv 0) pe_int set_list)))
  (pss_one (ps_asg (pe_op op_mod (pe_callTy c_int (by rfl) T.n_int (by decide +kernel) (pa_cons (pe_op op_addL (pe_op op_addL (pe_op op_mul (pe_ix (ixA (K := K) rfl) (pv 0) pe_int (fun _ _ => rfl)) pe_int) (pe_op op_mul (pv 2) pe_int)) pe_int) pa_nil)) pe_int) (pg_sub (pv 0) pe_int set_list)))))))
  pss_nil)
  (pss_cons (ps_if (pt_cmpR op_gt (pe_ix (ixA (K := K) rfl) (pv 0) pe_int (fun _ _ => rfl)) pe_int (nomark _))
  (pss_cons (ps_set (i := 3) sc_law_draw.nd rfl (by first | exact Or.inl rfl | exact Or.inr rfl) (pe_op op_mod (pe_callTy c_int (by rfl) T.n_int (by decide +kernel) (pa_cons (pe_ix (ixA (K := K) rfl) (pv 0) pe_int (fun _ _ => rfl)) pa_nil)) (pv 1)))
  (pss_cons (ps_asg (pe_op op_fdivW (pe_ix (ixA (K := K) rfl) (pv 0) pe_int (fun _ _ => rfl)) (pv 1)) (pg_sub (pv 0) pe_int set_list))
  (pss_one (ps_ret (pv 3)))))
  pss_nil)
  (pss_cons (ps_set (i := 4) sc_law_draw.nd rfl (by first | exact Or.inl rfl | exact Or.inr rfl) (pe_op op_mod (pe_callTy c_int (by rfl) T.n_int (by decide +kernel) (pa_cons (pe_op op_addL (pe_ix (ixA (K := K) rfl) (pv 0) pe_int (fun _ _ => rfl)) (pe_op op_mul (pe_ix (ixA (K := K) rfl) (pv 0) pe_int (fun _ _ => rfl)) pe_int)) pa_nil)) pe_int))
  (pss_cons (ps_set (i := 4) sc_law_draw.nd rfl (by first | exact Or.inl rfl | exact Or.inr rfl) (pe_op op_mod (pe_callTy c_int (by rfl) T.n_int (by decide +kernel) (pa_cons (pe_op op_addL (pe_op op_addL (pe_op op_mulW (pv 4) (pv 4)) (pe_op op_mul (pe_ix (ixA (K := K) rfl) (pv 0) pe_int (fun _ _ => rfl)) pe_int)) pe_int) pa_nil)) pe_int))
  (pss_cons (ps_set (i := 4) sc_law_draw.nd rfl (by first | exact Or.inl rfl | exact Or.inr rfl) (pe_op op_mod (pe_callTy c_int (by rfl) T.n_int (by decide +kernel) (pa_cons (pe_op op_addL (pe_op op_addL (pe_op op_mulW (pv 4) (pv 4)) (pe_ix (ixA (K := K) rfl) (pv 0) pe_int (fun _ _ => rfl))) pe_int) pa_nil)) pe_int))
  (pss_one (ps_ret (pe_op op_mod (pe_callTy c_int (by rfl) T.n_int (by decide +kernel) (pa_cons (pe_op op_fdivW (pv 4) pe_int) pa_nil)) (pv 1)))))))))), ?_⟩
    rw [show start ["pool", "many", "cell", "got", "one"] [.ref p1, .int m1] = [some (.ref p1), some (.int m1), none, none, none] from rfl]
    obtain ⟨l, ⟨ns, i, x, c, e, hC⟩, m0, mm, k⟩ := h
    have hne := hC.ne
    obtain ⟨h1, h2, i0⟩ := hC
    walk_at "go"
    refine ite2 (fun hx => ?_) (fun hx => ?_)
    · walk_at "go"
      refine ite2 (fun hi => ?_) (fun hi => ?_)
      · obtain ⟨n, hn⟩ := atI_map i0 hi
        walk_at "go"
        refine Wp.ixal (by walk_at "hp") hn ?_
        walk_at "go"
        refine ite2 (fun hb => ?_) (fun hb => ?_)
        · walk_at "go"
          refine ite2 (fun hp => ?_) (fun hp => ?_)
          · walk_at "go"
            refine ⟨wide_div m0 mm (by decide) (by decide), ?_⟩
            walk_at "go"
            exact k _ _ (Int.emod_nonneg _ (by omega)) (Int.emod_lt_of_pos _ m0) ⟨ns, _, _, _, _, upd_same, u_ne hne h2, (by omega)⟩ But.refl.upd
          · walk_at "go"
            exact k _ _ (Int.emod_nonneg _ (by omega)) (Int.emod_lt_of_pos _ m0) ⟨ns, _, _, _, _, upd_same, u_ne hne h2, (by omega)⟩ But.refl.upd
        · walk_at "go"
          refine ite2 (fun hp => ?_) (fun hp => ?_)
          · walk_at "go"
            refine ⟨wide_div m0 mm (by decide) (by decide), ?_⟩
            walk_at "go"
            exact k _ _ (Int.emod_nonneg _ (by omega)) (Int.emod_lt_of_pos _ m0) ⟨ns, _, _, _, _, upd_same, u_ne hne h2, (by omega)⟩ But.refl.upd
          · walk_at "go"
            exact k _ _ (Int.emod_nonneg _ (by omega)) (Int.emod_lt_of_pos _ m0) ⟨ns, _, _, _, _, upd_same, u_ne hne h2, (by omega)⟩ But.refl.upd
      · walk_at "go"
        refine ite2 (fun hp => ?_) (fun hp => ?_)
        · walk_at "go"
          refine ⟨wide_div m0 mm (by decide) (by decide), ?_⟩
          walk_at "go"
          exact k _ _ (Int.emod_nonneg _ (by omega)) (Int.emod_lt_of_pos _ m0) ⟨ns, _, _, _, _, upd_same, u_ne hne h2, i0⟩ But.refl.upd
        · walk_at "go"
          exact k _ _ (Int.emod_nonneg _ (by omega)) (Int.emod_lt_of_pos _ m0) ⟨ns, _, _, _, _, upd_same, u_ne hne h2, i0⟩ But.refl.upd
    · walk_at "go"
      refine ite2 (fun hp => ?_) (fun hp => ?_)
      · walk_at "go"
        refine ⟨wide_div m0 mm (by decide) (by decide), ?_⟩
        walk_at "go"
        exact k _ _ (Int.emod_nonneg _ (by omega)) (Int.emod_lt_of_pos _ m0) ⟨ns, _, _, _, _, upd_same, u_ne hne h2, i0⟩ But.refl.upd
      · walk_at "go"
        exact k _ _ (Int.emod_nonneg _ (by omega)) (Int.emod_lt_of_pos _ m0) ⟨ns, _, _, _, _, upd_same, u_ne hne h2, i0⟩ But.refl.upd
theorem ok_law_pick {f : Addr} {fd : FuncData} (F : Fun K "_law_pick" "_law_pick" s_law_pick f fd) (T : Txt mg) (G_law_draw : Def P w K mg base 1 "_law_draw" ["pool", "many"] (spDrawL)) : FnOk P w K mg base CX0 2 f fd ["pool", "row"] (spPick) := by
  refine F.ok sc_law_pick (fun vs H Q E h => ?_) (fun cdv A outer s H vs Q E hr h => ?_)
  · obtain ⟨p1, a1, rfl, _⟩ := h
    rfl
  · obtain ⟨p1, a1, rfl, h⟩ := h
    refine ⟨_, (pss_one (ps_ret (pe_ix (ixA (K := K) rfl) (pv 1) (G_law_draw.call (hr.mono (by omega)) (by rfl) (pa_cons (pv 0) (pa_cons (pe_callB (c_lenK (K := K) rfl) (by rfl) T.n_len (by decide +kernel) (pa_cons (pv 1) pa_nil)) pa_nil))) (fun _ _ => rfl)))), ?_⟩
    rw [show start ["pool", "row"] [.ref p1, .ref a1] = [some (.ref p1), some (.ref a1)] from rfl]
    obtain ⟨l, xs, hp, ha, hne, h0, h9, k⟩ := h
    walk_at "go"
    refine ⟨_, _, rfl, l, hp, by omega, by omega, fun r H' r0 r9 hp' bt => ?_⟩
    walk_at "go"
    obtain ⟨n, rfl⟩ : ∃ n : Nat, r = (n : Int) := ⟨r.toNat, by omega⟩
    have hn : n < xs.length := by omega
    refine Wp.ixal ((bt a1 hne).trans ha) (atI_nat (List.getElem?_eq_getElem hn)) ?_
    exact k n _ _ (List.getElem?_eq_getElem hn) hp' bt
theorem ok_law_rare {f : Addr} {fd : FuncData} (F : Fun K "_law_rare" "_law_rare" s_law_rare f fd) (T : Txt mg) (G_law_draw : Def P w K mg base 1 "_law_draw" ["pool", "many"] (spDrawL)) : FnOk P w K mg base CX0 2 f fd ["pool", "many"] (spRare) := by
  refine F.ok sc_law_rare (fun vs H Q E h => ?_) (fun cdv A outer s H vs Q E hr h => ?_)
  · obtain ⟨p1, m1, rfl, _⟩ := h
    rfl
  · obtain ⟨p1, m1, rfl, h⟩ := h
    refine ⟨_, (pss_one (ps_ret (pe_cmpR op_eq (G_law_draw.call (hr.mono (by omega)) (by rfl) (pa_cons (pv 0) (pa_cons (pv 1) pa_nil))) (pe_op op_sub (pv 1) pe_int) (nomark _)))), ?_⟩
    rw [show start ["pool", "many"] [.ref p1, .int m1] = [some (.ref p1), some (.int m1)] from rfl]
    obtain ⟨l, hp, h0, h9, k⟩ := h
    walk_at "go"
    refine ⟨_, _, rfl, l, hp, by omega, by omega, fun r H' r0 r9 hp' bt => ?_⟩
    walk_at "go"
    exact k _ _ hp' bt
theorem ok_law_few {f : Addr} {fd : FuncData} (F : Fun K "_law_few" "_law_few" s_law_few f fd) (T : Txt mg) (G_law_draw : Def P w K mg base 1 "_law_draw" ["pool", "many"] (spDrawL)) (G_law_rare : Def P w K mg base 2 "_law_rare" ["pool", "many"] (spRare)) : FnOk P w K mg base CX0 3 f fd ["pool", "usual", "most"] (spFew) := by
  refine F.ok sc_law_few (fun vs H Q E h => ?_) (fun cdv A outer s H vs Q E hr h => ?_)
  · obtain ⟨p1, u1, m1, rfl, _⟩ := h
    rfl
  · obtain ⟨p1, u1, m1, rfl, h⟩ := h
    refine ⟨_, (pss_cons (ps_if (pt_val (G_law_rare.call (hr.mono (by omega)) (by rfl) (pa_cons (pv 0) (pa_cons pe_int pa_nil))))
  (pss_one (ps_ret (G_law_draw.call (hr.mono (by omega)) (by rfl) (pa_cons (pv 0) (pa_cons (pe_op op_addL (pv 2) pe_int) pa_nil)))))
  pss_nil)
  (pss_one (ps_ret (G_law_draw.call (hr.mono (by omega)) (by rfl) (pa_cons (pv 0) (pa_cons (pe_op op_addL (pv 1) pe_int) pa_nil)))))), ?_⟩
    rw [show start ["pool", "usual", "most"] [.ref p1, .int u1, .int m1] = [some (.ref p1), some (.int u1), some (.int m1)] from rfl]
    obtain ⟨l, hp, u0, um, h9, k⟩ := h
    walk_at "go"
    refine ⟨_, _, rfl, l, hp, by decide, by decide, fun b H' hp' bt => ?_⟩
    walk_at "go"
    cases b with
    | true =>
      walk_at "go"
      refine ⟨_, _, rfl, l, hp', by omega, by omega, fun r H2 r0 r9 hp2 bt2 => ?_⟩
      exact k _ _ r0 (by omega) hp2 (bt.trans bt2)
    | false =>
      walk_at "go"
      refine ⟨_, _, rfl, l, hp', by omega, by omega, fun r H2 r0 r9 hp2 bt2 => ?_⟩
      exact k _ _ r0 (by omega) hp2 (bt.trans bt2)
end
end K02
namespace K02
open PySem L2 Wp

def kinds : List Str := ["open", "shut", "word", "blank", "par", "name", "hyph", "cut", "param", "dollar", "tie", "amp", "up", "down"]
def Kn (cs : List Str) : Prop := ∀ c, c ∈ cs → c ∈ kinds
theorem Kn.app {a b : List Str} (h : Kn a) (h' : Kn b) : Kn (a ++ b) := fun c hc => (List.mem_append.mp hc).elim (h c) (h' c)
theorem Kn.one {c : Str} (h : c ∈ kinds) : Kn [c] := fun x hx => by rw [List.mem_singleton.mp hx]; exact h
theorem Kn.nil : Kn [] := fun c hc => by cases hc
theorem Kn.rep {a : List Str} {n : Nat} (h : Kn a) : Kn (List.replicate n a).flatten := fun c hc => h c (rep_mem hc)
theorem k_open : ("open" : Str) ∈ kinds := by decide +kernel
theorem k_shut : ("shut" : Str) ∈ kinds := by decide +kernel
theorem k_word : ("word" : Str) ∈ kinds := by decide +kernel
theorem k_tie : ("tie" : Str) ∈ kinds := by decide +kernel
theorem k_rest : Kn ["word", "blank", "par", "name", "hyph", "cut", "param", "dollar", "tie", "amp", "up", "down"] := fun c hc => by
  have h : ∀ x : Str, x ∈ (["word", "blank", "par", "name", "hyph", "cut", "param", "dollar", "tie", "amp", "up", "down"] : List Str) → x ∈ kinds := by
    intro x hx
    unfold kinds
    exact List.mem_cons_of_mem _ (List.mem_cons_of_mem _ hx)
  exact h c hc
/-- a list of kinds at a -/
def KsAt (H : Hp) (a : Addr) (cs : List Str) : Prop := H a = some (.lst (cs.map V.str)) ∧ Kn cs
def spCodes : Sp := fun vs H Q _ => ∃ (p : Addr), vs = [.ref p] ∧ ∃ l, PoolL H p l ∧ ∀ a cs H', PoolL H' p l → Ext p H H' → a ≠ p → KsAt H' a cs → cs.length ≤ 130 → Q (.ref a) H'
def spTower : Sp := fun vs H Q _ => ∃ (p a : Addr), vs = [.ref p, .ref a] ∧ ∃ l cs, PoolL H p l ∧ a ≠ p ∧ KsAt H a cs ∧ cs.length ≤ 130 ∧ ∀ b cs' H', PoolL H' p l → Ext p H H' → b ≠ p → KsAt H' b cs' → cs'.length ≤ 600 → Q (.ref b) H'
def spSpoil : Sp := fun vs H Q _ => ∃ (p a : Addr), vs = [.ref p, .ref a] ∧ ∃ l cs, PoolL H p l ∧ a ≠ p ∧ KsAt H a cs ∧ cs.length ≤ 1000 ∧ ∀ b cs' H', PoolL H' p l → Ext p H H' → b ≠ p → H b = none → KsAt H' b cs' → cs'.length ≤ cs.length + 1 → Q (.ref b) H'
def PvCodes (H : Hp) (p l c : Addr) : Nat → L2.St → Hp → Prop := fun i σ' H' => PoolL H' p l ∧ Ext p H H' ∧ ∃ cs d v3 v4, σ' = [some (V.ref p), some (V.ref c), some (V.int d), v3, v4] ∧ KsAt H' c cs ∧ cs.length ≤ i ∧ 0 ≤ d ∧ d ≤ i
theorem flat_shut (n : Nat) : (List.replicate n [V.str "shut"]).flatten = ((List.replicate n (["shut"] : List Str)).flatten).map V.str := rep_map V.str ["shut"] n
section
variable {P : Program} {w : World} {K : PySem.W.Frag} {mg : Str → Option Value} {base : Heap}
theorem ok_law_codes {f : Addr} {fd : FuncData} (F : Fun K "_law_codes" "_law_codes" s_law_codes f fd) (T : Txt mg) (G_law_draw : Def P w K mg base 1 "_law_draw" ["pool", "many"] (spDrawL)) (G_law_few : Def P w K mg base 3 "_law_few" ["pool", "usual", "most"] (spFew)) (G_law_pick : Def P w K mg base 2 "_law_pick" ["pool", "row"] (spPick)) : FnOk P w K mg base CX0 4 f fd ["pool"] (spCodes) := by
  refine F.ok sc_law_codes (fun vs H Q E h => ?_) (fun cdv A outer s H vs Q E hr h => ?_)
  · obtain ⟨p, rfl, _⟩ := h
    rfl
  · obtain ⟨p, rfl, h⟩ := h
    refine ⟨_, (pss_cons (ps_set (i := 1) sc_law_codes.nd rfl (by first | exact Or.inl rfl | exact Or.inr rfl) (pe_lst pa_nil))
  (pss_cons (ps_set (i := 2) sc_law_codes.nd rfl (by first | exact Or.inl rfl | exact Or.inr rfl) pe_int)
  (pss_cons (ps_for PassesOwn.never rfl (pi_range1 (by rfl) T.n_range (pa_cons (G_law_few.call (hr.mono (by omega)) (by rfl) (pa_cons (pv 0) (pa_cons pe_int (pa_cons pe_int pa_nil)))) pa_nil)) (pg_name (i := 3) sc_law_codes.nd rfl (by first | exact Or.inl rfl | exact Or.inr rfl))
  (pss_cons (ps_set (i := 4) sc_law_codes.nd rfl (by first | exact Or.inl rfl | exact Or.inr rfl) (G_law_draw.call (hr.mono (by omega)) (by rfl) (pa_cons (pv 0) (pa_cons pe_int pa_nil))))
  (pss_one (ps_if (pt_cmpR op_lt (pv 4) pe_int (nomark _))
  (pss_cons (ps_expr (pe_bmK (K := K) rfl PySem.F.plainAttrs_list PySem.F.slot_list_append PySem.F.type_list_append mt_append (pv 1) (pa_cons pe_str pa_nil)))
  (pss_one (ps_set (i := 2) sc_law_codes.nd rfl (by first | exact Or.inl rfl | exact Or.inr rfl) (pe_op op_addL (pv 2) pe_int))))
  (pss_one (ps_if (PW.pt (pw_and (pt_cmpR op_lt (pv 4) pe_int (nomark _)) (pw_and1 (pt_cmpR op_gt (pv 2) pe_int (nomark _)))))
  (pss_cons (ps_expr (pe_bmK (K := K) rfl PySem.F.plainAttrs_list PySem.F.slot_list_append PySem.F.type_list_append mt_append (pv 1) (pa_cons pe_str pa_nil)))
  (pss_one (ps_set (i := 2) sc_law_codes.nd rfl (by first | exact Or.inl rfl | exact Or.inr rfl) (pe_op op_sub (pv 2) pe_int))))
  (pss_one (ps_expr (pe_bmK (K := K) rfl PySem.F.plainAttrs_list PySem.F.slot_list_append PySem.F.type_list_append mt_append (pv 1) (pa_cons (G_law_pick.call (hr.mono (by omega)) (by rfl) (pa_cons (pv 0) (pa_cons (pe_lst (pa_cons pe_str (pa_cons pe_str (pa_cons pe_str (pa_cons pe_str (pa_cons pe_str (pa_cons pe_str (pa_cons pe_str (pa_cons pe_str (pa_cons pe_str (pa_cons pe_str (pa_cons pe_str (pa_cons pe_str pa_nil))))))))))))) pa_nil))) pa_nil))))))))))
  (pss_one (ps_ret (pe_op op_addL (pv 1) (pe_op op_rep (pe_lst (pa_cons pe_str pa_nil)) (pv 2)))))))), ?_⟩
    rw [show start ["pool", "codes", "depth", "k", "way"] [.ref p] = [some (.ref p), none, none, none, none] from rfl]
    obtain ⟨l, hp, k⟩ := h
    walk_at "go"
    intro c hc
    have ncp := hp.nep hc
    have ncl := hp.nel hc
    walk_at "go"
    refine ⟨_, _, _, rfl, l, hp.new hc, by decide, by decide, by decide, fun r H1 r0 r9 hp1 bt1 => ?_⟩
    walk_at "go"
    refine ⟨by omega, ?_⟩
    refine loopR (PvCodes H p l c) ⟨hp1, (Ext.refl.new' hc).trans bt1.ext, [], 0, _, _, rfl, ⟨bt1.get ncp upd_same, Kn.nil⟩, by simp, by omega, by omega⟩ ?_ ?_
    · rintro i σ' H' hi ⟨hp', he, cs, d, v3, v4, rfl, ⟨hc', hk⟩, hl, d0, d9⟩
      walk_at "go"
      refine ⟨_, _, rfl, l, hp', by decide, by decide, fun way H2 w0 w9 hp2 bt2 => ?_⟩
      have hc2 := bt2.get ncp hc'
      have he2 := he.trans bt2.ext
      walk_at "go"
      refine ite2 (fun e => ?_) (fun e => ?_)
      · walk_at "go"
        exact ⟨hp2.upd ncp ncl, he2.mut hc, cs ++ [("open" : Str)], d + 1, _, _, rfl, ⟨by rw [List.map_append]; exact upd_same, hk.app (Kn.one k_open)⟩, by rw [List.length_append]; simp; omega, by omega, by omega⟩
      · have fin : ∀ (i : Nat) (x : V), [V.str "word", V.str "blank", V.str "par", V.str "name", V.str "hyph", V.str "cut", V.str "param", V.str "dollar", V.str "tie", V.str "amp", V.str "up", V.str "down"][i]? = some x → ∃ s : Str, x = V.str s ∧ s ∈ kinds := by
          intro i x hx
          have hm := List.mem_of_getElem? hx
          have e : [V.str "word", V.str "blank", V.str "par", V.str "name", V.str "hyph", V.str "cut", V.str "param", V.str "dollar", V.str "tie", V.str "amp", V.str "up", V.str "down"] = (["word", "blank", "par", "name", "hyph", "cut", "param", "dollar", "tie", "amp", "up", "down"] : List Str).map V.str := rfl
          rw [e] at hm
          obtain ⟨s, hs, rfl⟩ := List.mem_map.mp hm
          exact ⟨s, rfl, k_rest s hs⟩
        refine ite2 (fun e6 => ite2 (fun e0 => ?_) (fun e0 => ?_)) (fun e6 => ?_)
        · walk_at "go"
          exact ⟨hp2.upd ncp ncl, he2.mut hc, cs ++ [("shut" : Str)], d - 1, _, _, rfl, ⟨by rw [List.map_append]; exact upd_same, hk.app (Kn.one k_shut)⟩, by rw [List.length_append]; simp; omega, by omega, by omega⟩
        all_goals
          walk_at "go"
          intro q hq
          have nqp := hp2.nep hq
          have ncq : c ≠ q := ne_of_none hc2 hq
          walk_at "go"
          refine ⟨_, _, rfl, l, _, hp2.new hq, upd_same, nqp, by decide, by decide, fun j x H3 hx hp3 bt3 => ?_⟩
          have hc3 := bt3.get ncp (u_ne ncq hc2)
          have he3 := (he2.new' hq).trans bt3.ext
          obtain ⟨s, rfl, hs⟩ := fin j x hx
          walk_at "go"
          exact ⟨hp3.upd ncp ncl, he3.mut hc, cs ++ [s], d, _, _, rfl, ⟨by rw [List.map_append]; exact upd_same, hk.app (Kn.one hs)⟩, by rw [List.length_append]; simp; omega, by omega, by omega⟩
    · rintro σ' H' ⟨hp', he, cs, d, v3, v4, rfl, ⟨hc', hk⟩, hl, d0, d9⟩
      walk_at "go"
      intro q hq
      have ncq : c ≠ q := ne_of_none hc' hq
      walk_at "go"
      refine Wp.repl upd_same (by omega) (sz_le (by simp; omega)) fun t ht => ?_
      have nct : c ≠ t := ne_of_none (u_ne ncq hc') ht
      walk_at "go"
      refine Wp.addl (u_ne nct (u_ne ncq hc')) upd_same (sz_le (by rw [flat_shut, List.length_map, List.length_map, rep_len]; simp; omega)) fun z hz => ?_
      have hpz := ((hp'.new (o := .lst [V.str "shut"]) hq).new (o := .lst (List.replicate d.toNat [V.str "shut"]).flatten) ht)
      refine k z (cs ++ (List.replicate d.toNat (["shut"] : List Str)).flatten) _ (hpz.new hz) ((((he.new' hq).new' ht).new' hz)) (hpz.nep hz) ⟨by rw [List.map_append, ← flat_shut]; exact upd_same, hk.app (Kn.rep (Kn.one k_shut))⟩ ?_
      rw [List.length_append, rep_len]
      simp
      omega
end
end K02
namespace K02
open PySem L2 Wp

theorem cut_take {cs hd : List Str} {m : Int} (eh : cutV (cs.map V.str) none (some m) = hd.map V.str) (h0 : 0 ≤ m) (h9 : m ≤ cs.length) : hd.length = m.toNat := by
  have h := congrArg List.length eh
  unfold cutV HT.sIx at h
  simp at h
  rw [if_neg (by omega)] at h
  omega
theorem cut_drop {cs hd : List Str} {m : Int} (eh : cutV (cs.map V.str) (some m) none = hd.map V.str) (h0 : 0 ≤ m) (h9 : m ≤ cs.length) : hd.length = cs.length - m.toNat := by
  have h := congrArg List.length eh
  unfold cutV HT.sIx at h
  simp at h
  rw [if_neg (by omega)] at h
  omega
theorem cut_both {cs hd tl : List Str} {m : Int} (eh : cutV (cs.map V.str) none (some m) = hd.map V.str) (et : cutV (cs.map V.str) (some m) none = tl.map V.str) (h0 : 0 ≤ m) (h9 : m ≤ cs.length) : hd.length + tl.length ≤ cs.length := by
  have h1 := cut_take eh h0 h9
  have h2 := cut_drop et h0 h9
  omega
theorem cut_next {cs hd tl : List Str} {m : Int} (eh : cutV (cs.map V.str) none (some m) = hd.map V.str) (et : cutV (cs.map V.str) (some (m + 1)) none = tl.map V.str) (h0 : 0 ≤ m) (h9 : m < cs.length) : hd.length + tl.length ≤ cs.length := by
  have h1 := cut_take eh h0 (by omega)
  have h2 := cut_drop et (by omega) (by omega)
  omega
section
variable {P : Program} {w : World} {K : PySem.W.Frag} {mg : Str → Option Value} {base : Heap}
theorem ok_law_towered {f : Addr} {fd : FuncData} (F : Fun K "_law_towered" "_law_towered" s_law_towered f fd) (T : Txt mg) (G_law_draw : Def P w K mg base 1 "_law_draw" ["pool", "many"] (spDrawL)) : FnOk P w K mg base CX0 3 f fd ["pool", "codes"] (spTower) := by
  refine F.ok sc_law_towered (fun vs H Q E h => ?_) (fun cdv A outer s H vs Q E hr h => ?_)
  · obtain ⟨p, a, rfl, _⟩ := h
    rfl
  · obtain ⟨p, a, rfl, h⟩ := h
    refine ⟨_, (pss_cons (ps_set (i := 2) sc_law_towered.nd rfl (by first | exact Or.inl rfl | exact Or.inr rfl) (G_law_draw.call (hr.mono (by omega)) (by rfl) (pa_cons (pv 0) (pa_cons (pe_op op_addL (pe_callB (c_lenK (K := K) rfl) (by rfl) T.n_len (by decide +kernel) (pa_cons (pv 1) pa_nil)) pe_int) pa_nil))))
  (pss_cons (ps_set (i := 3) sc_law_towered.nd rfl (by first | exact Or.inl rfl | exact Or.inr rfl) (pe_slice (sl_listK (K := K) rfl) (pe_lst (pa_cons pe_str (pa_cons pe_str pa_nil))) po_none (po_some (G_law_draw.call (hr.mono (by omega)) (by rfl) (pa_cons (pv 0) (pa_cons pe_int pa_nil))))))
  (pss_cons (ps_if (pt_cmpR op_eq (G_law_draw.call (hr.mono (by omega)) (by rfl) (pa_cons (pv 0) (pa_cons pe_int pa_nil))) pe_int (nomark _))
  (pss_one (ps_ret (pe_op op_addL (pe_op op_addL (pe_slice (sl_listK (K := K) rfl) (pv 1) po_none (po_some (pv 2))) (pe_op op_rep (pe_op op_addL (pe_op op_addL (pe_lst (pa_cons pe_str pa_nil)) (pv 3)) (pe_lst (pa_cons pe_str pa_nil))) (pe_op op_addL pe_int (G_law_draw.call (hr.mono (by omega)) (by rfl) (pa_cons (pv 0) (pa_cons pe_int pa_nil)))))) (pe_slice (sl_listK (K := K) rfl) (pv 1) (po_some (pv 2)) po_none))))
  pss_nil)
  (pss_cons (ps_set (i := 4) sc_law_towered.nd rfl (by first | exact Or.inl rfl | exact Or.inr rfl) (pe_op op_sub (pe_bmK (K := K) rfl PySem.F.plainAttrs_list PySem.F.slot_list_count PySem.F.type_list_count (mt_countK (K := K) rfl) (pe_slice (sl_listK (K := K) rfl) (pv 1) po_none (po_some (pv 2))) (pa_cons pe_str pa_nil)) (pe_bmK (K := K) rfl PySem.F.plainAttrs_list PySem.F.slot_list_count PySem.F.type_list_count (mt_countK (K := K) rfl) (pe_slice (sl_listK (K := K) rfl) (pv 1) po_none (po_some (pv 2))) (pa_cons pe_str pa_nil))))
  (pss_cons (ps_set (i := 5) sc_law_towered.nd rfl (by first | exact Or.inl rfl | exact Or.inr rfl) (pe_callB (c_max2 rfl) (by rfl) T.n_max (by decide +kernel) (pa_cons pe_int (pa_cons (pe_op op_sub (pe_op op_addL pe_int (G_law_draw.call (hr.mono (by omega)) (by rfl) (pa_cons (pv 0) (pa_cons pe_int pa_nil)))) (pv 4)) pa_nil))))
  (pss_one (ps_ret (pe_op op_addL (pe_op op_addL (pe_op op_addL (pe_op op_addL (pe_slice (sl_listK (K := K) rfl) (pv 1) po_none (po_some (pv 2))) (pe_op op_rep (pe_lst (pa_cons pe_str pa_nil)) (pv 5))) (pv 3)) (pe_op op_rep (pe_lst (pa_cons pe_str pa_nil)) (pv 5))) (pe_slice (sl_listK (K := K) rfl) (pv 1) (po_some (pv 2)) po_none))))))))), ?_⟩
    rw [show start ["pool", "codes", "at", "inner", "depth", "many"] [.ref p, .ref a] = [some (.ref p), some (.ref a), none, none, none, none] from rfl]
    obtain ⟨l, cs, hp, nap, ⟨ha, hk⟩, hlen, k⟩ := h
    have hlm : (cs.map V.str).length = cs.length := List.length_map ..
    walk_at "go"
    refine ⟨_, _, rfl, l, hp, by omega, by omega, fun at1 H1 r0 r9 hp1 bt1 => ?_⟩
    have ha1 := bt1.get nap ha
    have e1 := bt1.ext
    walk_at "go"
    intro q hq
    have naq : a ≠ q := ne_of_none ha1 hq
    walk_at "go"
    refine ⟨_, _, rfl, l, hp1.new hq, by decide, by decide, fun m H2 m0 m9 hp2 bt2 => ?_⟩
    have ha2 := bt2.get nap (u_ne naq ha1)
    have hq2 := bt2.get (hp1.nep hq) (upd_same (H := H1))
    have e2 := (e1.new' hq).trans bt2.ext
    walk_at "go"
    intro t ht
    have nat : a ≠ t := ne_of_none ha2 ht
    obtain ⟨inn, ei, mi, li⟩ := cutV_map V.str (["word", "tie"] : List Str) none (some m)
    have ei' : cutV [V.str "word", V.str "tie"] none (some m) = inn.map V.str := ei
    rw [ei']
    have ki : Kn inn := fun x hx => by
      rcases List.mem_cons.mp (mi x hx) with h | h
      · rw [h]; exact k_word
      · rw [List.mem_singleton.mp h]; exact k_tie
    have li2 : inn.length ≤ 2 := li
    have hp3 := hp2.new (o := HO.lst (inn.map V.str)) ht
    have e3 := e2.new' (o := HO.lst (inn.map V.str)) ht
    have ha3 := u_ne (o := HO.lst (inn.map V.str)) nat ha2
    have ht3 : upd H2 t (HO.lst (inn.map V.str)) t = some (HO.lst (inn.map V.str)) := upd_same
    have ntp := hp2.nep ht
    generalize upd H2 t (HO.lst (inn.map V.str)) = H3 at *
    walk_at "go"
    refine ⟨_, _, rfl, l, hp3, by decide, by decide, fun w H4 w0 w9 hp4 bt4 => ?_⟩
    have ha4 := bt4.get nap ha3
    have ht4 := bt4.get ntp ht3
    have e4 := e3.trans bt4.ext
    walk_at "go"
    obtain ⟨hd, eh, mh, lh⟩ := cutV_map V.str cs none (some at1)
    obtain ⟨tl, et, mt, lt⟩ := cutV_map V.str cs (some at1) none
    have kh : Kn hd := fun x hx => hk x (mh x hx)
    have kt : Kn tl := fun x hx => hk x (mt x hx)
    refine ite2 (fun e => ?_) (fun e => ?_)
    · walk_at "go"
      intro b1 h1
      rw [eh]
      have a5 : upd H4 b1 (HO.lst (hd.map V.str)) a = some (HO.lst (cs.map V.str)) := u_ne (ne_of_none ha4 h1) ha4
      have t5 : upd H4 b1 (HO.lst (hd.map V.str)) t = some (HO.lst (inn.map V.str)) := u_ne (ne_of_none ht4 h1) ht4
      have c5 : upd H4 b1 (HO.lst (hd.map V.str)) b1 = some (HO.lst (hd.map V.str)) := upd_same
      have p5 := hp4.new (o := HO.lst (hd.map V.str)) h1
      have e5 := e4.new' (o := HO.lst (hd.map V.str)) h1
      have n1 := hp4.nep h1
      generalize upd H4 b1 (HO.lst (hd.map V.str)) = H5 at *
      walk_at "go"
      intro b2 h2
      have a6 : upd H5 b2 (HO.lst [V.str "open"]) a = some (HO.lst (cs.map V.str)) := u_ne (ne_of_none a5 h2) a5
      have t6 : upd H5 b2 (HO.lst [V.str "open"]) t = some (HO.lst (inn.map V.str)) := u_ne (ne_of_none t5 h2) t5
      have c6 : upd H5 b2 (HO.lst [V.str "open"]) b1 = some (HO.lst (hd.map V.str)) := u_ne (ne_of_none c5 h2) c5
      have p6 := p5.new (o := HO.lst [V.str "open"]) h2
      have e6 := e5.new' (o := HO.lst [V.str "open"]) h2
      have d6 : upd H5 b2 (HO.lst [V.str "open"]) b2 = some (HO.lst [V.str "open"]) := upd_same
      generalize upd H5 b2 (HO.lst [V.str "open"]) = H6 at *
      refine Wp.addl d6 t6 (sz_le (by simp; omega)) fun b3 h3 => ?_
      have x7 : [V.str "open"] ++ inn.map V.str = (("open" : Str) :: inn).map V.str := rfl
      rw [x7]
      have a7 := u_ne (o := HO.lst ((("open" : Str) :: inn).map V.str)) (ne_of_none a6 h3) a6
      have c7 := u_ne (o := HO.lst ((("open" : Str) :: inn).map V.str)) (ne_of_none c6 h3) c6
      have p7 := p6.new (o := HO.lst ((("open" : Str) :: inn).map V.str)) h3
      have e7 := e6.new' (o := HO.lst ((("open" : Str) :: inn).map V.str)) h3
      have d7 : upd H6 b3 (HO.lst ((("open" : Str) :: inn).map V.str)) b3 = some (HO.lst ((("open" : Str) :: inn).map V.str)) := upd_same
      generalize upd H6 b3 (HO.lst ((("open" : Str) :: inn).map V.str)) = H7 at *
      walk_at "go"
      intro b4 h4
      have a8 := u_ne (o := HO.lst [V.str "shut"]) (ne_of_none a7 h4) a7
      have c8 := u_ne (o := HO.lst [V.str "shut"]) (ne_of_none c7 h4) c7
      have d8 := u_ne (o := HO.lst [V.str "shut"]) (ne_of_none d7 h4) d7
      have p8 := p7.new (o := HO.lst [V.str "shut"]) h4
      have e8 := e7.new' (o := HO.lst [V.str "shut"]) h4
      have f8 : upd H7 b4 (HO.lst [V.str "shut"]) b4 = some (HO.lst [V.str "shut"]) := upd_same
      generalize upd H7 b4 (HO.lst [V.str "shut"]) = H8 at *
      refine Wp.addl d8 f8 (sz_le (by simp; omega)) fun b5 h5 => ?_
      have x9 : (("open" : Str) :: inn).map V.str ++ [V.str "shut"] = ((("open" : Str) :: inn) ++ [("shut" : Str)]).map V.str := by rw [List.map_append]; rfl
      rw [x9]
      have ku : Kn ((("open" : Str) :: inn) ++ [("shut" : Str)]) := Kn.app (Kn.app (a := [("open" : Str)]) (Kn.one k_open) ki) (Kn.one k_shut)
      have lu : ((("open" : Str) :: inn) ++ [("shut" : Str)]).length ≤ 4 := by rw [List.length_append, List.length_cons, List.length_singleton]; omega
      generalize (("open" : Str) :: inn) ++ [("shut" : Str)] = u at *
      have a9 := u_ne (o := HO.lst (u.map V.str)) (ne_of_none a8 h5) a8
      have c9 := u_ne (o := HO.lst (u.map V.str)) (ne_of_none c8 h5) c8
      have p9 := p8.new (o := HO.lst (u.map V.str)) h5
      have e9 := e8.new' (o := HO.lst (u.map V.str)) h5
      have d9 : upd H8 b5 (HO.lst (u.map V.str)) b5 = some (HO.lst (u.map V.str)) := upd_same
      have n9 := p8.nep h5
      generalize upd H8 b5 (HO.lst (u.map V.str)) = H9 at *
      refine ⟨_, _, rfl, l, p9, by decide, by decide, fun v H10 v0 v9 p10 bt10 => ?_⟩
      have a10 := bt10.get nap a9
      have c10 := bt10.get n1 c9
      have d10 := bt10.get n9 d9
      have e10 := e9.trans bt10.ext
      walk_at "go"
      have lrep : (List.replicate (1 + v).toNat u).flatten.length ≤ 40 := by
        rw [rep_len]
        have : (1 + v).toNat ≤ 10 := by omega
        exact Nat.le_trans (Nat.mul_le_mul this lu) (by decide)
      have hrl : (u.map V.str).length * (1 + v).toNat ≤ 100000 := by
        rw [List.length_map]
        have h1 : (1 + v).toNat ≤ 10 := by omega
        have h2 := Nat.mul_le_mul lu h1
        omega
      refine Wp.repl d10 (by omega) (sz_le hrl) fun b6 h6 => ?_
      rw [rep_map]
      have kr : Kn (List.replicate (1 + v).toNat u).flatten := ku.rep
      generalize (List.replicate (1 + v).toNat u).flatten = ur at *
      have a11 := u_ne (o := HO.lst (ur.map V.str)) (ne_of_none a10 h6) a10
      have c11 := u_ne (o := HO.lst (ur.map V.str)) (ne_of_none c10 h6) c10
      have p11 := p10.new (o := HO.lst (ur.map V.str)) h6
      have e11 := e10.new' (o := HO.lst (ur.map V.str)) h6
      have d11 : upd H10 b6 (HO.lst (ur.map V.str)) b6 = some (HO.lst (ur.map V.str)) := upd_same
      generalize upd H10 b6 (HO.lst (ur.map V.str)) = H11 at *
      refine Wp.addl c11 d11 (sz_le (by simp; omega)) fun b7 h7 => ?_
      rw [← List.map_append]
      have a12 := u_ne (o := HO.lst ((hd ++ ur).map V.str)) (ne_of_none a11 h7) a11
      have p12 := p11.new (o := HO.lst ((hd ++ ur).map V.str)) h7
      have e12 := e11.new' (o := HO.lst ((hd ++ ur).map V.str)) h7
      have d12 : upd H11 b7 (HO.lst ((hd ++ ur).map V.str)) b7 = some (HO.lst ((hd ++ ur).map V.str)) := upd_same
      generalize upd H11 b7 (HO.lst ((hd ++ ur).map V.str)) = H12 at *
      walk_at "go"
      intro b8 h8
      rw [et]
      have p13 := p12.new (o := HO.lst (tl.map V.str)) h8
      have e13 := e12.new' (o := HO.lst (tl.map V.str)) h8
      have d13 := u_ne (o := HO.lst (tl.map V.str)) (ne_of_none d12 h8) d12
      have f13 : upd H12 b8 (HO.lst (tl.map V.str)) b8 = some (HO.lst (tl.map V.str)) := upd_same
      generalize upd H12 b8 (HO.lst (tl.map V.str)) = H13 at *
      refine Wp.addl d13 f13 (sz_le (by simp; omega)) fun b9 h9 => ?_
      rw [← List.map_append]
      refine k b9 (hd ++ ur ++ tl) _ (p13.new h9) (e13.new' h9) (p13.nep h9) ⟨upd_same, (kh.app kr).app kt⟩ ?_
      rw [List.length_append, List.length_append]
      omega
    · have S : SS p l H H4 [(t, HO.lst (inn.map V.str)), (a, HO.lst (cs.map V.str))] := (SS.add ⟨hp4, e4, fun e he => by cases he⟩ nap ha4).add ntp ht4
      clear hp4 e4 ha4 ht4 bt4 hp3 e3 ha3 ht3 bt2 hp2 e2 ha2 hq2 bt1 hp1 e1 ha1
      walk_at "go"
      intro q1 h1
      rw [eh]
      replace S := S.new h1 (HO.lst (hd.map V.str))
      generalize upd H4 q1 (HO.lst (hd.map V.str)) = G1 at S ⊢
      walk_at "go"
      refine Wp.cntb (by walk_at "hp") rfl (all_flat_str _) fun n1 hn1 => ?_
      walk_at "go"
      intro q2 h2
      rw [eh]
      replace S := S.new h2 (HO.lst (hd.map V.str))
      generalize upd G1 q2 (HO.lst (hd.map V.str)) = G2 at S ⊢
      walk_at "go"
      refine Wp.cntb (by walk_at "hp") rfl (all_flat_str _) fun n2 hn2 => ?_
      walk_at "go"
      rw [List.length_map] at hn1 hn2
      refine ⟨_, _, rfl, l, S.pool, by decide, by decide, fun v G3 v0 v9 p3 bt3 => ?_⟩
      replace S := S.draw p3 bt3
      walk_at "go"
      obtain ⟨m, em, m0, m9⟩ : ∃ m : Int, (if 11 + v - ((n1 : Int) - (n2 : Int)) > 0 then 11 + v - ((n1 : Int) - (n2 : Int)) else 0) = m ∧ 0 ≤ m ∧ m ≤ 150 := ⟨_, rfl, by split <;> omega, by split <;> omega⟩
      rw [em]
      intro q4 h4
      rw [eh]
      replace S := S.new h4 (HO.lst (hd.map V.str))
      generalize upd G3 q4 (HO.lst (hd.map V.str)) = G4 at S ⊢
      walk_at "go"
      intro q5 h5
      replace S := S.new h5 (HO.lst [V.str "open"])
      generalize upd G4 q5 (HO.lst [V.str "open"]) = G5 at S ⊢
      walk_at "go"
      have rl : ∀ c : Str, (List.replicate m.toNat ([c] : List Str)).flatten.length ≤ 150 := fun c => by rw [rep_len]; simp; omega
      refine Wp.repl (xs := ([("open" : Str)]).map V.str) (by walk_at "hp") (by omega) (sz_le (by simp; omega)) fun q6 h6 => ?_
      rw [rep_map]
      have ko : Kn (List.replicate m.toNat ([("open" : Str)])).flatten := (Kn.one k_open).rep
      have lo := rl "open"
      generalize (List.replicate m.toNat ([("open" : Str)])).flatten = os at *
      replace S := S.new h6 (HO.lst (os.map V.str))
      generalize upd G5 q6 (HO.lst (os.map V.str)) = G6 at S ⊢
      walk_at "go"
      refine Wp.addl (xs := hd.map V.str) (ys := os.map V.str) (by walk_at "hp") (by walk_at "hp") (sz_le (by simp; omega)) fun q7 h7 => ?_
      rw [← List.map_append]
      replace S := S.new h7 (HO.lst ((hd ++ os).map V.str))
      generalize upd G6 q7 (HO.lst ((hd ++ os).map V.str)) = G7 at S ⊢
      walk_at "go"
      refine Wp.addl (xs := (hd ++ os).map V.str) (ys := inn.map V.str) (by walk_at "hp") (by walk_at "hp") (sz_le (by simp; omega)) fun q8 h8 => ?_
      rw [← List.map_append]
      replace S := (S.new h8 (HO.lst ((hd ++ os ++ inn).map V.str))).less (L' := [(q8, HO.lst ((hd ++ os ++ inn).map V.str)), (a, HO.lst (cs.map V.str))]) (by intro e he; simp only [List.mem_cons, List.not_mem_nil, or_false] at he ⊢; rcases he with h | h <;> simp [h])
      generalize upd G7 q8 (HO.lst ((hd ++ os ++ inn).map V.str)) = G8 at S ⊢
      walk_at "go"
      intro q9 h9
      replace S := S.new h9 (HO.lst [V.str "shut"])
      generalize upd G8 q9 (HO.lst [V.str "shut"]) = G9 at S ⊢
      walk_at "go"
      refine Wp.repl (xs := ([("shut" : Str)]).map V.str) (by walk_at "hp") (by omega) (sz_le (by simp; omega)) fun r1 g1 => ?_
      rw [rep_map]
      have ks : Kn (List.replicate m.toNat ([("shut" : Str)])).flatten := (Kn.one k_shut).rep
      have ls := rl "shut"
      generalize (List.replicate m.toNat ([("shut" : Str)])).flatten = ss at *
      replace S := S.new g1 (HO.lst (ss.map V.str))
      generalize upd G9 r1 (HO.lst (ss.map V.str)) = J1 at S ⊢
      walk_at "go"
      refine Wp.addl (xs := (hd ++ os ++ inn).map V.str) (ys := ss.map V.str) (by walk_at "hp") (by walk_at "hp") (sz_le (by simp; omega)) fun r2 g2 => ?_
      rw [← List.map_append]
      replace S := S.new g2 (HO.lst ((hd ++ os ++ inn ++ ss).map V.str))
      generalize upd J1 r2 (HO.lst ((hd ++ os ++ inn ++ ss).map V.str)) = J2 at S ⊢
      walk_at "go"
      intro r3 g3
      rw [et]
      replace S := S.new g3 (HO.lst (tl.map V.str))
      generalize upd J2 r3 (HO.lst (tl.map V.str)) = J3 at S ⊢
      walk_at "go"
      refine Wp.addl (xs := (hd ++ os ++ inn ++ ss).map V.str) (ys := tl.map V.str) (by walk_at "hp") (by walk_at "hp") (sz_le (by simp; omega)) fun r4 g4 => ?_
      rw [← List.map_append]
      replace S := S.new g4 (HO.lst ((hd ++ os ++ inn ++ ss ++ tl).map V.str))
      refine k r4 (hd ++ os ++ inn ++ ss ++ tl) _ S.pool S.ext (S.ne (i := 0) rfl) ⟨upd_same, (((kh.app ko).app ki).app ks).app kt⟩ ?_
      simp only [List.length_append]
      omega
theorem ok_law_spoilt {f : Addr} {fd : FuncData} (F : Fun K "_law_spoilt" "_law_spoilt" s_law_spoilt f fd) (T : Txt mg) (G_law_draw : Def P w K mg base 1 "_law_draw" ["pool", "many"] (spDrawL)) : FnOk P w K mg base CX0 2 f fd ["pool", "codes"] (spSpoil) := by
  refine F.ok sc_law_spoilt (fun vs H Q E h => ?_) (fun cdv A outer s H vs Q E hr h => ?_)
  · obtain ⟨p, a, rfl, _⟩ := h
    rfl
  · obtain ⟨p, a, rfl, h⟩ := h
    refine ⟨_, (pss_cons (ps_set (i := 2) sc_law_spoilt.nd rfl (by first | exact Or.inl rfl | exact Or.inr rfl) (G_law_draw.call (hr.mono (by omega)) (by rfl) (pa_cons (pv 0) (pa_cons pe_int pa_nil))))
  (pss_cons (ps_if (PW.pt (pw_or (pt_cmpR op_lt (pv 2) pe_int (nomark _)) (pw_or1 (pt_not (pt_tru (K := K) rfl (pv 1))))))
  (pss_cons (ps_set (i := 3) sc_law_spoilt.nd rfl (by first | exact Or.inl rfl | exact Or.inr rfl) (G_law_draw.call (hr.mono (by omega)) (by rfl) (pa_cons (pv 0) (pa_cons (pe_op op_addL (pe_callB (c_lenK (K := K) rfl) (by rfl) T.n_len (by decide +kernel) (pa_cons (pv 1) pa_nil)) pe_int) pa_nil))))
  (pss_one (ps_ret (pe_op op_addL (pe_op op_addL (pe_slice (sl_listK (K := K) rfl) (pv 1) po_none (po_some (pv 3))) (pe_lst (pa_cons (pe_ix (ixA (K := K) rfl) (pe_lst (pa_cons pe_str (pa_cons pe_str pa_nil))) (pe_op op_mod (pe_callTy c_int (by rfl) T.n_int (by decide +kernel) (pa_cons (pv 2) pa_nil)) pe_int) (fun _ _ => rfl)) pa_nil))) (pe_slice (sl_listK (K := K) rfl) (pv 1) (po_some (pv 3)) po_none)))))
  pss_nil)
  (pss_cons (ps_set (i := 3) sc_law_spoilt.nd rfl (by first | exact Or.inl rfl | exact Or.inr rfl) (G_law_draw.call (hr.mono (by omega)) (by rfl) (pa_cons (pv 0) (pa_cons (pe_callB (c_lenK (K := K) rfl) (by rfl) T.n_len (by decide +kernel) (pa_cons (pv 1) pa_nil)) pa_nil))))
  (pss_one (ps_ret (pe_op op_addL (pe_slice (sl_listK (K := K) rfl) (pv 1) po_none (po_some (pv 3))) (pe_slice (sl_listK (K := K) rfl) (pv 1) (po_some (pe_op op_addL (pv 3) pe_int)) po_none))))))), ?_⟩
    rw [show start ["pool", "codes", "way", "at"] [.ref p, .ref a] = [some (.ref p), some (.ref a), none, none] from rfl]
    obtain ⟨l, cs, hp, nap, ⟨ha, hk⟩, hlen, k⟩ := h
    have S : SS p l H H [(a, HO.lst (cs.map V.str))] := (SS.first hp).add nap ha
    walk_at "go"
    refine ⟨_, _, rfl, l, hp, by decide, by decide, fun w H1 w0 w9 p1 bt1 => ?_⟩
    replace S := S.draw p1 bt1
    walk_at "go"
    have hl : ((cs.map V.str).length : Int) = cs.length := by simp
    refine ite2 (fun e => ?_) (fun e => ?_)
    · skip
      walk_at "go"
      refine ⟨_, _, rfl, l, S.pool, by omega, by omega, fun at1 H2 r0 r9 p2 bt2 => ?_⟩
      replace S := S.draw p2 bt2
      obtain ⟨hd, eh, mh, lh⟩ := cutV_map V.str cs none (some at1)
      obtain ⟨tl, et, mt, lt⟩ := cutV_map V.str cs (some at1) none
      have kh : Kn hd := fun x hx => hk x (mh x hx)
      have kt : Kn tl := fun x hx => hk x (mt x hx)
      have both : hd.length + tl.length ≤ cs.length := cut_both eh et r0 (by omega)
      walk_at "go"
      intro q1 h1
      rw [eh]
      replace S := S.new h1 (HO.lst (hd.map V.str))
      generalize upd H2 q1 (HO.lst (hd.map V.str)) = H3 at S ⊢
      walk_at "go"
      intro q2 h2
      replace S := S.new h2 (HO.lst [V.str "open", V.str "shut"])
      generalize upd H3 q2 (HO.lst [V.str "open", V.str "shut"]) = H4 at S ⊢
      walk_at "go"
      obtain ⟨c, hc, kc⟩ : ∃ c : Str, atI [V.str "open", V.str "shut"] (w % 2) = some (V.str c) ∧ c ∈ kinds := by
        have : w % 2 = 0 ∨ w % 2 = 1 := by omega
        rcases this with h | h
        · rw [h]; exact ⟨"open", rfl, k_open⟩
        · rw [h]; exact ⟨"shut", rfl, k_shut⟩
      refine Wp.ixal (by walk_at "hp") hc ?_
      walk_at "go"
      intro q3 h3
      replace S := S.new h3 (HO.lst (([c] : List Str).map V.str))
      have e3 : upd H4 q3 (HO.lst [V.str c]) = upd H4 q3 (HO.lst (([c] : List Str).map V.str)) := rfl
      rw [e3]
      generalize upd H4 q3 (HO.lst (([c] : List Str).map V.str)) = H5 at S ⊢
      refine Wp.addl (xs := hd.map V.str) (ys := ([c] : List Str).map V.str) (by walk_at "hp") (by walk_at "hp") (sz_le (by simp; omega)) fun q4 h4 => ?_
      rw [← List.map_append]
      replace S := S.new h4 (HO.lst ((hd ++ [c]).map V.str))
      generalize upd H5 q4 (HO.lst ((hd ++ [c]).map V.str)) = H6 at S ⊢
      walk_at "go"
      intro q5 h5
      rw [et]
      replace S := S.new h5 (HO.lst (tl.map V.str))
      generalize upd H6 q5 (HO.lst (tl.map V.str)) = H7 at S ⊢
      walk_at "go"
      refine Wp.addl (xs := (hd ++ [c]).map V.str) (ys := tl.map V.str) (by walk_at "hp") (by walk_at "hp") (sz_le (by simp; omega)) fun q6 h6 => ?_
      rw [← List.map_append]
      have S0 := S.ext
      replace S := S.new h6 (HO.lst ((hd ++ [c] ++ tl).map V.str))
      refine k q6 (hd ++ [c] ++ tl) _ S.pool S.ext (S.ne (i := 0) rfl) (S0.free h6 (S.ne (i := 0) rfl)) ⟨upd_same, (kh.app (Kn.one kc)).app kt⟩ ?_
      simp only [List.length_append, List.length_singleton]
      omega
    · walk_at "go"
      by_cases hz : cs = []
      · refine ite_t (by rw [hz]; rfl) ?_
        walk_at "go"
        refine ⟨_, _, rfl, l, S.pool, by omega, by omega, fun at1 H2 r0 r9 p2 bt2 => ?_⟩
        replace S := S.draw p2 bt2
        obtain ⟨hd, eh, mh, lh⟩ := cutV_map V.str cs none (some at1)
        obtain ⟨tl, et, mt, lt⟩ := cutV_map V.str cs (some at1) none
        have kh : Kn hd := fun x hx => hk x (mh x hx)
        have kt : Kn tl := fun x hx => hk x (mt x hx)
        have both : hd.length + tl.length ≤ cs.length := cut_both eh et r0 (by omega)
        walk_at "go"
        intro q1 h1
        rw [eh]
        replace S := S.new h1 (HO.lst (hd.map V.str))
        generalize upd H2 q1 (HO.lst (hd.map V.str)) = H3 at S ⊢
        walk_at "go"
        intro q2 h2
        replace S := S.new h2 (HO.lst [V.str "open", V.str "shut"])
        generalize upd H3 q2 (HO.lst [V.str "open", V.str "shut"]) = H4 at S ⊢
        walk_at "go"
        obtain ⟨c, hc, kc⟩ : ∃ c : Str, atI [V.str "open", V.str "shut"] (w % 2) = some (V.str c) ∧ c ∈ kinds := by
          have : w % 2 = 0 ∨ w % 2 = 1 := by omega
          rcases this with h | h
          · rw [h]; exact ⟨"open", rfl, k_open⟩
          · rw [h]; exact ⟨"shut", rfl, k_shut⟩
        refine Wp.ixal (by walk_at "hp") hc ?_
        walk_at "go"
        intro q3 h3
        replace S := S.new h3 (HO.lst (([c] : List Str).map V.str))
        have e3 : upd H4 q3 (HO.lst [V.str c]) = upd H4 q3 (HO.lst (([c] : List Str).map V.str)) := rfl
        rw [e3]
        generalize upd H4 q3 (HO.lst (([c] : List Str).map V.str)) = H5 at S ⊢
        refine Wp.addl (xs := hd.map V.str) (ys := ([c] : List Str).map V.str) (by walk_at "hp") (by walk_at "hp") (sz_le (by simp; omega)) fun q4 h4 => ?_
        rw [← List.map_append]
        replace S := S.new h4 (HO.lst ((hd ++ [c]).map V.str))
        generalize upd H5 q4 (HO.lst ((hd ++ [c]).map V.str)) = H6 at S ⊢
        walk_at "go"
        intro q5 h5
        rw [et]
        replace S := S.new h5 (HO.lst (tl.map V.str))
        generalize upd H6 q5 (HO.lst (tl.map V.str)) = H7 at S ⊢
        walk_at "go"
        refine Wp.addl (xs := (hd ++ [c]).map V.str) (ys := tl.map V.str) (by walk_at "hp") (by walk_at "hp") (sz_le (by simp; omega)) fun q6 h6 => ?_
        rw [← List.map_append]
        have S0 := S.ext
        replace S := S.new h6 (HO.lst ((hd ++ [c] ++ tl).map V.str))
        refine k q6 (hd ++ [c] ++ tl) _ S.pool S.ext (S.ne (i := 0) rfl) (S0.free h6 (S.ne (i := 0) rfl)) ⟨upd_same, (kh.app (Kn.one kc)).app kt⟩ ?_
        simp only [List.length_append, List.length_singleton]
        omega
      · have hpos : 0 < cs.length := List.length_pos_iff.mpr hz
        refine ite_f (by intro q; exact hz (by simpa using q)) ?_
        walk_at "go"
        refine ⟨_, _, rfl, l, S.pool, by omega, by omega, fun at1 H2 r0 r9 p2 bt2 => ?_⟩
        replace S := S.draw p2 bt2
        obtain ⟨hd, eh, mh, lh⟩ := cutV_map V.str cs none (some at1)
        obtain ⟨tl, et, mt, lt⟩ := cutV_map V.str cs (some (at1 + 1)) none
        have kh : Kn hd := fun x hx => hk x (mh x hx)
        have kt : Kn tl := fun x hx => hk x (mt x hx)
        have both : hd.length + tl.length ≤ cs.length := cut_next eh et r0 (by omega)
        walk_at "go"
        intro q1 h1
        rw [eh]
        replace S := S.new h1 (HO.lst (hd.map V.str))
        generalize upd H2 q1 (HO.lst (hd.map V.str)) = H3 at S ⊢
        walk_at "go"
        intro q5 h5
        rw [et]
        replace S := S.new h5 (HO.lst (tl.map V.str))
        generalize upd H3 q5 (HO.lst (tl.map V.str)) = H7 at S ⊢
        walk_at "go"
        refine Wp.addl (xs := hd.map V.str) (ys := tl.map V.str) (by walk_at "hp") (by walk_at "hp") (sz_le (by simp; omega)) fun q6 h6 => ?_
        rw [← List.map_append]
        have S0 := S.ext
        replace S := S.new h6 (HO.lst ((hd ++ tl).map V.str))
        refine k q6 (hd ++ tl) _ S.pool S.ext (S.ne (i := 0) rfl) (S0.free h6 (S.ne (i := 0) rfl)) ⟨upd_same, kh.app kt⟩ ?_
        simp only [List.length_append]
        omega
end
end K02
namespace K02
open PySem L2 Wp

structure Tk where
  k : Str
  v : Str
  l : Int
  c : Int
def Tk.vs (t : Tk) : List V := [.str t.k, .str t.v, .int t.l, .int t.c]
def ToksAt (H : Hp) (a : Addr) (rs : List Addr) (ts : List Tk) : Prop := H a = some (.lst (rs.map V.ref)) ∧ rs.length = ts.length ∧ ts.length ≤ 1100 ∧ ∀ (i : Nat) (r : Addr) (t : Tk), rs[i]? = some r → ts[i]? = some t → H r = some (.tup t.vs)
theorem ToksAt.ex {H H' : Hp} {a : Addr} {rs : List Addr} {ts : List Tk} (h : ToksAt H a rs ts) (e : Ex H H') : ToksAt H' a rs ts := ⟨e _ _ h.1, h.2.1, h.2.2.1, fun i r t hr ht => e _ _ (h.2.2.2 i r t hr ht)⟩
def spTokens : Sp := fun vs H Q _ => ∃ (a : Addr) (ln cl wd : Int), vs = [.ref a, .int ln, .int cl, .int wd] ∧ ∃ cs, KsAt H a cs ∧ cs.length ≤ 1100 ∧ 0 < wd ∧ wd ≤ 9 ∧ ∀ b rs ts H', Ex H H' → ToksAt H' b rs ts → Q (.ref b) H'
def tupKey (H : Hp) (x : V) : Option (Str × Str) := match x with
  | .ref a => match H a with
    | some (.tup [.str k, .str v]) => some (k, v)
    | _ => none
  | _ => none
def PvTok (H1 : Hp) (a f lv : Addr) (ln cl wd : Int) : Nat → L2.St → Hp → Prop := fun i σ' H' => Ex H1 H' ∧ ∃ (rs : List Addr) (ts : List Tk) (v6 v7 : Option V), σ' = [some (V.ref a), some (V.int ln), some (V.int cl), some (V.int wd), some (V.ref lv), some (V.ref f), v6, v7, none] ∧
  H' f = some (.lst (rs.map V.ref)) ∧ rs.length = i ∧ ts.length = i ∧ ∀ (j : Nat) (r : Addr) (t : Tk), rs[j]? = some r → ts[j]? = some t → H' r = some (.tup t.vs)
section
variable {P : Program} {w : World} {K : PySem.W.Frag} {mg : Str → Option Value} {base : Heap}
theorem ok_law_tokens {f : Addr} {fd : FuncData} (F : Fun K "_law_tokens" "_law_tokens" s_law_tokens f fd) (T : Txt mg) : FnOk P w K mg base CX0 1 f fd ["codes", "line", "column", "wide"] (spTokens) := by
  refine F.ok sc_law_tokens (fun vs H Q E h => ?_) (fun cdv A outer s H vs Q E hr h => ?_)
  · obtain ⟨a, ln, cl, wd, rfl, _⟩ := h
    rfl
  · obtain ⟨a, ln, cl, wd, rfl, h⟩ := h
    refine ⟨_, (pss_cons (ps_set (i := 4) sc_law_tokens.nd rfl (by first | exact Or.inl rfl | exact Or.inr rfl) (pe_lst (pa_cons (pe_tup (pa_cons pe_str (pa_cons pe_str pa_nil))) (pa_cons (pe_tup (pa_cons pe_str (pa_cons pe_str pa_nil))) (pa_cons (pe_tup (pa_cons pe_str (pa_cons pe_str pa_nil))) (pa_cons (pe_tup (pa_cons pe_str (pa_cons pe_str pa_nil))) (pa_cons (pe_tup (pa_cons pe_str (pa_cons pe_str pa_nil))) (pa_cons (pe_tup (pa_cons pe_str (pa_cons pe_str pa_nil))) (pa_cons (pe_tup (pa_cons pe_str (pa_cons pe_str pa_nil))) pa_nil)))))))))
  (pss_cons (ps_set (i := 4) sc_law_tokens.nd rfl (by first | exact Or.inl rfl | exact Or.inr rfl) (pe_op op_addL (pv 4) (pe_lst (pa_cons (pe_tup (pa_cons pe_str (pa_cons pe_str pa_nil))) (pa_cons (pe_tup (pa_cons pe_str (pa_cons pe_str pa_nil))) (pa_cons (pe_tup (pa_cons pe_str (pa_cons pe_str pa_nil))) (pa_cons (pe_tup (pa_cons pe_str (pa_cons pe_str pa_nil))) (pa_cons (pe_tup (pa_cons pe_str (pa_cons pe_str pa_nil))) (pa_cons (pe_tup (pa_cons pe_str (pa_cons pe_str pa_nil))) (pa_cons (pe_tup (pa_cons pe_str (pa_cons pe_str pa_nil))) pa_nil))))))))))
  (pss_cons (ps_set (i := 5) sc_law_tokens.nd rfl (by first | exact Or.inl rfl | exact Or.inr rfl) (pe_lst pa_nil))
  (pss_cons (ps_for PassesOwn.never rfl (pi_range1 (by rfl) T.n_range (pa_cons (pe_callB (c_lenK (K := K) rfl) (by rfl) T.n_len (by decide +kernel) (pa_cons (pv 0) pa_nil)) pa_nil)) (pg_name (i := 6) sc_law_tokens.nd rfl (by first | exact Or.inl rfl | exact Or.inr rfl))
  (pss_cons (ps_set (i := 7) sc_law_tokens.nd rfl (by first | exact Or.inl rfl | exact Or.inr rfl) (pe_ix (ixA (K := K) rfl) (pe_lc (own := [("row", 8)]) (g := gName 8) (by rfl) sc_law_tokens.nd (pi_listK (K := K) rfl (pv 4)) (blkOk_by (own := [("row", 8)]) (N := ["codes", "line", "column", "wide", "values", "found", "k", "value", "row"]) (sc := defScope s_law_tokens) (by decide +kernel)) (fun _ _ _ _ _ => pg_name (i := 8) sc_law_tokens.nd rfl (by first | exact Or.inl rfl | exact Or.inr rfl)) (fun _ _ _ _ _ => (pts_one (pt_cmpR op_eq (pe_ix (ixA (K := K) rfl) (pv 8) pe_int (fun _ _ => rfl)) (pe_ix (ixA (K := K) rfl) (pv 0) (pv 6) (fun _ _ => rfl)) (nomark _)))) (fun _ _ _ _ _ => (pe_ix (ixA (K := K) rfl) (pv 8) pe_int (fun _ _ => rfl)))) pe_int (fun _ _ => rfl)))
  (pss_one (ps_expr (pe_bmK (K := K) rfl PySem.F.plainAttrs_list PySem.F.slot_list_append PySem.F.type_list_append mt_append (pv 5) (pa_cons (pe_tup (pa_cons (pe_ix (ixA (K := K) rfl) (pv 0) (pv 6) (fun _ _ => rfl)) (pa_cons (pv 7) (pa_cons (pe_op op_addL (pv 1) (pe_op op_fdivW (pv 6) (pv 3))) (pa_cons (pe_op op_addL (pv 2) (pe_op op_mul pe_int (pe_op op_mod (pe_callTy c_int (by rfl) T.n_int (by decide +kernel) (pa_cons (pv 6) pa_nil)) (pv 3)))) pa_nil))))) pa_nil))))))
  (pss_one (ps_ret (pv 5))))))), ?_⟩
    rw [show start ["codes", "line", "column", "wide", "values", "found", "k", "value", "row"] [.ref a, .int ln, .int cl, .int wd] = [some (.ref a), some (.int ln), some (.int cl), some (.int wd), none, none, none, none, none] from rfl]
    obtain ⟨cs, ⟨ha, hk⟩, hlen, w0, w9, q⟩ := h
    have hl : ((cs.map V.str).length : Int) = cs.length := by simp
    have S : KK H H [(a, HO.lst (cs.map V.str))] := KK.first.add ha
    walk_at "go"
    intro t0 g0
    replace S := S.new g0 (HO.tup [V.str "open", V.str "{"])
    generalize upd H t0 (HO.tup [V.str "open", V.str "{"]) = A0 at S ⊢
    walk_at "go"
    intro t1 g1
    replace S := S.new g1 (HO.tup [V.str "shut", V.str "}"])
    generalize upd A0 t1 (HO.tup [V.str "shut", V.str "}"]) = A1 at S ⊢
    walk_at "go"
    intro t2 g2
    replace S := S.new g2 (HO.tup [V.str "word", V.str "ab"])
    generalize upd A1 t2 (HO.tup [V.str "word", V.str "ab"]) = A2 at S ⊢
    walk_at "go"
    intro t3 g3
    replace S := S.new g3 (HO.tup [V.str "blank", V.str " "])
    generalize upd A2 t3 (HO.tup [V.str "blank", V.str " "]) = A3 at S ⊢
    walk_at "go"
    intro t4 g4
    replace S := S.new g4 (HO.tup [V.str "par", V.str "\n\n"])
    generalize upd A3 t4 (HO.tup [V.str "par", V.str "\n\n"]) = A4 at S ⊢
    walk_at "go"
    intro t5 g5
    replace S := S.new g5 (HO.tup [V.str "name", V.str "head"])
    generalize upd A4 t5 (HO.tup [V.str "name", V.str "head"]) = A5 at S ⊢
    walk_at "go"
    intro t6 g6
    replace S := S.new g6 (HO.tup [V.str "hyph", V.str "\\-"])
    generalize upd A5 t6 (HO.tup [V.str "hyph", V.str "\\-"]) = A6 at S ⊢
    walk_at "go"
    intro u1 gu1
    replace S := S.new gu1 (HO.lst [V.ref t0, V.ref t1, V.ref t2, V.ref t3, V.ref t4, V.ref t5, V.ref t6])
    generalize upd A6 u1 (HO.lst [V.ref t0, V.ref t1, V.ref t2, V.ref t3, V.ref t4, V.ref t5, V.ref t6]) = B1 at S ⊢
    walk_at "go"
    intro t7 g7
    replace S := S.new g7 (HO.tup [V.str "cut", V.str "\\\\"])
    generalize upd B1 t7 (HO.tup [V.str "cut", V.str "\\\\"]) = A7 at S ⊢
    walk_at "go"
    intro t8 g8
    replace S := S.new g8 (HO.tup [V.str "param", V.str "3"])
    generalize upd A7 t8 (HO.tup [V.str "param", V.str "3"]) = A8 at S ⊢
    walk_at "go"
    intro t9 g9
    replace S := S.new g9 (HO.tup [V.str "dollar", V.str "$"])
    generalize upd A8 t9 (HO.tup [V.str "dollar", V.str "$"]) = A9 at S ⊢
    walk_at "go"
    intro t10 g10
    replace S := S.new g10 (HO.tup [V.str "tie", V.str "~"])
    generalize upd A9 t10 (HO.tup [V.str "tie", V.str "~"]) = A10 at S ⊢
    walk_at "go"
    intro t11 g11
    replace S := S.new g11 (HO.tup [V.str "amp", V.str "&"])
    generalize upd A10 t11 (HO.tup [V.str "amp", V.str "&"]) = A11 at S ⊢
    walk_at "go"
    intro t12 g12
    replace S := S.new g12 (HO.tup [V.str "up", V.str "^"])
    generalize upd A11 t12 (HO.tup [V.str "up", V.str "^"]) = A12 at S ⊢
    walk_at "go"
    intro t13 g13
    replace S := S.new g13 (HO.tup [V.str "down", V.str "_"])
    generalize upd A12 t13 (HO.tup [V.str "down", V.str "_"]) = A13 at S ⊢
    walk_at "go"
    intro u2 gu2
    replace S := S.new gu2 (HO.lst [V.ref t7, V.ref t8, V.ref t9, V.ref t10, V.ref t11, V.ref t12, V.ref t13])
    generalize upd A13 u2 (HO.lst [V.ref t7, V.ref t8, V.ref t9, V.ref t10, V.ref t11, V.ref t12, V.ref t13]) = B2 at S ⊢
    refine Wp.addl (xs := [V.ref t0, V.ref t1, V.ref t2, V.ref t3, V.ref t4, V.ref t5, V.ref t6]) (ys := [V.ref t7, V.ref t8, V.ref t9, V.ref t10, V.ref t11, V.ref t12, V.ref t13]) (by walk_at "hp") (by walk_at "hp") (sz_le (by simp only [List.length_cons, List.length_nil]; omega)) fun lv glv => ?_
    rw [show [V.ref t0, V.ref t1, V.ref t2, V.ref t3, V.ref t4, V.ref t5, V.ref t6] ++ [V.ref t7, V.ref t8, V.ref t9, V.ref t10, V.ref t11, V.ref t12, V.ref t13] = [V.ref t0, V.ref t1, V.ref t2, V.ref t3, V.ref t4, V.ref t5, V.ref t6, V.ref t7, V.ref t8, V.ref t9, V.ref t10, V.ref t11, V.ref t12, V.ref t13] from rfl]
    replace S := S.new glv (HO.lst [V.ref t0, V.ref t1, V.ref t2, V.ref t3, V.ref t4, V.ref t5, V.ref t6, V.ref t7, V.ref t8, V.ref t9, V.ref t10, V.ref t11, V.ref t12, V.ref t13])
    generalize upd B2 lv (HO.lst [V.ref t0, V.ref t1, V.ref t2, V.ref t3, V.ref t4, V.ref t5, V.ref t6, V.ref t7, V.ref t8, V.ref t9, V.ref t10, V.ref t11, V.ref t12, V.ref t13]) = B3 at S ⊢
    walk_at "go"
    intro f gf
    have hlv : B3 lv = some (HO.lst [V.ref t0, V.ref t1, V.ref t2, V.ref t3, V.ref t4, V.ref t5, V.ref t6, V.ref t7, V.ref t8, V.ref t9, V.ref t10, V.ref t11, V.ref t12, V.ref t13]) := by walk_at "hp"
    have haa : B3 a = some (HO.lst (cs.map V.str)) := S.has (a, _) (by simp)
    have key : ∀ x, x ∈ [V.ref t0, V.ref t1, V.ref t2, V.ref t3, V.ref t4, V.ref t5, V.ref t6, V.ref t7, V.ref t8, V.ref t9, V.ref t10, V.ref t11, V.ref t12, V.ref t13] → ∃ r k v, x = V.ref r ∧ B3 r = some (HO.tup [V.str k, V.str v]) := by
      intro x hx
      simp only [List.mem_cons, List.not_mem_nil, or_false] at hx
      rcases hx with rfl | rfl | rfl | rfl | rfl | rfl | rfl | rfl | rfl | rfl | rfl | rfl | rfl | rfl
      · exact ⟨t0, "open", "{", rfl, by walk_at "hp"⟩
      · exact ⟨t1, "shut", "}", rfl, by walk_at "hp"⟩
      · exact ⟨t2, "word", "ab", rfl, by walk_at "hp"⟩
      · exact ⟨t3, "blank", " ", rfl, by walk_at "hp"⟩
      · exact ⟨t4, "par", "\n\n", rfl, by walk_at "hp"⟩
      · exact ⟨t5, "name", "head", rfl, by walk_at "hp"⟩
      · exact ⟨t6, "hyph", "\\-", rfl, by walk_at "hp"⟩
      · exact ⟨t7, "cut", "\\\\", rfl, by walk_at "hp"⟩
      · exact ⟨t8, "param", "3", rfl, by walk_at "hp"⟩
      · exact ⟨t9, "dollar", "$", rfl, by walk_at "hp"⟩
      · exact ⟨t10, "tie", "~", rfl, by walk_at "hp"⟩
      · exact ⟨t11, "amp", "&", rfl, by walk_at "hp"⟩
      · exact ⟨t12, "up", "^", rfl, by walk_at "hp"⟩
      · exact ⟨t13, "down", "_", rfl, by walk_at "hp"⟩
    have some1 : ∀ c, c ∈ kinds → ∃ r v, V.ref r ∈ [V.ref t0, V.ref t1, V.ref t2, V.ref t3, V.ref t4, V.ref t5, V.ref t6, V.ref t7, V.ref t8, V.ref t9, V.ref t10, V.ref t11, V.ref t12, V.ref t13] ∧ B3 r = some (HO.tup [V.str c, V.str v]) := by
      intro c hc
      unfold kinds at hc
      simp only [List.mem_cons, List.not_mem_nil, or_false] at hc
      rcases hc with rfl | rfl | rfl | rfl | rfl | rfl | rfl | rfl | rfl | rfl | rfl | rfl | rfl | rfl
      · exact ⟨t0, "{", by simp, by walk_at "hp"⟩
      · exact ⟨t1, "}", by simp, by walk_at "hp"⟩
      · exact ⟨t2, "ab", by simp, by walk_at "hp"⟩
      · exact ⟨t3, " ", by simp, by walk_at "hp"⟩
      · exact ⟨t4, "\n\n", by simp, by walk_at "hp"⟩
      · exact ⟨t5, "head", by simp, by walk_at "hp"⟩
      · exact ⟨t6, "\\-", by simp, by walk_at "hp"⟩
      · exact ⟨t7, "\\\\", by simp, by walk_at "hp"⟩
      · exact ⟨t8, "3", by simp, by walk_at "hp"⟩
      · exact ⟨t9, "$", by simp, by walk_at "hp"⟩
      · exact ⟨t10, "~", by simp, by walk_at "hp"⟩
      · exact ⟨t11, "&", by simp, by walk_at "hp"⟩
      · exact ⟨t12, "^", by simp, by walk_at "hp"⟩
      · exact ⟨t13, "_", by simp, by walk_at "hp"⟩
    have hex := S.ext
    clear S
    have htb : ([V.ref t0, V.ref t1, V.ref t2, V.ref t3, V.ref t4, V.ref t5, V.ref t6, V.ref t7, V.ref t8, V.ref t9, V.ref t10, V.ref t11, V.ref t12, V.ref t13] : List V).length ≤ 14 := Nat.le_refl _
    generalize [V.ref t0, V.ref t1, V.ref t2, V.ref t3, V.ref t4, V.ref t5, V.ref t6, V.ref t7, V.ref t8, V.ref t9, V.ref t10, V.ref t11, V.ref t12, V.ref t13] = tb at *
    have haf : upd B3 f (HO.lst []) a = some (HO.lst (cs.map V.str)) := u_ne (ne_of_none haa gf) haa
    walk_at "go"
    refine ⟨by omega, ?_⟩
    refine loopR (PvTok B3 a f lv ln cl wd) ⟨Ex.refl.new gf, [], [], _, _, rfl, upd_same, rfl, rfl, fun j r t h => by simp at h⟩ ?_ ?_
    · rintro i σ' H' hi ⟨he, rs, ts, v6, v7, rfl, hf, hr, ht, hall⟩
      have hi2 : i < cs.length := by omega
      have hci : cs[i]? = some cs[i] := List.getElem?_eq_getElem hi2
      have hcm : (cs.map V.str)[i]? = some (V.str cs[i]) := by rw [List.getElem?_map, hci]; rfl
      have hkc : cs[i] ∈ kinds := hk _ (List.getElem_mem hi2)
      have hlv' := he _ _ hlv
      have ha' := he _ _ haa
      walk_at "go"
      intro D hD
      have tk : ∀ r k v, B3 r = some (HO.tup [V.str k, V.str v]) → tupKey H' (V.ref r) = some (k, v) := fun r k v h => by simp [tupKey, he _ _ h]
      refine lcP (xs := tb) (fun x => match tupKey H' x with | some (k, _) => decide (k = cs[i]) | none => false) (fun x => match tupKey H' x with | some (_, v) => V.str v | none => V.non) hlv' hD (by omega) (fun x => rfl) ?_ ?_ ?_
      · intro x hx l R h
        obtain ⟨r, k, v, rfl, hr3⟩ := key x hx
        have e1 := tk r k v hr3
        simp only [e1] at h
        have hr4 : upd H' D (HO.lst l) r = some (HO.tup [V.str k, V.str v]) := u_ne (ne_of_none (he _ _ hr3) hD) (he _ _ hr3)
        have ha4 : upd H' D (HO.lst l) a = some (HO.lst (cs.map V.str)) := u_ne (ne_of_none ha' hD) ha'
        walk_at "go"
        refine Wp.ixal ha4 (atI_nat hcm) ?_
        walk_at "go"
        exact h
      · intro x hx hb l R h
        obtain ⟨r, k, v, rfl, hr3⟩ := key x hx
        have e1 := tk r k v hr3
        simp only [e1] at h
        have hr4 : upd H' D (HO.lst l) r = some (HO.tup [V.str k, V.str v]) := u_ne (ne_of_none (he _ _ hr3) hD) (he _ _ hr3)
        walk_at "go"
        exact h
      · obtain ⟨v, hv⟩ : ∃ v : Str, atI ((tb.filter fun x => match tupKey H' x with | some (k, _) => decide (k = cs[i]) | none => false).map fun x => match tupKey H' x with | some (_, v) => V.str v | none => V.non) 0 = some (V.str v) := by
          obtain ⟨r, v, hm, hr3⟩ := some1 _ hkc
          have hmem : V.ref r ∈ tb.filter fun x => match tupKey H' x with | some (k, _) => decide (k = cs[i]) | none => false := by
            refine List.mem_filter.mpr ⟨hm, ?_⟩
            simp [tk r _ _ hr3]
          cases hfl : tb.filter fun x => match tupKey H' x with | some (k, _) => decide (k = cs[i]) | none => false with
          | nil => rw [hfl] at hmem; cases hmem
          | cons y ys =>
            have hy : y ∈ tb := by
              have : y ∈ tb.filter fun x => match tupKey H' x with | some (k, _) => decide (k = cs[i]) | none => false := by rw [hfl]; exact List.mem_cons_self ..
              exact (List.mem_filter.mp this).1
            obtain ⟨r2, k2, v2, rfl, hr5⟩ := key y hy
            refine ⟨v2, ?_⟩
            have := tk r2 k2 v2 hr5
            rw [List.map_cons]
            simp only [this]
            exact atI_nat (j := 0) rfl
        generalize ((tb.filter fun x => match tupKey H' x with | some (k, _) => decide (k = cs[i]) | none => false).map fun x => match tupKey H' x with | some (_, v) => V.str v | none => V.non) = got at *
        refine Wp.ixal upd_same hv ?_
        have ha5 : upd H' D (HO.lst got) a = some (HO.lst (cs.map V.str)) := u_ne (ne_of_none ha' hD) ha'
        have hf5 : upd H' D (HO.lst got) f = some (HO.lst (rs.map V.ref)) := u_ne (ne_of_none hf hD) hf
        have he5 : Ex B3 (upd H' D (HO.lst got)) := he.new hD
        have hall5 : ∀ (j : Nat) (r : Addr) (t : Tk), rs[j]? = some r → ts[j]? = some t → upd H' D (HO.lst got) r = some (.tup t.vs) := fun j r t h1 h2 => u_ne (ne_of_none (hall j r t h1 h2) hD) (hall j r t h1 h2)
        generalize upd H' D (HO.lst got) = H5 at *
        walk_at "go"
        refine Wp.ixal ha5 (atI_nat hcm) ?_
        walk_at "go"
        refine ⟨wide_div w0 (b := 10) (by omega) (by decide) (by decide), ?_⟩
        walk_at "go"
        intro z hz
        have hf6 := u_ne (o := HO.tup [V.str cs[i], V.str v, V.int (ln + (i : Int) / wd), V.int (cl + 3 * ((i : Int) % wd))]) (ne_of_none hf5 hz) hf5
        have nfz : z ≠ f := (ne_of_none hf5 hz).symm
        refine Wp.apd hf6 (sz_lt (by rw [List.length_map]; omega)) ?_
        walk_at "go"
        refine ⟨(he5.new hz).mut gf, rs ++ [z], ts ++ [⟨cs[i], v, ln + (i : Int) / wd, cl + 3 * ((i : Int) % wd)⟩], _, _, rfl, by rw [List.map_append]; exact upd_same, by rw [List.length_append, hr]; rfl, by rw [List.length_append, ht]; rfl, ?_⟩
        intro j r t h1 h2
        by_cases hj : j < i
        · rw [List.getElem?_append_left (by omega)] at h1 h2
          have h6 := hall5 j r t h1 h2
          have nrf : r ≠ f := fun z => by rw [z, hf5] at h6; cases h6
          exact u_ne nrf (u_ne (ne_of_none h6 hz) h6)
        · have hj2 : j = i := by
            have := (List.getElem?_eq_some_iff.mp h1).1
            rw [List.length_append, List.length_singleton] at this
            omega
          subst hj2
          have h1' : z = r := by
            have e := List.getElem?_concat_length (l := rs) (a := z)
            rw [hr] at e
            exact Option.some.inj (e.symm.trans h1)
          have h2' := (List.getElem?_concat_length (l := ts) (a := (⟨cs[j], v, ln + (j : Int) / wd, cl + 3 * ((j : Int) % wd)⟩ : Tk)))
          rw [ht] at h2'
          have h3 := Option.some.inj (h2'.symm.trans h2)
          subst h1' h3
          exact u_ne nfz upd_same
    · rintro σ' H' ⟨he, rs, ts, v6, v7, rfl, hf, hr, ht, hall⟩
      walk_at "go"
      refine q f rs ts H' (hex.trans he) ⟨hf, by omega, by omega, hall⟩
      
end
end K02
namespace K02
open PySem L2 Wp

theorem dl_mem {l : List Nat} {x : Nat} (h : x ∈ l.dropLast) : x ∈ l := (List.dropLast_sublist l).subset h
def isO (t : Tk) : Prop := t.k = "open"
def isS (t : Tk) : Prop := t.k = "shut"
instance (t : Tk) : Decidable (isO t) := by unfold isO; exact inferInstance
instance (t : Tk) : Decidable (isS t) := by unfold isS; exact inferInstance
theorem os_ne : ¬ (("open" : Str) = "shut") := by decide +kernel
theorem isO.not {t : Tk} (h : isO t) : ¬ isS t := fun z => os_ne (h.symm.trans z)
theorem isS.not {t : Tk} (h : isS t) : ¬ isO t := fun z => os_ne (z.symm.trans h)
def step (d : Int) (t : Tk) : Int := d + (if t.k = "open" then 1 else 0) - (if t.k = "shut" then 1 else 0)
theorem step_o {d : Int} {t : Tk} (h : isO t) : step d t = d + 1 := by
  have h2 := h.not
  unfold step isO isS at *
  rw [if_pos h, if_neg h2]
  omega
theorem step_s {d : Int} {t : Tk} (h : isS t) : step d t = d - 1 := by
  have h2 := h.not
  unfold step isO isS at *
  rw [if_pos h, if_neg h2]
  omega
theorem step_x {d : Int} {t : Tk} (h : ¬ isO t) (h2 : ¬ isS t) : step d t = d := by
  unfold step isO isS at *
  rw [if_neg h, if_neg h2]
  omega
def endG : List Tk → Nat → Int → Option Nat
  | [], _, _ => none
  | t :: r, j, d => if step d t = 0 then some j else endG r (j + 1) (step d t)
def lawEnd (ts : List Tk) (k : Nat) : Option Nat := endG (ts.drop k) k 0
theorem endG_lt : ∀ (r : List Tk) (j : Nat) (d : Int) (e : Nat), endG r j d = some e → j ≤ e ∧ e < j + r.length := by
  intro r
  induction r with
  | nil => intro j d e h; cases h
  | cons t r ih =>
    intro j d e h
    unfold endG at h
    split at h
    · cases h; simp
    · have := ih _ _ _ h
      rw [List.length_cons]
      omega
def scanF : List Tk → Nat → Int → Option (Nat × Str)
  | [], _, _ => none
  | t :: r, k, d => if t.k = "shut" ∧ d = 0 then some (k, "shut") else if t.k = "open" ∧ d = 12 then some (k, "depth") else scanF r (k + 1) (step d t)
def fin : List Tk → Nat → List Nat → List Nat
  | [], _, st => st
  | t :: r, i, st => fin r (i + 1) (if t.k = "open" then st ++ [i] else if t.k = "shut" then st.dropLast else st)
def bad (ts : List Tk) (k : Nat) : Bool := match ts[k]? with
  | some t => decide (t.k = "open") && (lawEnd ts k).isNone
  | none => false
def openF (ts : List Tk) : Option Nat := (List.range ts.length).find? (bad ts)
def wrongF (ts : List Tk) : Option (Nat × Str) := match scanF ts 0 0 with
  | some x => some x
  | none => (openF ts).map fun k => (k, "open")
theorem fin_sub : ∀ (r : List Tk) (i : Nat) (st : List Nat) (x : Nat), x ∈ fin r i st → x ∈ st ∨ (i ≤ x ∧ x < i + r.length ∧ ∃ t, r[x - i]? = some t ∧ isO t) := by
  intro r
  induction r with
  | nil => intro i st x h; exact Or.inl h
  | cons t r ih =>
    intro i st x h
    have h' : x ∈ fin r (i + 1) (if t.k = "open" then st ++ [i] else if t.k = "shut" then st.dropLast else st) := h
    rcases ih _ _ _ h' with h1 | ⟨h1, h2, t2, h3, h4⟩
    · by_cases ho : t.k = "open"
      · rw [if_pos ho] at h1
        rcases List.mem_append.mp h1 with h1 | h1
        · exact Or.inl h1
        · have e := List.mem_singleton.mp h1
          subst e
          exact Or.inr ⟨Nat.le_refl _, by simp, t, by simp, ho⟩
      · rw [if_neg ho] at h1
        by_cases hs : t.k = "shut"
        · rw [if_pos hs] at h1
          exact Or.inl (dl_mem h1)
        · rw [if_neg hs] at h1
          exact Or.inl h1
    · refine Or.inr ⟨by omega, by rw [List.length_cons]; omega, t2, ?_, h4⟩
      have e : x - i = (x - (i + 1)) + 1 := by omega
      rw [e, List.getElem?_cons_succ]
      exact h3
theorem fin_app : ∀ (a b : List Tk) (i : Nat) (st : List Nat), fin (a ++ b) i st = fin b (i + a.length) (fin a i st) := by
  intro a
  induction a with
  | nil => intro b i st; rfl
  | cons t a ih =>
    intro b i st
    show fin (a ++ b) (i + 1) _ = _
    rw [ih]
    show _ = fin b (i + (t :: a).length) (fin a (i + 1) _)
    rw [List.length_cons, show i + 1 + a.length = i + (a.length + 1) by omega]
/-- a token that began a group stays on the pile just if the group has no end -/
theorem stays : ∀ (r : List Tk) (i : Nat) (S P : List Nat) (k : Nat), k < i → (∀ x, x ∈ S → x < k) → (endG r i (1 + (P.length : Int)) = none ↔ k ∈ fin r i (S ++ k :: P)) := by
  intro r
  induction r with
  | nil => intro i S P k hk hS; simp [endG, fin]
  | cons t r ih =>
    intro i S P k hk hS
    show (if step (1 + (P.length : Int)) t = 0 then some i else endG r (i + 1) (step (1 + (P.length : Int)) t)) = none ↔ k ∈ fin r (i + 1) (if t.k = "open" then (S ++ k :: P) ++ [i] else if t.k = "shut" then (S ++ k :: P).dropLast else S ++ k :: P)
    by_cases ho : isO t
    · rw [step_o ho, if_neg (by omega), if_pos (show t.k = "open" from ho)]
      have := ih (i + 1) S (P ++ [i]) k (by omega) hS
      rw [List.length_append, List.length_singleton] at this
      rw [show 1 + (P.length : Int) + 1 = 1 + ((P.length + 1 : Nat) : Int) by omega, this]
      simp
    · by_cases hs : isS t
      · rw [step_s hs, if_neg (show ¬ t.k = "open" from ho), if_pos (show t.k = "shut" from hs)]
        cases P with
        | nil =>
          have e : (1 + (([] : List Nat).length : Int) - 1) = 0 := by simp
          rw [if_pos e]
          constructor
          · intro h; cases h
          · intro h
            have e2 : (S ++ k :: []).dropLast = S := by simp
            rw [e2] at h
            rcases fin_sub _ _ _ _ h with h | ⟨h, _⟩
            · exact absurd (hS k h) (Nat.lt_irrefl _)
            · omega
        | cons y P =>
          have e : (1 + (((y :: P).length : Nat) : Int) - 1) = 1 + (((y :: P).dropLast.length : Nat) : Int) := by
            rw [List.length_dropLast, List.length_cons]; omega
          rw [e, if_neg (by omega)]
          have := ih (i + 1) S (y :: P).dropLast k (by omega) hS
          rw [this]
          have e2 : (S ++ k :: y :: P).dropLast = S ++ k :: (y :: P).dropLast := by
            rw [List.dropLast_append_of_ne_nil (by simp)]
            rfl
          rw [e2]
      · rw [step_x ho hs, if_neg (by omega), if_neg (show ¬ t.k = "open" from ho), if_neg (show ¬ t.k = "shut" from hs)]
        exact ih (i + 1) S P k (by omega) hS
theorem mem_fin (ts : List Tk) (k : Nat) : k ∈ fin ts 0 [] ↔ bad ts k = true := by
  by_cases hk : k < ts.length
  · have ht : ts[k]? = some ts[k] := List.getElem?_eq_getElem hk
    have hsp : ts = ts.take k ++ ts[k] :: ts.drop (k + 1) := by
      rw [← List.drop_eq_getElem_cons hk, List.take_append_drop]
    have hlen : (ts.take k).length = k := by rw [List.length_take]; omega
    have hS : ∀ x, x ∈ fin (ts.take k) 0 [] → x < k := fun x hx => by
      rcases fin_sub _ _ _ _ hx with h | ⟨_, h, _⟩
      · cases h
      · omega
    have hf : fin ts 0 [] = fin (ts[k] :: ts.drop (k + 1)) k (fin (ts.take k) 0 []) := by
      have := fin_app (ts.take k) (ts[k] :: ts.drop (k + 1)) 0 []
      rw [← hsp, hlen, Nat.zero_add] at this
      exact this
    unfold bad
    rw [ht, hf]
    by_cases ho : isO ts[k]
    · have h1 := stays (ts.drop (k + 1)) (k + 1) (fin (ts.take k) 0 []) [] k (by omega) hS
      have e1 : fin (ts[k] :: ts.drop (k + 1)) k (fin (ts.take k) 0 []) = fin (ts.drop (k + 1)) (k + 1) (fin (ts.take k) 0 [] ++ [k]) := by
        show fin _ _ (if ts[k].k = "open" then _ else _) = _
        rw [if_pos (show ts[k].k = "open" from ho)]
      have e2 : lawEnd ts k = endG (ts.drop (k + 1)) (k + 1) 1 := by
        unfold lawEnd
        rw [List.drop_eq_getElem_cons hk]
        show (if step 0 ts[k] = 0 then some k else endG _ _ (step 0 ts[k])) = _
        rw [step_o ho, if_neg (by omega)]
        rfl
      rw [e1, ← h1]
      have e3 : decide (ts[k].k = "open") = true := decide_eq_true ho
      simp only [e3, Bool.true_and, e2]
      show endG _ _ (1 + 0) = none ↔ _
      cases h : endG (ts.drop (k + 1)) (k + 1) 1 with
      | none => simp [h]
      | some j => simp [h]
    · have e3 : decide (ts[k].k = "open") = false := decide_eq_false ho
      simp only [e3, Bool.false_and]
      constructor
      · intro h
        rcases fin_sub _ _ _ _ h with h | ⟨_, _, t, h, h2⟩
        · exact absurd (hS k h) (Nat.lt_irrefl _)
        · rw [Nat.sub_self, List.getElem?_cons_zero] at h
          cases h
          exact absurd h2 ho
      · intro h; cases h
  · have ht : ts[k]? = none := List.getElem?_eq_none (by omega)
    unfold bad
    rw [ht]
    constructor
    · intro h
      rcases fin_sub _ _ _ _ h with h | ⟨_, h, _⟩
      · cases h
      · omega
    · intro h; cases h
theorem fin_asc : ∀ (r : List Tk) (i : Nat) (st : List Nat), st.Pairwise (· < ·) → (∀ x, x ∈ st → x < i) → (fin r i st).Pairwise (· < ·) := by
  intro r
  induction r with
  | nil => intro i st h _; exact h
  | cons t r ih =>
    intro i st h hb
    show (fin r (i + 1) (if t.k = "open" then st ++ [i] else if t.k = "shut" then st.dropLast else st)).Pairwise _
    by_cases ho : t.k = "open"
    · rw [if_pos ho]
      refine ih _ _ (List.pairwise_append.mpr ⟨h, List.pairwise_singleton _ _, fun a ha b hb2 => by rw [List.mem_singleton.mp hb2]; exact hb a ha⟩) fun x hx => ?_
      rcases List.mem_append.mp hx with hx | hx
      · have := hb x hx; omega
      · rw [List.mem_singleton.mp hx]; omega
    · rw [if_neg ho]
      by_cases hs : t.k = "shut"
      · rw [if_pos hs]
        exact ih _ _ (h.sublist (List.dropLast_sublist _)) fun x hx => by have := hb x (dl_mem hx); omega
      · rw [if_neg hs]
        exact ih _ _ h fun x hx => by have := hb x hx; omega
theorem openF_is (ts : List Tk) : openF ts = (fin ts 0 []).head? := by
  have asc := fin_asc ts 0 [] List.Pairwise.nil (fun x h => by cases h)
  unfold openF
  cases e : fin ts 0 [] with
  | nil =>
    rw [List.head?_nil, List.find?_eq_none]
    intro x _ hx
    have := (mem_fin ts x).mpr hx
    rw [e] at this
    cases this
  | cons k0 F =>
    rw [List.head?_cons]
    rw [e] at asc
    have h0 : bad ts k0 = true := (mem_fin ts k0).mp (by rw [e]; exact List.mem_cons_self ..)
    have hlt : k0 < ts.length := by
      rcases fin_sub ts 0 [] k0 (by rw [e]; exact List.mem_cons_self ..) with h | ⟨_, h, _⟩
      · cases h
      · omega
    rw [List.find?_range_eq_some]
    refine ⟨h0, List.mem_range.mpr hlt, fun j hj => ?_⟩
    cases hb : bad ts j with
    | false => rfl
    | true =>
      have hm := (mem_fin ts j).mpr hb
      rw [e] at hm
      rcases List.mem_cons.mp hm with h | h
      · omega
      · have := (List.pairwise_cons.mp asc).1 j h
        omega
end K02
namespace K02
open PySem L2 Wp

theorem atI_int {xs : List V} {i : Int} {n : Nat} {v : V} (e : i = (n : Int)) (h : xs[n]? = some v) : atI xs i = some v := by rw [e]; exact atI_nat h
theorem ToksAt.tok {H : Hp} {a : Addr} {rs : List Addr} {ts : List Tk} (h : ToksAt H a rs ts) {i : Nat} (hi : i < ts.length) :
    ∃ r, rs[i]? = some r ∧ (rs.map V.ref)[i]? = some (V.ref r) ∧ H r = some (.tup [.str ts[i].k, .str ts[i].v, .int ts[i].l, .int ts[i].c]) := by
  have h1 : i < rs.length := by rw [h.2.1]; exact hi
  refine ⟨rs[i], List.getElem?_eq_getElem h1, by rw [List.getElem?_map, List.getElem?_eq_getElem h1]; rfl, h.2.2.2 i _ _ (List.getElem?_eq_getElem h1) (List.getElem?_eq_getElem hi)⟩
theorem ToksAt.len {H : Hp} {a : Addr} {rs : List Addr} {ts : List Tk} (h : ToksAt H a rs ts) : (((rs.map V.ref).length : Nat) : Int) = (ts.length : Int) := by rw [List.length_map, h.2.1]
def optV : Option Nat → V
  | none => .non
  | some j => .int (j : Int)
def spEnd : Sp := fun vs H Q _ => ∃ (a : Addr) (at1 : Int), vs = [.ref a, .int at1] ∧ ∃ rs ts, ToksAt H a rs ts ∧ ∃ n : Nat, at1 = (n : Int) ∧ n ≤ ts.length ∧ Q (optV (lawEnd ts n)) H
def PvEnd (H : Hp) (a : Addr) (n : Nat) (ts : List Tk) : Nat → L2.St → Hp → Prop := fun i σ' H' => H' = H ∧ ∃ d v, σ' = [some (V.ref a), some (V.int (n : Int)), some (V.int d), v] ∧ lawEnd ts n = endG (ts.drop (n + i)) (n + i) d
def spGend : Sp := fun vs H Q _ => ∃ (a : Addr) (at1 : Int), vs = [.ref a, .int at1] ∧ ∃ rs ts, ToksAt H a rs ts ∧ ∃ n j : Nat, at1 = (n : Int) ∧ n < ts.length ∧ (∀ t, ts[n]? = some t → t.k = "open") ∧ lawEnd ts n = some j ∧ Q (.int (j : Int)) H
def PvGend (H : Hp) (a : Addr) (j : Nat) (ts : List Tk) : Nat → L2.St → Hp → Prop := fun m σ' H' => H' = H ∧ ∃ (at1 : Nat) (d : Int), σ' = [some (V.ref a), some (V.int (at1 : Int)), some (V.int d)] ∧ m = ts.length - at1 ∧ at1 < ts.length ∧ 0 ≤ d ∧ (0 < d → endG (ts.drop (at1 + 1)) (at1 + 1) d = some j) ∧ (d = 0 → at1 = j)
def WrV (H : Hp) (v : V) : Option (Nat × Str) → Prop
  | none => v = .non
  | some (k, s) => ∃ b, v = .ref b ∧ H b = some (.tup [.int (k : Int), .str s])
def spWrong : Sp := fun vs H Q _ => ∃ (a : Addr), vs = [.ref a] ∧ ∃ rs ts, ToksAt H a rs ts ∧ ∀ v H', Ex H H' → WrV H' v (wrongF ts) → Q v H'
def PvW1 (H : Hp) (a : Addr) (ts : List Tk) : Nat → L2.St → Hp → Prop := fun i σ' H' => H' = H ∧ ∃ d v, σ' = [some (V.ref a), some (V.int d), v] ∧ scanF ts 0 0 = scanF (ts.drop i) i d
def PvW2 (H : Hp) (a : Addr) (ts : List Tk) : Nat → L2.St → Hp → Prop := fun i σ' H' => H' = H ∧ ∃ d v, σ' = [some (V.ref a), some (V.int d), v] ∧ ∀ k, k < i → bad ts k = false
section
variable {P : Program} {w : World} {K : PySem.W.Frag} {mg : Str → Option Value} {base : Heap}
theorem ok_law_end {f : Addr} {fd : FuncData} (F : Fun K "_law_end" "_law_end" s_law_end f fd) (T : Txt mg) : FnOk P w K mg base CX0 1 f fd ["tokens", "at"] (spEnd) := by
  refine F.ok sc_law_end (fun vs H Q E h => ?_) (fun cdv A outer s H vs Q E hr h => ?_)
  · obtain ⟨a, at1, rfl, _⟩ := h
    rfl
  · obtain ⟨a, at1, rfl, h⟩ := h
    refine ⟨_, (pss_cons (ps_set (i := 2) sc_law_end.nd rfl (by first | exact Or.inl rfl | exact Or.inr rfl) pe_int)
  (pss_cons (ps_for PassesOwn.never rfl (pi_range2 (by rfl) T.n_range (pa_cons (pv 1) (pa_cons (pe_callB (c_lenK (K := K) rfl) (by rfl) T.n_len (by decide +kernel) (pa_cons (pv 0) pa_nil)) pa_nil))) (pg_name (i := 3) sc_law_end.nd rfl (by first | exact Or.inl rfl | exact Or.inr rfl))
  (pss_cons (ps_set (i := 2) sc_law_end.nd rfl (by first | exact Or.inl rfl | exact Or.inr rfl) (pe_op op_sub (pe_op op_addL (pv 2) (pe_callTy c_int (by rfl) T.n_int (by decide +kernel) (pa_cons (pe_cmpR op_eq (pe_ix (ixA (K := K) rfl) (pe_ix (ixA (K := K) rfl) (pv 0) (pv 3) (fun _ _ => rfl)) pe_int (fun _ _ => rfl)) pe_str (nomark _)) pa_nil))) (pe_callTy c_int (by rfl) T.n_int (by decide +kernel) (pa_cons (pe_cmpR op_eq (pe_ix (ixA (K := K) rfl) (pe_ix (ixA (K := K) rfl) (pv 0) (pv 3) (fun _ _ => rfl)) pe_int (fun _ _ => rfl)) pe_str (nomark _)) pa_nil))))
  (pss_one (ps_if (pt_cmpR op_eq (pv 2) pe_int (nomark _))
  (pss_one (ps_ret (pv 3)))
  pss_nil))))
  (pss_one (ps_ret pe_non)))), ?_⟩
    rw [show start ["tokens", "at", "depth", "k"] [.ref a, .int at1] = [some (.ref a), some (.int at1), none, none] from rfl]
    obtain ⟨rs, ts, ht, n, rfl, hn, q⟩ := h
    have hlen := ht.len
    have hb := ht.2.2.1
    have hta := ht.1
    walk_at "go"
    refine ⟨by omega, ?_⟩
    refine loopR (PvEnd H a n ts) ⟨rfl, 0, _, rfl, rfl⟩ ?_ ?_
    · rintro i σ' H' hi ⟨rfl, d, v, rfl, e⟩
      have hi2 : n + i < ts.length := by omega
      obtain ⟨r, hr, hr2, hr3⟩ := ht.tok hi2
      walk_at "go"
      refine Wp.ixal hta (atI_int (n := n + i) (by omega) hr2) ?_
      walk_at "go"
      refine Wp.ixal hta (atI_int (n := n + i) (by omega) hr2) ?_
      walk_at "go"
      rw [List.drop_eq_getElem_cons hi2] at e
      have e2 : lawEnd ts n = if step d ts[n + i] = 0 then some (n + i) else endG (ts.drop (n + i + 1)) (n + i + 1) (step d ts[n + i]) := e
      refine ite2 (fun z => ?_) (fun z => ?_)
      · have z' : step d ts[n + i] = 0 := z
        rw [if_pos z'] at e2
        rw [e2] at q
        have q' : Q (V.int ((n + i : Nat) : Int)) H' := q
        rw [show ((n : Int) + (i : Int)) = ((n + i : Nat) : Int) by omega]
        exact q'
      · have z' : ¬ step d ts[n + i] = 0 := z
        rw [if_neg z'] at e2
        exact ⟨rfl, _, _, rfl, e2⟩
    · rintro σ' H' ⟨rfl, d, v, rfl, e⟩
      walk_at "go"
      rw [show n + ((((rs.map V.ref).length : Nat) : Int) - (n : Int)).toNat = ts.length by omega, List.drop_length] at e
      rw [e] at q
      exact q
theorem ok_group_end {f : Addr} {fd : FuncData} (F : Fun K "group_end" "group_end" s_group_end f fd) (T : Txt mg) : FnOk P w K mg base CX0 1 f fd ["tokens", "at"] (spGend) := by
  refine F.ok sc_group_end (fun vs H Q E h => ?_) (fun cdv A outer s H vs Q E hr h => ?_)
  · obtain ⟨a, at1, rfl, _⟩ := h
    rfl
  · obtain ⟨a, at1, rfl, h⟩ := h
    refine ⟨_, (pss_cons (ps_set (i := 2) sc_group_end.nd rfl (by first | exact Or.inl rfl | exact Or.inr rfl) pe_int)
  (pss_cons (ps_while PassesOwn.never (pt_cmpR op_gt (pv 2) pe_int (nomark _))
  (pss_cons (ps_aug (i := 1) sc_group_end.nd rfl (by first | exact Or.inl rfl | exact Or.inr rfl) pe_int ip_add)
  (pss_one (ps_if (pt_cmpR op_eq (pe_ix (ixA (K := K) rfl) (pe_ix (ixA (K := K) rfl) (pv 0) (pv 1) (fun _ _ => rfl)) pe_int (fun _ _ => rfl)) pe_str (nomark _))
  (pss_one (ps_aug (i := 2) sc_group_end.nd rfl (by first | exact Or.inl rfl | exact Or.inr rfl) pe_int ip_add))
  (pss_one (ps_if (pt_cmpR op_eq (pe_ix (ixA (K := K) rfl) (pe_ix (ixA (K := K) rfl) (pv 0) (pv 1) (fun _ _ => rfl)) pe_int (fun _ _ => rfl)) pe_str (nomark _))
  (pss_one (ps_aug (i := 2) sc_group_end.nd rfl (by first | exact Or.inl rfl | exact Or.inr rfl) pe_int ip_sub))
  pss_nil))))))
  (pss_one (ps_ret (pv 1))))), ?_⟩
    rw [show start ["tokens", "at", "depth"] [.ref a, .int at1] = [some (.ref a), some (.int at1), none] from rfl]
    obtain ⟨rs, ts, ht, n, j, rfl, hn, ho, he, q⟩ := h
    have hlen := ht.len
    have hta := ht.1
    walk_at "go"
    have h0 : isO ts[n] := ho _ (List.getElem?_eq_getElem hn)
    have e1 : endG (ts.drop (n + 1)) (n + 1) 1 = some j := by
      unfold lawEnd at he
      rw [List.drop_eq_getElem_cons hn] at he
      have he' : (if step 0 ts[n] = 0 then some n else endG (ts.drop (n + 1)) (n + 1) (step 0 ts[n])) = some j := he
      rw [step_o h0, if_neg (by omega)] at he'
      exact he'
    refine wh (PvGend H a j ts) (ts.length - n) ⟨rfl, n, 1, rfl, rfl, hn, by omega, fun _ => e1, fun z => by omega⟩ ?_
    rintro m σ' H' ⟨rfl, at1, d, rfl, rfl, hat, hd, hpos, hzero⟩
    walk_at "go"
    refine ite2 (fun z => ?_) (fun z => ?_)
    · have e2 := hpos z
      have hat2 : at1 + 1 < ts.length := by
        have := endG_lt _ _ _ _ e2
        rw [List.length_drop] at this
        omega
      refine ⟨fun σ2 H2 => ∃ m', m' < ts.length - at1 ∧ PvGend H' a j ts m' σ2 H2, fun _ _ h => h, ?_⟩
      obtain ⟨r, hr, hr2, hr3⟩ := ht.tok hat2
      walk_at "go"
      refine Wp.ixal hta (atI_int (n := at1 + 1) (by omega) hr2) ?_
      walk_at "go"
      rw [List.drop_eq_getElem_cons hat2] at e2
      have e3 : (if step d ts[at1 + 1] = 0 then some (at1 + 1) else endG (ts.drop (at1 + 1 + 1)) (at1 + 1 + 1) (step d ts[at1 + 1])) = some j := e2
      have fin : ∀ d', d' = step d ts[at1 + 1] → 0 ≤ d' → PvGend H' a j ts (ts.length - (at1 + 1)) [some (V.ref a), some (V.int ((at1 : Int) + 1)), some (V.int d')] H' := fun d' h1 h2 => by
        refine ⟨rfl, at1 + 1, d', rfl, rfl, hat2, h2, fun h3 => ?_, fun h3 => ?_⟩
        · rw [← h1, if_neg (by omega)] at e3
          exact e3
        · rw [← h1, if_pos h3] at e3
          cases e3
          rfl
      refine ite2 (fun ho => ?_) (fun ho => ?_)
      · walk_at "go"
        exact ⟨_, by omega, fin _ (step_o ho).symm (by omega)⟩
      · refine Wp.ixal hta (atI_int (n := at1 + 1) (by omega) hr2) ?_
        walk_at "go"
        refine ite2 (fun hs => ?_) (fun hs => ?_)
        · walk_at "go"
          exact ⟨_, by omega, fin _ (step_s hs).symm (by omega)⟩
        · exact ⟨_, by omega, fin _ (step_x ho hs).symm (by omega)⟩
    · walk_at "go"
      rw [← hzero (by omega)] at q
      exact q
theorem ok_law_wrong {f : Addr} {fd : FuncData} (F : Fun K "_law_wrong" "_law_wrong" s_law_wrong f fd) (T : Txt mg) (G_law_end : Def P w K mg base 1 "_law_end" ["tokens", "at"] (spEnd)) : FnOk P w K mg base CX0 2 f fd ["tokens"] (spWrong) := by
  refine F.ok sc_law_wrong (fun vs H Q E h => ?_) (fun cdv A outer s H vs Q E hr h => ?_)
  · obtain ⟨a, rfl, _⟩ := h
    rfl
  · obtain ⟨a, rfl, h⟩ := h
    refine ⟨_, (pss_cons (ps_set (i := 1) sc_law_wrong.nd rfl (by first | exact Or.inl rfl | exact Or.inr rfl) pe_int)
  (pss_cons (ps_for PassesOwn.never rfl (pi_range1 (by rfl) T.n_range (pa_cons (pe_callB (c_lenK (K := K) rfl) (by rfl) T.n_len (by decide +kernel) (pa_cons (pv 0) pa_nil)) pa_nil)) (pg_name (i := 2) sc_law_wrong.nd rfl (by first | exact Or.inl rfl | exact Or.inr rfl))
  (pss_cons (ps_if (PW.pt (pw_and (pt_cmpR op_eq (pe_ix (ixA (K := K) rfl) (pe_ix (ixA (K := K) rfl) (pv 0) (pv 2) (fun _ _ => rfl)) pe_int (fun _ _ => rfl)) pe_str (nomark _)) (pw_and1 (pt_cmpR op_eq (pv 1) pe_int (nomark _)))))
  (pss_one (ps_ret (pe_tup (pa_cons (pv 2) (pa_cons pe_str pa_nil)))))
  pss_nil)
  (pss_cons (ps_if (PW.pt (pw_and (pt_cmpR op_eq (pe_ix (ixA (K := K) rfl) (pe_ix (ixA (K := K) rfl) (pv 0) (pv 2) (fun _ _ => rfl)) pe_int (fun _ _ => rfl)) pe_str (nomark _)) (pw_and1 (pt_cmpR op_eq (pv 1) pe_int (nomark _)))))
  (pss_one (ps_ret (pe_tup (pa_cons (pv 2) (pa_cons pe_str pa_nil)))))
  pss_nil)
  (pss_one (ps_set (i := 1) sc_law_wrong.nd rfl (by first | exact Or.inl rfl | exact Or.inr rfl) (pe_op op_sub (pe_op op_addL (pv 1) (pe_callTy c_int (by rfl) T.n_int (by decide +kernel) (pa_cons (pe_cmpR op_eq (pe_ix (ixA (K := K) rfl) (pe_ix (ixA (K := K) rfl) (pv 0) (pv 2) (fun _ _ => rfl)) pe_int (fun _ _ => rfl)) pe_str (nomark _)) pa_nil))) (pe_callTy c_int (by rfl) T.n_int (by decide +kernel) (pa_cons (pe_cmpR op_eq (pe_ix (ixA (K := K) rfl) (pe_ix (ixA (K := K) rfl) (pv 0) (pv 2) (fun _ _ => rfl)) pe_int (fun _ _ => rfl)) pe_str (nomark _)) pa_nil))))))))
  (pss_cons (ps_for PassesOwn.never rfl (pi_range1 (by rfl) T.n_range (pa_cons (pe_callB (c_lenK (K := K) rfl) (by rfl) T.n_len (by decide +kernel) (pa_cons (pv 0) pa_nil)) pa_nil)) (pg_name (i := 2) sc_law_wrong.nd rfl (by first | exact Or.inl rfl | exact Or.inr rfl))
  (pss_one (ps_if (PW.pt (pw_and (pt_cmpR op_eq (pe_ix (ixA (K := K) rfl) (pe_ix (ixA (K := K) rfl) (pv 0) (pv 2) (fun _ _ => rfl)) pe_int (fun _ _ => rfl)) pe_str (nomark _)) (pw_and1 (pt_cmpR o_isN (G_law_end.call (hr.mono (by omega)) (by rfl) (pa_cons (pv 0) (pa_cons (pv 2) pa_nil))) pe_non (nomark _)))))
  (pss_one (ps_ret (pe_tup (pa_cons (pv 2) (pa_cons pe_str pa_nil)))))
  pss_nil)))
  (pss_one (ps_ret pe_non))))), ?_⟩
    rw [show start ["tokens", "depth", "k"] [.ref a] = [some (.ref a), none, none] from rfl]
    obtain ⟨rs, ts, ht, q⟩ := h
    have hlen := ht.len
    have hb := ht.2.2.1
    have hta := ht.1
    walk_at "go"
    refine ⟨by omega, ?_⟩
    refine loopR (PvW1 H a ts) ⟨rfl, 0, _, rfl, rfl⟩ ?_ ?_
    · rintro i σ' H' hi ⟨rfl, d, v, rfl, e⟩
      have hi2 : i < ts.length := by omega
      obtain ⟨r, hr, hr2, hr3⟩ := ht.tok hi2
      rw [List.drop_eq_getElem_cons hi2] at e
      have e2 : scanF ts 0 0 = if ts[i].k = "shut" ∧ d = 0 then some (i, ("shut" : Str)) else if ts[i].k = "open" ∧ d = 12 then some (i, ("depth" : Str)) else scanF (ts.drop (i + 1)) (i + 1) (step d ts[i]) := e
      have out1 : ∀ s p, H' p = none → scanF ts 0 0 = some (i, s) → Q (V.ref p) (upd H' p (HO.tup [V.int (i : Int), V.str s])) := fun s p hp h => by
        refine q _ _ (Ex.refl.new hp) ?_
        unfold wrongF
        rw [h]
        exact ⟨p, rfl, upd_same⟩
      walk_at "go"
      refine Wp.ixal hta (atI_int (n := i) (by omega) hr2) ?_
      walk_at "go"
      refine ite2 (fun hs => ?_) (fun hs => ?_)
      · refine ite2 (fun hd => ?_) (fun hd => ?_)
        · walk_at "go"
          intro p hp
          rw [if_pos ⟨hs, hd⟩] at e2
          exact out1 _ p hp e2
        · rw [if_neg (fun z => hd z.2), if_neg (fun z => os_ne (z.1.symm.trans hs))] at e2
          walk_at "go"
          refine Wp.ixal hta (atI_int (n := i) (by omega) hr2) ?_
          walk_at "go"
          refine ite_f (fun z => os_ne (z.symm.trans hs)) ?_
          refine Wp.ixal hta (atI_int (n := i) (by omega) hr2) ?_
          walk_at "go"
          refine Wp.ixal hta (atI_int (n := i) (by omega) hr2) ?_
          walk_at "go"
          exact ⟨rfl, _, _, rfl, e2⟩
      · rw [if_neg (fun z => hs z.1)] at e2
        walk_at "go"
        refine Wp.ixal hta (atI_int (n := i) (by omega) hr2) ?_
        walk_at "go"
        have tail : scanF ts 0 0 = scanF (ts.drop (i + 1)) (i + 1) (step d ts[i]) → PvW1 H' a ts (i + 1) [some (V.ref a), some (V.int (step d ts[i])), some (V.int (i : Int))] H' := fun h => ⟨rfl, _, _, rfl, h⟩
        refine ite2 (fun ho => ?_) (fun ho => ?_)
        · refine ite2 (fun hd => ?_) (fun hd => ?_)
          · walk_at "go"
            intro p hp
            rw [if_pos ⟨ho, hd⟩] at e2
            exact out1 _ p hp e2
          · rw [if_neg (fun z => hd z.2)] at e2
            refine Wp.ixal hta (atI_int (n := i) (by omega) hr2) ?_
            walk_at "go"
            refine Wp.ixal hta (atI_int (n := i) (by omega) hr2) ?_
            walk_at "go"
            exact tail e2
        · rw [if_neg (fun z => ho z.1)] at e2
          refine Wp.ixal hta (atI_int (n := i) (by omega) hr2) ?_
          walk_at "go"
          refine Wp.ixal hta (atI_int (n := i) (by omega) hr2) ?_
          walk_at "go"
          exact tail e2
    · rintro σ' H' ⟨rfl, d, v, rfl, e⟩
      rw [show ((rs.map V.ref).length : Int).toNat = ts.length by omega, List.drop_length] at e
      have en : scanF ts 0 0 = none := e
      walk_at "go"
      refine ⟨by omega, ?_⟩
      refine loopR (PvW2 H' a ts) ⟨rfl, _, _, rfl, fun k hk => absurd hk (Nat.not_lt_zero _)⟩ ?_ ?_
      · rintro i σ' H2 hi ⟨rfl, d, v, rfl, hno⟩
        have hi2 : i < ts.length := by omega
        obtain ⟨r, hr, hr2, hr3⟩ := ht.tok hi2
        have hbad : bad ts i = (decide (ts[i].k = "open") && (lawEnd ts i).isNone) := by
          unfold bad
          rw [List.getElem?_eq_getElem hi2]
        have next : bad ts i = false → PvW2 H2 a ts (i + 1) [some (V.ref a), some (V.int d), some (V.int (i : Int))] H2 := fun h => ⟨rfl, _, _, rfl, fun k hk => by
          by_cases hki : k = i
          · rw [hki]; exact h
          · exact hno k (by omega)⟩
        walk_at "go"
        refine Wp.ixal hta (atI_int (n := i) (by omega) hr2) ?_
        walk_at "go"
        refine ite2 (fun ho => ?_) (fun ho => ?_)
        · refine ⟨_, _, rfl, rs, ts, ht, i, rfl, by omega, ?_⟩
          cases hl : lawEnd ts i with
          | none =>
            show _
            unfold optV
            walk_at "go"
            intro p hp
            refine q _ _ (Ex.refl.new hp) ?_
            have hf : openF ts = some i := by
              unfold openF
              rw [List.find?_range_eq_some]
              refine ⟨by rw [hbad, hl, decide_eq_true ho]; rfl, List.mem_range.mpr hi2, fun j hj => by rw [hno j hj]; rfl⟩
            unfold wrongF
            rw [en, hf]
            exact ⟨p, rfl, upd_same⟩
          | some j =>
            unfold optV
            walk_at "go"
            exact next (by rw [hbad, hl]; simp)
        · exact next (by rw [hbad, decide_eq_false ho]; rfl)
      · rintro σ' H2 ⟨rfl, d, v, rfl, hno⟩
        walk_at "go"
        refine q _ _ Ex.refl ?_
        have hf : openF ts = none := by
          unfold openF
          rw [List.find?_eq_none]
          intro x hx
          have := hno x (by have := List.mem_range.mp hx; omega)
          rw [this]
          simp
        unfold wrongF
        rw [en, hf]
        rfl
end
end K02
namespace K02
open PySem L2 Wp

def bh (ts : List Tk) : Nat → List (Nat × Nat) → Nat → Option (List (Nat × Nat))
  | 0, acc, _ => some acc
  | c + 1, acc, n => match ts[n]? with
    | none => none
    | some t => if t.k = "open" then (match lawEnd ts n with
      | none => none
      | some e => bh ts c (acc ++ [(n, e)]) (e + 1)) else none
def AllEnd (ts : List Tk) : Prop := ∀ k, bad ts k = false
theorem AllEnd.ends {ts : List Tk} (h : AllEnd ts) {n : Nat} (hn : n < ts.length) (ho : ts[n].k = "open") : ∃ e, lawEnd ts n = some e ∧ e < ts.length := by
  have h1 := h n
  unfold bad at h1
  rw [List.getElem?_eq_getElem hn] at h1
  simp only [decide_eq_true ho, Bool.true_and] at h1
  cases e : lawEnd ts n with
  | none => rw [e] at h1; cases h1
  | some j =>
    refine ⟨j, rfl, ?_⟩
    have := endG_lt _ _ _ _ e
    rw [List.length_drop] at this
    omega
def PairsAt (H : Hp) (vs : List V) (ps : List (Nat × Nat)) : Prop := vs.length = ps.length ∧ ∀ (i : Nat) (x : V) (pr : Nat × Nat), vs[i]? = some x → ps[i]? = some pr → ∃ b, x = .ref b ∧ H b = some (.tup [.int (pr.1 : Int), .int (pr.2 : Int)])
theorem PairsAt.ex {H H' : Hp} {vs : List V} {ps : List (Nat × Nat)} (h : PairsAt H vs ps) (e : Ex H H') : PairsAt H' vs ps := ⟨h.1, fun i x pr h1 h2 => let ⟨b, h3, h4⟩ := h.2 i x pr h1 h2; ⟨b, h3, e _ _ h4⟩⟩
theorem PairsAt.mut {H : Hp} {f : Addr} {us vs : List V} {ps : List (Nat × Nat)} (h : PairsAt H vs ps) (hf : ∃ ws, H f = some (.lst ws)) : PairsAt (upd H f (.lst us)) vs ps := ⟨h.1, fun i x pr h1 h2 => by
  obtain ⟨b, h3, h4⟩ := h.2 i x pr h1 h2
  obtain ⟨ws, hf⟩ := hf
  exact ⟨b, h3, u_ne (fun z => by rw [z, hf] at h4; cases h4) h4⟩⟩
theorem PairsAt.app {H : Hp} {b : Addr} {vs : List V} {ps : List (Nat × Nat)} {x y : Nat} (h : PairsAt H vs ps) (hb : H b = some (.tup [.int (x : Int), .int (y : Int)])) : PairsAt H (vs ++ [.ref b]) (ps ++ [(x, y)]) := by
  refine ⟨by rw [List.length_append, List.length_append, h.1]; rfl, fun i v pr h1 h2 => ?_⟩
  by_cases hi : i < vs.length
  · rw [List.getElem?_append_left hi] at h1
    rw [List.getElem?_append_left (by rw [← h.1]; exact hi)] at h2
    exact h.2 i v pr h1 h2
  · have hl := (List.getElem?_eq_some_iff.mp h1).1
    rw [List.length_append, List.length_singleton] at hl
    have e : i = vs.length := by omega
    subst e
    have h1' : V.ref b = v := Option.some.inj ((List.getElem?_concat_length (l := vs) (a := V.ref b)).symm.trans h1)
    have h2' : (x, y) = pr := by
      have e := List.getElem?_concat_length (l := ps) (a := (x, y))
      rw [← h.1] at e
      exact Option.some.inj (e.symm.trans h2)
    subst h1' h2'
    exact ⟨b, rfl, hb⟩
def RB (H H' : Hp) (v : V) : Option (List (Nat × Nat)) → Prop
  | none => v = .non
  | some ps => ∃ a vs, v = .ref a ∧ H a = none ∧ H' a = some (.lst vs) ∧ PairsAt H' vs ps ∧ ps.length ≤ 60
def spWithin : Sp := fun vs H Q _ => ∃ (a : Addr) (at1 hi cnt : Int), vs = [.ref a, .int at1, .int hi, .int cnt] ∧ ∃ rs ts, ToksAt H a rs ts ∧ ∃ n c : Nat, at1 = (n : Int) ∧ hi = (ts.length : Int) ∧ cnt = (c : Int) ∧ n ≤ ts.length ∧ c ≤ 50 ∧ AllEnd ts ∧ ∀ v H', Ex H H' → RB H H' v (bh ts c [] n) → Q v H'
def spBehind : Sp := fun vs H Q _ => ∃ (a : Addr) (at1 cnt : Int), vs = [.ref a, .int at1, .int cnt] ∧ ∃ rs ts, ToksAt H a rs ts ∧ ∃ n c : Nat, at1 = (n : Int) ∧ cnt = (c : Int) ∧ n ≤ ts.length ∧ c ≤ 50 ∧ AllEnd ts ∧ ∀ v H', Ex H H' → RB H H' v (bh ts c [] n) → Q v H'
def PvWi (H : Hp) (a f : Addr) (n c : Nat) (ts : List Tk) (st : Int → List (Option V)) : Nat → L2.St → Hp → Prop := fun i σ' H' => Ex H H' ∧ ∃ ps vs at1 v5 v6, σ' = st ((at1 : Nat) : Int) ++ [some (V.ref f), v5, v6] ∧ H' f = some (.lst vs) ∧ PairsAt H' vs ps ∧ ps.length = i ∧ at1 ≤ ts.length ∧ bh ts c [] n = bh ts (c - i) ps at1
theorem bh_step {ts : List Tk} {c i n : Nat} {ps : List (Nat × Nat)} (h : i < c) : bh ts (c - i) ps n = match ts[n]? with
    | none => none
    | some t => if t.k = "open" then (match lawEnd ts n with
      | none => none
      | some e => bh ts (c - (i + 1)) (ps ++ [(n, e)]) (e + 1)) else none := by
  rw [show c - i = (c - (i + 1)) + 1 by omega]
  rfl
section
variable {P : Program} {w : World} {K : PySem.W.Frag} {mg : Str → Option Value} {base : Heap}
theorem ok_groups_within {f : Addr} {fd : FuncData} (F : Fun K "groups_within" "groups_within" s_groups_within f fd) (T : Txt mg) (G_group_end : Def P w K mg base 1 "group_end" ["tokens", "at"] (spGend)) : FnOk P w K mg base CX0 2 f fd ["tokens", "at", "hi", "count"] (spWithin) := by
  refine F.ok sc_groups_within (fun vs H Q E h => ?_) (fun cdv A outer s H vs Q E hr h => ?_)
  · obtain ⟨a, at1, hi, cnt, rfl, _⟩ := h
    rfl
  · obtain ⟨a, at1, hi, cnt, rfl, h⟩ := h
    refine ⟨_, (pss_cons (ps_set (i := 4) sc_groups_within.nd rfl (by first | exact Or.inl rfl | exact Or.inr rfl) (pe_lst pa_nil))
  (pss_cons (ps_for PassesOwn.never rfl (pi_range1 (by rfl) T.n_range (pa_cons (pv 3) pa_nil)) (pg_name (i := 5) sc_groups_within.nd rfl (by first | exact Or.inl rfl | exact Or.inr rfl))
  (pss_cons (ps_if (PW.pt (pw_or (pt_cmpR op_ge (pv 1) (pv 2) (nomark _)) (pw_or1 (pt_cmpR op_ne (pe_ix (ixA (K := K) rfl) (pe_ix (ixA (K := K) rfl) (pv 0) (pv 1) (fun _ _ => rfl)) pe_int (fun _ _ => rfl)) pe_str (nomark _)))))
  (pss_one (ps_ret pe_non))
  pss_nil)
  (pss_cons (ps_set (i := 6) sc_groups_within.nd rfl (by first | exact Or.inl rfl | exact Or.inr rfl) (G_group_end.call (hr.mono (by omega)) (by rfl) (pa_cons (pv 0) (pa_cons (pv 1) pa_nil))))
  (pss_cons (ps_expr (pe_bmK (K := K) rfl PySem.F.plainAttrs_list PySem.F.slot_list_append PySem.F.type_list_append mt_append (pv 4) (pa_cons (pe_tup (pa_cons (pv 1) (pa_cons (pv 6) pa_nil))) pa_nil)))
  (pss_one (ps_set (i := 1) sc_groups_within.nd rfl (by first | exact Or.inl rfl | exact Or.inr rfl) (pe_op op_addL (pv 6) pe_int)))))))
  (pss_one (ps_ret (pv 4))))), ?_⟩
    rw [show start ["tokens", "at", "hi", "count", "pairs", "_", "end"] [.ref a, .int at1, .int hi, .int cnt] = [some (.ref a), some (.int at1), some (.int hi), some (.int cnt), none, none, none] from rfl]
    obtain ⟨rs, ts, ht, n, c, rfl, rfl, rfl, hn, hc, hall, q⟩ := h
    have hlen := ht.len
    have hb := ht.2.2.1
    walk_at "go"
    intro f hf
    walk_at "go"
    refine ⟨by omega, ?_⟩
    refine loopR (PvWi H a f n c ts (fun z => [some (V.ref a), some (V.int z), some (V.int (ts.length : Int)), some (V.int (c : Int))])) ⟨Ex.refl.new hf, [], [], n, _, _, rfl, upd_same, ⟨rfl, fun i x pr h => by simp at h⟩, rfl, hn, rfl⟩ ?_ ?_
    · rintro i σ' H' hi ⟨he, ps, vs, at1, v5, v6, rfl, hf', hps, hpl, hat, e⟩
      have hic : i < c := by omega
      rw [bh_step hic] at e
      have ht' := ht.ex he
      have hta := ht'.1
      walk_at "go"
      refine ite2 (fun hge => ?_) (fun hge => ?_)
      · have h1 : ts[at1]? = none := List.getElem?_eq_none (by omega)
        rw [h1] at e
        walk_at "go"
        exact q _ _ he (by rw [e]; rfl)
      · have hat2 : at1 < ts.length := by omega
        rw [List.getElem?_eq_getElem hat2] at e
        obtain ⟨r, hr, hr2, hr3⟩ := ht'.tok hat2
        refine Wp.ixal hta (atI_int (n := at1) (by omega) hr2) ?_
        walk_at "go"
        refine ite2 (fun ho => ?_) (fun ho => ?_)
        · have e' : bh ts c [] n = none := by rw [e]; exact if_neg ho
          walk_at "go"
          exact q _ _ he (by rw [e']; rfl)
        · have ho' : ts[at1].k = "open" := Decidable.not_not.mp ho
          obtain ⟨j, hj, hjl⟩ := hall.ends hat2 ho'
          have e' : bh ts c [] n = bh ts (c - (i + 1)) (ps ++ [(at1, j)]) (j + 1) := by
            rw [e]
            show (if ts[at1].k = "open" then _ else none) = _
            rw [if_pos ho', hj]
          walk_at "go"
          refine ⟨_, _, rfl, rs, ts, ht', at1, j, rfl, hat2, (fun t h => by rw [List.getElem?_eq_getElem hat2] at h; cases h; exact ho'), hj, ?_⟩
          walk_at "go"
          intro b hbn
          have hf2 := u_ne (o := HO.tup [V.int (at1 : Int), V.int (j : Int)]) (ne_of_none hf' hbn) hf'
          refine Wp.apd hf2 (sz_lt (by rw [hps.1]; omega)) ?_
          walk_at "go"
          refine ⟨(he.new hbn).mut hf, ps ++ [(at1, j)], vs ++ [V.ref b], j + 1, _, _, rfl, upd_same, ((hps.ex (Ex.refl.new hbn)).app upd_same).mut ⟨_, hf2⟩, by rw [List.length_append, hpl]; rfl, by omega, e'⟩
    · rintro σ' H' ⟨he, ps, vs, at1, v5, v6, rfl, hf', hps, hpl, hat, e⟩
      walk_at "go"
      refine q _ _ he ?_
      rw [e, show c - ((c : Int)).toNat = 0 by omega]
      exact ⟨f, vs, rfl, hf, hf', hps, by omega⟩
theorem ok_groups_behind {f : Addr} {fd : FuncData} (F : Fun K "groups_behind" "groups_behind" s_groups_behind f fd) (T : Txt mg) (G_groups_within : Def P w K mg base 2 "groups_within" ["tokens", "at", "hi", "count"] (spWithin)) : FnOk P w K mg base CX0 3 f fd ["tokens", "at", "count"] (spBehind) := by
  refine F.ok sc_groups_behind (fun vs H Q E h => ?_) (fun cdv A outer s H vs Q E hr h => ?_)
  · obtain ⟨a, at1, cnt, rfl, _⟩ := h
    rfl
  · obtain ⟨a, at1, cnt, rfl, h⟩ := h
    refine ⟨_, (pss_one (ps_ret (G_groups_within.call (hr.mono (by omega)) (by rfl) (pa_cons (pv 0) (pa_cons (pv 1) (pa_cons (pe_callB (c_lenK (K := K) rfl) (by rfl) T.n_len (by decide +kernel) (pa_cons (pv 0) pa_nil)) (pa_cons (pv 2) pa_nil))))))), ?_⟩
    rw [show start ["tokens", "at", "count"] [.ref a, .int at1, .int cnt] = [some (.ref a), some (.int at1), some (.int cnt)] from rfl]
    obtain ⟨rs, ts, ht, n, c, rfl, rfl, hn, hc, hall, q⟩ := h
    have hta := ht.1
    have hlen := ht.len
    walk_at "go"
    refine ⟨_, _, _, _, rfl, rs, ts, ht, n, c, rfl, hlen, rfl, hn, hc, hall, q⟩
theorem ok_law_behind {f : Addr} {fd : FuncData} (F : Fun K "_law_behind" "_law_behind" s_law_behind f fd) (T : Txt mg) (G_law_end : Def P w K mg base 1 "_law_end" ["tokens", "at"] (spEnd)) : FnOk P w K mg base CX0 2 f fd ["tokens", "at", "count"] (spBehind) := by
  refine F.ok sc_law_behind (fun vs H Q E h => ?_) (fun cdv A outer s H vs Q E hr h => ?_)
  · obtain ⟨a, at1, cnt, rfl, _⟩ := h
    rfl
  · obtain ⟨a, at1, cnt, rfl, h⟩ := h
    refine ⟨_, (pss_cons (ps_set (i := 3) sc_law_behind.nd rfl (by first | exact Or.inl rfl | exact Or.inr rfl) (pe_lst pa_nil))
  (pss_cons (ps_for PassesOwn.never rfl (pi_range1 (by rfl) T.n_range (pa_cons (pv 2) pa_nil)) (pg_name (i := 4) sc_law_behind.nd rfl (by first | exact Or.inl rfl | exact Or.inr rfl))
  (pss_cons (ps_if (PW.pt (pw_or (pt_cmpR op_eq (pv 1) (pe_callB (c_lenK (K := K) rfl) (by rfl) T.n_len (by decide +kernel) (pa_cons (pv 0) pa_nil)) (nomark _)) (pw_or1 (pt_cmpR op_ne (pe_ix (ixA (K := K) rfl) (pe_ix (ixA (K := K) rfl) (pv 0) (pv 1) (fun _ _ => rfl)) pe_int (fun _ _ => rfl)) pe_str (nomark _)))))
  (pss_one (ps_ret pe_non))
  pss_nil)
  (pss_cons (ps_set (i := 5) sc_law_behind.nd rfl (by first | exact Or.inl rfl | exact Or.inr rfl) (G_law_end.call (hr.mono (by omega)) (by rfl) (pa_cons (pv 0) (pa_cons (pv 1) pa_nil))))
  (pss_cons (ps_expr (pe_bmK (K := K) rfl PySem.F.plainAttrs_list PySem.F.slot_list_append PySem.F.type_list_append mt_append (pv 3) (pa_cons (pe_tup (pa_cons (pv 1) (pa_cons (pv 5) pa_nil))) pa_nil)))
  (pss_one (ps_set (i := 1) sc_law_behind.nd rfl (by first | exact Or.inl rfl | exact Or.inr rfl) (pe_op op_addL (pv 5) pe_int)))))))
  (pss_one (ps_ret (pv 3))))), ?_⟩
    rw [show start ["tokens", "at", "count", "found", "k", "stop"] [.ref a, .int at1, .int cnt] = [some (.ref a), some (.int at1), some (.int cnt), none, none, none] from rfl]
    obtain ⟨rs, ts, ht, n, c, rfl, rfl, hn, hc, hall, q⟩ := h
    have hlen := ht.len
    have hb := ht.2.2.1
    walk_at "go"
    intro f hf
    walk_at "go"
    refine ⟨by omega, ?_⟩
    refine loopR (PvWi H a f n c ts (fun z => [some (V.ref a), some (V.int z), some (V.int (c : Int))])) ⟨Ex.refl.new hf, [], [], n, _, _, rfl, upd_same, ⟨rfl, fun i x pr h => by simp at h⟩, rfl, hn, rfl⟩ ?_ ?_
    · rintro i σ' H' hi ⟨he, ps, vs, at1, v5, v6, rfl, hf', hps, hpl, hat, e⟩
      have hic : i < c := by omega
      rw [bh_step hic] at e
      have ht' := ht.ex he
      have hta := ht'.1
      walk_at "go"
      refine ite2 (fun hge => ?_) (fun hge => ?_)
      · have h1 : ts[at1]? = none := List.getElem?_eq_none (by omega)
        rw [h1] at e
        walk_at "go"
        exact q _ _ he (by rw [e]; rfl)
      · have hat2 : at1 < ts.length := by omega
        rw [List.getElem?_eq_getElem hat2] at e
        obtain ⟨r, hr, hr2, hr3⟩ := ht'.tok hat2
        refine Wp.ixal hta (atI_int (n := at1) (by omega) hr2) ?_
        walk_at "go"
        refine ite2 (fun ho => ?_) (fun ho => ?_)
        · have e' : bh ts c [] n = none := by rw [e]; exact if_neg ho
          walk_at "go"
          exact q _ _ he (by rw [e']; rfl)
        · have ho' : ts[at1].k = "open" := Decidable.not_not.mp ho
          obtain ⟨j, hj, hjl⟩ := hall.ends hat2 ho'
          have e' : bh ts c [] n = bh ts (c - (i + 1)) (ps ++ [(at1, j)]) (j + 1) := by
            rw [e]
            show (if ts[at1].k = "open" then _ else none) = _
            rw [if_pos ho', hj]
          walk_at "go"
          refine ⟨_, _, rfl, rs, ts, ht', at1, rfl, by omega, ?_⟩
          rw [hj]
          unfold optV
          walk_at "go"
          intro b hbn
          have hf2 := u_ne (o := HO.tup [V.int (at1 : Int), V.int (j : Int)]) (ne_of_none hf' hbn) hf'
          refine Wp.apd hf2 (sz_lt (by rw [hps.1]; omega)) ?_
          walk_at "go"
          refine ⟨(he.new hbn).mut hf, ps ++ [(at1, j)], vs ++ [V.ref b], j + 1, _, _, rfl, upd_same, ((hps.ex (Ex.refl.new hbn)).app upd_same).mut ⟨_, hf2⟩, by rw [List.length_append, hpl]; rfl, by omega, e'⟩
    · rintro σ' H' ⟨he, ps, vs, at1, v5, v6, rfl, hf', hps, hpl, hat, e⟩
      walk_at "go"
      refine q _ _ he ?_
      rw [e, show c - ((c : Int)).toNat = 0 by omega]
      exact ⟨f, vs, rfl, hf, hf', hps, by omega⟩
end
end K02
namespace K02
open PySem L2 Wp

abbrev s_binit : Stmt := inClass (top 2) 0
theorem sc_binit : FnScope ["self", "line", "column", "what"] ["self", "line", "column", "what"] (defScope s_binit) := ⟨rfl, rfl, rfl, by decide +kernel, rfl, by decide +kernel, by decide +kernel⟩
structure ErrT (K : PySem.W.Frag) (mg : Str → Option Value) (CB CG CT : Addr) : Prop where
  ox : OexC K CB
  n1 : PySem.W.findIn K (.ref CB) "line" = some none
  n2 : PySem.W.findIn K (.ref CB) "column" = some none
  n3 : PySem.W.findIn K (.ref CB) "what" = some none
  gB : mg "BadText" = some (.ref CB)
  gG : mg "GalleyError" = some (.ref CG)
  gT : mg "TooLong" = some (.ref CT)
  ec : ExcC K CB
  xf : XfC K CB
  te : PySem.W.exmOne K (.ref CB) (.ref CB) = some true
  kG : PySem.W.kitOne K (.ref CB) (.ref CG) = some true
  kV : PySem.W.kitOne K (.ref CB) (.type "ValueError") = some true
  kT : PySem.W.kitOne K (.ref CB) (.ref CT) = some false
def fsB (x y z : V) : List (Str × V) := [("what", z), ("column", y), ("line", x)]
theorem fsB_line (x y z : V) : (fsB x y z).lookup ("line" : Str) = some x := by
  have h1 : (("line" : Str) == "what") = false := by decide +kernel
  have h2 : (("line" : Str) == "column") = false := by decide +kernel
  have h3 : (("line" : Str) == "line") = true := by decide +kernel
  simp only [fsB, List.lookup, h1, h2, h3]
theorem fsB_column (x y z : V) : (fsB x y z).lookup ("column" : Str) = some y := by
  have h1 : (("column" : Str) == "what") = false := by decide +kernel
  have h3 : (("column" : Str) == "column") = true := by decide +kernel
  simp only [fsB, List.lookup, h1, h3]
theorem fsB_what (x y z : V) : (fsB x y z).lookup ("what" : Str) = some z := by
  have h3 : (("what" : Str) == "what") = true := by decide +kernel
  simp only [fsB, List.lookup, h3]
def spB (C : Addr) : Sp := fun vs H Q _ => ∃ (a : Addr) (x y z : V), vs = [.ref a, x, y, z] ∧ (H a = some (exo a C none) ∧ ∀ d H', H d = none → d ≠ a → H' a = some (exo a C (some d)) → H' d = some (exd d (fsB x y z)) → (∀ b, b ≠ a → b ≠ d → H' b = H b) → Q .non H')
def spCheck (CB : Addr) : Sp := fun vs H Q E => ∃ (a : Addr), vs = [.ref a] ∧ ∃ rs ts, ToksAt H a rs ts ∧ (wrongF ts = none → ∀ H', Ex H H' → Q (.bl true) H') ∧
  ∀ (k : Nat) (w : Str) (t : Tk) (d : Addr) (H' : Hp), wrongF ts = some (k, w) → ts[k]? = some t → Ex H H' → H' d = some (.xd (fsB (.int t.l) (.int t.c) (.str w))) → E (.ref CB) (some d) H'
def PvChk (H : Hp) (a f : Addr) (rs : List Addr) (ts : List Tk) : Nat → L2.St → Hp → Prop := fun i σ' H' => Ex H H' ∧ ∃ st v, σ' = [some (V.ref a), some (V.ref f), v] ∧ H' f = some (.lst (st.map fun k => V.ref (rs.getD k 0))) ∧
  scanF ts 0 0 = scanF (ts.drop i) i (st.length : Int) ∧ fin ts 0 [] = fin (ts.drop i) i st ∧ (∀ k, k ∈ st → k < i) ∧ st.length ≤ i

theorem mk_out {CB : Addr} {H1 : Hp} {E : XK} {x y z : V} (h : ∀ d H', Ex H1 H' → H' d = some (.xd (fsB x y z)) → E (.ref CB) (some d) H') : rMk CB (spB CB) [x, y, z] H1 (fun cls d H' => E cls d H') := by
  refine ⟨by simp, fun a ha => ⟨a, x, y, z, rfl, upd_same, fun d H' hd hne h1 h2 h3 => ?_⟩⟩
  have hd1 : H1 d = none := by rw [upd_ne hne] at hd; exact hd
  refine ⟨rfl, d, _, h1, h2, hd1, h d _ (fun b o e => ?_) upd_same⟩
  have n1 := ne_of_none e ha
  have n2 := ne_of_none e hd1
  rw [upd_ne n2, del_ne n1, h3 b n1 n2, upd_ne n1]
  exact e
theorem getD_of {rs : List Addr} {i : Nat} {r : Addr} (h : rs[i]? = some r) : rs.getD i 0 = r := by
  rw [List.getD_eq_getElem?_getD, h]
  rfl
section
variable {P : Program} {w : World} {K : PySem.W.Frag} {mg : Str → Option Value} {base : Heap}
theorem ok_binit {f CB CG CT : Addr} {fd : FuncData} (F : Fun K "__init__" "BadText.__init__" s_binit f fd) (T : ErrT K mg CB CG CT) : FnOk P w K mg base CX0 1 f fd ["self", "line", "column", "what"] (spB CB) := by
  refine F.ok sc_binit (fun vs H Q E h => ?_) (fun cdv A outer s H vs Q E hr h => ?_)
  · obtain ⟨a, x, y, z, rfl, _⟩ := h
    rfl
  · obtain ⟨a, x, y, z, rfl, ha, k⟩ := h
    refine ⟨_, (pss_cons (ps_ostK (K := K) rfl (pv 0) (pv 1)) (pss_cons (ps_ostK (K := K) rfl (pv 0) (pv 2)) (pss_one (ps_ostK (K := K) rfl (pv 0) (pv 3))))), ?_⟩
    rw [show start ["self", "line", "column", "what"] [.ref a, x, y, z] = [some (.ref a), some x, some y, some z] from rfl]
    walk_at "wp"
    refine ⟨a, CB, rfl, T.ox, T.n1, .inl ⟨ha, fun d hd hne => ?_⟩⟩
    walk_at "wp"
    refine ⟨a, CB, rfl, T.ox, T.n2, .inr ⟨d, _, upd_same, u_ne hne upd_same, by simp, ?_⟩⟩
    walk_at "wp"
    refine ⟨a, CB, rfl, T.ox, T.n3, .inr ⟨d, _, u_ne (Ne.symm hne) upd_same, upd_same, by simp, ?_⟩⟩
    walk_at "wp"
    refine k d _ hd hne (u_ne (Ne.symm hne) upd_same) upd_same fun b h1 h2 => ?_
    rw [upd_ne h2, upd_ne h1, upd_ne h2]
theorem ok_check_braces {f CB CG CT fI : Addr} {fd fdI : FuncData} (F : Fun K "check_braces" "check_braces" s_check_braces f fd) (T : Txt mg) (ET : ErrT K mg CB CG CT) (iC : PySem.W.findIn K (.ref CB) "__init__" = some (some (.ref fI))) (tI : PySem.W.typeIn K (.ref fI) = some (.type "function"))
    (FI : FnOk P w K mg base CX0 1 fI fdI ["self", "line", "column", "what"] (spB CB)) (bI : Binds K fdI ["self", "line", "column", "what"] []) : FnOk P w K mg base (L2.CX P w) 3 f fd ["tokens"] (spCheck CB) := by
  refine F.okX sc_check_braces (fun vs H Q E h => ?_) (fun cdv A outer s H vs Q E hr h => ?_)
  · obtain ⟨a, rfl, _⟩ := h
    rfl
  · obtain ⟨a, rfl, rs, ts, ht, kq, ke⟩ := h
    refine ⟨_, (pss_cons (ps_set (i := 1) sc_check_braces.nd rfl (by first | exact Or.inl rfl | exact Or.inr rfl) (pe_lst pa_nil))
  (pss_cons (ps_for (passes_of rfl) rfl (pi_listK (K := K) rfl (pv 0)) (pg_name (i := 2) sc_check_braces.nd rfl (by first | exact Or.inl rfl | exact Or.inr rfl))
    (pss_one (ps_if (pt_cmpR op_eq (pe_ix (ixA (K := K) rfl) (pv 2) pe_int (fun _ _ => rfl)) pe_str (nomark _)) (pss_cons (ps_if (pt_cmpR op_eq (pe_callB (c_lenK (K := K) rfl) (by rfl) T.n_len (by decide +kernel) (pa_cons (pv 1) pa_nil)) (pe_gint T.g_DEPTH_LIMIT (by rfl)) (nomark _)) (pss_one (ps_raise rfl (takes_of rfl rfl rfl rfl) (pmk_oex ET.ox iC tI FI (hr.mono (by omega)) bI .nil pass0 (by rfl) ET.gB (pa_cons (pe_ix (ixA (K := K) rfl) (pv 2) pe_int (fun _ _ => rfl)) (pa_cons (pe_ix (ixA (K := K) rfl) (pv 2) pe_int (fun _ _ => rfl)) (pa_cons pe_str pa_nil)))))) pss_nil) (pss_one (ps_expr (pe_bmK (K := K) rfl PySem.F.plainAttrs_list PySem.F.slot_list_append PySem.F.type_list_append mt_append (pv 1) (pa_cons (pv 2) pa_nil)))))
      (pss_one (ps_if (pt_cmpR op_eq (pe_ix (ixA (K := K) rfl) (pv 2) pe_int (fun _ _ => rfl)) pe_str (nomark _)) (pss_cons (ps_if (pt_not (pt_tru (K := K) rfl (pv 1))) (pss_one (ps_raise rfl (takes_of rfl rfl rfl rfl) (pmk_oex ET.ox iC tI FI (hr.mono (by omega)) bI .nil pass0 (by rfl) ET.gB (pa_cons (pe_ix (ixA (K := K) rfl) (pv 2) pe_int (fun _ _ => rfl)) (pa_cons (pe_ix (ixA (K := K) rfl) (pv 2) pe_int (fun _ _ => rfl)) (pa_cons pe_str pa_nil)))))) pss_nil) (pss_one (ps_expr (pe_bm0K (K := K) rfl PySem.F.plainAttrs_list PySem.F.slot_list_pop PySem.F.type_list_pop mt_pop (pv 1))))) pss_nil)))))
  (pss_cons (ps_if (pt_tru (K := K) rfl (pv 1)) (pss_one (ps_raise rfl (takes_of rfl rfl rfl rfl) (pmk_oex ET.ox iC tI FI (hr.mono (by omega)) bI .nil pass0 (by rfl) ET.gB (pa_cons (pe_ix (ixA (K := K) rfl) (pe_ix (ixA (K := K) rfl) (pv 1) pe_int (fun _ _ => rfl)) pe_int (fun _ _ => rfl)) (pa_cons (pe_ix (ixA (K := K) rfl) (pe_ix (ixA (K := K) rfl) (pv 1) pe_int (fun _ _ => rfl)) pe_int (fun _ _ => rfl)) (pa_cons pe_str pa_nil)))))) pss_nil) (pss_one (ps_ret pe_bl))))), ?_⟩
    rw [show start ["tokens", "begun", "token"] [.ref a] = [some (.ref a), none, none] from rfl]
    have hlen := ht.len
    have hbd := ht.2.2.1
    walk_at "go"
    intro f hf
    have hta := u_ne (o := HO.lst []) (ne_of_none ht.1 hf) ht.1
    walk_at "go"
    refine loopL (rs.map V.ref) (PvChk H a f rs ts) ⟨Ex.refl.new hf, [], none, rfl, upd_same, rfl, rfl, fun k h => (by cases h), Nat.le_refl _⟩ (fun i σ' H' hi p => SqL.of (ht.ex p.1).1) ?_ ?_
    · rintro i x σ' H' hx ⟨he, st, v, rfl, hb, es, ef, hk, hsl⟩
      have hi2 : i < ts.length := by
        have := (List.getElem?_eq_some_iff.mp hx).1
        omega
      obtain ⟨r, hr, hr2, hr3⟩ := (ht.ex he).tok hi2
      have hxr : x = V.ref r := Option.some.inj (hx.symm.trans hr2)
      subst hxr
      rw [List.drop_eq_getElem_cons hi2] at es ef
      have es2 : scanF ts 0 0 = if ts[i].k = "shut" ∧ (st.length : Int) = 0 then some (i, ("shut" : Str)) else if ts[i].k = "open" ∧ (st.length : Int) = 12 then some (i, ("depth" : Str)) else scanF (ts.drop (i + 1)) (i + 1) (step (st.length : Int) ts[i]) := es
      have ef2 : fin ts 0 [] = fin (ts.drop (i + 1)) (i + 1) (if ts[i].k = "open" then st ++ [i] else if ts[i].k = "shut" then st.dropLast else st) := ef
      have gd := getD_of hr
      have out1 : ∀ s, scanF ts 0 0 = some (i, s) → rMk CB (spB CB) [V.int ts[i].l, V.int ts[i].c, V.str s] H' (fun cls d H' => E cls d H') := fun s h => mk_out fun d H2 e2 hd2 => by
        refine ke i s ts[i] d H2 ?_ (List.getElem?_eq_getElem hi2) (he.trans e2) hd2
        unfold wrongF
        rw [h]
      walk_at "go"
      refine ite2 (fun ho => ?_) (fun ho => ?_)
      · rw [if_neg (fun z => os_ne (ho.symm.trans z.1))] at es2
        rw [if_pos ho] at ef2
        walk_at "go"
        refine ite2 (fun hd => ?_) (fun hd => ?_)
        · rw [List.length_map] at hd
          rw [if_pos ⟨ho, hd⟩] at es2
          walk_at "go"
          exact (out1 _ es2).2
        · rw [List.length_map] at hd
          rw [if_neg (fun z => hd z.2), step_o ho] at es2
          walk_at "go"
          refine ⟨he.mut hf, st ++ [i], _, rfl, ?_, ?_, ef2, ?_, by rw [List.length_append]; simp; omega⟩
          · rw [List.map_append, List.map_singleton, gd]
            exact upd_same
          · rw [es2, List.length_append]
            rfl
          · intro k hk2
            rcases List.mem_append.mp hk2 with h | h
            · have := hk k h; omega
            · rw [List.mem_singleton.mp h]; omega
      · rw [if_neg ho] at ef2
        walk_at "go"
        refine ite2 (fun hs => ?_) (fun hs => ?_)
        · rw [if_pos hs] at ef2
          walk_at "go"
          cases hst : st with
          | nil =>
            subst hst
            rw [if_pos ⟨hs, rfl⟩] at es2
            refine ite_t rfl ?_
            walk_at "go"
            exact (out1 _ es2).2
          | cons k0 st' =>
            have hne : st ≠ [] := by rw [hst]; simp
            rw [← hst]
            rw [if_neg (fun z => by rw [hst] at z; have := z.2; rw [List.length_cons] at this; omega), if_neg (fun z => ho z.1), step_s hs] at es2
            refine ite_f (by rw [hst]; simp) ?_
            walk_at "go"
            have hlast : (st.map fun k => V.ref (rs.getD k 0))[(st.map fun k => V.ref (rs.getD k 0)).length - 1]? = some (V.ref (rs.getD (st.getLast hne) 0)) := by
              rw [List.length_map, List.getElem?_map, ← List.getLast?_eq_getElem?, List.getLast?_eq_some_getLast hne]
              rfl
            refine Wp.popd hb hlast ?_
            walk_at "go"
            refine ⟨he.mut hf, st.dropLast, _, rfl, ?_, ?_, ef2, fun k h => ?_, by rw [List.length_dropLast]; omega⟩
            · rw [← List.map_dropLast]
              exact upd_same
            · rw [es2, List.length_dropLast]
              have : 0 < st.length := List.length_pos_iff.mpr hne
              rw [show ((st.length - 1 : Nat) : Int) = (st.length : Int) - 1 by omega]
            · have := hk k (dl_mem h); omega
        · rw [if_neg hs] at ef2
          rw [if_neg (fun z => hs z.1), if_neg (fun z => ho z.1), step_x ho hs] at es2
          exact ⟨he, st, _, rfl, hb, es2, ef2, fun k h => (by have := hk k h; omega), by omega⟩
    · rintro σ' H' ⟨he, st, v, rfl, hb, es, ef, hk, hsl⟩
      have hll : (rs.map V.ref).length = ts.length := by omega
      rw [hll, List.drop_length] at es ef
      have en : scanF ts 0 0 = none := es
      have fn : fin ts 0 [] = st := ef
      have ho := openF_is ts
      rw [fn] at ho
      walk_at "go"
      cases hst : st with
      | nil =>
        subst hst
        refine ite_f (by simp) ?_
        walk_at "go"
        refine kq ?_ _ he
        unfold wrongF
        rw [en, ho]
        rfl
      | cons k0 st' =>
        subst hst
        have hk0 : k0 < ts.length := by have := hk k0 (List.mem_cons_self ..); omega
        obtain ⟨r, hr, hr2, hr3⟩ := (ht.ex he).tok hk0
        have gd := getD_of hr
        rw [List.map_cons, gd] at hb
        refine ite_t (by simp) ?_
        walk_at "go"
        refine Wp.ixal hb (atI_nat (j := 0) rfl) ?_
        walk_at "go"
        refine Wp.ixal hb (atI_nat (j := 0) rfl) ?_
        walk_at "go"
        exact (mk_out fun d H2 e2 hd2 => ke k0 _ ts[k0] d H2 (by unfold wrongF; rw [en, ho]; rfl) (List.getElem?_eq_getElem hk0) (he.trans e2) hd2).2
end
end K02
namespace K02
open PySem L2 Wp

def tokDat (t : Tk) : Dat := .tup [.str t.k, .str t.v, .int t.l, .int t.c]
theorem rep_tok {H : Hp} {r : Addr} {t : Tk} (h : H r = some (.tup t.vs)) : Rep H 1 (.ref r) (tokDat t) := by
  simp only [tokDat, Rep]
  refine ⟨r, t.vs, rfl, h, rfl, (by show 4 < _; decide), fun i x d h1 h2 => ?_⟩
  match i, h1, h2 with
  | 0, h1, h2 => cases h1; cases h2; simp only [Rep]
  | 1, h1, h2 => cases h1; cases h2; simp only [Rep]
  | 2, h1, h2 => cases h1; cases h2; simp only [Rep]
  | 3, h1, h2 => cases h1; cases h2; simp only [Rep]
  | (n + 4), h1, h2 => simp [Tk.vs] at h1
theorem ToksAt.rep {H : Hp} {a : Addr} {rs : List Addr} {ts : List Tk} (h : ToksAt H a rs ts) : Rep H 2 (.ref a) (.lst (ts.map tokDat)) := by
  simp only [Rep]
  refine ⟨a, rs.map V.ref, rfl, h.1, by rw [List.length_map, List.length_map, h.2.1], by rw [List.length_map, h.2.1]; have := h.2.2.1; omega, fun i x d h1 h2 => ?_⟩
  rw [List.getElem?_map] at h1 h2
  cases e1 : rs[i]? with
  | none => rw [e1] at h1; cases h1
  | some r =>
    cases e2 : ts[i]? with
    | none => rw [e2] at h2; cases h2
    | some t =>
      rw [e1] at h1
      rw [e2] at h2
      cases h1
      cases h2
      exact rep_tok (h.2.2.2 i r t e1 e2)
theorem rep_three {H : Hp} {p : Addr} {l c : Int} {w : Str} (h : H p = some (.tup [.int l, .int c, .str w])) : Rep H 2 (.ref p) (.tup [.int l, .int c, .str w]) := by
  simp only [Rep]
  refine ⟨p, _, rfl, h, rfl, (by show 3 < _; decide), fun i x d h1 h2 => ?_⟩
  match i, h1, h2 with
  | 0, h1, h2 => cases h1; cases h2; simp only [Rep]
  | 1, h1, h2 => cases h1; cases h2; simp only [Rep]
  | 2, h1, h2 => cases h1; cases h2; simp only [Rep]
  | (n + 3), h1, h2 => simp at h1
def spChecked : Sp := fun vs H Q _ => ∃ (a : Addr) (w : V), vs = [.ref a, w] ∧ ∃ rs ts, ToksAt H a rs ts ∧ WrV H w (wrongF ts) ∧ ∀ H', Ex H H' → Q (.bl true) H'
theorem wrong_in {ts : List Tk} {k : Nat} {w : Str} (h : wrongF ts = some (k, w)) : k < ts.length := by
  have sc : ∀ (r : List Tk) (i : Nat) (d : Int) (k : Nat) (w : Str), scanF r i d = some (k, w) → k < i + r.length := by
    intro r
    induction r with
    | nil => intro i d k w h; cases h
    | cons t r ih =>
      intro i d k w h
      unfold scanF at h
      rw [List.length_cons]
      split at h
      · cases h; omega
      · split at h
        · cases h; omega
        · have := ih _ _ _ _ h
          omega
  unfold wrongF at h
  split at h
  · rename_i x hx
    cases h
    have := sc _ _ _ _ _ hx
    omega
  · cases e : openF ts with
    | none => rw [e] at h; cases h
    | some j =>
      rw [e] at h
      cases h
      unfold openF at e
      have := List.mem_of_find?_eq_some e
      exact List.mem_range.mp this
section
variable {P : Program} {w : World} {K : PySem.W.Frag} {mg : Str → Option Value} {base : Heap}
theorem ok_law_checked {f : Addr} {fd : FuncData} (F : Fun K "_law_checked" "_law_checked" s_law_checked f fd) (T : Txt mg) {CB CG CT : Addr} (ET : ErrT K mg CB CG CT) (vE : mg "ValueError" = none) (GX : Wq.DefX P w K mg base 3 "check_braces" ["tokens"] (spCheck CB)) (G_law_same : Def P w K mg base 3 "_law_same" ["got", "due"] (spSame 2)) : FnOk P w K mg base CX0 4 f fd ["tokens", "wrong"] (spChecked) := by
  refine F.ok sc_law_checked (fun vs H Q E h => ?_) (fun cdv A outer s H vs Q E hr h => ?_)
  · obtain ⟨a, wv, rfl, _⟩ := h
    rfl
  · obtain ⟨a, wv, rfl, h⟩ := h
    refine ⟨_, (pss_cons (ps_set (i := 2) sc_law_checked.nd rfl (by first | exact Or.inl rfl | exact Or.inr rfl) (pe_callTy (c_listK (K := K) rfl) (by rfl) T.n_list (by decide +kernel) (pa_cons (pv 0) pa_nil)))
  (pss_cons (ps_set (i := 3) sc_law_checked.nd rfl (by first | exact Or.inl rfl | exact Or.inr rfl) pe_non)
  (pss_cons (ps_set (i := 4) sc_law_checked.nd rfl (by first | exact Or.inl rfl | exact Or.inr rfl) pe_non)
  (pss_cons (ps_set (i := 5) sc_law_checked.nd rfl (by first | exact Or.inl rfl | exact Or.inr rfl) pe_bl)
  (pss_cons (ps_try_as (i := 6) (Wout := fun _ _ _ _ => False) rfl rfl sc_law_checked.nd rfl rfl ⟨rfl, by decide, Or.inl ET.gB⟩ takes0
   (fun W pn xe tk _ => pss_one (ps_set (i := 3) sc_law_checked.nd rfl (by first | exact Or.inl rfl | exact Or.inr rfl) (by exact (GX.callS (hr.mono (by omega)) (by rfl) tk (by exact (pa_cons (pv 2) pa_nil))))))
   (fun a oe cls d pn hz hf => (pss_cons (ps_set (i := 4) sc_law_checked.nd rfl (by first | exact Or.inl rfl | exact Or.inr rfl) (pe_tup (pa_cons (pe_xf ET.xf ET.n1 hz hf (pv 6)) (pa_cons (pe_xf ET.xf ET.n2 hz hf (pv 6)) (pa_cons (pe_xf ET.xf ET.n3 hz hf (pv 6)) pa_nil)))))
   (pss_one (ps_set (i := 5) sc_law_checked.nd rfl (by first | exact Or.inl rfl | exact Or.inr rfl) (pe_and (pe_callB (Wq.call_isG (K := K) rfl ET.ec hz hf) (by rfl) T.n_isinstance (by decide +kernel) (pa_cons (pv 6) (pa_cons (pe_glob (v := .ref CG) (by rfl) ET.gG rfl) pa_nil))) (pe_and (pe_callB (Wq.call_isG (K := K) rfl ET.ec hz hf) (by rfl) T.n_isinstance (by decide +kernel) (pa_cons (pv 6) (pa_cons (pe_bltn (v := .ty "ValueError") (by rfl) vE (by decide +kernel) rfl) pa_nil))) (pe_one (pe_not (pe_callB (Wq.call_isG (K := K) rfl ET.ec hz hf) (by rfl) T.n_isinstance (by decide +kernel) (pa_cons (pv 6) (pa_cons (pe_glob (v := .ref CT) (by rfl) ET.gT rfl) pa_nil))))))))))))
  (pss_cons (ps_if (pt_not (pt_val (G_law_same.call (hr.mono (by omega)) (by rfl) (pa_cons (pv 2) (pa_cons (pv 0) pa_nil)))))
  (pss_one (ps_ret pe_bl))
  pss_nil)
  (pss_cons (ps_if (pt_cmpR o_isN (pv 1) pe_non (nomark _))
  (pss_one (ps_ret (pe_and (pe_cmpR o_isN (pv 4) pe_non (nomark _)) (pe_one (G_law_same.call (hr.mono (by omega)) (by rfl) (pa_cons (pv 3) (pa_cons pe_bl pa_nil)))))))
  pss_nil)
  (pss_cons (ps_set (i := 7) sc_law_checked.nd rfl (by first | exact Or.inl rfl | exact Or.inr rfl) (pe_tup (pa_cons (pe_ix (ixA (K := K) rfl) (pe_ix (ixA (K := K) rfl) (pv 0) (pe_ix (ixA (K := K) rfl) (pv 1) pe_int (fun _ _ => rfl)) (fun _ _ => rfl)) pe_int (fun _ _ => rfl)) (pa_cons (pe_ix (ixA (K := K) rfl) (pe_ix (ixA (K := K) rfl) (pv 0) (pe_ix (ixA (K := K) rfl) (pv 1) pe_int (fun _ _ => rfl)) (fun _ _ => rfl)) pe_int (fun _ _ => rfl)) (pa_cons (pe_ix (ixA (K := K) rfl) (pv 1) pe_int (fun _ _ => rfl)) pa_nil)))))
  (pss_one (ps_ret (pe_and (pe_cmpR o_notN (pv 4) pe_non (nomark _)) (pe_and (pv 5) (pe_one (G_law_same.call (hr.mono (by omega)) (by rfl) (pa_cons (pv 4) (pa_cons (pv 7) pa_nil)))))))))))))))), ?_⟩
    rw [show start ["tokens", "wrong", "handed", "told", "fields", "under", "e", "due"] [.ref a, wv] = [some (.ref a), some (wv), none, none, none, none, none, none] from rfl]
    obtain ⟨rs, ts, ht, hw, q⟩ := h
    walk_at "go"
    refine Wp.lists (SqL.of ht.1) fun h hh => ?_
    have ht1 : ToksAt (upd H h (HO.lst (rs.map V.ref))) a rs ts := ht.ex (Ex.refl.new hh)
    have hth : ToksAt (upd H h (HO.lst (rs.map V.ref))) h rs ts := ⟨upd_same, ht1.2⟩
    have he1 : Ex H (upd H h (HO.lst (rs.map V.ref))) := Ex.refl.new hh
    have hw1 : WrV (upd H h (HO.lst (rs.map V.ref))) wv (wrongF ts) := by
      cases e : wrongF ts with
      | none => rw [e] at hw; exact hw
      | some x =>
        rw [e] at hw
        obtain ⟨b, h1, h2⟩ := hw
        exact ⟨b, h1, he1 _ _ h2⟩
    generalize upd H h (HO.lst (rs.map V.ref)) = H1 at *
    walk_at "go"
    refine ⟨h, rfl, rs, ts, hth, fun hn H2 e2 => ?_, fun k w t d H2 hk ht2 e2 hd => ?_⟩
    · rw [hn] at hw1
      have hw2 : wv = .non := hw1
      subst hw2
      refine ⟨_, _, rfl, _, (hth.ex e2).rep, (ht1.ex e2).rep, ?_⟩
      walk_at "go"
      refine ⟨_, _, rfl, .bl true, by simp only [Rep], by simp only [Rep], ?_⟩
      exact q H2 (he1.trans e2)
    · refine ⟨true, ET.te, fun _ ea hea => ?_, fun z => Bool.noConfusion z⟩
      rw [hk] at hw1
      obtain ⟨b, rfl, hb⟩ := hw1
      have hkl := wrong_in hk
      have htk : ts[k] = t := by
        rw [List.getElem?_eq_getElem hkl] at ht2
        exact Option.some.inj ht2
      walk_at "wp"
      refine ⟨rfl, rfl, d, _, _, rfl, hd, fsB_line _ _ _, ?_⟩
      walk_at "wp"
      refine ⟨rfl, rfl, d, _, _, rfl, hd, fsB_column _ _ _, ?_⟩
      walk_at "wp"
      refine ⟨rfl, rfl, d, _, _, rfl, hd, fsB_what _ _ _, ?_⟩
      walk_at "go"
      intro p hp
      have hd3 := u_ne (o := HO.tup [V.int t.l, V.int t.c, V.str w]) (ne_of_none hd hp) hd
      have e3 : Ex H1 (upd H2 p (HO.tup [V.int t.l, V.int t.c, V.str w])) := e2.new hp
      have hp3 : upd H2 p (HO.tup [V.int t.l, V.int t.c, V.str w]) p = some (HO.tup [V.int t.l, V.int t.c, V.str w]) := upd_same
      generalize upd H2 p (HO.tup [V.int t.l, V.int t.c, V.str w]) = H3 at *
      walk_at "go"
      refine ⟨d, rfl, rfl, .ref CG, .ref CG, true, _, rfl, hd3, fun u r => r, ET.kG, ?_⟩
      walk_at "go"
      refine ⟨d, rfl, rfl, .ty "ValueError", .type "ValueError", true, _, rfl, hd3, fun u r => r, ET.kV, ?_⟩
      walk_at "go"
      refine ⟨d, rfl, rfl, .ref CT, .ref CT, false, _, rfl, hd3, fun u r => r, ET.kT, ?_⟩
      walk_at "go"
      have ht3 := ht1.ex e3
      refine ⟨_, _, rfl, _, (hth.ex e3).rep, ht3.rep, ?_⟩
      obtain ⟨r, hr, hr2, hr3⟩ := ht3.tok hkl
      rw [htk] at hr3
      have hb3 := e3 _ _ hb
      have ha3 := ht3.1
      walk_at "go"
      refine Wp.ixal ha3 (atI_nat hr2) ?_
      walk_at "go"
      refine Wp.ixal ha3 (atI_nat hr2) ?_
      walk_at "go"
      intro p2 hp2
      have e4 : Ex H3 (upd H3 p2 (HO.tup [V.int t.l, V.int t.c, V.str w])) := Ex.refl.new hp2
      have h4 : upd H3 p2 (HO.tup [V.int t.l, V.int t.c, V.str w]) p2 = some (HO.tup [V.int t.l, V.int t.c, V.str w]) := upd_same
      generalize upd H3 p2 (HO.tup [V.int t.l, V.int t.c, V.str w]) = H4 at *
      walk_at "go"
      refine ⟨_, _, rfl, _, rep_three (e4 _ _ hp3), rep_three h4, ?_⟩
      exact q H4 ((he1.trans e3).trans e4)
end
end K02
namespace K02
open PySem L2 Wp

def datB : Option (List (Nat × Nat)) → Dat
  | none => .non
  | some ps => .lst (ps.map fun pr => .tup [.int (pr.1 : Int), .int (pr.2 : Int)])
theorem rep_pair {H : Hp} {b : Addr} {x y : Int} (h : H b = some (.tup [.int x, .int y])) : Rep H 1 (.ref b) (.tup [.int x, .int y]) := by
  simp only [Rep]
  refine ⟨b, _, rfl, h, rfl, (by show 2 < _; decide), fun i x d h1 h2 => ?_⟩
  match i, h1, h2 with
  | 0, h1, h2 => cases h1; cases h2; simp only [Rep]
  | 1, h1, h2 => cases h1; cases h2; simp only [Rep]
  | (n + 2), h1, h2 => simp at h1
theorem RB.rep {H H' : Hp} {v : V} {o : Option (List (Nat × Nat))} (h : RB H H' v o) : Rep H' 2 v (datB o) := by
  cases o with
  | none => simp only [datB, Rep]; exact h
  | some ps =>
    obtain ⟨a, vs, rfl, _, h2, h3, h4⟩ := h
    simp only [datB, Rep]
    refine ⟨a, vs, rfl, h2, by rw [h3.1, List.length_map], by rw [h3.1]; omega, fun i x d h5 h6 => ?_⟩
    rw [List.getElem?_map] at h6
    cases e : ps[i]? with
    | none => rw [e] at h6; cases h6
    | some pr =>
      rw [e] at h6
      cases h6
      obtain ⟨b, rfl, hb⟩ := h3.2 i x pr h5 e
      exact rep_pair hb
def spFound : Sp := fun vs H Q _ => ∃ (a : Addr), vs = [.ref a] ∧ ∃ rs ts, ToksAt H a rs ts ∧ AllEnd ts ∧ ∀ H', Ex H H' → Q (.bl true) H'
def PvF1 (H1 : Hp) (a h : Addr) : Nat → L2.St → Hp → Prop := fun i σ' H' => Ex H1 H' ∧ ∃ v2 v3 v4 v5, σ' = [some (V.ref a), some (V.ref h), v2, v3, v4, v5]
def PvF2 (H2 : Hp) (a h : Addr) (n : Nat) : Nat → L2.St → Hp → Prop := fun i σ' H' => Ex H2 H' ∧ ∃ v3 v4 v5, σ' = [some (V.ref a), some (V.ref h), some (V.int (n : Int)), v3, v4, v5]
theorem allEnd_of {ts : List Tk} (h : wrongF ts = none) : AllEnd ts := by
  intro k
  unfold wrongF at h
  have ho : openF ts = none := by
    cases e : scanF ts 0 0 with
    | none =>
      rw [e] at h
      cases e2 : openF ts with
      | none => rfl
      | some j => rw [e2] at h; cases h
    | some x => rw [e] at h; cases h
  by_cases hk : k < ts.length
  · unfold openF at ho
    rw [List.find?_eq_none] at ho
    have := ho k (List.mem_range.mpr hk)
    cases e : bad ts k with
    | false => rfl
    | true => exact absurd e this
  · unfold bad
    rw [List.getElem?_eq_none (by omega)]
section
variable {P : Program} {w : World} {K : PySem.W.Frag} {mg : Str → Option Value} {base : Heap}
theorem ok_law_found {f : Addr} {fd : FuncData} (F : Fun K "_law_found" "_law_found" s_law_found f fd) (T : Txt mg) (G_group_end : Def P w K mg base 1 "group_end" ["tokens", "at"] (spGend)) (G_law_end : Def P w K mg base 1 "_law_end" ["tokens", "at"] (spEnd)) (G_law_behind : Def P w K mg base 2 "_law_behind" ["tokens", "at", "count"] (spBehind)) (G_groups_behind : Def P w K mg base 3 "groups_behind" ["tokens", "at", "count"] (spBehind)) (G_law_same : Def P w K mg base 3 "_law_same" ["got", "due"] (spSame 2)) : FnOk P w K mg base CX0 4 f fd ["tokens"] (spFound) := by
  refine F.ok sc_law_found (fun vs H Q E h => ?_) (fun cdv A outer s H vs Q E hr h => ?_)
  · obtain ⟨a, rfl, _⟩ := h
    rfl
  · obtain ⟨a, rfl, h⟩ := h
    refine ⟨_, (pss_cons (ps_set (i := 1) sc_law_found.nd rfl (by first | exact Or.inl rfl | exact Or.inr rfl) (pe_callTy (c_listK (K := K) rfl) (by rfl) T.n_list (by decide +kernel) (pa_cons (pv 0) pa_nil)))
  (pss_cons (ps_for PassesOwn.never rfl (pi_range1 (by rfl) T.n_range (pa_cons (pe_op op_addL (pe_callB (c_lenK (K := K) rfl) (by rfl) T.n_len (by decide +kernel) (pa_cons (pv 0) pa_nil)) pe_int) pa_nil)) (pg_name (i := 2) sc_law_found.nd rfl (by first | exact Or.inl rfl | exact Or.inr rfl))
  (pss_cons (ps_if (PW.pt (pw_and (pt_cmpR op_lt (pv 2) (pe_callB (c_lenK (K := K) rfl) (by rfl) T.n_len (by decide +kernel) (pa_cons (pv 0) pa_nil)) (nomark _)) (pw_and (pt_cmpR op_eq (pe_ix (ixA (K := K) rfl) (pe_ix (ixA (K := K) rfl) (pv 0) (pv 2) (fun _ _ => rfl)) pe_int (fun _ _ => rfl)) pe_str (nomark _)) (pw_and1 (pt_not (pt_val (G_law_same.call (hr.mono (by omega)) (by rfl) (pa_cons (G_group_end.call (hr.mono (by omega)) (by rfl) (pa_cons (pv 1) (pa_cons (pv 2) pa_nil))) (pa_cons (G_law_end.call (hr.mono (by omega)) (by rfl) (pa_cons (pv 0) (pa_cons (pv 2) pa_nil))) pa_nil)))))))))
  (pss_one (ps_ret pe_bl))
  pss_nil)
  (pss_one (ps_for PassesOwn.never rfl (pi_listK (K := K) rfl (pe_lst (pa_cons pe_int (pa_cons pe_int (pa_cons pe_int (pa_cons pe_int (pa_cons pe_int pa_nil))))))) (pg_name (i := 3) sc_law_found.nd rfl (by first | exact Or.inl rfl | exact Or.inr rfl))
  (pss_cons (ps_set (i := 4) sc_law_found.nd rfl (by first | exact Or.inl rfl | exact Or.inr rfl) (G_law_behind.call (hr.mono (by omega)) (by rfl) (pa_cons (pv 0) (pa_cons (pv 2) (pa_cons (pv 3) pa_nil)))))
  (pss_cons (ps_set (i := 5) sc_law_found.nd rfl (by first | exact Or.inl rfl | exact Or.inr rfl) (G_groups_behind.call (hr.mono (by omega)) (by rfl) (pa_cons (pv 1) (pa_cons (pv 2) (pa_cons (pv 3) pa_nil)))))
  (pss_cons (ps_if (pt_not (pt_val (G_law_same.call (hr.mono (by omega)) (by rfl) (pa_cons (pv 5) (pa_cons (pv 4) pa_nil)))))
  (pss_one (ps_ret pe_bl))
  pss_nil)
  (pss_one (ps_if (PW.pt (pw_and (pt_cmpR o_notN (pv 4) pe_non (nomark _)) (pw_and1 (pt_cmpR op_lt (pv 3) pe_int (nomark _)))))
  (pss_cons (ps_expr (pe_bmK (K := K) rfl PySem.F.plainAttrs_list PySem.F.slot_list_append PySem.F.type_list_append mt_append (pv 5) (pa_cons (pe_tup (pa_cons (pv 2) (pa_cons (pv 2) pa_nil))) pa_nil)))
  (pss_one (ps_if (pt_not (pt_val (G_law_same.call (hr.mono (by omega)) (by rfl) (pa_cons (G_groups_behind.call (hr.mono (by omega)) (by rfl) (pa_cons (pv 1) (pa_cons (pv 2) (pa_cons (pv 3) pa_nil)))) (pa_cons (pv 4) pa_nil)))))
  (pss_one (ps_ret pe_bl))
  pss_nil)))
  pss_nil)))))))))
  (pss_one (ps_ret (G_law_same.call (hr.mono (by omega)) (by rfl) (pa_cons (pv 1) (pa_cons (pv 0) pa_nil))))))), ?_⟩
    rw [show start ["tokens", "handed", "at", "count", "due", "told"] [.ref a] = [some (.ref a), none, none, none, none, none] from rfl]
    obtain ⟨rs, ts, ht, hall, q⟩ := h
    walk_at "go"
    refine Wp.lists (SqL.of ht.1) fun h hh => ?_
    have ht1 : ToksAt (upd H h (HO.lst (rs.map V.ref))) a rs ts := ht.ex (Ex.refl.new hh)
    have hth : ToksAt (upd H h (HO.lst (rs.map V.ref))) h rs ts := ⟨upd_same, ht1.2⟩
    have he1 : Ex H (upd H h (HO.lst (rs.map V.ref))) := Ex.refl.new hh
    generalize upd H h (HO.lst (rs.map V.ref)) = H1 at *
    have hlen := ht1.len
    have hbd := ht1.2.2.1
    have hta := ht1.1
    walk_at "go"
    refine ⟨by omega, ?_⟩
    refine loopR (PvF1 H1 a h) ⟨Ex.refl, _, _, _, _, rfl⟩ ?_ ?_
    · rintro i σ' H' hi ⟨he, v2, v3, v4, v5, rfl⟩
      have hta' := he _ _ hta
      have ht2 := ht1.ex he
      have hth2 := hth.ex he
      have hil : i ≤ ts.length := by omega
      walk_at "go"
      refine ite2 (fun hlt => ?_) (fun hlt => ?_)
      · have hil2 : i < ts.length := by omega
        obtain ⟨r, hr, hr2, hr3⟩ := ht2.tok hil2
        refine Wp.ixal hta' (atI_nat hr2) ?_
        walk_at "go"
        refine ite2 (fun ho => ?_) (fun ho => ?_)
        · obtain ⟨jj, hj, hjl⟩ := hall.ends hil2 ho
          refine ⟨_, _, rfl, rs, ts, hth2, i, jj, rfl, hil2, (fun t ht => by rw [List.getElem?_eq_getElem hil2] at ht; cases ht; exact ho), hj, ?_⟩
          walk_at "go"
          refine ⟨_, _, rfl, rs, ts, ht2, i, rfl, hil, ?_⟩
          rw [hj]
          unfold optV
          walk_at "go"
          refine ⟨_, _, rfl, .int (jj : Int), by simp only [Rep], by simp only [Rep], ?_⟩
          walk_at "go"
          intro z hz
          have hzz : upd H' z (HO.lst [V.int 0, V.int 1, V.int 2, V.int 3, V.int 9]) z = some (HO.lst [V.int 0, V.int 1, V.int 2, V.int 3, V.int 9]) := upd_same
          have he5 : Ex H1 (upd H' z (HO.lst [V.int 0, V.int 1, V.int 2, V.int 3, V.int 9])) := he.new hz
          generalize upd H' z (HO.lst [V.int 0, V.int 1, V.int 2, V.int 3, V.int 9]) = H2 at *
          walk_at "go"
          refine loopL [V.int 0, V.int 1, V.int 2, V.int 3, V.int 9] (PvF2 H2 a h i) ⟨Ex.refl, _, _, _, rfl⟩ (fun j σ' H3 hj p => SqL.of (p.1 _ _ hzz)) ?_ ?_
          · rintro j x σ' H3 hx ⟨e3, v3, v4, v5, rfl⟩
            obtain ⟨c, rfl, hc⟩ : ∃ c : Nat, x = V.int (c : Int) ∧ c ≤ 9 := by
              have := List.mem_of_getElem? hx
              simp only [List.mem_cons, List.not_mem_nil, or_false] at this
              rcases this with rfl | rfl | rfl | rfl | rfl
              · exact ⟨0, rfl, by omega⟩
              · exact ⟨1, rfl, by omega⟩
              · exact ⟨2, rfl, by omega⟩
              · exact ⟨3, rfl, by omega⟩
              · exact ⟨9, rfl, by omega⟩
            have e4 := he5.trans e3
            walk_at "go"
            refine ⟨_, _, _, rfl, rs, ts, ht1.ex e4, i, c, rfl, rfl, hil, by omega, hall, fun v H4 x4 r4 => ?_⟩
            walk_at "go"
            refine ⟨_, _, _, rfl, rs, ts, hth.ex (e4.trans x4), i, c, rfl, rfl, hil, by omega, hall, fun w H5 x5 r5 => ?_⟩
            have d4 := r4.rep
            have d5 := r5.rep
            walk_at "go"
            refine ⟨_, _, rfl, _, d5, Rep.ex x5 _ _ _ d4, ?_⟩
            walk_at "go"
            cases hb : bh ts c [] i with
            | none =>
              rw [hb] at r4 r5
              have ev : v = .non := r4
              subst ev
              walk_at "go"
              exact ⟨e3.trans (x4.trans x5), _, _, _, rfl⟩
            | some ps =>
              rw [hb] at r4 r5
              obtain ⟨du, vs, rfl, _, hdu, hpd, _⟩ := r4
              obtain ⟨tl, ws, rfl, htl0, htl, hpw, hl⟩ := r5
              walk_at "go"
              refine ite_t (fun z => z) ?_
              refine ite2 (fun hc2 => ?_) (fun hc2 => ?_)
              · walk_at "go"
                intro y hy
                have htl6 := u_ne (o := HO.tup [V.int (i : Int), V.int (i : Int)]) (ne_of_none htl hy) htl
                refine Wp.apd htl6 (sz_lt (by rw [hpw.1]; omega)) ?_
                have x6 : Ex H4 (upd (upd H5 y (HO.tup [V.int (i : Int), V.int (i : Int)])) tl (HO.lst (ws ++ [V.ref y]))) := (x5.new hy).mut htl0
                generalize upd (upd H5 y (HO.tup [V.int (i : Int), V.int (i : Int)])) tl (HO.lst (ws ++ [V.ref y])) = H6 at *
                walk_at "go"
                refine ⟨_, _, _, rfl, rs, ts, hth.ex (e4.trans (x4.trans x6)), i, c, rfl, rfl, hil, by omega, hall, fun v2 H7 x7 r7 => ?_⟩
                walk_at "go"
                refine ⟨_, _, rfl, _, r7.rep, Rep.ex (x6.trans x7) _ _ _ d4, ?_⟩
                walk_at "go"
                exact ⟨e3.trans (x4.trans (x6.trans x7)), _, _, _, rfl⟩
              · exact ⟨e3.trans (x4.trans x5), _, _, _, rfl⟩
          · rintro σ' H3 ⟨e3, v3, v4, v5, rfl⟩
            exact ⟨he5.trans e3, _, _, _, _, rfl⟩
        · skip
          walk_at "go"
          intro z hz
          have hzz : upd H' z (HO.lst [V.int 0, V.int 1, V.int 2, V.int 3, V.int 9]) z = some (HO.lst [V.int 0, V.int 1, V.int 2, V.int 3, V.int 9]) := upd_same
          have he5 : Ex H1 (upd H' z (HO.lst [V.int 0, V.int 1, V.int 2, V.int 3, V.int 9])) := he.new hz
          generalize upd H' z (HO.lst [V.int 0, V.int 1, V.int 2, V.int 3, V.int 9]) = H2 at *
          walk_at "go"
          refine loopL [V.int 0, V.int 1, V.int 2, V.int 3, V.int 9] (PvF2 H2 a h i) ⟨Ex.refl, _, _, _, rfl⟩ (fun j σ' H3 hj p => SqL.of (p.1 _ _ hzz)) ?_ ?_
          · rintro j x σ' H3 hx ⟨e3, v3, v4, v5, rfl⟩
            obtain ⟨c, rfl, hc⟩ : ∃ c : Nat, x = V.int (c : Int) ∧ c ≤ 9 := by
              have := List.mem_of_getElem? hx
              simp only [List.mem_cons, List.not_mem_nil, or_false] at this
              rcases this with rfl | rfl | rfl | rfl | rfl
              · exact ⟨0, rfl, by omega⟩
              · exact ⟨1, rfl, by omega⟩
              · exact ⟨2, rfl, by omega⟩
              · exact ⟨3, rfl, by omega⟩
              · exact ⟨9, rfl, by omega⟩
            have e4 := he5.trans e3
            walk_at "go"
            refine ⟨_, _, _, rfl, rs, ts, ht1.ex e4, i, c, rfl, rfl, hil, by omega, hall, fun v H4 x4 r4 => ?_⟩
            walk_at "go"
            refine ⟨_, _, _, rfl, rs, ts, hth.ex (e4.trans x4), i, c, rfl, rfl, hil, by omega, hall, fun w H5 x5 r5 => ?_⟩
            have d4 := r4.rep
            have d5 := r5.rep
            walk_at "go"
            refine ⟨_, _, rfl, _, d5, Rep.ex x5 _ _ _ d4, ?_⟩
            walk_at "go"
            cases hb : bh ts c [] i with
            | none =>
              rw [hb] at r4 r5
              have ev : v = .non := r4
              subst ev
              walk_at "go"
              exact ⟨e3.trans (x4.trans x5), _, _, _, rfl⟩
            | some ps =>
              rw [hb] at r4 r5
              obtain ⟨du, vs, rfl, _, hdu, hpd, _⟩ := r4
              obtain ⟨tl, ws, rfl, htl0, htl, hpw, hl⟩ := r5
              walk_at "go"
              refine ite_t (fun z => z) ?_
              refine ite2 (fun hc2 => ?_) (fun hc2 => ?_)
              · walk_at "go"
                intro y hy
                have htl6 := u_ne (o := HO.tup [V.int (i : Int), V.int (i : Int)]) (ne_of_none htl hy) htl
                refine Wp.apd htl6 (sz_lt (by rw [hpw.1]; omega)) ?_
                have x6 : Ex H4 (upd (upd H5 y (HO.tup [V.int (i : Int), V.int (i : Int)])) tl (HO.lst (ws ++ [V.ref y]))) := (x5.new hy).mut htl0
                generalize upd (upd H5 y (HO.tup [V.int (i : Int), V.int (i : Int)])) tl (HO.lst (ws ++ [V.ref y])) = H6 at *
                walk_at "go"
                refine ⟨_, _, _, rfl, rs, ts, hth.ex (e4.trans (x4.trans x6)), i, c, rfl, rfl, hil, by omega, hall, fun v2 H7 x7 r7 => ?_⟩
                walk_at "go"
                refine ⟨_, _, rfl, _, r7.rep, Rep.ex (x6.trans x7) _ _ _ d4, ?_⟩
                walk_at "go"
                exact ⟨e3.trans (x4.trans (x6.trans x7)), _, _, _, rfl⟩
              · exact ⟨e3.trans (x4.trans x5), _, _, _, rfl⟩
          · rintro σ' H3 ⟨e3, v3, v4, v5, rfl⟩
            exact ⟨he5.trans e3, _, _, _, _, rfl⟩
      · skip
        walk_at "go"
        intro z hz
        have hzz : upd H' z (HO.lst [V.int 0, V.int 1, V.int 2, V.int 3, V.int 9]) z = some (HO.lst [V.int 0, V.int 1, V.int 2, V.int 3, V.int 9]) := upd_same
        have he5 : Ex H1 (upd H' z (HO.lst [V.int 0, V.int 1, V.int 2, V.int 3, V.int 9])) := he.new hz
        generalize upd H' z (HO.lst [V.int 0, V.int 1, V.int 2, V.int 3, V.int 9]) = H2 at *
        walk_at "go"
        refine loopL [V.int 0, V.int 1, V.int 2, V.int 3, V.int 9] (PvF2 H2 a h i) ⟨Ex.refl, _, _, _, rfl⟩ (fun j σ' H3 hj p => SqL.of (p.1 _ _ hzz)) ?_ ?_
        · rintro j x σ' H3 hx ⟨e3, v3, v4, v5, rfl⟩
          obtain ⟨c, rfl, hc⟩ : ∃ c : Nat, x = V.int (c : Int) ∧ c ≤ 9 := by
            have := List.mem_of_getElem? hx
            simp only [List.mem_cons, List.not_mem_nil, or_false] at this
            rcases this with rfl | rfl | rfl | rfl | rfl
            · exact ⟨0, rfl, by omega⟩
            · exact ⟨1, rfl, by omega⟩
            · exact ⟨2, rfl, by omega⟩
            · exact ⟨3, rfl, by omega⟩
            · exact ⟨9, rfl, by omega⟩
          have e4 := he5.trans e3
          walk_at "go"
          refine ⟨_, _, _, rfl, rs, ts, ht1.ex e4, i, c, rfl, rfl, hil, by omega, hall, fun v H4 x4 r4 => ?_⟩
          walk_at "go"
          refine ⟨_, _, _, rfl, rs, ts, hth.ex (e4.trans x4), i, c, rfl, rfl, hil, by omega, hall, fun w H5 x5 r5 => ?_⟩
          have d4 := r4.rep
          have d5 := r5.rep
          walk_at "go"
          refine ⟨_, _, rfl, _, d5, Rep.ex x5 _ _ _ d4, ?_⟩
          walk_at "go"
          cases hb : bh ts c [] i with
          | none =>
            rw [hb] at r4 r5
            have ev : v = .non := r4
            subst ev
            walk_at "go"
            exact ⟨e3.trans (x4.trans x5), _, _, _, rfl⟩
          | some ps =>
            rw [hb] at r4 r5
            obtain ⟨du, vs, rfl, _, hdu, hpd, _⟩ := r4
            obtain ⟨tl, ws, rfl, htl0, htl, hpw, hl⟩ := r5
            walk_at "go"
            refine ite_t (fun z => z) ?_
            refine ite2 (fun hc2 => ?_) (fun hc2 => ?_)
            · walk_at "go"
              intro y hy
              have htl6 := u_ne (o := HO.tup [V.int (i : Int), V.int (i : Int)]) (ne_of_none htl hy) htl
              refine Wp.apd htl6 (sz_lt (by rw [hpw.1]; omega)) ?_
              have x6 : Ex H4 (upd (upd H5 y (HO.tup [V.int (i : Int), V.int (i : Int)])) tl (HO.lst (ws ++ [V.ref y]))) := (x5.new hy).mut htl0
              generalize upd (upd H5 y (HO.tup [V.int (i : Int), V.int (i : Int)])) tl (HO.lst (ws ++ [V.ref y])) = H6 at *
              walk_at "go"
              refine ⟨_, _, _, rfl, rs, ts, hth.ex (e4.trans (x4.trans x6)), i, c, rfl, rfl, hil, by omega, hall, fun v2 H7 x7 r7 => ?_⟩
              walk_at "go"
              refine ⟨_, _, rfl, _, r7.rep, Rep.ex (x6.trans x7) _ _ _ d4, ?_⟩
              walk_at "go"
              exact ⟨e3.trans (x4.trans (x6.trans x7)), _, _, _, rfl⟩
            · exact ⟨e3.trans (x4.trans x5), _, _, _, rfl⟩
        · rintro σ' H3 ⟨e3, v3, v4, v5, rfl⟩
          exact ⟨he5.trans e3, _, _, _, _, rfl⟩
    · rintro σ' H' ⟨he, v2, v3, v4, v5, rfl⟩
      walk_at "go"
      refine ⟨_, _, rfl, _, (hth.ex he).rep, (ht1.ex he).rep, ?_⟩
      exact q H' (he1.trans he)
end
end K02
namespace K02
open PySem L2 Wp

def spLaw (K : PySem.W.Frag) : Sp := fun vs H Q _ => ∃ (a : Addr) (ns : List Int), vs = [.ref a] ∧ SqL K H a (ns.map V.int) ∧ ns.length ≤ 63 ∧ ∀ H', Q (.bl true) H'
def PvL1 (H0 : Hp) (p l r : Addr) (st1 : List (Option V)) (st2 : List (Option V)) : Nat → L2.St → Hp → Prop := fun i σ' H' => PoolL H' p l ∧ Ext p H0 H' ∧ ∃ s cs v, σ' = st1 ++ [some (V.ref s), v] ++ st2 ∧ s ≠ p ∧ s ≠ r ∧ KsAt H' s cs ∧ cs.length ≤ 600 + i
def PvL2 (H0 : Hp) (st1 : List (Option V)) : Nat → L2.St → Hp → Prop := fun i σ' H' => Ex H0 H' ∧ ∃ v1 v2 v3, σ' = st1 ++ [v1, v2, v3]
section
variable {P : Program} {w : World} {K : PySem.W.Frag} {mg : Str → Option Value} {base : Heap}
theorem ok_law {f : Addr} {fd : FuncData} (F : Fun K "law" "law" s_law f fd) (T : Txt mg)  (G_law_pool : Def P w K mg base 1 "_law_pool" ["script"] (spPoolL K)) (G_law_codes : Def P w K mg base 4 "_law_codes" ["pool"] (spCodes)) (G_law_towered : Def P w K mg base 3 "_law_towered" ["pool", "codes"] (spTower)) (G_law_draw : Def P w K mg base 1 "_law_draw" ["pool", "many"] (spDrawL)) (G_law_spoilt : Def P w K mg base 2 "_law_spoilt" ["pool", "codes"] (spSpoil)) (G_law_tokens : Def P w K mg base 1 "_law_tokens" ["codes", "line", "column", "wide"] (spTokens)) (G_law_wrong : Def P w K mg base 2 "_law_wrong" ["tokens"] (spWrong)) (G_law_checked : Def P w K mg base 4 "_law_checked" ["tokens", "wrong"] (spChecked)) (G_law_found : Def P w K mg base 4 "_law_found" ["tokens"] (spFound)) (G_law_same : Def P w K mg base 3 "_law_same" ["got", "due"] (spSame 2)) : FnOk P w K mg base CX0 5 f fd ["script"] (spLaw K) := by
  refine F.ok sc_law (fun vs H Q E h => ?_) (fun cdv A outer s H vs Q E hr h => ?_)
  · obtain ⟨a, ns, rfl, _⟩ := h
    rfl
  · obtain ⟨a, ns, rfl, h⟩ := h
    refine ⟨_, (pss_cons (ps_set (i := 1) sc_law.nd rfl (by first | exact Or.inl rfl | exact Or.inr rfl) (G_law_pool.call (hr.mono (by omega)) (by rfl) (pa_cons (pv 0) pa_nil)))
  (pss_cons (ps_set (i := 2) sc_law.nd rfl (by first | exact Or.inl rfl | exact Or.inr rfl) (G_law_codes.call (hr.mono (by omega)) (by rfl) (pa_cons (pv 1) pa_nil)))
  (pss_cons (ps_set (i := 3) sc_law.nd rfl (by first | exact Or.inl rfl | exact Or.inr rfl) (pe_lst (pa_cons (pv 2) (pa_cons (G_law_towered.call (hr.mono (by omega)) (by rfl) (pa_cons (pv 1) (pa_cons (pv 2) pa_nil))) pa_nil))))
  (pss_cons (ps_set (i := 4) sc_law.nd rfl (by first | exact Or.inl rfl | exact Or.inr rfl) (pe_ix (ixA (K := K) rfl) (pv 3) (G_law_draw.call (hr.mono (by omega)) (by rfl) (pa_cons (pv 1) (pa_cons pe_int pa_nil))) (fun _ _ => rfl)))
  (pss_cons (ps_for PassesOwn.never rfl (pi_range1 (by rfl) T.n_range (pa_cons (pe_op op_addL pe_int (G_law_draw.call (hr.mono (by omega)) (by rfl) (pa_cons (pv 1) (pa_cons pe_int pa_nil)))) pa_nil)) (pg_name (i := 5) sc_law.nd rfl (by first | exact Or.inl rfl | exact Or.inr rfl))
  (pss_one (ps_set (i := 4) sc_law.nd rfl (by first | exact Or.inl rfl | exact Or.inr rfl) (G_law_spoilt.call (hr.mono (by omega)) (by rfl) (pa_cons (pv 1) (pa_cons (pv 4) pa_nil))))))
  (pss_cons (ps_expr (pe_bmK (K := K) rfl PySem.F.plainAttrs_list PySem.F.slot_list_append PySem.F.type_list_append mt_append (pv 3) (pa_cons (pv 4) pa_nil)))
  (pss_cons (ps_set (i := 6) sc_law.nd rfl (by first | exact Or.inl rfl | exact Or.inr rfl) (pe_op op_addL pe_int (G_law_draw.call (hr.mono (by omega)) (by rfl) (pa_cons (pv 1) (pa_cons pe_int pa_nil)))))
  (pss_cons (ps_set (i := 7) sc_law.nd rfl (by first | exact Or.inl rfl | exact Or.inr rfl) (pe_op op_addL pe_int (G_law_draw.call (hr.mono (by omega)) (by rfl) (pa_cons (pv 1) (pa_cons pe_int pa_nil)))))
  (pss_cons (ps_set (i := 8) sc_law.nd rfl (by first | exact Or.inl rfl | exact Or.inr rfl) (pe_op op_addL pe_int (G_law_draw.call (hr.mono (by omega)) (by rfl) (pa_cons (pv 1) (pa_cons pe_int pa_nil)))))
  (pss_cons (ps_for PassesOwn.never rfl (pi_listK (K := K) rfl (pv 3)) (pg_name (i := 9) sc_law.nd rfl (by first | exact Or.inl rfl | exact Or.inr rfl))
  (pss_cons (ps_set (i := 10) sc_law.nd rfl (by first | exact Or.inl rfl | exact Or.inr rfl) (G_law_tokens.call (hr.mono (by omega)) (by rfl) (pa_cons (pv 9) (pa_cons (pv 6) (pa_cons (pv 7) (pa_cons (pv 8) pa_nil))))))
  (pss_cons (ps_set (i := 11) sc_law.nd rfl (by first | exact Or.inl rfl | exact Or.inr rfl) (G_law_wrong.call (hr.mono (by omega)) (by rfl) (pa_cons (pv 10) pa_nil)))
  (pss_cons (ps_if (pt_not (pt_val (G_law_checked.call (hr.mono (by omega)) (by rfl) (pa_cons (pv 10) (pa_cons (pv 11) pa_nil)))))
  (pss_one (ps_ret pe_bl))
  pss_nil)
  (pss_one (ps_if (PW.pt (pw_and (pt_cmpR o_isN (pv 11) pe_non (nomark _)) (pw_and1 (pt_not (pt_val (G_law_found.call (hr.mono (by omega)) (by rfl) (pa_cons (pv 10) pa_nil)))))))
  (pss_one (ps_ret pe_bl))
  pss_nil))))))
  (pss_one (ps_ret (G_law_same.call (hr.mono (by omega)) (by rfl) (pa_cons (pe_gint T.g_DEPTH_LIMIT (by rfl)) (pa_cons pe_int pa_nil))))))))))))))), ?_⟩
    rw [show start ["script", "pool", "codes", "rows", "spoilt", "k", "line", "column", "wide", "row", "tokens", "wrong"] [.ref a] = [some (.ref a), none, none, none, none, none, none, none, none, none, none, none] from rfl]
    obtain ⟨hS, hl, k⟩ := h
    walk_at "go"
    refine ⟨_, _, rfl, hS, fun p l H1 hp0 hl0 e1 hp1 => ?_⟩
    walk_at "go"
    refine ⟨_, rfl, l, hp1, fun c cs H2 hp2 x2 ncp kc hcl => ?_⟩
    walk_at "go"
    refine ⟨_, _, rfl, l, cs, hp2, ncp, kc, hcl, fun t ct H3 hp3 x3 ntp kt htl => ?_⟩
    have kc3 : KsAt H3 c cs := ⟨x3 _ _ ncp kc.1, kc.2⟩
    walk_at "go"
    intro r hr
    have hp4 := hp3.new (o := HO.lst [V.ref c, V.ref t]) hr
    have kc4 : KsAt (upd H3 r (HO.lst [V.ref c, V.ref t])) c cs := ⟨u_ne (ne_of_none kc3.1 hr) kc3.1, kc3.2⟩
    have kt4 : KsAt (upd H3 r (HO.lst [V.ref c, V.ref t])) t ct := ⟨u_ne (ne_of_none kt.1 hr) kt.1, kt.2⟩
    have nrp := hp3.nep hr
    have ncr : c ≠ r := ne_of_none kc3.1 hr
    have ntr : t ≠ r := ne_of_none kt.1 hr
    have hrr : upd H3 r (HO.lst [V.ref c, V.ref t]) r = some (HO.lst [V.ref c, V.ref t]) := upd_same
    generalize upd H3 r (HO.lst [V.ref c, V.ref t]) = H4 at *
    walk_at "go"
    refine ⟨_, _, rfl, l, hp4, by decide, by decide, fun w H5 w0 w9 hp5 bt5 => ?_⟩
    have kc5 : KsAt H5 c cs := ⟨bt5.get ncp kc4.1, kc4.2⟩
    have kt5 : KsAt H5 t ct := ⟨bt5.get ntp kt4.1, kt4.2⟩
    have hr5 := bt5.get nrp hrr
    obtain ⟨s0, es0, ns0, ks0, ls0, nsr0⟩ : ∃ s0 : Addr, atI [V.ref c, V.ref t] w = some (V.ref s0) ∧ s0 ≠ p ∧ (∃ cs0, KsAt H5 s0 cs0 ∧ cs0.length ≤ 600) ∧ True ∧ s0 ≠ r := by
      have : w = 0 ∨ w = 1 := by omega
      rcases this with rfl | rfl
      · exact ⟨c, rfl, ncp, ⟨cs, kc5, by omega⟩, trivial, ncr⟩
      · exact ⟨t, rfl, ntp, ⟨ct, kt5, by omega⟩, trivial, ntr⟩
    obtain ⟨cs0, ks0, lcs0⟩ := ks0
    walk_at "wp"
    refine Wp.ixal hr5 es0 ?_
    walk_at "go"
    refine ⟨_, _, rfl, l, hp5, by decide, by decide, fun m H6 m0 m9 hp6 bt6 => ?_⟩
    have hr6 := bt6.get nrp hr5
    walk_at "go"
    refine ⟨by omega, ?_⟩
    refine loopR (PvL1 H6 p l r [some (V.ref a), some (V.ref p), some (V.ref c), some (V.ref r)] [none, none, none, none, none, none]) ⟨hp6, Ext.refl, s0, cs0, _, rfl, ns0, nsr0, ⟨bt6.get ns0 ks0.1, ks0.2⟩, by omega⟩ ?_ ?_
    · rintro i σ' H' hi ⟨hp', e', s1, cs1, v, rfl, ns1, nsr1, ks1, ls1⟩
      walk_at "go"
      refine ⟨_, _, rfl, l, cs1, hp', ns1, ks1, by omega, fun b cs2 H2' hp2' x2' nb hb kb lb => ?_⟩
      walk_at "go"
      exact ⟨e'.trans x2', b, cs2, _, rfl, nb, (fun z => by rw [z, e' _ _ nrp hr6] at hb; cases hb), kb, by omega⟩
    · rintro σ' H' ⟨hp', e', s1, cs1, v, rfl, ns1, nsr1, ks1, ls1⟩
      have ls2 : cs1.length ≤ 1100 := by omega
      have hr7 := e' _ _ nrp hr6
      have kc7 : KsAt H' c cs := ⟨e' _ _ ncp (bt6.get ncp kc5.1), kc5.2⟩
      have kt7 : KsAt H' t ct := ⟨e' _ _ ntp (bt6.get ntp kt5.1), kt5.2⟩
      walk_at "go"
      have nrl : r ≠ l := fun z => by
        obtain ⟨ns2, i2, x2', c2, e2, h1, h2, h3⟩ := hp'
        rw [z, h2] at hr7
        have h4 := HO.lst.inj (Option.some.inj hr7)
        cases ns2 with
        | nil => cases h4
        | cons n ns2 => rw [List.map_cons] at h4; cases h4
      have hp8 := hp'.upd (o := HO.lst [V.ref c, V.ref t, V.ref s1]) nrp nrl
      have kc8 : KsAt (upd H' r (HO.lst [V.ref c, V.ref t, V.ref s1])) c cs := ⟨u_ne ncr kc7.1, kc7.2⟩
      have kt8 : KsAt (upd H' r (HO.lst [V.ref c, V.ref t, V.ref s1])) t ct := ⟨u_ne ntr kt7.1, kt7.2⟩
      have ks8 : KsAt (upd H' r (HO.lst [V.ref c, V.ref t, V.ref s1])) s1 cs1 := ⟨u_ne nsr1 ks1.1, ks1.2⟩
      have hr8 : upd H' r (HO.lst [V.ref c, V.ref t, V.ref s1]) r = some (HO.lst [V.ref c, V.ref t, V.ref s1]) := upd_same
      generalize upd H' r (HO.lst [V.ref c, V.ref t, V.ref s1]) = H8 at *
      refine ⟨_, _, rfl, l, hp8, by decide, by decide, fun ln H9 l0 l9 hp9 bt9 => ?_⟩
      walk_at "go"
      refine ⟨_, _, rfl, l, hp9, by decide, by decide, fun cl G1 c0 c9 hq1 bq1 => ?_⟩
      walk_at "go"
      refine ⟨_, _, rfl, l, hq1, by decide, by decide, fun wd G2 d0 d9 hq2 bq2 => ?_⟩
      have bt := (bt9.trans bq1).trans bq2
      have kc9 : KsAt G2 c cs := ⟨bt.get ncp kc8.1, kc8.2⟩
      have kt9 : KsAt G2 t ct := ⟨bt.get ntp kt8.1, kt8.2⟩
      have ks9 : KsAt G2 s1 cs1 := ⟨bt.get ns1 ks8.1, ks8.2⟩
      have hr9 := bt.get nrp hr8
      walk_at "go"
      refine loopL [V.ref c, V.ref t, V.ref s1] (PvL2 G2 [some (V.ref a), some (V.ref p), some (V.ref c), some (V.ref r), some (V.ref s1), v, some (V.int (1 + ln)), some (V.int (1 + cl)), some (V.int (1 + wd))]) ⟨Ex.refl, _, _, _, rfl⟩ (fun j σ' H3 hj p => SqL.of (p.1 _ _ hr9)) ?_ ?_
      · rintro j x σ' H3 hx ⟨e3, v1, v2, v3, rfl⟩
        obtain ⟨b, ks, rfl, kb, lb⟩ : ∃ b ks, x = V.ref b ∧ KsAt G2 b ks ∧ ks.length ≤ 1100 := by
          have := List.mem_of_getElem? hx
          simp only [List.mem_cons, List.not_mem_nil, or_false] at this
          rcases this with rfl | rfl | rfl
          · exact ⟨c, cs, rfl, kc9, by omega⟩
          · exact ⟨t, ct, rfl, kt9, by omega⟩
          · exact ⟨s1, cs1, rfl, ks9, ls2⟩
        walk_at "go"
        refine ⟨_, _, _, _, rfl, ks, ⟨e3 _ _ kb.1, kb.2⟩, lb, by omega, by omega, fun tk rs ts H4' x4 ht => ?_⟩
        walk_at "go"
        refine ⟨_, rfl, rs, ts, ht, fun wv H5' x5 hw => ?_⟩
        have ht5 := ht.ex x5
        walk_at "go"
        refine ⟨_, _, rfl, rs, ts, ht5, hw, fun H6' x6 => ?_⟩
        walk_at "go"
        cases hwf : wrongF ts with
        | none =>
          rw [hwf] at hw
          have ew : wv = .non := hw
          subst ew
          walk_at "go"
          refine ⟨_, rfl, rs, ts, ht5.ex x6, allEnd_of hwf, fun H7' x7 => ?_⟩
          walk_at "go"
          exact ⟨e3.trans (x4.trans (x5.trans (x6.trans x7))), _, _, _, rfl⟩
        | some y =>
          rw [hwf] at hw
          obtain ⟨b2, rfl, _⟩ := hw
          walk_at "go"
          exact ⟨e3.trans (x4.trans (x5.trans x6)), _, _, _, rfl⟩
      · rintro σ' H3 ⟨e3, v1, v2, v3, rfl⟩
        walk_at "go"
        refine ⟨_, _, rfl, .int 12, by simp only [Rep], by simp only [Rep], ?_⟩
        exact k H3
end
end K02
namespace K02
open PySem L2 Wp
theorem all_mk {l : PySem.W.OpenLaw} {w : World} {K : PySem.W.Frag} {h : Heap} {mg : Str → Option Value} {fa CB CG CT fI f_check_braces f_group_end f_groups_behind f_groups_within f_law_pool f_law_draw f_law_pick f_law_rare f_law_few f_law_same f_law_codes f_law_towered f_law_spoilt f_law_tokens f_law_end f_law_wrong f_law_behind f_law_checked f_law_found f_law : Addr} (X : K.In h) (G : h.Ns mainGlobals mg) (hfa : mg "law" = some (.ref fa))
    {od0 an0 od1 an1 od2 an2 od3 an3 od4 an4 od5 an5 od6 an6 od7 an7 od8 an8 od9 an9 od10 an10 od11 an11 od12 an12 od13 an13 od14 an14 od15 an15 od16 an16 od17 an17 od18 an18 od19 an19 odI anI : Option Addr} {sl0 sl1 sl2 sl3 sl4 sl5 sl6 sl7 sl8 sl9 sl10 sl11 sl12 sl13 sl14 sl15 sl16 sl17 sl18 sl19 slI : Array (Option Value)} {oc0 kV0 dc0 pm0 cd0 ct0 oc1 kV1 dc1 pm1 cd1 ct1 oc2 kV2 dc2 pm2 cd2 ct2 oc3 kV3 dc3 pm3 cd3 ct3 oc4 kV4 dc4 pm4 cd4 ct4 oc5 kV5 dc5 pm5 cd5 ct5 oc6 kV6 dc6 pm6 cd6 ct6 oc7 kV7 dc7 pm7 cd7 ct7 oc8 kV8 dc8 pm8 cd8 ct8 oc9 kV9 dc9 pm9 cd9 ct9 oc10 kV10 dc10 pm10 cd10 ct10 oc11 kV11 dc11 pm11 cd11 ct11 oc12 kV12 dc12 pm12 cd12 ct12 oc13 kV13 dc13 pm13 cd13 ct13 oc14 kV14 dc14 pm14 cd14 ct14 oc15 kV15 dc15 pm15 cd15 ct15 oc16 kV16 dc16 pm16 cd16 ct16 oc17 kV17 dc17 pm17 cd17 ct17 oc18 kV18 dc18 pm18 cd18 ct18 oc19 kV19 dc19 pm19 cd19 ct19 ocI kVI dcI pmI cdI ctI : Value} {t0 : Tok}
    {nm q : Str} {N : Addr} {bs : List Value} {sn : List Str} {sub : List Value} {ab : Bool} {col : Option Bool} {dd : Option Addr} {m0 m1 m2 m3 m5 : Option Value}
    (aG : PySem.W.nsIn K mainGlobals "GalleyError" = some (some (.ref CG)))
    (aB : PySem.W.nsIn K mainGlobals "BadText" = some (some (.ref CB)))
    (aT : PySem.W.nsIn K mainGlobals "TooLong" = some (some (.ref CT)))
    (xB : K.lookup CB = some (excClassObj nm q CB N bs [.ref CG, .type "ValueError", .type "Exception", .type "BaseException", .type "object"] true sn sub ab col dd m0 m1 m2 m3 m5 "ValueError.__new__"))
    (sa : PySem.W.findIn K (.ref CB) "__setattr__" = some (some (.builtin "object.__setattr__")))
    (ga : PySem.W.findIn K (.ref CB) "__getattribute__" = some (some (.builtin "BaseException.__getattribute__")))
    (gg : PySem.W.findIn K (.ref CB) "__getattr__" = some none)
    (n1 : PySem.W.findIn K (.ref CB) "line" = some none)
    (n2 : PySem.W.findIn K (.ref CB) "column" = some none)
    (n3 : PySem.W.findIn K (.ref CB) "what" = some none)
    (iB : PySem.W.findIn K (.ref CB) "__init__" = some (some (.ref fI)))
    (tI : PySem.W.typeIn K (.ref fI) = some (.type "function"))
    (lI : K.lookup fI = some ⟨ocI, odI, .func (PySem.W.fnOf "__init__" "BadText.__init__" (defArgs s_binit) (defBody s_binit) (defScope s_binit) .none kVI dcI pmI anI cdI ctI), slI⟩)
    (cI : PySem.W.codeIn K cdI "BadText.__init__" = true)
    (kI : PySem.W.keepIn K (.ref fI) = true)
    (kB : PySem.W.keepIn K (.ref CB) = true)
    (eB : PySem.W.subIn K (.ref CB) (.type "BaseException") = some true)
    (tB : PySem.W.typeIn K (.ref CB) = some (.type "type"))
    (hB : PySem.W.hasDictIn K CB = true)
    (ha : PySem.W.findIn K (.ref CB) "__class__" = some (some (.builtin "object.__class__")))
    (hn : PySem.W.specialIn K (.builtin "object.__class__") "__get__" = some (some (.builtin "getset_descriptor.__get__")))
    (ht : PySem.W.takesIn K (.builtin "object.__class__") = some true)
    (hm : PySem.W.mroIn K CB (.type "object") = some true)
    (sB : PySem.W.subIn K (.ref CB) (.ref CB) = some true)
    (oG : PySem.W.kitOne K (.ref CB) (.ref CG) = some true)
    (oV : PySem.W.kitOne K (.ref CB) (.type "ValueError") = some true)
    (oT : PySem.W.kitOne K (.ref CB) (.ref CT) = some false)
    (vE : PySem.W.nsIn K mainGlobals "ValueError" = some none)
    (a0 : PySem.W.nsIn K mainGlobals "check_braces" = some (some (.ref f_check_braces)))
    (l0 : K.lookup f_check_braces = some ⟨oc0, od0, .func (PySem.W.fnOf "check_braces" "check_braces" (defArgs s_check_braces) (defBody s_check_braces) (defScope s_check_braces) .none kV0 dc0 pm0 an0 cd0 ct0), sl0⟩)
    (c0 : PySem.W.codeIn K cd0 "check_braces" = true)
    (k0 : PySem.W.keepIn K (.ref f_check_braces) = true)
    (a1 : PySem.W.nsIn K mainGlobals "group_end" = some (some (.ref f_group_end)))
    (l1 : K.lookup f_group_end = some ⟨oc1, od1, .func (PySem.W.fnOf "group_end" "group_end" (defArgs s_group_end) (defBody s_group_end) (defScope s_group_end) .none kV1 dc1 pm1 an1 cd1 ct1), sl1⟩)
    (c1 : PySem.W.codeIn K cd1 "group_end" = true)
    (k1 : PySem.W.keepIn K (.ref f_group_end) = true)
    (a2 : PySem.W.nsIn K mainGlobals "groups_behind" = some (some (.ref f_groups_behind)))
    (l2 : K.lookup f_groups_behind = some ⟨oc2, od2, .func (PySem.W.fnOf "groups_behind" "groups_behind" (defArgs s_groups_behind) (defBody s_groups_behind) (defScope s_groups_behind) .none kV2 dc2 pm2 an2 cd2 ct2), sl2⟩)
    (c2 : PySem.W.codeIn K cd2 "groups_behind" = true)
    (k2 : PySem.W.keepIn K (.ref f_groups_behind) = true)
    (a3 : PySem.W.nsIn K mainGlobals "groups_within" = some (some (.ref f_groups_within)))
    (l3 : K.lookup f_groups_within = some ⟨oc3, od3, .func (PySem.W.fnOf "groups_within" "groups_within" (defArgs s_groups_within) (defBody s_groups_within) (defScope s_groups_within) .none kV3 dc3 pm3 an3 cd3 ct3), sl3⟩)
    (c3 : PySem.W.codeIn K cd3 "groups_within" = true)
    (k3 : PySem.W.keepIn K (.ref f_groups_within) = true)
    (a4 : PySem.W.nsIn K mainGlobals "_law_pool" = some (some (.ref f_law_pool)))
    (l4 : K.lookup f_law_pool = some ⟨oc4, od4, .func (PySem.W.fnOf "_law_pool" "_law_pool" (defArgs s_law_pool) (defBody s_law_pool) (defScope s_law_pool) .none kV4 dc4 pm4 an4 cd4 ct4), sl4⟩)
    (c4 : PySem.W.codeIn K cd4 "_law_pool" = true)
    (k4 : PySem.W.keepIn K (.ref f_law_pool) = true)
    (a5 : PySem.W.nsIn K mainGlobals "_law_draw" = some (some (.ref f_law_draw)))
    (l5 : K.lookup f_law_draw = some ⟨oc5, od5, .func (PySem.W.fnOf "_law_draw" "_law_draw" (defArgs s_law_draw) (defBody s_law_draw) (defScope s_law_draw) .none kV5 dc5 pm5 an5 cd5 ct5), sl5⟩)
    (c5 : PySem.W.codeIn K cd5 "_law_draw" = true)
    (k5 : PySem.W.keepIn K (.ref f_law_draw) = true)
    (a6 : PySem.W.nsIn K mainGlobals "_law_pick" = some (some (.ref f_law_pick)))
    (l6 : K.lookup f_law_pick = some ⟨oc6, od6, .func (PySem.W.fnOf "_law_pick" "_law_pick" (defArgs s_law_pick) (defBody s_law_pick) (defScope s_law_pick) .none kV6 dc6 pm6 an6 cd6 ct6), sl6⟩)
    (c6 : PySem.W.codeIn K cd6 "_law_pick" = true)
    (k6 : PySem.W.keepIn K (.ref f_law_pick) = true)
    (a7 : PySem.W.nsIn K mainGlobals "_law_rare" = some (some (.ref f_law_rare)))
    (l7 : K.lookup f_law_rare = some ⟨oc7, od7, .func (PySem.W.fnOf "_law_rare" "_law_rare" (defArgs s_law_rare) (defBody s_law_rare) (defScope s_law_rare) .none kV7 dc7 pm7 an7 cd7 ct7), sl7⟩)
    (c7 : PySem.W.codeIn K cd7 "_law_rare" = true)
    (k7 : PySem.W.keepIn K (.ref f_law_rare) = true)
    (a8 : PySem.W.nsIn K mainGlobals "_law_few" = some (some (.ref f_law_few)))
    (l8 : K.lookup f_law_few = some ⟨oc8, od8, .func (PySem.W.fnOf "_law_few" "_law_few" (defArgs s_law_few) (defBody s_law_few) (defScope s_law_few) .none kV8 dc8 pm8 an8 cd8 ct8), sl8⟩)
    (c8 : PySem.W.codeIn K cd8 "_law_few" = true)
    (k8 : PySem.W.keepIn K (.ref f_law_few) = true)
    (a9 : PySem.W.nsIn K mainGlobals "_law_same" = some (some (.ref f_law_same)))
    (l9 : K.lookup f_law_same = some ⟨oc9, od9, .func (PySem.W.fnOf "_law_same" "_law_same" (defArgs s_law_same) (defBody s_law_same) (defScope s_law_same) .none kV9 dc9 pm9 an9 cd9 ct9), sl9⟩)
    (c9 : PySem.W.codeIn K cd9 "_law_same" = true)
    (k9 : PySem.W.keepIn K (.ref f_law_same) = true)
    (a10 : PySem.W.nsIn K mainGlobals "_law_codes" = some (some (.ref f_law_codes)))
    (l10 : K.lookup f_law_codes = some ⟨oc10, od10, .func (PySem.W.fnOf "_law_codes" "_law_codes" (defArgs s_law_codes) (defBody s_law_codes) (defScope s_law_codes) .none kV10 dc10 pm10 an10 cd10 ct10), sl10⟩)
    (c10 : PySem.W.codeIn K cd10 "_law_codes" = true)
    (k10 : PySem.W.keepIn K (.ref f_law_codes) = true)
    (a11 : PySem.W.nsIn K mainGlobals "_law_towered" = some (some (.ref f_law_towered)))
    (l11 : K.lookup f_law_towered = some ⟨oc11, od11, .func (PySem.W.fnOf "_law_towered" "_law_towered" (defArgs s_law_towered) (defBody s_law_towered) (defScope s_law_towered) .none kV11 dc11 pm11 an11 cd11 ct11), sl11⟩)
    (c11 : PySem.W.codeIn K cd11 "_law_towered" = true)
    (k11 : PySem.W.keepIn K (.ref f_law_towered) = true)
    (a12 : PySem.W.nsIn K mainGlobals "_law_spoilt" = some (some (.ref f_law_spoilt)))
    (l12 : K.lookup f_law_spoilt = some ⟨oc12, od12, .func (PySem.W.fnOf "_law_spoilt" "_law_spoilt" (defArgs s_law_spoilt) (defBody s_law_spoilt) (defScope s_law_spoilt) .none kV12 dc12 pm12 an12 cd12 ct12), sl12⟩)
    (c12 : PySem.W.codeIn K cd12 "_law_spoilt" = true)
    (k12 : PySem.W.keepIn K (.ref f_law_spoilt) = true)
    (a13 : PySem.W.nsIn K mainGlobals "_law_tokens" = some (some (.ref f_law_tokens)))
    (l13 : K.lookup f_law_tokens = some ⟨oc13, od13, .func (PySem.W.fnOf "_law_tokens" "_law_tokens" (defArgs s_law_tokens) (defBody s_law_tokens) (defScope s_law_tokens) .none kV13 dc13 pm13 an13 cd13 ct13), sl13⟩)
    (c13 : PySem.W.codeIn K cd13 "_law_tokens" = true)
    (k13 : PySem.W.keepIn K (.ref f_law_tokens) = true)
    (a14 : PySem.W.nsIn K mainGlobals "_law_end" = some (some (.ref f_law_end)))
    (l14 : K.lookup f_law_end = some ⟨oc14, od14, .func (PySem.W.fnOf "_law_end" "_law_end" (defArgs s_law_end) (defBody s_law_end) (defScope s_law_end) .none kV14 dc14 pm14 an14 cd14 ct14), sl14⟩)
    (c14 : PySem.W.codeIn K cd14 "_law_end" = true)
    (k14 : PySem.W.keepIn K (.ref f_law_end) = true)
    (a15 : PySem.W.nsIn K mainGlobals "_law_wrong" = some (some (.ref f_law_wrong)))
    (l15 : K.lookup f_law_wrong = some ⟨oc15, od15, .func (PySem.W.fnOf "_law_wrong" "_law_wrong" (defArgs s_law_wrong) (defBody s_law_wrong) (defScope s_law_wrong) .none kV15 dc15 pm15 an15 cd15 ct15), sl15⟩)
    (c15 : PySem.W.codeIn K cd15 "_law_wrong" = true)
    (k15 : PySem.W.keepIn K (.ref f_law_wrong) = true)
    (a16 : PySem.W.nsIn K mainGlobals "_law_behind" = some (some (.ref f_law_behind)))
    (l16 : K.lookup f_law_behind = some ⟨oc16, od16, .func (PySem.W.fnOf "_law_behind" "_law_behind" (defArgs s_law_behind) (defBody s_law_behind) (defScope s_law_behind) .none kV16 dc16 pm16 an16 cd16 ct16), sl16⟩)
    (c16 : PySem.W.codeIn K cd16 "_law_behind" = true)
    (k16 : PySem.W.keepIn K (.ref f_law_behind) = true)
    (a17 : PySem.W.nsIn K mainGlobals "_law_checked" = some (some (.ref f_law_checked)))
    (l17 : K.lookup f_law_checked = some ⟨oc17, od17, .func (PySem.W.fnOf "_law_checked" "_law_checked" (defArgs s_law_checked) (defBody s_law_checked) (defScope s_law_checked) .none kV17 dc17 pm17 an17 cd17 ct17), sl17⟩)
    (c17 : PySem.W.codeIn K cd17 "_law_checked" = true)
    (k17 : PySem.W.keepIn K (.ref f_law_checked) = true)
    (a18 : PySem.W.nsIn K mainGlobals "_law_found" = some (some (.ref f_law_found)))
    (l18 : K.lookup f_law_found = some ⟨oc18, od18, .func (PySem.W.fnOf "_law_found" "_law_found" (defArgs s_law_found) (defBody s_law_found) (defScope s_law_found) .none kV18 dc18 pm18 an18 cd18 ct18), sl18⟩)
    (c18 : PySem.W.codeIn K cd18 "_law_found" = true)
    (k18 : PySem.W.keepIn K (.ref f_law_found) = true)
    (a19 : PySem.W.nsIn K mainGlobals "law" = some (some (.ref f_law)))
    (l19 : K.lookup f_law = some ⟨oc19, od19, .func (PySem.W.fnOf "law" "law" (defArgs s_law) (defBody s_law) (defScope s_law) .none kV19 dc19 pm19 an19 cd19 ct19), sl19⟩)
    (c19 : PySem.W.codeIn K cd19 "law" = true)
    (k19 : PySem.W.keepIn K (.ref f_law) = true)
    (z_abs : PySem.W.nsIn K mainGlobals "abs" = some none)
    (z_bool : PySem.W.nsIn K mainGlobals "bool" = some none)
    (z_int : PySem.W.nsIn K mainGlobals "int" = some none)
    (z_isinstance : PySem.W.nsIn K mainGlobals "isinstance" = some none)
    (z_len : PySem.W.nsIn K mainGlobals "len" = some none)
    (z_list : PySem.W.nsIn K mainGlobals "list" = some none)
    (z_max : PySem.W.nsIn K mainGlobals "max" = some none)
    (z_range : PySem.W.nsIn K mainGlobals "range" = some none)
    (z_str : PySem.W.nsIn K mainGlobals "str" = some none)
    (z_tuple : PySem.W.nsIn K mainGlobals "tuple" = some none)
    (g_DEPTH_LIMIT : PySem.W.nsIn K mainGlobals "DEPTH_LIMIT" = some (some (.int 12 t0)))
    : ∃ fd : FuncData, (∀ (s : Shared) (v : Value), BindsTo s fd ⟨[v], []⟩ [("script", v)]) ∧ ∀ base : Heap, K.In base → base.Ns mainGlobals mg → FnOk l.prog w K mg base CX0 5 fa fd ["script"] (spLaw K) := by
  have e := hfa.symm.trans (PySem.W.mg_of X G a19)
  cases e
  have T : Txt mg := ⟨PySem.W.mg_none_of X G z_abs, PySem.W.mg_none_of X G z_bool, PySem.W.mg_none_of X G z_int, PySem.W.mg_none_of X G z_isinstance, PySem.W.mg_none_of X G z_len, PySem.W.mg_none_of X G z_list, PySem.W.mg_none_of X G z_max, PySem.W.mg_none_of X G z_range, PySem.W.mg_none_of X G z_str, PySem.W.mg_none_of X G z_tuple, ⟨_, PySem.W.mg_of X G g_DEPTH_LIMIT⟩⟩
  have ET : ErrT K mg CB CG CT := ⟨⟨⟨nm, q, N, bs, _, sn, sub, ab, col, dd, m0, m1, m2, m3, m5, xB, rfl⟩, sa, eB, tB, kB⟩, n1, n2, n3, PySem.W.mg_of X G aB, PySem.W.mg_of X G aG, PySem.W.mg_of X G aT, ⟨ga, gg, eB, hB, ha, hn, ht, hm⟩, ⟨ga, gg, eB, hB⟩, PySem.W.exm_ref eB hB tB sB, oG, oV, oT⟩
  have F0 := fun_mk (st := s_check_braces) l0 c0 k0
  have b0 := F0.binds (ps := ["tokens"]) fun _ _ _ _ _ _ us hl => match us, hl with | [_], _ => rfl
  have F1 := fun_mk (st := s_group_end) l1 c1 k1
  have b1 := F1.binds (ps := ["tokens", "at"]) fun _ _ _ _ _ _ us hl => match us, hl with | [_, _], _ => rfl
  have F2 := fun_mk (st := s_groups_behind) l2 c2 k2
  have b2 := F2.binds (ps := ["tokens", "at", "count"]) fun _ _ _ _ _ _ us hl => match us, hl with | [_, _, _], _ => rfl
  have F3 := fun_mk (st := s_groups_within) l3 c3 k3
  have b3 := F3.binds (ps := ["tokens", "at", "hi", "count"]) fun _ _ _ _ _ _ us hl => match us, hl with | [_, _, _, _], _ => rfl
  have F4 := fun_mk (st := s_law_pool) l4 c4 k4
  have b4 := F4.binds (ps := ["script"]) fun _ _ _ _ _ _ us hl => match us, hl with | [_], _ => rfl
  have F5 := fun_mk (st := s_law_draw) l5 c5 k5
  have b5 := F5.binds (ps := ["pool", "many"]) fun _ _ _ _ _ _ us hl => match us, hl with | [_, _], _ => rfl
  have F6 := fun_mk (st := s_law_pick) l6 c6 k6
  have b6 := F6.binds (ps := ["pool", "row"]) fun _ _ _ _ _ _ us hl => match us, hl with | [_, _], _ => rfl
  have F7 := fun_mk (st := s_law_rare) l7 c7 k7
  have b7 := F7.binds (ps := ["pool", "many"]) fun _ _ _ _ _ _ us hl => match us, hl with | [_, _], _ => rfl
  have F8 := fun_mk (st := s_law_few) l8 c8 k8
  have b8 := F8.binds (ps := ["pool", "usual", "most"]) fun _ _ _ _ _ _ us hl => match us, hl with | [_, _, _], _ => rfl
  have F9 := fun_mk (st := s_law_same) l9 c9 k9
  have b9 := F9.binds (ps := ["got", "due"]) fun _ _ _ _ _ _ us hl => match us, hl with | [_, _], _ => rfl
  have F10 := fun_mk (st := s_law_codes) l10 c10 k10
  have b10 := F10.binds (ps := ["pool"]) fun _ _ _ _ _ _ us hl => match us, hl with | [_], _ => rfl
  have F11 := fun_mk (st := s_law_towered) l11 c11 k11
  have b11 := F11.binds (ps := ["pool", "codes"]) fun _ _ _ _ _ _ us hl => match us, hl with | [_, _], _ => rfl
  have F12 := fun_mk (st := s_law_spoilt) l12 c12 k12
  have b12 := F12.binds (ps := ["pool", "codes"]) fun _ _ _ _ _ _ us hl => match us, hl with | [_, _], _ => rfl
  have F13 := fun_mk (st := s_law_tokens) l13 c13 k13
  have b13 := F13.binds (ps := ["codes", "line", "column", "wide"]) fun _ _ _ _ _ _ us hl => match us, hl with | [_, _, _, _], _ => rfl
  have F14 := fun_mk (st := s_law_end) l14 c14 k14
  have b14 := F14.binds (ps := ["tokens", "at"]) fun _ _ _ _ _ _ us hl => match us, hl with | [_, _], _ => rfl
  have F15 := fun_mk (st := s_law_wrong) l15 c15 k15
  have b15 := F15.binds (ps := ["tokens"]) fun _ _ _ _ _ _ us hl => match us, hl with | [_], _ => rfl
  have F16 := fun_mk (st := s_law_behind) l16 c16 k16
  have b16 := F16.binds (ps := ["tokens", "at", "count"]) fun _ _ _ _ _ _ us hl => match us, hl with | [_, _, _], _ => rfl
  have F17 := fun_mk (st := s_law_checked) l17 c17 k17
  have b17 := F17.binds (ps := ["tokens", "wrong"]) fun _ _ _ _ _ _ us hl => match us, hl with | [_, _], _ => rfl
  have F18 := fun_mk (st := s_law_found) l18 c18 k18
  have b18 := F18.binds (ps := ["tokens"]) fun _ _ _ _ _ _ us hl => match us, hl with | [_], _ => rfl
  have F19 := fun_mk (st := s_law) l19 c19 k19
  have FI := fun_mk (st := s_binit) lI cI kI
  have bI := FI.binds (ps := ["self", "line", "column", "what"]) fun _ _ _ _ _ _ us hl => match us, hl with | [_, _, _, _], _ => rfl
  refine ⟨PySem.W.fnOf "law" "law" (defArgs s_law) (defBody s_law) (defScope s_law) .none kV19 dc19 pm19 an19 cd19 ct19, fun s v => .of_eq rfl, fun base _ _ => ?_⟩
  have GI : FnOk l.prog w K mg base CX0 1 fI _ ["self", "line", "column", "what"] (spB CB) := ok_binit FI ET
  have G_group_end : Def l.prog w K mg base 1 "group_end" ["tokens", "at"] (spGend) := ⟨_, _, ok_group_end F1 T , PySem.W.mg_of X G a1, k1, b1⟩
  have G_law_pool : Def l.prog w K mg base 1 "_law_pool" ["script"] (spPoolL K) := ⟨_, _, ok_law_pool F4 T , PySem.W.mg_of X G a4, k4, b4⟩
  have G_law_draw : Def l.prog w K mg base 1 "_law_draw" ["pool", "many"] (spDrawL) := ⟨_, _, ok_law_draw F5 T , PySem.W.mg_of X G a5, k5, b5⟩
  have G_law_tokens : Def l.prog w K mg base 1 "_law_tokens" ["codes", "line", "column", "wide"] (spTokens) := ⟨_, _, ok_law_tokens F13 T , PySem.W.mg_of X G a13, k13, b13⟩
  have G_law_end : Def l.prog w K mg base 1 "_law_end" ["tokens", "at"] (spEnd) := ⟨_, _, ok_law_end F14 T , PySem.W.mg_of X G a14, k14, b14⟩
  have G_groups_within : Def l.prog w K mg base 2 "groups_within" ["tokens", "at", "hi", "count"] (spWithin) := ⟨_, _, ok_groups_within F3 T G_group_end, PySem.W.mg_of X G a3, k3, b3⟩
  have G_law_pick : Def l.prog w K mg base 2 "_law_pick" ["pool", "row"] (spPick) := ⟨_, _, ok_law_pick F6 T G_law_draw, PySem.W.mg_of X G a6, k6, b6⟩
  have G_law_rare : Def l.prog w K mg base 2 "_law_rare" ["pool", "many"] (spRare) := ⟨_, _, ok_law_rare F7 T G_law_draw, PySem.W.mg_of X G a7, k7, b7⟩
  have G_law_spoilt : Def l.prog w K mg base 2 "_law_spoilt" ["pool", "codes"] (spSpoil) := ⟨_, _, ok_law_spoilt F12 T G_law_draw, PySem.W.mg_of X G a12, k12, b12⟩
  have G_law_wrong : Def l.prog w K mg base 2 "_law_wrong" ["tokens"] (spWrong) := ⟨_, _, ok_law_wrong F15 T G_law_end, PySem.W.mg_of X G a15, k15, b15⟩
  have G_law_behind : Def l.prog w K mg base 2 "_law_behind" ["tokens", "at", "count"] (spBehind) := ⟨_, _, ok_law_behind F16 T G_law_end, PySem.W.mg_of X G a16, k16, b16⟩
  have GX : Wq.DefX l.prog w K mg base 3 "check_braces" ["tokens"] (spCheck CB) := ⟨_, _, ok_check_braces F0 T ET iB tI GI bI, PySem.W.mg_of X G a0, k0, b0⟩
  have G_groups_behind : Def l.prog w K mg base 3 "groups_behind" ["tokens", "at", "count"] (spBehind) := ⟨_, _, ok_groups_behind F2 T G_groups_within, PySem.W.mg_of X G a2, k2, b2⟩
  have G_law_few : Def l.prog w K mg base 3 "_law_few" ["pool", "usual", "most"] (spFew) := ⟨_, _, ok_law_few F8 T G_law_draw G_law_rare, PySem.W.mg_of X G a8, k8, b8⟩
  have G0 : Def l.prog w K mg base 0 "_law_same" ["got", "due"] (fun _ _ _ _ => False) := ⟨_, _, ⟨fun _ _ _ _ h => h.elim, fun _ _ _ _ _ _ _ _ _ _ _ _ _ h => h.elim⟩, PySem.W.mg_of X G a9, k9, b9⟩
  have G1 : Def l.prog w K mg base 1 "_law_same" ["got", "due"] (spSame 0) := ⟨_, _, ok_law_same0 F9 T G0, PySem.W.mg_of X G a9, k9, b9⟩
  have G2 : Def l.prog w K mg base 2 "_law_same" ["got", "due"] (spSame 1) := ⟨_, _, ok_law_sameS (n := 0) F9 T G1, PySem.W.mg_of X G a9, k9, b9⟩
  have G_law_same : Def l.prog w K mg base 3 "_law_same" ["got", "due"] (spSame 2) := ⟨_, _, ok_law_sameS (n := 1) F9 T G2, PySem.W.mg_of X G a9, k9, b9⟩
  have G_law_towered : Def l.prog w K mg base 3 "_law_towered" ["pool", "codes"] (spTower) := ⟨_, _, ok_law_towered F11 T G_law_draw, PySem.W.mg_of X G a11, k11, b11⟩
  have G_law_codes : Def l.prog w K mg base 4 "_law_codes" ["pool"] (spCodes) := ⟨_, _, ok_law_codes F10 T G_law_draw G_law_few G_law_pick, PySem.W.mg_of X G a10, k10, b10⟩
  have G_law_checked : Def l.prog w K mg base 4 "_law_checked" ["tokens", "wrong"] (spChecked) := ⟨_, _, ok_law_checked F17 T ET (PySem.W.mg_none_of X G vE) GX G_law_same, PySem.W.mg_of X G a17, k17, b17⟩
  have G_law_found : Def l.prog w K mg base 4 "_law_found" ["tokens"] (spFound) := ⟨_, _, ok_law_found F18 T G_group_end G_law_end G_law_behind G_groups_behind G_law_same, PySem.W.mg_of X G a18, k18, b18⟩
  exact ok_law F19 T G_law_pool G_law_codes G_law_towered G_law_draw G_law_spoilt G_law_tokens G_law_wrong G_law_checked G_law_found G_law_same
theorem walk {l : PySem.W.OpenLaw} {q : Program} {loose : List Str} {XP : (Str → Option Value) → Heap → Prop} {YP : World → Heap → Prop} {d : DefRec} {K : Params → PySem.W.Frag} (hn : l.most = some 63) (hdf : d.params.defaults = [])
    (hY : ∀ (w : World) (h : Heap), YP w h → (K w.params).In h)
    (F : ∀ (w : World) (mg : Str → Option Value) (fa : Addr) (h : Heap), (K w.params).In h → h.Ns mainGlobals mg → mg d.name = some (.ref fa) →
      ∃ fd : FuncData, (∀ (s : Shared) (u : Value), BindsTo s fd ⟨[u], []⟩ [("script", u)]) ∧ ∀ base : Heap, (K w.params).In base → base.Ns mainGlobals mg → FnOk l.prog w (K w.params) mg base CX0 5 fa fd ["script"] (spLaw (K w.params))) :
    PySem.W.WalkO q loose XP YP l.row.toRowW d [] (fun f vs => PySem.call f vs) :=
  L2.walk_of (n := 63) (k := 5) (x := "script") (CX := fun _ => CX0) (sp := fun w => spLaw (K w.params)) hn (by decide) hdf ⟨rfl, by decide, by decide⟩ hY F (fun _ _ a ns hl _ hS => ⟨a, ns, rfl, hS, hl, fun _ => rfl⟩) fun _ _ _ _ _ z => z
end K02
open PySem PySem.W PyProof.Rows
set_option maxRecDepth 100000 in
set_option maxHeartbeats 0 in
theorem PySem.Challenge.cw_galleywork_k02_braces_and_groups_holds : PySem.Challenge.rw_galleywork_k02_braces_and_groups.Holds := by
  w_on; o_law; k_head; (case hw => w_witness2)
  k_fill
  refine K02.walk (l := PySem.Challenge.rw_galleywork_k02_braces_and_groups) rfl rfl (fun w h Y => PySem.W.kIn_of Y) ?F
  case F =>
    intro w mg fa h KX G hmg
    refine' K02.all_mk KX G hmg ?aG ?aB ?aT ?xB ?sa ?ga ?gg ?n1 ?n2 ?n3 ?iB ?tI ?lI ?cI ?kI ?kB ?eB ?tB ?hB ?ha ?hn ?ht ?hm ?sB ?oG ?oV ?oT ?vE ?a0 ?l0 ?c0 ?k0 ?a1 ?l1 ?c1 ?k1 ?a2 ?l2 ?c2 ?k2 ?a3 ?l3 ?c3 ?k3 ?a4 ?l4 ?c4 ?k4 ?a5 ?l5 ?c5 ?k5 ?a6 ?l6 ?c6 ?k6 ?a7 ?l7 ?c7 ?k7 ?a8 ?l8 ?c8 ?k8 ?a9 ?l9 ?c9 ?k9 ?a10 ?l10 ?c10 ?k10 ?a11 ?l11 ?c11 ?k11 ?a12 ?l12 ?c12 ?k12 ?a13 ?l13 ?c13 ?k13 ?a14 ?l14 ?c14 ?k14 ?a15 ?l15 ?c15 ?k15 ?a16 ?l16 ?c16 ?k16 ?a17 ?l17 ?c17 ?k17 ?a18 ?l18 ?c18 ?k18 ?a19 ?l19 ?c19 ?k19 ?z_abs ?z_bool ?z_int ?z_isinstance ?z_len ?z_list ?z_max ?z_range ?z_str ?z_tuple ?g_DEPTH_LIMIT
    (case aG => k_is)
    (case aB => k_is)
    (case aT => k_is)
    (case xB => k_is)
    (case sa => k_is)
    (case ga => k_is)
    (case gg => k_is)
    (case n1 => k_is)
    (case n2 => k_is)
    (case n3 => k_is)
    (case iB => k_is)
    (case tI => k_is)
    (case lI => k_is)
    (case cI => k_is)
    (case kI => k_is)
    (case kB => k_is)
    (case eB => k_is)
    (case tB => k_is)
    (case hB => k_is)
    (case ha => k_is)
    (case hn => k_is)
    (case ht => k_is)
    (case hm => k_is)
    (case sB => first | k_is | rfl)
    (case oG => first | k_is | rfl)
    (case oV => first | k_is | rfl)
    (case oT => first | k_is | rfl)
    (case vE => k_is)
    (case a0 => k_is)
    (case l0 => k_is)
    (case c0 => k_is)
    (case k0 => k_is)
    (case a1 => k_is)
    (case l1 => k_is)
    (case c1 => k_is)
    (case k1 => k_is)
    (case a2 => k_is)
    (case l2 => k_is)
    (case c2 => k_is)
    (case k2 => k_is)
    (case a3 => k_is)
    (case l3 => k_is)
    (case c3 => k_is)
    (case k3 => k_is)
    (case a4 => k_is)
    (case l4 => k_is)
    (case c4 => k_is)
    (case k4 => k_is)
    (case a5 => k_is)
    (case l5 => k_is)
    (case c5 => k_is)
    (case k5 => k_is)
    (case a6 => k_is)
    (case l6 => k_is)
    (case c6 => k_is)
    (case k6 => k_is)
    (case a7 => k_is)
    (case l7 => k_is)
    (case c7 => k_is)
    (case k7 => k_is)
    (case a8 => k_is)
    (case l8 => k_is)
    (case c8 => k_is)
    (case k8 => k_is)
    (case a9 => k_is)
    (case l9 => k_is)
    (case c9 => k_is)
    (case k9 => k_is)
    (case a10 => k_is)
    (case l10 => k_is)
    (case c10 => k_is)
    (case k10 => k_is)
    (case a11 => k_is)
    (case l11 => k_is)
    (case c11 => k_is)
    (case k11 => k_is)
    (case a12 => k_is)
    (case l12 => k_is)
    (case c12 => k_is)
    (case k12 => k_is)
    (case a13 => k_is)
    (case l13 => k_is)
    (case c13 => k_is)
    (case k13 => k_is)
    (case a14 => k_is)
    (case l14 => k_is)
    (case c14 => k_is)
    (case k14 => k_is)
    (case a15 => k_is)
    (case l15 => k_is)
    (case c15 => k_is)
    (case k15 => k_is)
    (case a16 => k_is)
    (case l16 => k_is)
    (case c16 => k_is)
    (case k16 => k_is)
    (case a17 => k_is)
    (case l17 => k_is)
    (case c17 => k_is)
    (case k17 => k_is)
    (case a18 => k_is)
    (case l18 => k_is)
    (case c18 => k_is)
    (case k18 => k_is)
    (case a19 => k_is)
    (case l19 => k_is)
    (case c19 => k_is)
    (case k19 => k_is)
    (case z_abs => k_is)
    (case z_bool => k_is)
    (case z_int => k_is)
    (case z_isinstance => k_is)
    (case z_len => k_is)
    (case z_list => k_is)
    (case z_max => k_is)
    (case z_range => k_is)
    (case z_str => k_is)
    (case z_tuple => k_is)
    (case g_DEPTH_LIMIT => k_is)
#print axioms PySem.Challenge.cw_galleywork_k02_braces_and_groups_holds
