import PyProof.Rows.All
import Wide.All
import OpenK.AllK
import Wide.FinOn
import HandS.Base
import HandS.Call
import HandS.List
import HandS.Comp
import HandS.Ends
import HandS.Words
import HandS.IsInst
import HandS.Wide
import PySem.Challenge.RW_galleywork_k32_badness_and_class

set_option Elab.async false
set_option linter.all false
set_option maxRecDepth 100000
/-! Wp: readings as weakest preconditions, turned into plain formulas by simp. -/
namespace Wp
open PySem L2
section
variable {σ : L2.St} {H : Hp} {Q : VK} {D : Ends}
theorem seq {t u : TS} : tSeq t u D σ H = t { D with nx := u D } σ H := rfl
theorem next : tNext D σ H = D.nx σ H := rfl
theorem asg {te : TE} {g : TG} : tAsg te g D σ H = te σ H fun x H1 => g x σ H1 D.nx := rfl
theorem gn {i : Nat} {v : V} {R : L2.St → Hp → Prop} : gName i v σ H R = R (σ.set i (some v)) H := rfl
theorem gsub {to ti : TE} {t : TSet} {v : V} {R : L2.St → Hp → Prop} : gSub to ti t v σ H R = to σ H fun o H1 => ti σ H1 fun i H2 => t o i v H2 fun H3 => R σ H3 := rfl
theorem ret {te : TE} : tRet te D σ H = te σ H D.rt := rfl
theorem drop {te : TE} : tDrop te D σ H = te σ H fun _ H1 => D.nx σ H1 := rfl
theorem ifs {c : TT} {t u : TS} : tIfS c t u D σ H = c σ H fun b H1 => if b = true then t D σ H1 else u D σ H1 := rfl
theorem brk : tBreak D σ H = D.bk σ H := rfl
theorem cont : tCont D σ H = D.ct σ H := rfl
theorem op {r : R2} {ta tb : TE} : tOp r ta tb σ H Q = ta σ H fun x H1 => tb σ H1 fun y H2 => r x y H2 Q := rfl
theorem un {r : V → Hp → VK → Prop} {ta : TE} : tUn r ta σ H Q = ta σ H fun x H1 => r x H1 Q := rfl
theorem cb {r : List V → Hp → VK → Prop} {t : TA} : tCB r t σ H Q = t σ H fun vs H1 => r vs H1 Q := rfl
theorem call {sp : Sp} {dvs : List V} {E : XK} {t : TA} : tCall sp dvs E t σ H Q = t σ H fun vs H1 => sp (vs ++ dvs) H1 Q E := rfl
theorem nil {R : List V → Hp → Prop} : tNil σ H R = R [] H := rfl
theorem cons {ta : TE} {tr : TA} {R : List V → Hp → Prop} : tCons ta tr σ H R = ta σ H fun x H1 => tr σ H1 fun xs H2 => R (x :: xs) H2 := rfl
theorem c {v : V} : tC v σ H Q = Q v H := rfl
theorem ifx {t : TT} {ta tb : TE} : tIf t ta tb σ H Q = t σ H fun b H1 => if b = true then ta σ H1 Q else tb σ H1 Q := rfl
theorem lst {t : TA} : tLst t σ H Q = t σ H fun xs H1 => xs.length ≤ sizeLine ∧ ∀ p, H1 p = none → Q (.ref p) (upd H1 p (.lst xs)) := rfl
theorem tup {t : TA} : tTup t σ H Q = t σ H fun xs H1 => xs.length ≤ sizeLine ∧ ∀ p, H1 p = none → Q (.ref p) (upd H1 p (.tup xs)) := rfl
theorem test {t : TE} {R : Bool → Hp → Prop} : tTest t σ H R = t σ H fun x H' => ∃ k, x = .bl k ∧ R k H' := rfl
theorem tb {t : TE} {R : Bool → Hp → Prop} : tB t σ H R = t σ H fun x H' => ∃ k, x = .bl k ∧ R k H' := rfl
theorem tnot {t : TT} {R : Bool → Hp → Prop} : tNot t σ H R = t σ H fun b H1 => R (!b) H1 := rfl
theorem tand {t u : TT} {R : Bool → Hp → Prop} : tAnd t u σ H R = t σ H fun b H1 => if b = true then u σ H1 R else R false H1 := rfl
theorem tor {t u : TT} {R : Bool → Hp → Prop} : tOr t u σ H R = t σ H fun b H1 => if b = true then R true H1 else u σ H1 R := rfl
theorem tandv {ta tb : TE} : tAndV ta tb σ H Q = ta σ H fun x H1 => ∃ b, x = .bl b ∧ if b = true then tb σ H1 Q else Q (.bl false) H1 := rfl
theorem torv {ta tb : TE} : tOrV ta tb σ H Q = ta σ H fun x H1 => ∃ b, x = .bl b ∧ if b = true then Q (.bl true) H1 else tb σ H1 Q := rfl
theorem tnotv {ta : TE} : tNotV ta σ H Q = ta σ H fun x H1 => ∃ b, x = .bl b ∧ Q (.bl (!b)) H1 := rfl
theorem chain {r r' : R2} {ta tb tc : TE} : tChain r r' ta tb tc σ H Q = ta σ H fun x H1 => tb σ H1 fun y H2 => r x y H2 fun z H3 => ∃ k, z = .bl k ∧ (if k = true then tc σ H3 fun w' H4 => r' y w' H4 Q else Q (.bl false) H3) := rfl
theorem bx {b : Bool} {R : Bool → Prop} : (∃ k, V.bl b = V.bl k ∧ R k) = R b := propext ⟨fun ⟨k, h, q⟩ => by cases h; exact q, fun q => ⟨b, rfl, q⟩⟩
theorem i0 {g : Int → Int → V} {i j : Int} : rI0 g (.int i) (.int j) H Q = Q (g i j) H := propext ⟨fun ⟨_, _, h1, h2, q⟩ => by cases h1; cases h2; exact q, fun q => ⟨i, j, rfl, rfl, q⟩⟩
theorem i1 {C : Int → Int → Prop} {g : Int → Int → V} {i j : Int} : rI C g (.int i) (.int j) H Q = (C i j ∧ Q (g i j) H) := propext ⟨fun ⟨_, _, h1, h2, c, q⟩ => by cases h1; cases h2; exact ⟨c, q⟩, fun ⟨c, q⟩ => ⟨i, j, rfl, rfl, c, q⟩⟩
theorem u1 {g : Int → V} {i : Int} : rU g (.int i) H Q = Q (g i) H := propext ⟨fun ⟨_, h1, q⟩ => by cases h1; exact q, fun q => ⟨i, rfl, q⟩⟩
theorem di {i j : Int} : decide (V.int i = V.int j) = decide (i = j) := by
  by_cases h : i = j
  · subst h; simp
  · rw [decide_eq_false h, decide_eq_false]; intro q; cases q; exact h rfl
theorem eqi {i j : Int} : rEq (.int i) (.int j) H Q = Q (.bl (decide (i = j))) H := by
  unfold rEq; rw [di]; exact propext ⟨fun q => q.2, fun q => ⟨rfl, q⟩⟩
theorem nei {i j : Int} : rNe (.int i) (.int j) H Q = Q (.bl (!decide (i = j))) H := by
  unfold rNe; rw [di]; exact propext ⟨fun q => q.2, fun q => ⟨rfl, q⟩⟩
/-! calls of built-ins -/
theorem dummy_ : True := trivial
end
/-- isinstance of a scalar and a built-in type -/
def isiF : V → String → Option Bool
  | .int _, T => kitB "int" T
  | .bl _, T => kitB "bool" T
  | .str _, T => kitB "str" T
  | .non, T => kitB "NoneType" T
  | _, _ => none
def rIsiV : List V → Hp → VK → Prop := fun xs H Q => ∃ x T b, xs = [x, .ty T] ∧ isiF x T = some b ∧ Q (.bl b) H
theorem isv {x : V} {T : String} {b : Bool} {H : Hp} {Q : VK} (h : isiF x T = some b) : rIsiV [x, .ty T] H Q = Q (.bl b) H := propext ⟨fun ⟨_, _, _, e, f, q⟩ => by
  cases e
  rw [h] at f
  cases f
  exact q, fun q => ⟨x, T, b, rfl, h, q⟩⟩
theorem isv_ii {i : Int} {H : Hp} {Q : VK} : rIsiV [.int i, .ty "int"] H Q = Q (.bl true) H := isv (by show kitB "int" "int" = some true; decide +kernel)
theorem isv_ib {i : Int} {H : Hp} {Q : VK} : rIsiV [.int i, .ty "bool"] H Q = Q (.bl false) H := isv (by show kitB "int" "bool" = some false; decide +kernel)
section
variable {X : Cx}
theorem call_isiV : CallR X (.builtin "isinstance") rIsiV := by
  intro pins s σ H xs us Q I r h
  obtain ⟨x, T, b, rfl, e, q⟩ := h
  refine call_isi pins s σ H _ us Q I r ?_
  cases x with
  | int i => exact ⟨_, _, .type "int", .type T, b, rfl, .ty T, .base (.int i), kit_ty e, q⟩
  | bl i => exact ⟨_, _, .type "bool", .type T, b, rfl, .ty T, .base (.bl i), kit_ty e, q⟩
  | str i => exact ⟨_, _, .type "str", .type T, b, rfl, .ty T, .base (.str i), kit_ty e, q⟩
  | non => exact ⟨_, _, .type "NoneType", .type T, b, rfl, .ty T, .base .non, kit_ty e, q⟩
  | ref a => cases e
  | ty a => cases e
  | flt a => cases e
  | byt a => cases e
theorem pe_gint {x : Str} {i : Int} {pos : Pos} (h : ∃ t, X.mg x = some (.int i t)) (hg : Gl X x) (hd : (x == ("__debug__" : Str)) = false := by decide) : PE X (.Name x pos) (tC (.int i)) := by
  obtain ⟨t, h⟩ := h
  exact pe_glob hg h ⟨_, rfl⟩ hd
end
/-! calls of built-ins by name -/
def rAbs : List V → Hp → VK → Prop := fun xs H Q => ∃ i, xs = [.int i] ∧ Q (.int (if i < 0 then -i else i)) H
def rMax2 : List V → Hp → VK → Prop := fun xs H Q => ∃ i j, xs = [.int i, .int j] ∧ Q (.int (if j > i then j else i)) H
def rMin2 : List V → Hp → VK → Prop := fun xs H Q => ∃ i j, xs = [.int i, .int j] ∧ Q (.int (if j < i then j else i)) H
def rInt : List V → Hp → VK → Prop := fun xs H Q => (∃ i, xs = [.int i] ∧ Q (.int i) H) ∨ ∃ k, xs = [.bl k] ∧ Q (.int (if k then 1 else 0)) H
def rLen (K : PySem.W.Frag) : List V → Hp → VK → Prop := fun xs H Q => ∃ p ys, xs = [.ref p] ∧ (SqL K H p ys ∨ SqT K H p ys) ∧ Q (.int ys.length) H
def rList (K : PySem.W.Frag) : List V → Hp → VK → Prop := fun xs H Q => ∃ p ys, xs = [.ref p] ∧ (SqL K H p ys ∨ SqT K H p ys) ∧ ∀ l, H l = none → Q (.ref l) (upd H l (.lst ys))
section
variable {X : Cx} {H : Hp} {Q : VK}
theorem c_abs : CallR X (.builtin "abs") rAbs := call_abs
theorem c_max2 (hc : X.calm = true) : CallR X (.builtin "max") rMax2 := call_max2 hc
theorem c_min2 (hc : X.calm = true) : CallR X (.builtin "min") rMin2 := call_min2 hc
theorem c_int : CallR X (.type "int") rInt := call_int1
theorem c_len : CallR X (.builtin "len") (rLen X.K) := call_len_seq
theorem c_list : CallR X (.type "list") (rList X.K) := call_list_of
theorem cabs {i : Int} : rAbs [.int i] H Q = Q (.int (if i < 0 then -i else i)) H := propext ⟨fun ⟨_, h, q⟩ => by cases h; exact q, fun q => ⟨i, rfl, q⟩⟩
theorem cmax {i j : Int} : rMax2 [.int i, .int j] H Q = Q (.int (if j > i then j else i)) H := propext ⟨fun ⟨_, _, h, q⟩ => by cases h; exact q, fun q => ⟨i, j, rfl, q⟩⟩
theorem cmin {i j : Int} : rMin2 [.int i, .int j] H Q = Q (.int (if j < i then j else i)) H := propext ⟨fun ⟨_, _, h, q⟩ => by cases h; exact q, fun q => ⟨i, j, rfl, q⟩⟩
theorem cinti {i : Int} : rInt [.int i] H Q = Q (.int i) H := by
  apply propext
  constructor
  · intro q
    rcases q with ⟨k, h, q⟩ | ⟨k, h, q⟩
    · cases h; exact q
    · cases h
  · intro q
    exact Or.inl ⟨i, rfl, q⟩
theorem cintb {b : Bool} : rInt [.bl b] H Q = Q (.int (if b then 1 else 0)) H := by
  apply propext
  constructor
  · intro q
    rcases q with ⟨k, h, q⟩ | ⟨k, h, q⟩
    · cases h
    · cases h; exact q
  · intro q
    exact Or.inr ⟨b, rfl, q⟩
end
/-- a def of the module with its promise, as others call it -/
structure Def (P : Program) (w : World) (K : PySem.W.Frag) (mg : Str → Option Value) (base : Heap) (k : Nat) (x : Str) (ps : List Str) (sp : Sp) : Prop where
  ex : ∃ f fd, FnOk P w K mg base CX0 k f fd ps sp ∧ mg x = some (.ref f) ∧ PySem.W.keepIn K (.ref f) = true ∧ Binds K fd ps []
theorem Def.call {X : Cx} {k : Nat} {x : Str} {ps : List Str} {sp : Sp} {e : Expr} {es : List Expr} {t : TA} {p pos : Pos} (G : Def X.prog X.w X.K X.mg X.base k x ps sp) (hr : Room k X.A) (hg : Gl X x)
    (ha : PA X (e :: es) t) (hdb : (x == ("__debug__" : Str)) = false := by decide) (he : starEach (e :: es) X.env = (false, eval e X.env) :: starEach es X.env := by rfl) (hpl : (backTo pos (starEach es X.env)).any (·.1) = false := by rfl) :
    PE X (.Call (.Name x p) (e :: es) [] pos) (tCall sp [] (fun _ _ _ => False) t) := by
  refine ⟨fun pins s σ H Q I h => ?_⟩
  obtain ⟨f, fd, F, hm, hk, hb⟩ := G.ex
  exact (pe_call F hr hg hm hk hb .nil (fun _ _ _ _ _ _ _ h => h.elim) ha hdb he hpl).run pins s σ H Q I h
/-! ### the laws' pool -/
def PoolC (H : Hp) (p l : Addr) (ns : List Int) (i x c e : Int) : Prop := H p = some (.lst [.ref l, .int i, .int x, .int c, .int e]) ∧ H l = some (.lst (ns.map V.int)) ∧ 0 ≤ i
def PoolAt (H : Hp) (p : Addr) : Prop := ∃ l ns i x c e, PoolC H p l ns i x c e
theorem PoolC.ne {H : Hp} {p l : Addr} {ns : List Int} {i x c e : Int} (h : PoolC H p l ns i x c e) : l ≠ p := fun z => by
  obtain ⟨h1, h2, _⟩ := h
  subst z
  rw [h1] at h2
  have h3 := HO.lst.inj (Option.some.inj h2)
  cases ns with
  | nil => cases h3
  | cons n ns => rw [List.map_cons] at h3; cases h3
/-- all but p stands as it stood -/
def But (p : Addr) (H H' : Hp) : Prop := ∀ b, b ≠ p → H' b = H b
/-- what H told, and not at p, stands -/
def Ext (p : Addr) (H H' : Hp) : Prop := ∀ b o, b ≠ p → H b = some o → H' b = some o
def spPool (K : PySem.W.Frag) : Sp := fun vs H Q _ => ∃ (a : Addr) (ns : List Int), vs = [.ref a] ∧ SqL K H a (ns.map V.int) ∧ ∀ p H', H p = none → (∀ b o, H b = some o → H' b = some o) → PoolAt H' p → Q (.ref p) H'
def spDraw : Sp := fun vs H Q _ => ∃ (p : Addr) (m : Int), vs = [.ref p, .int m] ∧ PoolAt H p ∧ 0 < m ∧ m.natAbs < 2 ^ 200 ∧ ∀ r H', 0 ≤ r → r < m → PoolAt H' p → But p H H' → Q (.int r) H'
end Wp

namespace Wp
open PySem L2
section
variable {H : Hp} {Q : VK} {l : L2.St} {v : V} {a0 : Option V} {a1 : Option V} {a2 : Option V} {a3 : Option V} {a4 : Option V} {a5 : Option V} {a6 : Option V} {a7 : Option V} {a8 : Option V} {a9 : Option V} {a10 : Option V} {a11 : Option V} {a12 : Option V} {a13 : Option V} {a14 : Option V} {a15 : Option V} {a16 : Option V} {a17 : Option V} {a18 : Option V} {a19 : Option V} {a20 : Option V} {a21 : Option V} {a22 : Option V} {a23 : Option V}
theorem v0 : tVar 0 (some v :: l) H Q = Q v H := propext ⟨fun ⟨_, h, q⟩ => by cases h; exact q, fun q => ⟨v, rfl, q⟩⟩
theorem v1 : tVar 1 (a0 :: some v :: l) H Q = Q v H := propext ⟨fun ⟨_, h, q⟩ => by cases h; exact q, fun q => ⟨v, rfl, q⟩⟩
theorem v2 : tVar 2 (a0 :: a1 :: some v :: l) H Q = Q v H := propext ⟨fun ⟨_, h, q⟩ => by cases h; exact q, fun q => ⟨v, rfl, q⟩⟩
theorem v3 : tVar 3 (a0 :: a1 :: a2 :: some v :: l) H Q = Q v H := propext ⟨fun ⟨_, h, q⟩ => by cases h; exact q, fun q => ⟨v, rfl, q⟩⟩
theorem v4 : tVar 4 (a0 :: a1 :: a2 :: a3 :: some v :: l) H Q = Q v H := propext ⟨fun ⟨_, h, q⟩ => by cases h; exact q, fun q => ⟨v, rfl, q⟩⟩
theorem v5 : tVar 5 (a0 :: a1 :: a2 :: a3 :: a4 :: some v :: l) H Q = Q v H := propext ⟨fun ⟨_, h, q⟩ => by cases h; exact q, fun q => ⟨v, rfl, q⟩⟩
theorem v6 : tVar 6 (a0 :: a1 :: a2 :: a3 :: a4 :: a5 :: some v :: l) H Q = Q v H := propext ⟨fun ⟨_, h, q⟩ => by cases h; exact q, fun q => ⟨v, rfl, q⟩⟩
theorem v7 : tVar 7 (a0 :: a1 :: a2 :: a3 :: a4 :: a5 :: a6 :: some v :: l) H Q = Q v H := propext ⟨fun ⟨_, h, q⟩ => by cases h; exact q, fun q => ⟨v, rfl, q⟩⟩
theorem v8 : tVar 8 (a0 :: a1 :: a2 :: a3 :: a4 :: a5 :: a6 :: a7 :: some v :: l) H Q = Q v H := propext ⟨fun ⟨_, h, q⟩ => by cases h; exact q, fun q => ⟨v, rfl, q⟩⟩
theorem v9 : tVar 9 (a0 :: a1 :: a2 :: a3 :: a4 :: a5 :: a6 :: a7 :: a8 :: some v :: l) H Q = Q v H := propext ⟨fun ⟨_, h, q⟩ => by cases h; exact q, fun q => ⟨v, rfl, q⟩⟩
theorem v10 : tVar 10 (a0 :: a1 :: a2 :: a3 :: a4 :: a5 :: a6 :: a7 :: a8 :: a9 :: some v :: l) H Q = Q v H := propext ⟨fun ⟨_, h, q⟩ => by cases h; exact q, fun q => ⟨v, rfl, q⟩⟩
theorem v11 : tVar 11 (a0 :: a1 :: a2 :: a3 :: a4 :: a5 :: a6 :: a7 :: a8 :: a9 :: a10 :: some v :: l) H Q = Q v H := propext ⟨fun ⟨_, h, q⟩ => by cases h; exact q, fun q => ⟨v, rfl, q⟩⟩
theorem v12 : tVar 12 (a0 :: a1 :: a2 :: a3 :: a4 :: a5 :: a6 :: a7 :: a8 :: a9 :: a10 :: a11 :: some v :: l) H Q = Q v H := propext ⟨fun ⟨_, h, q⟩ => by cases h; exact q, fun q => ⟨v, rfl, q⟩⟩
theorem v13 : tVar 13 (a0 :: a1 :: a2 :: a3 :: a4 :: a5 :: a6 :: a7 :: a8 :: a9 :: a10 :: a11 :: a12 :: some v :: l) H Q = Q v H := propext ⟨fun ⟨_, h, q⟩ => by cases h; exact q, fun q => ⟨v, rfl, q⟩⟩
theorem v14 : tVar 14 (a0 :: a1 :: a2 :: a3 :: a4 :: a5 :: a6 :: a7 :: a8 :: a9 :: a10 :: a11 :: a12 :: a13 :: some v :: l) H Q = Q v H := propext ⟨fun ⟨_, h, q⟩ => by cases h; exact q, fun q => ⟨v, rfl, q⟩⟩
theorem v15 : tVar 15 (a0 :: a1 :: a2 :: a3 :: a4 :: a5 :: a6 :: a7 :: a8 :: a9 :: a10 :: a11 :: a12 :: a13 :: a14 :: some v :: l) H Q = Q v H := propext ⟨fun ⟨_, h, q⟩ => by cases h; exact q, fun q => ⟨v, rfl, q⟩⟩
theorem v16 : tVar 16 (a0 :: a1 :: a2 :: a3 :: a4 :: a5 :: a6 :: a7 :: a8 :: a9 :: a10 :: a11 :: a12 :: a13 :: a14 :: a15 :: some v :: l) H Q = Q v H := propext ⟨fun ⟨_, h, q⟩ => by cases h; exact q, fun q => ⟨v, rfl, q⟩⟩
theorem v17 : tVar 17 (a0 :: a1 :: a2 :: a3 :: a4 :: a5 :: a6 :: a7 :: a8 :: a9 :: a10 :: a11 :: a12 :: a13 :: a14 :: a15 :: a16 :: some v :: l) H Q = Q v H := propext ⟨fun ⟨_, h, q⟩ => by cases h; exact q, fun q => ⟨v, rfl, q⟩⟩
theorem v18 : tVar 18 (a0 :: a1 :: a2 :: a3 :: a4 :: a5 :: a6 :: a7 :: a8 :: a9 :: a10 :: a11 :: a12 :: a13 :: a14 :: a15 :: a16 :: a17 :: some v :: l) H Q = Q v H := propext ⟨fun ⟨_, h, q⟩ => by cases h; exact q, fun q => ⟨v, rfl, q⟩⟩
theorem v19 : tVar 19 (a0 :: a1 :: a2 :: a3 :: a4 :: a5 :: a6 :: a7 :: a8 :: a9 :: a10 :: a11 :: a12 :: a13 :: a14 :: a15 :: a16 :: a17 :: a18 :: some v :: l) H Q = Q v H := propext ⟨fun ⟨_, h, q⟩ => by cases h; exact q, fun q => ⟨v, rfl, q⟩⟩
theorem v20 : tVar 20 (a0 :: a1 :: a2 :: a3 :: a4 :: a5 :: a6 :: a7 :: a8 :: a9 :: a10 :: a11 :: a12 :: a13 :: a14 :: a15 :: a16 :: a17 :: a18 :: a19 :: some v :: l) H Q = Q v H := propext ⟨fun ⟨_, h, q⟩ => by cases h; exact q, fun q => ⟨v, rfl, q⟩⟩
theorem v21 : tVar 21 (a0 :: a1 :: a2 :: a3 :: a4 :: a5 :: a6 :: a7 :: a8 :: a9 :: a10 :: a11 :: a12 :: a13 :: a14 :: a15 :: a16 :: a17 :: a18 :: a19 :: a20 :: some v :: l) H Q = Q v H := propext ⟨fun ⟨_, h, q⟩ => by cases h; exact q, fun q => ⟨v, rfl, q⟩⟩
theorem v22 : tVar 22 (a0 :: a1 :: a2 :: a3 :: a4 :: a5 :: a6 :: a7 :: a8 :: a9 :: a10 :: a11 :: a12 :: a13 :: a14 :: a15 :: a16 :: a17 :: a18 :: a19 :: a20 :: a21 :: some v :: l) H Q = Q v H := propext ⟨fun ⟨_, h, q⟩ => by cases h; exact q, fun q => ⟨v, rfl, q⟩⟩
theorem v23 : tVar 23 (a0 :: a1 :: a2 :: a3 :: a4 :: a5 :: a6 :: a7 :: a8 :: a9 :: a10 :: a11 :: a12 :: a13 :: a14 :: a15 :: a16 :: a17 :: a18 :: a19 :: a20 :: a21 :: a22 :: some v :: l) H Q = Q v H := propext ⟨fun ⟨_, h, q⟩ => by cases h; exact q, fun q => ⟨v, rfl, q⟩⟩
theorem s0 {α : Type} {b : α} {l : List α} {a0 : α} : List.set (a0 :: l) 0 b = b :: l := rfl
theorem s1 {α : Type} {b : α} {l : List α} {a0 : α} {a1 : α} : List.set (a0 :: a1 :: l) 1 b = a0 :: b :: l := rfl
theorem s2 {α : Type} {b : α} {l : List α} {a0 : α} {a1 : α} {a2 : α} : List.set (a0 :: a1 :: a2 :: l) 2 b = a0 :: a1 :: b :: l := rfl
theorem s3 {α : Type} {b : α} {l : List α} {a0 : α} {a1 : α} {a2 : α} {a3 : α} : List.set (a0 :: a1 :: a2 :: a3 :: l) 3 b = a0 :: a1 :: a2 :: b :: l := rfl
theorem s4 {α : Type} {b : α} {l : List α} {a0 : α} {a1 : α} {a2 : α} {a3 : α} {a4 : α} : List.set (a0 :: a1 :: a2 :: a3 :: a4 :: l) 4 b = a0 :: a1 :: a2 :: a3 :: b :: l := rfl
theorem s5 {α : Type} {b : α} {l : List α} {a0 : α} {a1 : α} {a2 : α} {a3 : α} {a4 : α} {a5 : α} : List.set (a0 :: a1 :: a2 :: a3 :: a4 :: a5 :: l) 5 b = a0 :: a1 :: a2 :: a3 :: a4 :: b :: l := rfl
theorem s6 {α : Type} {b : α} {l : List α} {a0 : α} {a1 : α} {a2 : α} {a3 : α} {a4 : α} {a5 : α} {a6 : α} : List.set (a0 :: a1 :: a2 :: a3 :: a4 :: a5 :: a6 :: l) 6 b = a0 :: a1 :: a2 :: a3 :: a4 :: a5 :: b :: l := rfl
theorem s7 {α : Type} {b : α} {l : List α} {a0 : α} {a1 : α} {a2 : α} {a3 : α} {a4 : α} {a5 : α} {a6 : α} {a7 : α} : List.set (a0 :: a1 :: a2 :: a3 :: a4 :: a5 :: a6 :: a7 :: l) 7 b = a0 :: a1 :: a2 :: a3 :: a4 :: a5 :: a6 :: b :: l := rfl
theorem s8 {α : Type} {b : α} {l : List α} {a0 : α} {a1 : α} {a2 : α} {a3 : α} {a4 : α} {a5 : α} {a6 : α} {a7 : α} {a8 : α} : List.set (a0 :: a1 :: a2 :: a3 :: a4 :: a5 :: a6 :: a7 :: a8 :: l) 8 b = a0 :: a1 :: a2 :: a3 :: a4 :: a5 :: a6 :: a7 :: b :: l := rfl
theorem s9 {α : Type} {b : α} {l : List α} {a0 : α} {a1 : α} {a2 : α} {a3 : α} {a4 : α} {a5 : α} {a6 : α} {a7 : α} {a8 : α} {a9 : α} : List.set (a0 :: a1 :: a2 :: a3 :: a4 :: a5 :: a6 :: a7 :: a8 :: a9 :: l) 9 b = a0 :: a1 :: a2 :: a3 :: a4 :: a5 :: a6 :: a7 :: a8 :: b :: l := rfl
theorem s10 {α : Type} {b : α} {l : List α} {a0 : α} {a1 : α} {a2 : α} {a3 : α} {a4 : α} {a5 : α} {a6 : α} {a7 : α} {a8 : α} {a9 : α} {a10 : α} : List.set (a0 :: a1 :: a2 :: a3 :: a4 :: a5 :: a6 :: a7 :: a8 :: a9 :: a10 :: l) 10 b = a0 :: a1 :: a2 :: a3 :: a4 :: a5 :: a6 :: a7 :: a8 :: a9 :: b :: l := rfl
theorem s11 {α : Type} {b : α} {l : List α} {a0 : α} {a1 : α} {a2 : α} {a3 : α} {a4 : α} {a5 : α} {a6 : α} {a7 : α} {a8 : α} {a9 : α} {a10 : α} {a11 : α} : List.set (a0 :: a1 :: a2 :: a3 :: a4 :: a5 :: a6 :: a7 :: a8 :: a9 :: a10 :: a11 :: l) 11 b = a0 :: a1 :: a2 :: a3 :: a4 :: a5 :: a6 :: a7 :: a8 :: a9 :: a10 :: b :: l := rfl
theorem s12 {α : Type} {b : α} {l : List α} {a0 : α} {a1 : α} {a2 : α} {a3 : α} {a4 : α} {a5 : α} {a6 : α} {a7 : α} {a8 : α} {a9 : α} {a10 : α} {a11 : α} {a12 : α} : List.set (a0 :: a1 :: a2 :: a3 :: a4 :: a5 :: a6 :: a7 :: a8 :: a9 :: a10 :: a11 :: a12 :: l) 12 b = a0 :: a1 :: a2 :: a3 :: a4 :: a5 :: a6 :: a7 :: a8 :: a9 :: a10 :: a11 :: b :: l := rfl
theorem s13 {α : Type} {b : α} {l : List α} {a0 : α} {a1 : α} {a2 : α} {a3 : α} {a4 : α} {a5 : α} {a6 : α} {a7 : α} {a8 : α} {a9 : α} {a10 : α} {a11 : α} {a12 : α} {a13 : α} : List.set (a0 :: a1 :: a2 :: a3 :: a4 :: a5 :: a6 :: a7 :: a8 :: a9 :: a10 :: a11 :: a12 :: a13 :: l) 13 b = a0 :: a1 :: a2 :: a3 :: a4 :: a5 :: a6 :: a7 :: a8 :: a9 :: a10 :: a11 :: a12 :: b :: l := rfl
theorem s14 {α : Type} {b : α} {l : List α} {a0 : α} {a1 : α} {a2 : α} {a3 : α} {a4 : α} {a5 : α} {a6 : α} {a7 : α} {a8 : α} {a9 : α} {a10 : α} {a11 : α} {a12 : α} {a13 : α} {a14 : α} : List.set (a0 :: a1 :: a2 :: a3 :: a4 :: a5 :: a6 :: a7 :: a8 :: a9 :: a10 :: a11 :: a12 :: a13 :: a14 :: l) 14 b = a0 :: a1 :: a2 :: a3 :: a4 :: a5 :: a6 :: a7 :: a8 :: a9 :: a10 :: a11 :: a12 :: a13 :: b :: l := rfl
theorem s15 {α : Type} {b : α} {l : List α} {a0 : α} {a1 : α} {a2 : α} {a3 : α} {a4 : α} {a5 : α} {a6 : α} {a7 : α} {a8 : α} {a9 : α} {a10 : α} {a11 : α} {a12 : α} {a13 : α} {a14 : α} {a15 : α} : List.set (a0 :: a1 :: a2 :: a3 :: a4 :: a5 :: a6 :: a7 :: a8 :: a9 :: a10 :: a11 :: a12 :: a13 :: a14 :: a15 :: l) 15 b = a0 :: a1 :: a2 :: a3 :: a4 :: a5 :: a6 :: a7 :: a8 :: a9 :: a10 :: a11 :: a12 :: a13 :: a14 :: b :: l := rfl
theorem s16 {α : Type} {b : α} {l : List α} {a0 : α} {a1 : α} {a2 : α} {a3 : α} {a4 : α} {a5 : α} {a6 : α} {a7 : α} {a8 : α} {a9 : α} {a10 : α} {a11 : α} {a12 : α} {a13 : α} {a14 : α} {a15 : α} {a16 : α} : List.set (a0 :: a1 :: a2 :: a3 :: a4 :: a5 :: a6 :: a7 :: a8 :: a9 :: a10 :: a11 :: a12 :: a13 :: a14 :: a15 :: a16 :: l) 16 b = a0 :: a1 :: a2 :: a3 :: a4 :: a5 :: a6 :: a7 :: a8 :: a9 :: a10 :: a11 :: a12 :: a13 :: a14 :: a15 :: b :: l := rfl
theorem s17 {α : Type} {b : α} {l : List α} {a0 : α} {a1 : α} {a2 : α} {a3 : α} {a4 : α} {a5 : α} {a6 : α} {a7 : α} {a8 : α} {a9 : α} {a10 : α} {a11 : α} {a12 : α} {a13 : α} {a14 : α} {a15 : α} {a16 : α} {a17 : α} : List.set (a0 :: a1 :: a2 :: a3 :: a4 :: a5 :: a6 :: a7 :: a8 :: a9 :: a10 :: a11 :: a12 :: a13 :: a14 :: a15 :: a16 :: a17 :: l) 17 b = a0 :: a1 :: a2 :: a3 :: a4 :: a5 :: a6 :: a7 :: a8 :: a9 :: a10 :: a11 :: a12 :: a13 :: a14 :: a15 :: a16 :: b :: l := rfl
theorem s18 {α : Type} {b : α} {l : List α} {a0 : α} {a1 : α} {a2 : α} {a3 : α} {a4 : α} {a5 : α} {a6 : α} {a7 : α} {a8 : α} {a9 : α} {a10 : α} {a11 : α} {a12 : α} {a13 : α} {a14 : α} {a15 : α} {a16 : α} {a17 : α} {a18 : α} : List.set (a0 :: a1 :: a2 :: a3 :: a4 :: a5 :: a6 :: a7 :: a8 :: a9 :: a10 :: a11 :: a12 :: a13 :: a14 :: a15 :: a16 :: a17 :: a18 :: l) 18 b = a0 :: a1 :: a2 :: a3 :: a4 :: a5 :: a6 :: a7 :: a8 :: a9 :: a10 :: a11 :: a12 :: a13 :: a14 :: a15 :: a16 :: a17 :: b :: l := rfl
theorem s19 {α : Type} {b : α} {l : List α} {a0 : α} {a1 : α} {a2 : α} {a3 : α} {a4 : α} {a5 : α} {a6 : α} {a7 : α} {a8 : α} {a9 : α} {a10 : α} {a11 : α} {a12 : α} {a13 : α} {a14 : α} {a15 : α} {a16 : α} {a17 : α} {a18 : α} {a19 : α} : List.set (a0 :: a1 :: a2 :: a3 :: a4 :: a5 :: a6 :: a7 :: a8 :: a9 :: a10 :: a11 :: a12 :: a13 :: a14 :: a15 :: a16 :: a17 :: a18 :: a19 :: l) 19 b = a0 :: a1 :: a2 :: a3 :: a4 :: a5 :: a6 :: a7 :: a8 :: a9 :: a10 :: a11 :: a12 :: a13 :: a14 :: a15 :: a16 :: a17 :: a18 :: b :: l := rfl
theorem s20 {α : Type} {b : α} {l : List α} {a0 : α} {a1 : α} {a2 : α} {a3 : α} {a4 : α} {a5 : α} {a6 : α} {a7 : α} {a8 : α} {a9 : α} {a10 : α} {a11 : α} {a12 : α} {a13 : α} {a14 : α} {a15 : α} {a16 : α} {a17 : α} {a18 : α} {a19 : α} {a20 : α} : List.set (a0 :: a1 :: a2 :: a3 :: a4 :: a5 :: a6 :: a7 :: a8 :: a9 :: a10 :: a11 :: a12 :: a13 :: a14 :: a15 :: a16 :: a17 :: a18 :: a19 :: a20 :: l) 20 b = a0 :: a1 :: a2 :: a3 :: a4 :: a5 :: a6 :: a7 :: a8 :: a9 :: a10 :: a11 :: a12 :: a13 :: a14 :: a15 :: a16 :: a17 :: a18 :: a19 :: b :: l := rfl
theorem s21 {α : Type} {b : α} {l : List α} {a0 : α} {a1 : α} {a2 : α} {a3 : α} {a4 : α} {a5 : α} {a6 : α} {a7 : α} {a8 : α} {a9 : α} {a10 : α} {a11 : α} {a12 : α} {a13 : α} {a14 : α} {a15 : α} {a16 : α} {a17 : α} {a18 : α} {a19 : α} {a20 : α} {a21 : α} : List.set (a0 :: a1 :: a2 :: a3 :: a4 :: a5 :: a6 :: a7 :: a8 :: a9 :: a10 :: a11 :: a12 :: a13 :: a14 :: a15 :: a16 :: a17 :: a18 :: a19 :: a20 :: a21 :: l) 21 b = a0 :: a1 :: a2 :: a3 :: a4 :: a5 :: a6 :: a7 :: a8 :: a9 :: a10 :: a11 :: a12 :: a13 :: a14 :: a15 :: a16 :: a17 :: a18 :: a19 :: a20 :: b :: l := rfl
theorem s22 {α : Type} {b : α} {l : List α} {a0 : α} {a1 : α} {a2 : α} {a3 : α} {a4 : α} {a5 : α} {a6 : α} {a7 : α} {a8 : α} {a9 : α} {a10 : α} {a11 : α} {a12 : α} {a13 : α} {a14 : α} {a15 : α} {a16 : α} {a17 : α} {a18 : α} {a19 : α} {a20 : α} {a21 : α} {a22 : α} : List.set (a0 :: a1 :: a2 :: a3 :: a4 :: a5 :: a6 :: a7 :: a8 :: a9 :: a10 :: a11 :: a12 :: a13 :: a14 :: a15 :: a16 :: a17 :: a18 :: a19 :: a20 :: a21 :: a22 :: l) 22 b = a0 :: a1 :: a2 :: a3 :: a4 :: a5 :: a6 :: a7 :: a8 :: a9 :: a10 :: a11 :: a12 :: a13 :: a14 :: a15 :: a16 :: a17 :: a18 :: a19 :: a20 :: a21 :: b :: l := rfl
theorem s23 {α : Type} {b : α} {l : List α} {a0 : α} {a1 : α} {a2 : α} {a3 : α} {a4 : α} {a5 : α} {a6 : α} {a7 : α} {a8 : α} {a9 : α} {a10 : α} {a11 : α} {a12 : α} {a13 : α} {a14 : α} {a15 : α} {a16 : α} {a17 : α} {a18 : α} {a19 : α} {a20 : α} {a21 : α} {a22 : α} {a23 : α} : List.set (a0 :: a1 :: a2 :: a3 :: a4 :: a5 :: a6 :: a7 :: a8 :: a9 :: a10 :: a11 :: a12 :: a13 :: a14 :: a15 :: a16 :: a17 :: a18 :: a19 :: a20 :: a21 :: a22 :: a23 :: l) 23 b = a0 :: a1 :: a2 :: a3 :: a4 :: a5 :: a6 :: a7 :: a8 :: a9 :: a10 :: a11 :: a12 :: a13 :: a14 :: a15 :: a16 :: a17 :: a18 :: a19 :: a20 :: a21 :: a22 :: b :: l := rfl
end
end Wp

namespace Wp
open PySem L2
section
variable {K : PySem.W.Frag} {H : Hp} {Q : VK} {p : Addr} {xs : List V} {i : Int} {j : Nat} {v : V}
theorem ixl (h : H p = some (.lst xs)) (hi : atI xs i = some v) (q : Q v H) : rIxL K (.ref p) (.int i) H Q := ⟨p, xs, i, v, rfl, rfl, SqL.of h, hi, q⟩
theorem ixq (h : SqL K H p xs) (hi : atI xs i = some v) (q : Q v H) : rIxL K (.ref p) (.int i) H Q := ⟨p, xs, i, v, rfl, rfl, h, hi, q⟩
theorem setl {R : Hp → Prop} (h : H p = some (.lst xs)) (hj : ixN xs.length i = some j) (q : R (upd H p (.lst (xs.set j v)))) : rSetL (.ref p) (.int i) v H R := ⟨p, xs, i, j, rfl, rfl, h, hj, q⟩
theorem lenl (h : H p = some (.lst xs)) (q : Q (.int (xs.length : Int)) H) : rLen K [V.ref p] H Q := ⟨p, xs, rfl, .inl (SqL.of h), q⟩
theorem lent (h : H p = some (.tup xs)) (q : Q (.int (xs.length : Int)) H) : rLen K [V.ref p] H Q := ⟨p, xs, rfl, .inr (SqT.of h), q⟩
theorem lens (h : SqL K H p xs) (q : Q (.int (xs.length : Int)) H) : rLen K [V.ref p] H Q := ⟨p, xs, rfl, .inl h, q⟩
theorem lists (h : SqL K H p xs) (q : ∀ l, H l = none → Q (.ref l) (upd H l (.lst xs))) : rList K [V.ref p] H Q := ⟨p, xs, rfl, .inl h, q⟩
theorem listt (h : SqT K H p xs) (q : ∀ l, H l = none → Q (.ref l) (upd H l (.lst xs))) : rList K [V.ref p] H Q := ⟨p, xs, rfl, .inr h, q⟩
theorem u_ne {a : Addr} {o u : HO} (n : p ≠ a) (h : H p = some u) : upd H a o p = some u := (upd_ne n).trans h
theorem fresh_ne {a : Addr} {u : HO} (h : H p = some u) (n : H a = none) : p ≠ a := ne_of_none h n
theorem But.refl : But p H H := fun _ _ => rfl
theorem But.upd {H' : Hp} {o : HO} (b : But p H H') : But p H (upd H' p o) := fun c n => (upd_ne n).trans (b c n)
theorem atI_map {ns : List Int} {k : Int} (h0 : 0 ≤ k) (h : k < (ns.map V.int).length) : ∃ n, atI (ns.map V.int) k = some (.int n) := by
  obtain ⟨m, rfl⟩ : ∃ m : Nat, k = (m : Int) := ⟨k.toNat, by omega⟩
  have hm : m < (ns.map V.int).length := by omega
  have hm2 : m < ns.length := by rw [List.length_map] at hm; exact hm
  refine ⟨ns[m], atI_nat ?_⟩
  rw [List.getElem?_map, List.getElem?_eq_getElem hm2]
  rfl
end
end Wp

namespace Wp
open PySem L2
def NB (i : Int) (a : Nat) : Prop := i.natAbs < 2 ^ a
theorem NB.mul {i j : Int} {a b : Nat} (h : NB i a) (h' : NB j b) : NB (i * j) (a + b) := wide_lt h h'
theorem NB.of {i : Int} {a : Nat} (h0 : 0 ≤ i) (h : i < 2 ^ a) : NB i a := by
  unfold NB
  have h2 : ((2 ^ a : Nat) : Int) = (2 : Int) ^ a := by simp
  rw [← h2] at h
  omega
theorem NB.cm {i j : Int} {a b : Nat} (h : NB i a) (h' : NB j b) (h0 : 0 < a ∧ 0 < b ∧ a + b ≤ 1000000) : CMulW i j := wide_mul h h' h0.1 h0.2.1 h0.2.2
theorem NB.mod {a m : Int} (h0 : 0 < m) (h : m < 2 ^ 64) : NB (a % m) 64 := NB.of (Int.emod_nonneg _ (by omega)) (Int.lt_trans (Int.emod_lt_of_pos _ h0) h)
theorem cmm {a b m n : Int} (h0 : 0 < m) (h : m < 2 ^ 64) (h1 : 0 < n) (h2 : n < 2 ^ 64) : CMulW (a % m) (b % n) := (NB.mod h0 h).cm (NB.mod h1 h2) (by decide)
theorem dvs {a m : Int} (h0 : 0 < m) (h : m < 2 ^ 64) : CDivW a m := wide_div h0 (NB.of (Int.le_of_lt h0) h) (by decide) (by decide)
end Wp

namespace Wp
open PySem L2
section
variable {H H' H1 : Hp} {p l : Addr} {o : HO}
theorem PoolAt.new (h : PoolAt H p) (n : H l = none) : PoolAt (upd H l o) p := by
  obtain ⟨k, ns, i, x, c, e, h1, h2, h3⟩ := h
  exact ⟨k, ns, i, x, c, e, u_ne (ne_of_none h1 n) h1, u_ne (ne_of_none h2 n) h2, h3⟩
theorem PoolAt.has (h : PoolAt H p) : ∃ o, H p = some o := by
  obtain ⟨k, ns, i, x, c, e, h1, h2, h3⟩ := h
  exact ⟨_, h1⟩
theorem PoolAt.nefresh (h : PoolAt H p) (n : H l = none) : p ≠ l := by
  obtain ⟨o, h⟩ := h.has
  exact ne_of_none h n
theorem Ext.refl : Ext p H H := fun _ _ _ h => h
theorem Ext.trans (a : Ext p H H') (b : Ext p H' H1) : Ext p H H1 := fun c o n h => b c o n (a c o n h)
theorem But.ext (a : But p H H') : Ext p H H' := fun c o n h => (a c n).trans h
theorem Ext.new (n : H l = none) : Ext p H (upd H l o) := fun c u _ h => u_ne (ne_of_none h n) h
end
end Wp

namespace Wp
open PySem L2
/-! loops -/
def LOOP (J : It) (g : TG) (b : TS) (D : Ends) (st : L2.St) (h : Hp) : Prop := ∃ W : Nat → Nat → L2.St → Hp → Prop, (∃ m, W 0 m st h) ∧ ∀ i m st h, W i m st h → (J.stop i h ∧ D.nx st h) ∨ (J.go i h ∧ ∃ N : L2.St → Hp → Prop, (∀ st' h', N st' h' → ∃ m', m' < m ∧ W (i + 1) m' st' h') ∧ ∀ x h', J.yld i h x h' → g x st h' fun st2 h2 => b { D with nx := N, ct := N, bk := D.nx } st2 h2)
def LC (J : It) (g : TG) (tt : TT) (te : TE) (vs : List Nat) (st : L2.St) (h1 : Hp) (D : Addr) (Q : VK) : Prop := ∃ W : Nat → Nat → Hp → Prop, (∃ m, W 0 m (upd h1 D (.lst []))) ∧ ∀ i m h, W i m h → (J.stop i h ∧ Q (.ref D) h) ∨ (J.go i h ∧ ∃ N : Hp → Prop, (∀ h', N h' → ∃ m', m' < m ∧ W (i + 1) m' h') ∧ ∀ x h', J.yld i h x h' → g x (wipe st vs) h' fun st2 h2 => wipe st2 vs = wipe st vs ∧ tt st2 h2 fun b h3 => if b = true then te st2 h3 fun y h4 => ∃ acc, h4 D = some (.lst acc) ∧ acc.length < sizeLine ∧ N (upd h4 D (.lst (acc ++ [y]))) else N h3)
def rR1 (vs : List V) (H : Hp) (R : It → Hp → Prop) : Prop := ∃ j : Int, vs = [.int j] ∧ -(2 ^ 62) ≤ j ∧ j < 2 ^ 62 ∧ R (Itr 0 j.toNat) H
def rR2 (vs : List V) (H : Hp) (R : It → Hp → Prop) : Prop := ∃ i j : Int, vs = [.int i, .int j] ∧ (-(2 ^ 62) ≤ i ∧ i < 2 ^ 62 ∧ -(2 ^ 62) ≤ j ∧ j < 2 ^ 62) ∧ R (Itr i (j - i).toNat) H
def rIL (K : PySem.W.Frag) (x : V) (H : Hp) (R : It → Hp → Prop) : Prop := ∃ a, x = .ref a ∧ (∃ xs, SqL K H a xs) ∧ R (Itl K a) H
def rIT (K : PySem.W.Frag) (x : V) (H : Hp) (R : It → Hp → Prop) : Prop := ∃ a, x = .ref a ∧ (∃ xs, SqT K H a xs) ∧ R (Itt K a) H
section
variable {σ : L2.St} {H : Hp} {Q : VK} {D : Ends} {K : PySem.W.Frag} {R : It → Hp → Prop} {g : TG} {tb : TS}
theorem for_ {wi : TI} : tFor wi g tb D σ H = wi σ H fun J H1 => LOOP J g tb D σ H1 := rfl
theorem lc_ {wi : TI} {tt : TT} {te : TE} {vs : List Nat} : tLc wi g tt te vs σ H Q = wi σ H fun J H1 => ∀ D, H1 D = none → LC J g tt te vs σ H1 D Q := rfl
theorem ilist {tl : TE} : iList K tl σ H R = tl σ H fun x H1 => rIL K x H1 R := rfl
theorem itup {tl : TE} : iTup K tl σ H R = tl σ H fun x H1 => rIT K x H1 R := rfl
theorem irng1 {ta : TA} : iRng1 ta σ H R = ta σ H fun vs H1 => rR1 vs H1 R := rfl
theorem irng2 {ta : TA} : iRng2 ta σ H R = ta σ H fun vs H1 => rR2 vs H1 R := rfl
theorem rr1 {n : Int} : rR1 [.int n] H R = ((-(2 ^ 62) ≤ n ∧ n < 2 ^ 62) ∧ R (Itr 0 n.toNat) H) := propext ⟨fun ⟨_, e, a, b, c⟩ => by cases e; exact ⟨⟨a, b⟩, c⟩, fun ⟨⟨a, b⟩, c⟩ => ⟨n, rfl, a, b, c⟩⟩
theorem rr2 {i n : Int} : rR2 [.int i, .int n] H R = ((-(2 ^ 62) ≤ i ∧ i < 2 ^ 62 ∧ -(2 ^ 62) ≤ n ∧ n < 2 ^ 62) ∧ R (Itr i (n - i).toNat) H) := propext ⟨fun ⟨_, _, e, a, c⟩ => by cases e; exact ⟨a, c⟩, fun ⟨a, c⟩ => ⟨i, n, rfl, a, c⟩⟩
theorem ril {a : Addr} {xs : List V} (h : H a = some (.lst xs)) (q : R (Itl K a) H) : rIL K (.ref a) H R := ⟨a, rfl, ⟨xs, SqL.of h⟩, q⟩
theorem rilq {a : Addr} {xs : List V} (h : SqL K H a xs) (q : R (Itl K a) H) : rIL K (.ref a) H R := ⟨a, rfl, ⟨xs, h⟩, q⟩
theorem rit {a : Addr} {xs : List V} (h : H a = some (.tup xs)) (q : R (Itt K a) H) : rIT K (.ref a) H R := ⟨a, rfl, ⟨xs, SqT.of h⟩, q⟩
theorem loopR {lo : Int} {n : Nat} (Pv : Nat → L2.St → Hp → Prop) (h0 : Pv 0 σ H)
    (hs : ∀ (i : Nat) σ H, i < n → Pv i σ H → g (.int (lo + i)) σ H fun σ2 H2 => tb { D with nx := Pv (i + 1), ct := Pv (i + 1), bk := D.nx } σ2 H2) (hd : ∀ σ H, Pv n σ H → D.nx σ H) : LOOP (Itr lo n) g tb D σ H := for_range Pv h0 hs hd
theorem loopL {a : Addr} (xs : List V) (Pv : Nat → L2.St → Hp → Prop) (h0 : Pv 0 σ H) (hl : ∀ i σ H, i ≤ xs.length → Pv i σ H → SqL K H a xs)
    (hs : ∀ i x σ H, xs[i]? = some x → Pv i σ H → g x σ H fun σ2 H2 => tb { D with nx := Pv (i + 1), ct := Pv (i + 1), bk := D.nx } σ2 H2) (hd : ∀ σ H, Pv xs.length σ H → D.nx σ H) : LOOP (Itl K a) g tb D σ H := for_list Pv h0 hl hs hd
theorem loopT {a : Addr} (xs : List V) (Pv : Nat → L2.St → Hp → Prop) (h0 : Pv 0 σ H) (hl : ∀ i σ H, i ≤ xs.length → Pv i σ H → SqT K H a xs)
    (hs : ∀ i x σ H, xs[i]? = some x → Pv i σ H → g x σ H fun σ2 H2 => tb { D with nx := Pv (i + 1), ct := Pv (i + 1), bk := D.nx } σ2 H2) (hd : ∀ σ H, Pv xs.length σ H → D.nx σ H) : LOOP (Itt K a) g tb D σ H := for_tup Pv h0 hl hs hd
/-- a loop over a list, turn by turn -/
def RunL (K : PySem.W.Frag) (a : Addr) (full : List V) (g : TG) (tb : TS) (D : Ends) : List V → L2.St → Hp → Prop
  | [], σ, H => SqL K H a full ∧ D.nx σ H
  | x :: r, σ, H => SqL K H a full ∧ g x σ H fun σ2 H2 => tb { D with nx := RunL K a full g tb D r, ct := RunL K a full g tb D r, bk := D.nx } σ2 H2
theorem runL {a : Addr} {xs : List V} (h : H a = some (.lst xs)) (q : RunL K a xs g tb D xs σ H) : LOOP (Itl K a) g tb D σ H := by
  refine loopL xs (fun i σ H => RunL K a xs g tb D (xs.drop i) σ H) q (fun i σ H hi p => ?_) (fun i x σ H hx p => ?_) (fun σ H p => ?_)
  · cases e : xs.drop i with
    | nil => rw [e] at p; exact p.1
    | cons y r => rw [e] at p; exact p.1
  · have hi : i < xs.length := (List.getElem?_eq_some_iff.mp hx).1
    have e : xs.drop i = x :: xs.drop (i + 1) := by
      rw [List.drop_eq_getElem_cons hi]
      rw [List.getElem?_eq_getElem hi] at hx
      rw [Option.some.inj hx]
    rw [e] at p
    exact p.2
  · rw [List.drop_length] at p
    exact p.2
def RunC (K : PySem.W.Frag) (a : Addr) (full : List V) (g : TG) (tt : TT) (te : TE) (vs : List Nat) (σ : L2.St) (D : Addr) (Q : VK) : List V → Hp → Prop
  | [], H => SqL K H a full ∧ Q (.ref D) H
  | x :: r, H => SqL K H a full ∧ g x (wipe σ vs) H fun σ2 H2 => wipe σ2 vs = wipe σ vs ∧ tt σ2 H2 fun b H3 =>
      if b = true then te σ2 H3 fun y H4 => ∃ acc, H4 D = some (.lst acc) ∧ acc.length < sizeLine ∧ RunC K a full g tt te vs σ D Q r (upd H4 D (.lst (acc ++ [y]))) else RunC K a full g tt te vs σ D Q r H3
theorem runC {a D : Addr} {xs : List V} {tt : TT} {te : TE} {vs : List Nat} (q : RunC K a xs g tt te vs σ D Q xs (upd H D (.lst []))) : LC (Itl K a) g tt te vs σ H D Q := by
  refine lc_list (xs := xs) (fun i H => RunC K a xs g tt te vs σ D Q (xs.drop i) H) q (fun i H hi p => ?_) (fun i x H hx p => ?_) (fun H p => ?_)
  · cases e : xs.drop i with
    | nil => rw [e] at p; exact p.1
    | cons y r => rw [e] at p; exact p.1
  · have hi : i < xs.length := (List.getElem?_eq_some_iff.mp hx).1
    have e : xs.drop i = x :: xs.drop (i + 1) := by
      rw [List.drop_eq_getElem_cons hi]
      rw [List.getElem?_eq_getElem hi] at hx
      rw [Option.some.inj hx]
    rw [e] at p
    exact p.2
  · rw [List.drop_length] at p
    exact p.2
theorem tyes {R : Bool → Hp → Prop} : tYes σ H R = R true H := rfl
end
section
variable {X : Cx}
theorem ixL {K : PySem.W.Frag} (h : X.K = K) : IxR X (rIxL K) := h ▸ ix_list
theorem ixT {K : PySem.W.Frag} (h : X.K = K) : IxR X (rIxT K) := h ▸ ix_tup
theorem c_lenK {K : PySem.W.Frag} (h : X.K = K) : CallR X (.builtin "len") (rLen K) := h ▸ c_len
theorem c_listK {K : PySem.W.Frag} (h : X.K = K) : CallR X (.type "list") (rList K) := h ▸ c_list
theorem pi_listK {K : PySem.W.Frag} {tg l : Expr} {tl : TE} (h : X.K = K) (hl : PE X l tl) : PI X tg l (iList K tl) := h ▸ pi_list hl
theorem pi_tupK {K : PySem.W.Frag} {tg l : Expr} {tl : TE} (h : X.K = K) (hl : PE X l tl) : PI X tg l (iTup K tl) := h ▸ pi_tup hl
end
end Wp

namespace Wp
theorem ite_t {c A B : Prop} [Decidable c] (h : c) (q : A) : if c then A else B := by rw [if_pos h]; exact q
theorem ite_f {c A B : Prop} [Decidable c] (h : ¬ c) (q : B) : if c then A else B := by rw [if_neg h]; exact q
end Wp
local macro_rules | `(tactic| walk_at "wp") => `(tactic| simp only [↓Wp.seq, ↓Wp.next, ↓Wp.asg, ↓Wp.gn, ↓Wp.gsub, ↓Wp.ret, ↓Wp.drop, ↓Wp.ifs, ↓Wp.brk, ↓Wp.cont, ↓Wp.op, ↓Wp.un, ↓Wp.cb, ↓Wp.call, ↓Wp.nil, ↓Wp.cons, ↓Wp.c, ↓Wp.ifx, ↓Wp.lst, ↓Wp.tup, ↓Wp.test, ↓Wp.tb, ↓Wp.tnot, ↓Wp.tand, ↓Wp.tor, ↓Wp.tandv, ↓Wp.torv, ↓Wp.tnotv, ↓Wp.chain, ↓Wp.bx, ↓Wp.i0, ↓Wp.i1, ↓Wp.u1, ↓Wp.eqi, ↓Wp.nei, ↓Wp.cabs, ↓Wp.cmax, ↓Wp.cmin, ↓Wp.cinti, ↓Wp.cintb, ↓Wp.isv_ii, ↓Wp.isv_ib, ↓Wp.for_, ↓Wp.lc_, ↓Wp.ilist, ↓Wp.itup, ↓Wp.irng1, ↓Wp.irng2, ↓Wp.rr1, ↓Wp.rr2, ↓Wp.tyes, ↓Wp.RunC, ↓Wp.RunL, ↓Wp.v0, ↓Wp.v1, ↓Wp.v2, ↓Wp.v3, ↓Wp.v4, ↓Wp.v5, ↓Wp.v6, ↓Wp.v7, ↓Wp.v8, ↓Wp.v9, ↓Wp.v10, ↓Wp.v11, ↓Wp.v12, ↓Wp.v13, ↓Wp.v14, ↓Wp.v15, ↓Wp.v16, ↓Wp.v17, ↓Wp.v18, ↓Wp.v19, ↓Wp.v20, ↓Wp.v21, ↓Wp.v22, ↓Wp.v23, ↓Wp.s0, ↓Wp.s1, ↓Wp.s2, ↓Wp.s3, ↓Wp.s4, ↓Wp.s5, ↓Wp.s6, ↓Wp.s7, ↓Wp.s8, ↓Wp.s9, ↓Wp.s10, ↓Wp.s11, ↓Wp.s12, ↓Wp.s13, ↓Wp.s14, ↓Wp.s15, ↓Wp.s16, ↓Wp.s17, ↓Wp.s18, ↓Wp.s19, ↓Wp.s20, ↓Wp.s21, ↓Wp.s22, ↓Wp.s23, List.append_nil, List.map_cons, List.map_nil, L2.wipe, List.foldl_cons, List.foldl_nil, List.cons_append, List.nil_append, L2.upd_upd, eq_self, decide_eq_true_eq, Bool.not_eq_true', decide_eq_false_iff_not, if_true, if_false, ite_true, ite_false, Bool.false_eq_true, Bool.true_eq_false, Bool.not_true, Bool.not_false, ↓reduceIte, Int.reduceToNat, Int.reducePow, Int.reduceMul, Int.reduceAdd, Int.reduceSub, Int.reduceNeg, Int.reduceDiv, Int.reduceMod, Int.reduceLT, Int.reduceLE, Int.reduceEq])
local macro_rules | `(tactic| walk_at "hp") => `(tactic| first | assumption | exact L2.upd_same | (refine Wp.u_ne ?_ ?_ <;> walk_at "hp") | exact L2.ne_of_none (by assumption) (by assumption) | exact (L2.ne_of_none (by assumption) (by assumption)).symm)
local macro_rules | `(tactic| walk_at "rd") => `(tactic| first | (refine Wp.ixl (by walk_at "hp") (by rfl) ?_) | (refine Wp.setl (j := 0) (by walk_at "hp") (by rfl) ?_) | (refine Wp.setl (j := 1) (by walk_at "hp") (by rfl) ?_) | (refine Wp.setl (j := 2) (by walk_at "hp") (by rfl) ?_) | (refine Wp.setl (j := 3) (by walk_at "hp") (by rfl) ?_) | (refine Wp.setl (j := 4) (by walk_at "hp") (by rfl) ?_) | (refine Wp.setl (j := 5) (by walk_at "hp") (by rfl) ?_) | (refine Wp.lenl (by walk_at "hp") ?_) | (refine Wp.ril (by walk_at "hp") ?_) | (refine Wp.rit (by walk_at "hp") ?_))
local macro_rules | `(tactic| walk_at "sc") => `(tactic| first | assumption | decide | exact ⟨by decide, by decide, by decide⟩ | exact Or.inr ⟨by decide, by decide⟩ | exact Or.inl ⟨by decide, by decide⟩ | (simp only [List.length_cons, List.length_nil]; decide) | exact L2.SqL.of (by walk_at "hp") | exact Wp.cmm (by decide) (by decide) (by decide) (by decide) | exact Wp.dvs (by decide) (by decide))
local macro_rules | `(tactic| walk_at "go") => `(tactic| repeat (first | walk_at "wp" | walk_at "rd" | (refine And.intro (by walk_at "sc") ?_) | (refine Exists.intro _ (And.intro (by walk_at "hp") (And.intro (by walk_at "sc") ?_)))))
local macro_rules | `(tactic| walk_at "gi") => `(tactic| repeat (first | walk_at "wp" | walk_at "rd" | (refine And.intro (by walk_at "sc") ?_) | (refine Exists.intro _ (And.intro (by walk_at "hp") (And.intro (by walk_at "sc") ?_))) | (refine Wp.ite_t (by omega) ?_) | (refine Wp.ite_f (by omega) ?_)))
namespace K32
open PySem L2 Wp
def top (i : Nat) : Stmt := PySem.Challenge.pw_galleywork_k32_badness_and_class.main.body.getD i (.Pass ⟨0, 0, 0, 0⟩)
abbrev s_badness : Stmt := top 2
abbrev s_line_class : Stmt := top 3
abbrev s_law_pool : Stmt := top 5
abbrev s_law_draw : Stmt := top 6
abbrev s_law_size : Stmt := top 7
abbrev s_law_least_slack : Stmt := top 8
abbrev s_law_pair : Stmt := top 9
abbrev s_law_int : Stmt := top 10
abbrev s_law_exact : Stmt := top 11
abbrev s_law_classes : Stmt := top 12
abbrev s_law : Stmt := top 13
theorem sc_badness : FnScope ["slack", "room"] ["slack", "room"] (defScope s_badness) := ⟨rfl, rfl, rfl, by decide +kernel, rfl, by decide +kernel, by decide +kernel⟩
theorem sc_line_class : FnScope ["slack", "bad"] ["slack", "bad"] (defScope s_line_class) := ⟨rfl, rfl, rfl, by decide +kernel, rfl, by decide +kernel, by decide +kernel⟩
theorem sc_law_pool : FnScope ["script"] ["script"] (defScope s_law_pool) := ⟨rfl, rfl, rfl, by decide +kernel, rfl, by decide +kernel, by decide +kernel⟩
theorem sc_law_draw : FnScope ["pool", "many", "cell", "got", "one"] ["pool", "many"] (defScope s_law_draw) := ⟨rfl, rfl, rfl, by decide +kernel, rfl, by decide +kernel, by decide +kernel⟩
theorem sc_law_size : FnScope ["pool", "kind"] ["pool"] (defScope s_law_size) := ⟨rfl, rfl, rfl, by decide +kernel, rfl, by decide +kernel, by decide +kernel⟩
theorem sc_law_least_slack : FnScope ["room", "bad", "low", "high", "due", "k", "half"] ["room", "bad"] (defScope s_law_least_slack) := ⟨rfl, rfl, rfl, by decide +kernel, rfl, by decide +kernel, by decide +kernel⟩
theorem sc_law_pair : FnScope ["pool", "room", "kind", "bad"] ["pool"] (defScope s_law_pair) := ⟨rfl, rfl, rfl, by decide +kernel, rfl, by decide +kernel, by decide +kernel⟩
theorem sc_law_int : FnScope ["got"] ["got"] (defScope s_law_int) := ⟨rfl, rfl, rfl, by decide +kernel, rfl, by decide +kernel, by decide +kernel⟩
theorem sc_law_exact : FnScope ["got", "slack", "room", "cube", "weight"] ["got", "slack", "room"] (defScope s_law_exact) := ⟨rfl, rfl, rfl, by decide +kernel, rfl, by decide +kernel, by decide +kernel⟩
theorem sc_law_classes : FnScope ["slack", "bad", "due", "row", "one", "side", "got"] ["slack", "bad"] (defScope s_law_classes) := ⟨rfl, rfl, rfl, by decide +kernel, rfl, by decide +kernel, by decide +kernel⟩
theorem sc_law : FnScope ["script", "pool", "pair", "slack", "room", "factor", "drawn", "told", "more", "less", "alike", "bad"] ["script"] (defScope s_law) := ⟨rfl, rfl, rfl, by decide +kernel, rfl, by decide +kernel, by decide +kernel⟩
structure Txt (mg : Str → Option Value) : Prop where
  n_abs : mg "abs" = none
  n_bool : mg "bool" = none
  n_int : mg "int" = none
  n_isinstance : mg "isinstance" = none
  n_len : mg "len" = none
  n_list : mg "list" = none
  n_max : mg "max" = none
  n_min : mg "min" = none
  n_range : mg "range" = none
  g_WORST : ∃ t, mg "WORST" = some (.int 10000 t)

def spClass : Sp := fun vs H Q _ => ∃ (s b : Int), vs = [.int s, .int b] ∧ Q (.int (if b ≤ 12 then 1 else if s < 0 then 0 else if b < 100 then 2 else 3)) H
def badF (s r : Int) : Int := if s = 0 then 0 else if r = 0 then 10000 else if 100 * s * s * s / (r * r * r) < 10000 then 100 * s * s * s / (r * r * r) else 10000
def spBad : Sp := fun vs H Q _ => ∃ (s r : Int), vs = [.int s, .int r] ∧ (0 ≤ s ∧ s < 2 ^ 300 ∧ 0 ≤ r ∧ r < 2 ^ 300 ∧ Q (.int (badF s r)) H)
def spInt : Sp := fun vs H Q _ => ∃ (i : Int), vs = [.int i] ∧ Q (.bl true) H
theorem cube_pos {r : Int} (h : 0 < r) : 0 < r * r * r := Int.mul_pos (Int.mul_pos h h) h
theorem badF_spec {s r : Int} (s0 : 0 ≤ s) (r0 : 0 ≤ r) : 0 ≤ badF s r ∧ badF s r ≤ 10000 ∧ (s = 0 → badF s r = 0) ∧ (s ≠ 0 → r = 0 → badF s r = 10000) ∧
    (s ≠ 0 → r ≠ 0 → badF s r * (r * r * r) ≤ 100 * s * s * s ∧ (badF s r = 10000 ∨ 100 * s * s * s < (badF s r + 1) * (r * r * r))) := by
  have a0 : 0 ≤ 100 * s * s * s := Int.mul_nonneg (Int.mul_nonneg (Int.mul_nonneg (by decide) s0) s0) s0
  unfold badF
  by_cases h1 : s = 0
  · simp [h1]
  · by_cases h2 : r = 0
    · simp [h1, h2]
    · have c0 : 0 < r * r * r := cube_pos (by omega)
      generalize 100 * s * s * s = a at *
      generalize r * r * r = c at *
      have q0 : 0 ≤ a / c := Int.ediv_nonneg a0 (by omega)
      have q1 : a / c * c ≤ a := Int.ediv_mul_le a (by omega)
      have q2 : a < (a / c + 1) * c := Int.lt_ediv_add_one_mul_self a c0
      by_cases h3 : a / c < 10000
      · simp only [h1, h2, h3, if_true, if_false]
        exact ⟨q0, by omega, fun z => z.elim, fun _ z => z.elim, fun _ _ => ⟨q1, .inr q2⟩⟩
      · simp only [h1, h2, h3, if_true, if_false]
        refine ⟨by omega, by omega, fun z => z.elim, fun _ z => z.elim, fun _ _ => ⟨?_, .inl trivial⟩⟩
        have := Int.mul_le_mul_of_nonneg_right (show 10000 ≤ a / c by omega) (Int.le_of_lt c0)
        omega
def spExact : Sp := fun vs H Q _ => ∃ (s r : Int), vs = [.int (badF s r), .int s, .int r] ∧ (0 ≤ s ∧ s < 2 ^ 300 ∧ 0 ≤ r ∧ r < 2 ^ 300 ∧ Q (.bl true) H)
section
variable {P : Program} {w : World} {K : PySem.W.Frag} {mg : Str → Option Value} {base : Heap}
theorem ok_line_class {f : Addr} {fd : FuncData} (F : Fun K "line_class" "line_class" s_line_class f fd) (T : Txt mg) : FnOk P w K mg base CX0 1 f fd ["slack", "bad"] (spClass) := by
  refine F.ok sc_line_class (fun vs H Q E h => ?_) (fun cdv A outer s H vs Q E hr h => ?_)
  · obtain ⟨s1, b1, rfl, _⟩ := h
    rfl
  · obtain ⟨s1, b1, rfl, h⟩ := h
    refine ⟨_, (pss_cons (ps_if (pt_cmpR op_le (pv 1) pe_int (nomark _))
  (pss_one (ps_ret pe_int))
  pss_nil)
  (pss_cons (ps_if (pt_cmpR op_lt (pv 0) pe_int (nomark _))
  (pss_one (ps_ret pe_int))
  pss_nil)
  (pss_one (ps_ret (pe_ifExp (pt_cmpR op_lt (pv 1) pe_int (nomark _)) pe_int pe_int))))), ?_⟩
    rw [show start ["slack", "bad"] [.int s1, .int b1] = [some (.int s1), some (.int b1)] from rfl]
    walk_at "wp"
    (repeat' split) <;> simp_all
theorem ok_badness {f : Addr} {fd : FuncData} (F : Fun K "badness" "badness" s_badness f fd) (T : Txt mg) : FnOk P w K mg base CX0 1 f fd ["slack", "room"] (spBad) := by
  refine F.ok sc_badness (fun vs H Q E h => ?_) (fun cdv A outer s H vs Q E hr h => ?_)
  · obtain ⟨s1, r1, rfl, _⟩ := h
    rfl
  · obtain ⟨s1, r1, rfl, h⟩ := h
    refine ⟨_, (pss_cons (ps_if (pt_cmpR op_eq (pv 0) pe_int (nomark _))
  (pss_one (ps_ret pe_int))
  pss_nil)
  (pss_cons (ps_if (pt_cmpR op_eq (pv 1) pe_int (nomark _))
  (pss_one (ps_ret (pe_gint T.g_WORST (by rfl))))
  pss_nil)
  (pss_one (ps_ret (pe_callB (c_min2 rfl) (by rfl) T.n_min (by decide +kernel) (pa_cons (pe_gint T.g_WORST (by rfl)) (pa_cons (pe_op op_fdivW (pe_op op_mulW (pe_op op_mulW (pe_op op_mul pe_int (pv 0)) (pv 0)) (pv 0)) (pe_op op_mulW (pe_op op_mulW (pv 1) (pv 1)) (pv 1))) pa_nil))))))), ?_⟩
    rw [show start ["slack", "room"] [.int s1, .int r1] = [some (.int s1), some (.int r1)] from rfl]
    walk_at "wp"
    obtain ⟨s0, s9, r0, r9, q⟩ := h
    have ns := NB.of s0 s9
    have nr := NB.of r0 r9
    have n1 : NB (100 * s1) 307 := NB.mul (a := 7) (by unfold NB; decide) ns
    have n2 := n1.mul ns
    have n4 := nr.mul nr
    unfold badF at q
    refine ite2 (fun e => ?_) (fun e => ite2 (fun e2 => ?_) (fun e2 => ?_))
    · rw [if_pos e] at q; exact q
    · rw [if_neg e, if_pos e2] at q; exact q
    · rw [if_neg e, if_neg e2] at q
      have p1 : 0 < r1 := by omega
      exact ⟨.inl ⟨by decide, by decide⟩, n1.cm ns (by decide), n2.cm ns (by decide), nr.cm nr (by decide), n4.cm nr (by decide), wide_div (Int.mul_pos (Int.mul_pos p1 p1) p1) (n4.mul nr) (by decide) (by decide), q⟩
theorem ok_law_int {f : Addr} {fd : FuncData} (F : Fun K "_law_int" "_law_int" s_law_int f fd) (T : Txt mg) : FnOk P w K mg base CX0 1 f fd ["got"] (spInt) := by
  refine F.ok sc_law_int (fun vs H Q E h => ?_) (fun cdv A outer s H vs Q E hr h => ?_)
  · obtain ⟨i1, rfl, _⟩ := h
    rfl
  · obtain ⟨i1, rfl, h⟩ := h
    refine ⟨_, (pss_one (ps_ret (pe_and (pe_callB call_isiV (by rfl) T.n_isinstance (by decide +kernel) (pa_cons (pv 0) (pa_cons (pe_bltn (v := .ty "int") (by rfl) T.n_int (by decide +kernel) rfl) pa_nil))) (pe_one (pe_not (pe_callB call_isiV (by rfl) T.n_isinstance (by decide +kernel) (pa_cons (pv 0) (pa_cons (pe_bltn (v := .ty "bool") (by rfl) T.n_bool (by decide +kernel) rfl) pa_nil)))))))), ?_⟩
    rw [show start ["got"] [.int i1] = [some (.int i1)] from rfl]
    walk_at "wp"
    exact h
theorem ok_law_exact {f : Addr} {fd : FuncData} (F : Fun K "_law_exact" "_law_exact" s_law_exact f fd) (T : Txt mg) (G_law_int : Def P w K mg base 1 "_law_int" ["got"] (spInt)) : FnOk P w K mg base CX0 2 f fd ["got", "slack", "room"] (spExact) := by
  refine F.ok sc_law_exact (fun vs H Q E h => ?_) (fun cdv A outer s H vs Q E hr h => ?_)
  · obtain ⟨s1, r1, rfl, _⟩ := h
    rfl
  · obtain ⟨s1, r1, rfl, h⟩ := h
    refine ⟨_, (pss_cons (ps_if (PW.pt (pw_or (pt_not (pt_val (G_law_int.call (hr.mono (by decide)) (by rfl) (pa_cons (pv 0) pa_nil)))) (pw_or1 (pt_not (pt_chain op_le op_le pe_int (pv 0) pe_int)))))
  (pss_one (ps_ret pe_bl))
  pss_nil)
  (pss_cons (ps_if (pt_cmpR op_eq (pv 1) pe_int (nomark _))
  (pss_one (ps_ret (pe_cmpR op_eq (pv 0) pe_int (nomark _))))
  pss_nil)
  (pss_cons (ps_if (pt_cmpR op_eq (pv 2) pe_int (nomark _))
  (pss_one (ps_ret (pe_cmpR op_eq (pv 0) pe_int (nomark _))))
  pss_nil)
  (pss_cons (ps_set (i := 3) sc_law_exact.nd rfl (.inl rfl) (pe_op op_mulW (pe_op op_mulW (pv 2) (pv 2)) (pv 2)))
  (pss_cons (ps_set (i := 4) sc_law_exact.nd rfl (.inl rfl) (pe_op op_mulW (pe_op op_mulW (pe_op op_mul pe_int (pv 1)) (pv 1)) (pv 1)))
  (pss_cons (ps_if (pt_cmpR op_gt (pe_op op_mulW (pv 0) (pv 3)) (pv 4) (nomark _))
  (pss_one (ps_ret pe_bl))
  pss_nil)
  (pss_one (ps_ret (pe_or (pe_cmpR op_eq (pv 0) pe_int (nomark _)) (pe_one (pe_cmpR op_gt (pe_op op_mulW (pe_op op_add (pv 0) pe_int) (pv 3)) (pv 4) (nomark _)))))))))))), ?_⟩
    rw [show start ["got", "slack", "room", "cube", "weight"] [.int (badF s1 r1), .int s1, .int r1] = [some (.int (badF s1 r1)), some (.int s1), some (.int r1), none, none] from rfl]
    obtain ⟨s0, s9, r0, r9, q⟩ := h
    obtain ⟨b0, b1, b2, b3, b4⟩ := badF_spec s0 r0
    walk_at "go"
    refine ⟨_, rfl, ?_⟩
    walk_at "go"
    rw [if_pos b0, if_neg (by omega)]
    have ns := NB.of s0 s9
    have nr := NB.of r0 r9
    have n1 : NB (100 * s1) 307 := NB.mul (a := 7) (by unfold NB; decide) ns
    have n2 := n1.mul ns
    have n4 := nr.mul nr
    have nb : NB (badF s1 r1) 15 := NB.of b0 (by omega)
    have nb1 : NB (badF s1 r1 + 1) 15 := NB.of (by omega) (by omega)
    have n5 := n4.mul nr
    refine ite2 (fun e => ?_) (fun e => ite2 (fun e2 => ?_) (fun e2 => ?_))
    · rw [decide_eq_true (b2 e)]; exact q
    · rw [decide_eq_true (b3 e e2)]; exact q
    · obtain ⟨g1, g2⟩ := b4 e e2
      refine ⟨nr.cm nr (by decide), n4.cm nr (by decide), .inl ⟨by decide, by decide⟩, n1.cm ns (by decide), n2.cm ns (by decide), nb.cm n5 (by decide), ?_⟩
      rw [if_neg (by omega)]
      refine ite2 (fun e3 => q) (fun e3 => ⟨nb1.cm n5 (by decide), ?_⟩)
      rw [decide_eq_true (g2.resolve_left e3)]
      exact q
theorem ok_law_draw {f : Addr} {fd : FuncData} (F : Fun K "_law_draw" "_law_draw" s_law_draw f fd) (T : Txt mg) : FnOk P w K mg base CX0 1 f fd ["pool", "many"] (spDraw) := by
  refine F.ok sc_law_draw (fun vs H Q E h => ?_) (fun cdv A outer s H vs Q E hr h => ?_)
  · obtain ⟨p1, m1, rfl, _⟩ := h
    rfl
  · obtain ⟨p1, m1, rfl, h⟩ := h
    refine ⟨_, (pss_cons (ps_asg (pe_op op_add (pe_ix (ixL (K := K) rfl) (pv 0) pe_int (fun _ _ => rfl)) pe_int) (pg_sub (pv 0) pe_int set_list))
  (pss_cons (ps_if (PW.pt (pw_and (pt_cmpR op_eq (pe_ix (ixL (K := K) rfl) (pv 0) pe_int (fun _ _ => rfl)) pe_int (nomark _)) (pw_and1 (pt_cmpR op_lt (pe_ix (ixL (K := K) rfl) (pv 0) pe_int (fun _ _ => rfl)) (pe_callB (c_lenK (K := K) rfl) (by rfl) T.n_len (by decide +kernel) (pa_cons (pe_ix (ixL (K := K) rfl) (pv 0) pe_int (fun _ _ => rfl)) pa_nil)) (nomark _)))))
  (pss_cons (ps_set (i := 2) sc_law_draw.nd rfl (.inl rfl) (pe_ix (ixL (K := K) rfl) (pe_ix (ixL (K := K) rfl) (pv 0) pe_int (fun _ _ => rfl)) (pe_ix (ixL (K := K) rfl) (pv 0) pe_int (fun _ _ => rfl)) (fun _ _ => rfl)))
  (pss_cons (ps_asg (pe_op op_add (pe_ix (ixL (K := K) rfl) (pv 0) pe_int (fun _ _ => rfl)) pe_int) (pg_sub (pv 0) pe_int set_list))
  (pss_one (ps_if (pt_cmpR op_ge (pe_callB c_abs (by rfl) T.n_abs (by decide +kernel) (pa_cons (pv 2) pa_nil)) (pe_op op_pow pe_int pe_int) (nomark _))
  (pss_one (ps_asg (pe_callB c_abs (by rfl) T.n_abs (by decide +kernel) (pa_cons (pv 2) pa_nil)) (pg_sub (pv 0) pe_int set_list)))
  (pss_one (ps_asg (pe_op op_mod (pe_callTy c_int (by rfl) T.n_int (by decide +kernel) (pa_cons (pe_op op_add (pe_op op_add (pe_op op_mul (pe_ix (ixL (K := K) rfl) (pv 0) pe_int (fun _ _ => rfl)) pe_int) (pe_op op_mul (pv 2) pe_int)) pe_int) pa_nil)) pe_int) (pg_sub (pv 0) pe_int set_list)))))))
  pss_nil)
  (pss_cons (ps_if (pt_cmpR op_gt (pe_ix (ixL (K := K) rfl) (pv 0) pe_int (fun _ _ => rfl)) pe_int (nomark _))
  (pss_cons (ps_set (i := 3) sc_law_draw.nd rfl (.inl rfl) (pe_op op_mod (pe_callTy c_int (by rfl) T.n_int (by decide +kernel) (pa_cons (pe_ix (ixL (K := K) rfl) (pv 0) pe_int (fun _ _ => rfl)) pa_nil)) (pv 1)))
  (pss_cons (ps_asg (pe_op op_fdivW (pe_ix (ixL (K := K) rfl) (pv 0) pe_int (fun _ _ => rfl)) (pv 1)) (pg_sub (pv 0) pe_int set_list))
  (pss_one (ps_ret (pv 3)))))
  pss_nil)
  (pss_cons (ps_set (i := 4) sc_law_draw.nd rfl (.inl rfl) (pe_op op_mod (pe_callTy c_int (by rfl) T.n_int (by decide +kernel) (pa_cons (pe_op op_add (pe_ix (ixL (K := K) rfl) (pv 0) pe_int (fun _ _ => rfl)) (pe_op op_mul (pe_ix (ixL (K := K) rfl) (pv 0) pe_int (fun _ _ => rfl)) pe_int)) pa_nil)) pe_int))
  (pss_cons (ps_set (i := 4) sc_law_draw.nd rfl (.inl rfl) (pe_op op_mod (pe_callTy c_int (by rfl) T.n_int (by decide +kernel) (pa_cons (pe_op op_add (pe_op op_add (pe_op op_mulW (pv 4) (pv 4)) (pe_op op_mul (pe_ix (ixL (K := K) rfl) (pv 0) pe_int (fun _ _ => rfl)) pe_int)) pe_int) pa_nil)) pe_int))
  (pss_cons (ps_set (i := 4) sc_law_draw.nd rfl (.inl rfl) (pe_op op_mod (pe_callTy c_int (by rfl) T.n_int (by decide +kernel) (pa_cons (pe_op op_add (pe_op op_add (pe_op op_mulW (pv 4) (pv 4)) (pe_ix (ixL (K := K) rfl) (pv 0) pe_int (fun _ _ => rfl))) pe_int) pa_nil)) pe_int))
  (pss_one (ps_ret (pe_op op_mod (pe_callTy c_int (by rfl) T.n_int (by decide +kernel) (pa_cons (pe_op op_fdivW (pv 4) pe_int) pa_nil)) (pv 1)))))))))), ?_⟩
    rw [show start ["pool", "many", "cell", "got", "one"] [.ref p1, .int m1] = [some (.ref p1), some (.int m1), none, none, none] from rfl]
    obtain ⟨⟨l, ns, i, x, c, e, hC⟩, m0, mm, k⟩ := h
    have hne := hC.ne
    obtain ⟨h1, h2, i0⟩ := hC
    walk_at "go"
    refine ite2 (fun hx => ?_) (fun hx => ?_)
    · walk_at "go"
      refine ite2 (fun hi => ?_) (fun hi => ?_)
      · obtain ⟨n, hn⟩ := atI_map i0 hi
        walk_at "go"
        refine Wp.ixl (by walk_at "hp") hn ?_
        walk_at "go"
        refine ite2 (fun hb => ?_) (fun hb => ?_)
        · walk_at "go"
          refine ite2 (fun hp => ?_) (fun hp => ?_)
          · walk_at "go"
            refine ⟨wide_div m0 mm (by decide) (by decide), ?_⟩
            walk_at "go"
            exact k _ _ (Int.emod_nonneg _ (by omega)) (Int.emod_lt_of_pos _ m0) ⟨l, ns, _, _, _, _, upd_same, u_ne hne h2, (by omega)⟩ But.refl.upd
          · walk_at "go"
            exact k _ _ (Int.emod_nonneg _ (by omega)) (Int.emod_lt_of_pos _ m0) ⟨l, ns, _, _, _, _, upd_same, u_ne hne h2, (by omega)⟩ But.refl.upd
        · walk_at "go"
          refine ite2 (fun hp => ?_) (fun hp => ?_)
          · walk_at "go"
            refine ⟨wide_div m0 mm (by decide) (by decide), ?_⟩
            walk_at "go"
            exact k _ _ (Int.emod_nonneg _ (by omega)) (Int.emod_lt_of_pos _ m0) ⟨l, ns, _, _, _, _, upd_same, u_ne hne h2, (by omega)⟩ But.refl.upd
          · walk_at "go"
            exact k _ _ (Int.emod_nonneg _ (by omega)) (Int.emod_lt_of_pos _ m0) ⟨l, ns, _, _, _, _, upd_same, u_ne hne h2, (by omega)⟩ But.refl.upd
      · walk_at "go"
        refine ite2 (fun hp => ?_) (fun hp => ?_)
        · walk_at "go"
          refine ⟨wide_div m0 mm (by decide) (by decide), ?_⟩
          walk_at "go"
          exact k _ _ (Int.emod_nonneg _ (by omega)) (Int.emod_lt_of_pos _ m0) ⟨l, ns, _, _, _, _, upd_same, u_ne hne h2, i0⟩ But.refl.upd
        · walk_at "go"
          exact k _ _ (Int.emod_nonneg _ (by omega)) (Int.emod_lt_of_pos _ m0) ⟨l, ns, _, _, _, _, upd_same, u_ne hne h2, i0⟩ But.refl.upd
    · walk_at "go"
      refine ite2 (fun hp => ?_) (fun hp => ?_)
      · walk_at "go"
        refine ⟨wide_div m0 mm (by decide) (by decide), ?_⟩
        walk_at "go"
        exact k _ _ (Int.emod_nonneg _ (by omega)) (Int.emod_lt_of_pos _ m0) ⟨l, ns, _, _, _, _, upd_same, u_ne hne h2, i0⟩ But.refl.upd
      · walk_at "go"
        exact k _ _ (Int.emod_nonneg _ (by omega)) (Int.emod_lt_of_pos _ m0) ⟨l, ns, _, _, _, _, upd_same, u_ne hne h2, i0⟩ But.refl.upd
theorem ok_law_pool {f : Addr} {fd : FuncData} (F : Fun K "_law_pool" "_law_pool" s_law_pool f fd) (T : Txt mg) : FnOk P w K mg base CX0 1 f fd ["script"] (spPool K) := by
  refine F.ok sc_law_pool (fun vs H Q E h => ?_) (fun cdv A outer s H vs Q E hr h => ?_)
  · obtain ⟨a1, ns, rfl, _⟩ := h
    rfl
  · obtain ⟨a1, ns, rfl, h⟩ := h
    refine ⟨_, (pss_one (ps_ret (pe_lst (pa_cons (pe_callTy (c_listK (K := K) rfl) (by rfl) T.n_list (by decide +kernel) (pa_cons (pv 0) pa_nil)) (pa_cons pe_int (pa_cons pe_int (pa_cons pe_int (pa_cons pe_int pa_nil)))))))), ?_⟩
    rw [show start ["script"] [.ref a1] = [some (.ref a1)] from rfl]
    obtain ⟨hs, k⟩ := h
    walk_at "go"
    refine Wp.lists hs fun l hl => ?_
    walk_at "go"
    intro p hp
    have hne : l ≠ p := fun z => by subst z; rw [upd_same] at hp; cases hp
    have hp0 : H p = none := by rw [upd_ne hne.symm] at hp; exact hp
    exact k p _ hp0 (fun b o e => u_ne (ne_of_none e hp0) (u_ne (ne_of_none e hl) e)) ⟨l, ns, _, _, _, _, upd_same, u_ne hne upd_same, by decide⟩
end
end K32
set_option maxHeartbeats 4000000
namespace K32
open PySem L2 Wp

def spSize : Sp := fun vs H Q _ => ∃ (p : Addr), vs = [.ref p] ∧ (PoolAt H p ∧ ∀ r H', 0 ≤ r → r < 10 ^ 40 → PoolAt H' p → Q (.int r) H')
def spLeast : Sp := fun vs H Q _ => ∃ (r b : Int), vs = [.int r, .int b] ∧ (0 ≤ r ∧ r < 10 ^ 40 ∧ 0 ≤ b ∧ b ≤ 10000 ∧ ∀ s, 0 ≤ s → s ≤ 5 * r → Q (.int s) H)
def spPair : Sp := fun vs H Q _ => ∃ (p : Addr), vs = [.ref p] ∧ (PoolAt H p ∧ ∀ l s r H', 0 ≤ s → s < 10 ^ 41 → 0 ≤ r → r < 10 ^ 40 → PoolAt H' p → H' l = some (.lst [.int s, .int r]) → Q (.ref l) H')
def PvLeast (H : Hp) (r1 b1 : Int) : Nat → L2.St → Hp → Prop := fun _ σ' H' => H' = H ∧ ∃ lo hi v5 v6, σ' = [some (V.int r1), some (V.int b1), some (V.int lo), some (V.int hi), some (V.int (b1 * r1 * r1 * r1)), v5, v6] ∧ 0 ≤ lo ∧ lo ≤ hi ∧ hi ≤ 5 * r1
def PvCls (H3 : Hp) (s1 b1 : Int) (t x : Addr) : Nat → L2.St → Hp → Prop := fun _ σ' H' => H' = H3 ∧ ∃ v4 v5 v6, σ' = [some (V.int s1), some (V.int b1), some (V.ref t), some (V.ref x), v4, v5, v6]
def spClasses : Sp := fun vs H Q _ => ∃ (s b : Int), vs = [.int s, .int b] ∧ (0 ≤ b ∧ b ≤ 10000 ∧ ∀ H', (∀ b o, H b = some o → H' b = some o) → Q (.bl true) H')
section
variable {P : Program} {w : World} {K : PySem.W.Frag} {mg : Str → Option Value} {base : Heap}
theorem ok_law_size {f : Addr} {fd : FuncData} (F : Fun K "_law_size" "_law_size" s_law_size f fd) (T : Txt mg) (G_law_draw : Def P w K mg base 1 "_law_draw" ["pool", "many"] (spDraw)) : FnOk P w K mg base CX0 2 f fd ["pool"] (spSize) := by
  refine F.ok sc_law_size (fun vs H Q E h => ?_) (fun cdv A outer s H vs Q E hr h => ?_)
  · obtain ⟨p1, rfl, _⟩ := h
    rfl
  · obtain ⟨p1, rfl, h⟩ := h
    refine ⟨_, (pss_cons (ps_set (i := 1) sc_law_size.nd rfl (.inl rfl) (G_law_draw.call (hr.mono (by decide)) (by rfl) (pa_cons (pv 0) (pa_cons pe_int pa_nil))))
  (pss_cons (ps_if (pt_cmpR op_eq (pv 1) pe_int (nomark _))
  (pss_one (ps_ret (pe_op op_add (pe_op op_mul (G_law_draw.call (hr.mono (by decide)) (by rfl) (pa_cons (pv 0) (pa_cons (pe_op op_pow pe_int pe_int) pa_nil))) (pe_op op_pow pe_int pe_int)) (G_law_draw.call (hr.mono (by decide)) (by rfl) (pa_cons (pv 0) (pa_cons (pe_op op_pow pe_int pe_int) pa_nil))))))
  pss_nil)
  (pss_one (ps_ret (G_law_draw.call (hr.mono (by decide)) (by rfl) (pa_cons (pv 0) (pa_cons (pe_ix (ixL (K := K) rfl) (pe_lst (pa_cons pe_int (pa_cons pe_int (pa_cons pe_int (pa_cons pe_int (pa_cons (pe_op op_pow pe_int pe_int) pa_nil)))))) (pv 1) (fun _ _ => rfl)) pa_nil))))))), ?_⟩
    rw [show start ["pool", "kind"] [.ref p1] = [some (.ref p1), none] from rfl]
    obtain ⟨hp, k⟩ := h
    walk_at "go"
    refine ⟨_, _, rfl, hp, by decide, by decide, fun kd H1 k0 k1 hp1 b1 => ?_⟩
    walk_at "go"
    refine ite2 (fun e => ?_) (fun e => ?_)
    · walk_at "go"
      refine ⟨_, _, rfl, hp1, by decide, by decide, fun x H2 x0 x1 hp2 b2 => ?_⟩
      walk_at "go"
      refine ⟨_, _, rfl, hp2, by decide, by decide, fun y H3 y0 y1 hp3 b3 => ?_⟩
      walk_at "go"
      exact k _ _ (by omega) (by omega) hp3
    · walk_at "go"
      intro l hl
      have d : kd = 0 ∨ kd = 1 ∨ kd = 2 ∨ kd = 4 := by omega
      have g : ∀ m : Int, 0 < m → m ≤ 10 ^ 40 → spDraw [V.ref p1, V.int m] (upd H1 l (HO.lst [V.int 13, V.int 61, V.int 100001, V.int 1, V.int 10000000000000000000000000000000000000000])) Q (fun _ _ _ => False) := fun m m0 m1 =>
        ⟨_, _, rfl, hp1.new hl, m0, by omega, fun y H3 y0 y1 hp3 b3 => k _ _ y0 (by omega) hp3⟩
      rcases d with rfl | rfl | rfl | rfl
      all_goals
        walk_at "go"
        exact g _ (by decide) (by decide)
theorem ok_law_least_slack {f : Addr} {fd : FuncData} (F : Fun K "_law_least_slack" "_law_least_slack" s_law_least_slack f fd) (T : Txt mg) : FnOk P w K mg base CX0 2 f fd ["room", "bad"] (spLeast) := by
  refine F.ok sc_law_least_slack (fun vs H Q E h => ?_) (fun cdv A outer s H vs Q E hr h => ?_)
  · obtain ⟨r1, b1, rfl, _⟩ := h
    rfl
  · obtain ⟨r1, b1, rfl, h⟩ := h
    refine ⟨_, (pss_cons (ps_set (i := 2) sc_law_least_slack.nd rfl (.inl rfl) pe_int)
  (pss_cons (ps_set (i := 3) sc_law_least_slack.nd rfl (.inl rfl) (pe_op op_mul pe_int (pv 0)))
  (pss_cons (ps_set (i := 4) sc_law_least_slack.nd rfl (.inl rfl) (pe_op op_mulW (pe_op op_mulW (pe_op op_mulW (pv 1) (pv 0)) (pv 0)) (pv 0)))
  (pss_cons (ps_for PassesOwn.never rfl (pi_range1 (by rfl) T.n_range (pa_cons pe_int pa_nil)) (pg_name (i := 5) sc_law_least_slack.nd rfl (Or.inl rfl))
  (pss_one (ps_if (pt_cmpR op_gt (pe_op op_sub (pv 3) (pv 2)) pe_int (nomark _))
  (pss_cons (ps_set (i := 6) sc_law_least_slack.nd rfl (.inl rfl) (pe_op op_fdivW (pe_op op_add (pv 2) (pv 3)) pe_int))
  (pss_one (ps_if (pt_cmpR op_lt (pe_op op_mulW (pe_op op_mulW (pe_op op_mul pe_int (pv 6)) (pv 6)) (pv 6)) (pv 4) (nomark _))
  (pss_one (ps_set (i := 2) sc_law_least_slack.nd rfl (.inl rfl) (pv 6)))
  (pss_one (ps_set (i := 3) sc_law_least_slack.nd rfl (.inl rfl) (pv 6))))))
  pss_nil)))
  (pss_one (ps_ret (pv 3))))))), ?_⟩
    rw [show start ["room", "bad", "low", "high", "due", "k", "half"] [.int r1, .int b1] = [some (.int r1), some (.int b1), none, none, none, none, none] from rfl]
    obtain ⟨r0, r9, b0, b9, k⟩ := h
    have nr : NB r1 140 := NB.of r0 (by omega)
    have nb : NB b1 20 := NB.of b0 (by omega)
    have n1 := nb.mul nr
    have n2 := n1.mul nr
    walk_at "go"
    refine ⟨nb.cm nr (by decide), n1.cm nr (by decide), n2.cm nr (by decide), ?_⟩
    walk_at "go"
    refine loopR (PvLeast H r1 b1) ⟨rfl, 0, _, _, _, rfl, by omega, by omega, by omega⟩ ?_ ?_
    · rintro i σ' H' hi ⟨rfl, lo, hi, v5, v6, rfl, l0, l1, l2⟩
      walk_at "go"
      refine ite2 (fun e => ?_) (fun e => ?_)
      · walk_at "go"
        have h0 : 0 ≤ (lo + hi) / 2 := by omega
        have nh : NB ((lo + hi) / 2) 150 := NB.of h0 (by omega)
        have n3 : NB (100 * ((lo + hi) / 2)) 157 := NB.mul (a := 7) (by unfold NB; decide) nh
        have n4 := n3.mul nh
        refine ⟨n3.cm nh (by decide), n4.cm nh (by decide), ?_⟩
        refine ite2 (fun e => ?_) (fun e => ?_)
        · walk_at "go"
          exact ⟨rfl, _, _, _, _, rfl, by omega, by omega, by omega⟩
        · walk_at "go"
          exact ⟨rfl, _, _, _, _, rfl, by omega, by omega, by omega⟩
      · exact ⟨rfl, _, _, _, _, rfl, by omega, by omega, by omega⟩
    · rintro σ' H' ⟨rfl, lo, hi, v5, v6, rfl, l0, l1, l2⟩
      walk_at "go"
      exact k _ (by omega) (by omega)
theorem ok_law_pair {f : Addr} {fd : FuncData} (F : Fun K "_law_pair" "_law_pair" s_law_pair f fd) (T : Txt mg) (G_law_draw : Def P w K mg base 1 "_law_draw" ["pool", "many"] (spDraw)) (G_law_size : Def P w K mg base 2 "_law_size" ["pool"] (spSize)) (G_law_least_slack : Def P w K mg base 2 "_law_least_slack" ["room", "bad"] (spLeast)) : FnOk P w K mg base CX0 3 f fd ["pool"] (spPair) := by
  refine F.ok sc_law_pair (fun vs H Q E h => ?_) (fun cdv A outer s H vs Q E hr h => ?_)
  · obtain ⟨p1, rfl, _⟩ := h
    rfl
  · obtain ⟨p1, rfl, h⟩ := h
    refine ⟨_, (pss_cons (ps_set (i := 1) sc_law_pair.nd rfl (.inl rfl) (G_law_size.call (hr.mono (by decide)) (by rfl) (pa_cons (pv 0) pa_nil)))
  (pss_cons (ps_set (i := 2) sc_law_pair.nd rfl (.inl rfl) (G_law_draw.call (hr.mono (by decide)) (by rfl) (pa_cons (pv 0) (pa_cons pe_int pa_nil))))
  (pss_cons (ps_if (pt_cmpR op_eq (pv 2) pe_int (nomark _))
  (pss_one (ps_ret (pe_lst (pa_cons (G_law_size.call (hr.mono (by decide)) (by rfl) (pa_cons (pv 0) pa_nil)) (pa_cons (pv 1) pa_nil)))))
  pss_nil)
  (pss_cons (ps_if (pt_cmpR op_eq (pv 2) pe_int (nomark _))
  (pss_one (ps_ret (pe_lst (pa_cons (pe_callB (c_max2 rfl) (by rfl) T.n_max (by decide +kernel) (pa_cons pe_int (pa_cons (pe_op op_add (pe_op op_sub (pv 1) pe_int) (G_law_draw.call (hr.mono (by decide)) (by rfl) (pa_cons (pv 0) (pa_cons pe_int pa_nil)))) pa_nil))) (pa_cons (pv 1) pa_nil)))))
  pss_nil)
  (pss_cons (ps_set (i := 3) sc_law_pair.nd rfl (.inl rfl) (pe_ix (ixL (K := K) rfl) (pe_lst (pa_cons pe_int (pa_cons pe_int (pa_cons pe_int (pa_cons (pe_op op_add pe_int (G_law_draw.call (hr.mono (by decide)) (by rfl) (pa_cons (pv 0) (pa_cons pe_int pa_nil)))) pa_nil))))) (G_law_draw.call (hr.mono (by decide)) (by rfl) (pa_cons (pv 0) (pa_cons pe_int pa_nil))) (fun _ _ => rfl)))
  (pss_one (ps_ret (pe_lst (pa_cons (pe_callB (c_max2 rfl) (by rfl) T.n_max (by decide +kernel) (pa_cons pe_int (pa_cons (pe_op op_sub (G_law_least_slack.call (hr.mono (by decide)) (by rfl) (pa_cons (pv 1) (pa_cons (pv 3) pa_nil))) (G_law_draw.call (hr.mono (by decide)) (by rfl) (pa_cons (pv 0) (pa_cons pe_int pa_nil)))) pa_nil))) (pa_cons (pv 1) pa_nil)))))))))), ?_⟩
    rw [show start ["pool", "room", "kind", "bad"] [.ref p1] = [some (.ref p1), none, none, none] from rfl]
    obtain ⟨hp, k⟩ := h
    have fin : ∀ (s r : Int) (H1 : Hp) (q : Addr), 0 ≤ s → s < 10 ^ 41 → 0 ≤ r → r < 10 ^ 40 → PoolAt H1 p1 → H1 q = none → Q (V.ref q) (upd H1 q (HO.lst [V.int s, V.int r])) := fun s r H1 q s0 s9 r0 r9 hp1 hq =>
      k q s r _ s0 s9 r0 r9 (hp1.new hq) upd_same
    walk_at "go"
    refine ⟨_, rfl, hp, fun r H1 r0 r9 hp1 => ?_⟩
    walk_at "go"
    refine ⟨_, _, rfl, hp1, by decide, by decide, fun kd H2 k0 k9 hp2 bt2 => ?_⟩
    walk_at "go"
    refine ite2 (fun e => ?_) (fun e => ite2 (fun e => ?_) (fun e => ?_))
    · refine ⟨_, rfl, hp2, fun s H3 s0 s9 hp3 => ?_⟩
      walk_at "go"
      exact fun q hq => fin _ _ _ _ s0 (by omega) r0 r9 hp3 hq
    · refine ⟨_, _, rfl, hp2, by decide, by decide, fun x H3 x0 x9 hp3 bt3 => ?_⟩
      walk_at "go"
      exact fun q hq => fin _ _ _ _ (by split <;> omega) (by split <;> omega) r0 r9 hp3 hq
    · refine ⟨_, _, rfl, hp2, by decide, by decide, fun x H3 x0 x9 hp3 bt3 => ?_⟩
      walk_at "go"
      intro q hq
      walk_at "go"
      refine ⟨_, _, rfl, hp3.new hq, by decide, by decide, fun y H4 y0 y9 hp4 bt4 => ?_⟩
      have hq4 : H4 q = some (HO.lst [V.int 13, V.int 100, V.int 10000, V.int (1 + x)]) := (bt4 q ((hp3.nefresh hq).symm)).trans upd_same
      have g : ∀ b : Int, 0 ≤ b → b ≤ 10000 → spLeast [V.int r, V.int b] H4 (fun x H1 => spDraw [V.ref p1, V.int 2] H1 (fun y H2 => rI0 (fun i j => V.int (i - j)) x y H2 fun x H1 => rMax2 [V.int 0, x] H1 fun x H1 =>
          [x, V.int r].length ≤ sizeLine ∧ ∀ (p : Addr), H1 p = none → Q (V.ref p) (upd H1 p (HO.lst [x, V.int r]))) fun x x_1 x_2 => False) (fun x x_1 x_2 => False) := fun b b0 b9 => by
        refine ⟨_, _, rfl, r0, r9, b0, b9, fun s s0 s9 => ?_⟩
        refine ⟨_, _, rfl, hp4, by decide, by decide, fun z H5 z0 z9 hp5 bt5 => ?_⟩
        walk_at "go"
        exact fun q hq => fin _ _ _ _ (by split <;> omega) (by split <;> omega) r0 r9 hp5 hq
      have d : y = 0 ∨ y = 1 ∨ y = 2 ∨ y = 3 := by omega
      rcases d with rfl | rfl | rfl | rfl
      all_goals
        walk_at "go"
        exact g _ (by omega) (by omega)
theorem ok_law_classes {f : Addr} {fd : FuncData} (F : Fun K "_law_classes" "_law_classes" s_law_classes f fd) (T : Txt mg) (G_line_class : Def P w K mg base 1 "line_class" ["slack", "bad"] (spClass)) (G_law_int : Def P w K mg base 1 "_law_int" ["got"] (spInt)) : FnOk P w K mg base CX0 2 f fd ["slack", "bad"] (spClasses) := by
  refine F.ok sc_law_classes (fun vs H Q E h => ?_) (fun cdv A outer s H vs Q E hr h => ?_)
  · obtain ⟨s1, b1, rfl, _⟩ := h
    rfl
  · obtain ⟨s1, b1, rfl, h⟩ := h
    refine ⟨_, (pss_cons (ps_set (i := 2) sc_law_classes.nd rfl (.inl rfl) (pe_lst (pa_cons (pe_lst (pa_cons pe_int (pa_cons pe_int (pa_cons pe_int pa_nil)))) (pa_cons (pe_lst (pa_cons pe_int (pa_cons pe_int (pa_cons pe_int pa_nil)))) (pa_cons (pe_lst (pa_cons pe_int (pa_cons pe_int (pa_cons pe_int pa_nil)))) pa_nil)))))
  (pss_cons (ps_set (i := 3) sc_law_classes.nd rfl (.inl rfl) (pe_ix (ixL (K := K) rfl) (pe_lc (own := [("one", 4)]) (g := gName 4) (by rfl) sc_law_classes.nd (pi_listK (K := K) rfl (pv 2)) (blkOk_by (own := [("one", 4)]) (N := ["slack", "bad", "due", "row", "one", "side", "got"]) (sc := defScope s_law_classes) (by decide +kernel)) (fun _ _ _ _ _ => pg_name (i := 4) sc_law_classes.nd rfl (Or.inl rfl)) (fun _ _ _ _ _ => (pts_one (pt_cmpR op_le (pv 1) (pe_ix (ixL (K := K) rfl) (pv 4) pe_int (fun _ _ => rfl)) (nomark _)))) (fun _ _ _ _ _ => (pv 4))) pe_int (fun _ _ => rfl)))
  (pss_cons (ps_for PassesOwn.never rfl (pi_listK (K := K) rfl (pe_lst (pa_cons (pe_op op_sub (pe_un un_neg (pv 0)) pe_int) (pa_cons (pe_un un_neg pe_int) (pa_cons pe_int (pa_cons pe_int (pa_cons (pe_op op_add (pv 0) pe_int) pa_nil))))))) (pg_name (i := 5) sc_law_classes.nd rfl (Or.inl rfl))
  (pss_cons (ps_set (i := 6) sc_law_classes.nd rfl (.inl rfl) (G_line_class.call (hr.mono (by decide)) (by rfl) (pa_cons (pv 5) (pa_cons (pv 1) pa_nil))))
  (pss_one (ps_if (PW.pt (pw_or (pt_not (pt_val (G_law_int.call (hr.mono (by decide)) (by rfl) (pa_cons (pv 6) pa_nil)))) (pw_or1 (pt_cmpR op_ne (pv 6) (pe_ix (ixL (K := K) rfl) (pv 3) (pe_op op_add pe_int (pe_callTy c_int (by rfl) T.n_int (by decide +kernel) (pa_cons (pe_cmpR op_ge (pv 5) pe_int (nomark _)) pa_nil))) (fun _ _ => rfl)) (nomark _)))))
  (pss_one (ps_ret pe_bl))
  pss_nil))))
  (pss_one (ps_ret pe_bl))))), ?_⟩
    rw [show start ["slack", "bad", "due", "row", "one", "side", "got"] [.int s1, .int b1] = [some (.int s1), some (.int b1), none, none, none, none, none] from rfl]
    obtain ⟨b0, b9, k⟩ := h
    walk_at "go"
    intro p hp
    walk_at "go"
    intro q hq
    have hpq := fresh_ne upd_same hq
    walk_at "go"
    intro r hr1
    have hpr := fresh_ne (u_ne hpq upd_same) hr1
    have hqr := fresh_ne upd_same hr1
    walk_at "go"
    intro t ht
    have hpt := fresh_ne (u_ne hpr (u_ne hpq upd_same)) ht
    have hqt := fresh_ne (u_ne hqr upd_same) ht
    have hrt := fresh_ne upd_same ht
    walk_at "go"
    have ext : ∀ b o, H b = some o → upd (upd (upd (upd H p (HO.lst [V.int 12, V.int 1, V.int 1])) q (HO.lst [V.int 99, V.int 0, V.int 2])) r (HO.lst [V.int 10000, V.int 0, V.int 3])) t (HO.lst [V.ref p, V.ref q, V.ref r]) b = some o := by
      intro b o e
      have e1 := u_ne (o := HO.lst [V.int 12, V.int 1, V.int 1]) (ne_of_none e hp) e
      have e2 := u_ne (o := HO.lst [V.int 99, V.int 0, V.int 2]) (ne_of_none e1 hq) e1
      have e3 := u_ne (o := HO.lst [V.int 10000, V.int 0, V.int 3]) (ne_of_none e2 hr1) e2
      exact u_ne (ne_of_none e3 ht) e3
    have fp : upd (upd (upd (upd H p (HO.lst [V.int 12, V.int 1, V.int 1])) q (HO.lst [V.int 99, V.int 0, V.int 2])) r (HO.lst [V.int 10000, V.int 0, V.int 3])) t (HO.lst [V.ref p, V.ref q, V.ref r]) p = some (HO.lst [V.int 12, V.int 1, V.int 1]) := by walk_at "hp"
    have fq : upd (upd (upd (upd H p (HO.lst [V.int 12, V.int 1, V.int 1])) q (HO.lst [V.int 99, V.int 0, V.int 2])) r (HO.lst [V.int 10000, V.int 0, V.int 3])) t (HO.lst [V.ref p, V.ref q, V.ref r]) q = some (HO.lst [V.int 99, V.int 0, V.int 2]) := by walk_at "hp"
    have fr : upd (upd (upd (upd H p (HO.lst [V.int 12, V.int 1, V.int 1])) q (HO.lst [V.int 99, V.int 0, V.int 2])) r (HO.lst [V.int 10000, V.int 0, V.int 3])) t (HO.lst [V.ref p, V.ref q, V.ref r]) r = some (HO.lst [V.int 10000, V.int 0, V.int 3]) := by walk_at "hp"
    have ft : upd (upd (upd (upd H p (HO.lst [V.int 12, V.int 1, V.int 1])) q (HO.lst [V.int 99, V.int 0, V.int 2])) r (HO.lst [V.int 10000, V.int 0, V.int 3])) t (HO.lst [V.ref p, V.ref q, V.ref r]) t = some (HO.lst [V.ref p, V.ref q, V.ref r]) := by walk_at "hp"
    generalize upd (upd (upd (upd H p (HO.lst [V.int 12, V.int 1, V.int 1])) q (HO.lst [V.int 99, V.int 0, V.int 2])) r (HO.lst [V.int 10000, V.int 0, V.int 3])) t (HO.lst [V.ref p, V.ref q, V.ref r]) = H1 at *
    intro D hD
    have nD := hD
    have npD : p ≠ D := ne_of_none fp hD
    have nqD : q ≠ D := ne_of_none fq hD
    have nrD : r ≠ D := ne_of_none fr hD
    have ntD : t ≠ D := ne_of_none ft hD
    refine runC (xs := [V.ref p, V.ref q, V.ref r]) ?_
    have hext : ∀ (xs : List V) b o, H b = some o → upd H1 D (HO.lst xs) b = some o := fun xs b o e => u_ne (ne_of_none (ext b o e) hD) (ext b o e)
    have d : b1 ≤ 12 ∨ (12 < b1 ∧ b1 ≤ 99) ∨ 99 < b1 := by omega
    rcases d with d | d | d
    · walk_at "gi"
      intro z hz
      have nxz : p ≠ z := ne_of_none (u_ne npD fp) hz
      have fz : ∀ b o, H b = some o → upd (upd H1 D (HO.lst [V.ref p, V.ref q, V.ref r])) z (HO.lst [V.int (-s1 - 1), V.int (-1), V.int 0, V.int 1, V.int (s1 + 1)]) b = some o := fun b o e => u_ne (ne_of_none (hext _ b o e) hz) (hext _ b o e)
      walk_at "gi"
      refine loopL [V.int (-s1 - 1), V.int (-1), V.int 0, V.int 1, V.int (s1 + 1)] (PvCls _ s1 b1 t p) ⟨rfl, _, _, _, rfl⟩ (fun i σ' H' hi p => by obtain ⟨rfl, _⟩ := p; exact SqL.of upd_same) ?_ ?_
      · rintro i y σ' H' hy ⟨rfl, v4, v5, v6, rfl⟩
        obtain ⟨side, rfl⟩ : ∃ side, y = V.int side := by
          have := List.mem_of_getElem? hy
          simp only [List.mem_cons, List.not_mem_nil, or_false] at this
          rcases this with rfl | rfl | rfl | rfl | rfl <;> exact ⟨_, rfl⟩
        walk_at "go"
        refine ⟨_, _, rfl, ?_⟩
        walk_at "go"
        refine ⟨_, rfl, ?_⟩
        walk_at "go"
        by_cases hs : 0 ≤ side
        · rw [if_pos hs]
          refine ixl (v := .int 1) (by walk_at "hp") rfl ?_
          walk_at "go"
          rw [show (if b1 ≤ 12 then (1 : Int) else if side < 0 then 0 else if b1 < 100 then 2 else 3) = 1 by split <;> (try split) <;> (try split) <;> omega]
          refine ite_f (by decide) ?_
          exact ⟨rfl, _, _, _, rfl⟩
        · rw [if_neg hs]
          refine ixl (v := .int 1) (by walk_at "hp") rfl ?_
          walk_at "go"
          rw [show (if b1 ≤ 12 then (1 : Int) else if side < 0 then 0 else if b1 < 100 then 2 else 3) = 1 by split <;> (try split) <;> (try split) <;> omega]
          refine ite_f (by decide) ?_
          exact ⟨rfl, _, _, _, rfl⟩
      · rintro σ' H' ⟨rfl, v4, v5, v6, rfl⟩
        walk_at "go"
        exact k _ fz
    · walk_at "gi"
      intro z hz
      have nxz : q ≠ z := ne_of_none (u_ne nqD fq) hz
      have fz : ∀ b o, H b = some o → upd (upd H1 D (HO.lst [V.ref q, V.ref r])) z (HO.lst [V.int (-s1 - 1), V.int (-1), V.int 0, V.int 1, V.int (s1 + 1)]) b = some o := fun b o e => u_ne (ne_of_none (hext _ b o e) hz) (hext _ b o e)
      walk_at "gi"
      refine loopL [V.int (-s1 - 1), V.int (-1), V.int 0, V.int 1, V.int (s1 + 1)] (PvCls _ s1 b1 t q) ⟨rfl, _, _, _, rfl⟩ (fun i σ' H' hi p => by obtain ⟨rfl, _⟩ := p; exact SqL.of upd_same) ?_ ?_
      · rintro i y σ' H' hy ⟨rfl, v4, v5, v6, rfl⟩
        obtain ⟨side, rfl⟩ : ∃ side, y = V.int side := by
          have := List.mem_of_getElem? hy
          simp only [List.mem_cons, List.not_mem_nil, or_false] at this
          rcases this with rfl | rfl | rfl | rfl | rfl <;> exact ⟨_, rfl⟩
        walk_at "go"
        refine ⟨_, _, rfl, ?_⟩
        walk_at "go"
        refine ⟨_, rfl, ?_⟩
        walk_at "go"
        by_cases hs : 0 ≤ side
        · rw [if_pos hs]
          refine ixl (v := .int 2) (by walk_at "hp") rfl ?_
          walk_at "go"
          rw [show (if b1 ≤ 12 then (1 : Int) else if side < 0 then 0 else if b1 < 100 then 2 else 3) = 2 by split <;> (try split) <;> (try split) <;> omega]
          refine ite_f (by decide) ?_
          exact ⟨rfl, _, _, _, rfl⟩
        · rw [if_neg hs]
          refine ixl (v := .int 0) (by walk_at "hp") rfl ?_
          walk_at "go"
          rw [show (if b1 ≤ 12 then (1 : Int) else if side < 0 then 0 else if b1 < 100 then 2 else 3) = 0 by split <;> (try split) <;> (try split) <;> omega]
          refine ite_f (by decide) ?_
          exact ⟨rfl, _, _, _, rfl⟩
      · rintro σ' H' ⟨rfl, v4, v5, v6, rfl⟩
        walk_at "go"
        exact k _ fz
    · walk_at "gi"
      intro z hz
      have nxz : r ≠ z := ne_of_none (u_ne nrD fr) hz
      have fz : ∀ b o, H b = some o → upd (upd H1 D (HO.lst [V.ref r])) z (HO.lst [V.int (-s1 - 1), V.int (-1), V.int 0, V.int 1, V.int (s1 + 1)]) b = some o := fun b o e => u_ne (ne_of_none (hext _ b o e) hz) (hext _ b o e)
      walk_at "gi"
      refine loopL [V.int (-s1 - 1), V.int (-1), V.int 0, V.int 1, V.int (s1 + 1)] (PvCls _ s1 b1 t r) ⟨rfl, _, _, _, rfl⟩ (fun i σ' H' hi p => by obtain ⟨rfl, _⟩ := p; exact SqL.of upd_same) ?_ ?_
      · rintro i y σ' H' hy ⟨rfl, v4, v5, v6, rfl⟩
        obtain ⟨side, rfl⟩ : ∃ side, y = V.int side := by
          have := List.mem_of_getElem? hy
          simp only [List.mem_cons, List.not_mem_nil, or_false] at this
          rcases this with rfl | rfl | rfl | rfl | rfl <;> exact ⟨_, rfl⟩
        walk_at "go"
        refine ⟨_, _, rfl, ?_⟩
        walk_at "go"
        refine ⟨_, rfl, ?_⟩
        walk_at "go"
        by_cases hs : 0 ≤ side
        · rw [if_pos hs]
          refine ixl (v := .int 3) (by walk_at "hp") rfl ?_
          walk_at "go"
          rw [show (if b1 ≤ 12 then (1 : Int) else if side < 0 then 0 else if b1 < 100 then 2 else 3) = 3 by split <;> (try split) <;> (try split) <;> omega]
          refine ite_f (by decide) ?_
          exact ⟨rfl, _, _, _, rfl⟩
        · rw [if_neg hs]
          refine ixl (v := .int 0) (by walk_at "hp") rfl ?_
          walk_at "go"
          rw [show (if b1 ≤ 12 then (1 : Int) else if side < 0 then 0 else if b1 < 100 then 2 else 3) = 0 by split <;> (try split) <;> (try split) <;> omega]
          refine ite_f (by decide) ?_
          exact ⟨rfl, _, _, _, rfl⟩
      · rintro σ' H' ⟨rfl, v4, v5, v6, rfl⟩
        walk_at "go"
        exact k _ fz
end
end K32
namespace K32
open PySem L2 Wp

theorem ediv_mono {a b c : Int} (h : a ≤ b) (c0 : 0 < c) : a / c ≤ b / c := Int.ediv_le_ediv c0 h
theorem ediv_anti {a b c : Int} (a0 : 0 ≤ a) (b0 : 0 < b) (h : b ≤ c) : a / c ≤ a / b := by
  have c0 : 0 < c := by omega
  refine (Int.le_ediv_iff_mul_le b0).mpr ?_
  have q0 : 0 ≤ a / c := Int.ediv_nonneg a0 (by omega)
  exact Int.le_trans (Int.mul_le_mul_of_nonneg_left h q0) (Int.ediv_mul_le a (by omega))
theorem cube_le {s t : Int} (h0 : 0 ≤ s) (h : s ≤ t) : s * s * s ≤ t * t * t :=
  Int.mul_le_mul (Int.mul_le_mul h h h0 (by omega)) h h0 (Int.mul_nonneg (by omega) (by omega))
theorem hund (s : Int) : 100 * s * s * s = 100 * (s * s * s) := by simp only [Int.mul_assoc]
theorem badF_mono {s r : Int} (s0 : 0 ≤ s) (r0 : 0 ≤ r) : badF s r ≤ badF (s + 1) r := by
  obtain ⟨b0, b1, _⟩ := badF_spec (s := s + 1) (r := r) (by omega) r0
  by_cases h1 : s = 0
  · have : badF s r = 0 := by unfold badF; rw [if_pos h1]
    omega
  · by_cases h2 : r = 0
    · unfold badF
      rw [if_neg h1, if_pos h2, if_neg (show ¬ s + 1 = 0 by omega), if_pos h2]
      exact Int.le_refl _
    · have c0 := cube_pos (r := r) (by omega)
      have m := ediv_mono (c := r * r * r) (show 100 * s * s * s ≤ 100 * (s + 1) * (s + 1) * (s + 1) by
        rw [hund, hund]
        have := cube_le s0 (show s ≤ s + 1 by omega)
        omega) c0
      unfold badF
      rw [if_neg h1, if_neg h2, if_neg (show ¬ s + 1 = 0 by omega), if_neg h2]
      generalize 100 * s * s * s / (r * r * r) = x at *
      generalize 100 * (s + 1) * (s + 1) * (s + 1) / (r * r * r) = y at *
      split <;> split <;> omega
theorem badF_anti {s r : Int} (s0 : 0 ≤ s) (r0 : 0 ≤ r) : badF s (r + 1) ≤ badF s r := by
  obtain ⟨b0, b1, _⟩ := badF_spec (s := s) (r := r + 1) s0 (by omega)
  by_cases h1 : s = 0
  · have : badF s (r + 1) = 0 := by unfold badF; rw [if_pos h1]
    have : badF s r = 0 := by unfold badF; rw [if_pos h1]
    omega
  · by_cases h2 : r = 0
    · have : badF s r = 10000 := by unfold badF; rw [if_neg h1, if_pos h2]
      omega
    · have c0 := cube_pos (r := r) (by omega)
      have m := ediv_anti (a := 100 * s * s * s) (Int.mul_nonneg (Int.mul_nonneg (Int.mul_nonneg (by decide) s0) s0) s0) c0 (cube_le r0 (show r ≤ r + 1 by omega))
      unfold badF
      rw [if_neg h1, if_neg h1, if_neg h2, if_neg (show ¬ r + 1 = 0 by omega)]
      generalize 100 * s * s * s / (r * r * r) = x at *
      generalize 100 * s * s * s / ((r + 1) * (r + 1) * (r + 1)) = y at *
      split <;> split <;> omega
theorem badF_scale {s r f : Int} (f0 : 0 < f) : badF (s * f) (r * f) = badF s r := by
  have fne : f ≠ 0 := by omega
  unfold badF
  by_cases h1 : s = 0
  · simp [h1]
  · by_cases h2 : r = 0
    · rw [if_neg h1, if_pos h2, if_neg (by intro z; rcases Int.mul_eq_zero.mp z with z | z <;> omega), if_pos (by rw [h2]; simp)]
    · have c0 : 0 < f * f * f := cube_pos f0
      have e1 : 100 * (s * f) * (s * f) * (s * f) = f * f * f * (100 * s * s * s) := by
        simp only [Int.mul_assoc, Int.mul_left_comm, Int.mul_comm]
      have e2 : r * f * (r * f) * (r * f) = f * f * f * (r * r * r) := by
        simp only [Int.mul_assoc, Int.mul_left_comm, Int.mul_comm]
      rw [if_neg h1, if_neg h2, if_neg (by intro z; rcases Int.mul_eq_zero.mp z with z | z <;> omega), if_neg (by intro z; rcases Int.mul_eq_zero.mp z with z | z <;> omega), e1, e2, Int.mul_ediv_mul_of_pos _ _ c0]
theorem NB.lt {i : Int} {a : Nat} (h : NB i a) : i < 2 ^ a := by
  unfold NB at h
  have h2 : ((2 ^ a : Nat) : Int) = (2 : Int) ^ a := by simp
  rw [← h2]
  omega
def spLaw (K : PySem.W.Frag) : Sp := fun vs H Q _ => ∃ (a : Addr) (ns : List Int), vs = [.ref a] ∧ SqL K H a (ns.map V.int) ∧ ns.length ≤ 63 ∧ ∀ H', Q (.bl true) H'
def PvLaw (l : Addr) (xs : List V) (st : List (Option V)) : Nat → L2.St → Hp → Prop := fun _ σ' H' => H' l = some (.lst xs) ∧ ∃ v, σ' = st ++ [v]
section
variable {P : Program} {w : World} {K : PySem.W.Frag} {mg : Str → Option Value} {base : Heap}
theorem ok_law {f : Addr} {fd : FuncData} (F : Fun K "law" "law" s_law f fd) (T : Txt mg) (G_badness : Def P w K mg base 1 "badness" ["slack", "room"] (spBad)) (G_law_pool : Def P w K mg base 1 "_law_pool" ["script"] (spPool K)) (G_law_draw : Def P w K mg base 1 "_law_draw" ["pool", "many"] (spDraw)) (G_law_pair : Def P w K mg base 3 "_law_pair" ["pool"] (spPair)) (G_law_exact : Def P w K mg base 2 "_law_exact" ["got", "slack", "room"] (spExact)) (G_law_classes : Def P w K mg base 2 "_law_classes" ["slack", "bad"] (spClasses)) : FnOk P w K mg base CX0 4 f fd ["script"] (spLaw K) := by
  refine F.ok sc_law (fun vs H Q E h => ?_) (fun cdv A outer s H vs Q E hr h => ?_)
  · obtain ⟨a1, ns, rfl, _⟩ := h
    rfl
  · obtain ⟨a1, ns, rfl, h⟩ := h
    refine ⟨_, (pss_cons (ps_set (i := 1) sc_law.nd rfl (.inl rfl) (G_law_pool.call (hr.mono (by decide)) (by rfl) (pa_cons (pv 0) pa_nil)))
  (pss_cons (ps_set (i := 2) sc_law.nd rfl (.inl rfl) (G_law_pair.call (hr.mono (by decide)) (by rfl) (pa_cons (pv 1) pa_nil)))
  (pss_cons (ps_set (i := 3) sc_law.nd rfl (.inl rfl) (pe_ix (ixL (K := K) rfl) (pv 2) pe_int (fun _ _ => rfl)))
  (pss_cons (ps_set (i := 4) sc_law.nd rfl (.inl rfl) (pe_ix (ixL (K := K) rfl) (pv 2) pe_int (fun _ _ => rfl)))
  (pss_cons (ps_set (i := 5) sc_law.nd rfl (.inl rfl) (pe_op op_add pe_int (G_law_draw.call (hr.mono (by decide)) (by rfl) (pa_cons (pv 1) (pa_cons (pe_op op_pow pe_int pe_int) pa_nil)))))
  (pss_cons (ps_set (i := 6) sc_law.nd rfl (.inl rfl) (G_law_draw.call (hr.mono (by decide)) (by rfl) (pa_cons (pv 1) (pa_cons pe_int pa_nil))))
  (pss_cons (ps_set (i := 7) sc_law.nd rfl (.inl rfl) (G_badness.call (hr.mono (by decide)) (by rfl) (pa_cons (pv 3) (pa_cons (pv 4) pa_nil))))
  (pss_cons (ps_set (i := 8) sc_law.nd rfl (.inl rfl) (G_badness.call (hr.mono (by decide)) (by rfl) (pa_cons (pe_op op_add (pv 3) pe_int) (pa_cons (pv 4) pa_nil))))
  (pss_cons (ps_set (i := 9) sc_law.nd rfl (.inl rfl) (G_badness.call (hr.mono (by decide)) (by rfl) (pa_cons (pv 3) (pa_cons (pe_op op_add (pv 4) pe_int) pa_nil))))
  (pss_cons (ps_set (i := 10) sc_law.nd rfl (.inl rfl) (G_badness.call (hr.mono (by decide)) (by rfl) (pa_cons (pe_op op_mulW (pv 3) (pv 5)) (pa_cons (pe_op op_mulW (pv 4) (pv 5)) pa_nil))))
  (pss_cons (ps_if (PW.pt (pw_or (pt_not (pt_val (G_law_exact.call (hr.mono (by decide)) (by rfl) (pa_cons (pv 7) (pa_cons (pv 3) (pa_cons (pv 4) pa_nil)))))) (pw_or1 (pt_not (pt_val (G_law_exact.call (hr.mono (by decide)) (by rfl) (pa_cons (pv 8) (pa_cons (pe_op op_add (pv 3) pe_int) (pa_cons (pv 4) pa_nil)))))))))
  (pss_one (ps_ret pe_bl))
  pss_nil)
  (pss_cons (ps_if (PW.pt (pw_or (pt_not (pt_val (G_law_exact.call (hr.mono (by decide)) (by rfl) (pa_cons (pv 9) (pa_cons (pv 3) (pa_cons (pe_op op_add (pv 4) pe_int) pa_nil)))))) (pw_or1 (pt_not (pt_val (G_law_exact.call (hr.mono (by decide)) (by rfl) (pa_cons (pv 10) (pa_cons (pe_op op_mulW (pv 3) (pv 5)) (pa_cons (pe_op op_mulW (pv 4) (pv 5)) pa_nil)))))))))
  (pss_one (ps_ret pe_bl))
  pss_nil)
  (pss_cons (ps_if (PW.pt (pw_or (pt_not (pt_chain op_le op_le (pv 9) (pv 7) (pv 8))) (pw_or1 (pt_cmpR op_ne (pv 10) (pv 7) (nomark _)))))
  (pss_one (ps_ret pe_bl))
  pss_nil)
  (pss_cons (ps_for PassesOwn.never rfl (pi_listK (K := K) rfl (pe_lst (pa_cons pe_int (pa_cons pe_int (pa_cons pe_int (pa_cons pe_int (pa_cons pe_int (pa_cons pe_int (pa_cons pe_int (pa_cons pe_int (pa_cons pe_int (pa_cons pe_int (pa_cons pe_int (pa_cons pe_int (pa_cons (pv 6) (pa_cons (pv 7) pa_nil)))))))))))))))) (pg_name (i := 11) sc_law.nd rfl (Or.inl rfl))
  (pss_one (ps_if (pt_not (pt_val (G_law_classes.call (hr.mono (by decide)) (by rfl) (pa_cons (pv 3) (pa_cons (pv 11) pa_nil)))))
  (pss_one (ps_ret pe_bl))
  pss_nil)))
  (pss_one (ps_ret pe_bl)))))))))))))))), ?_⟩
    rw [show start ["script", "pool", "pair", "slack", "room", "factor", "drawn", "told", "more", "less", "alike", "bad"] [.ref a1] = [some (.ref a1), none, none, none, none, none, none, none, none, none, none, none] from rfl]
    obtain ⟨hS, hl, k⟩ := h
    walk_at "go"
    refine ⟨_, _, rfl, hS, fun p H1 hp e1 hp1 => ?_⟩
    walk_at "go"
    refine ⟨_, rfl, hp1, fun l s r H2 s0 s9 r0 r9 hp2 hl2 => ?_⟩
    walk_at "go"
    refine ⟨_, _, rfl, hp2, by decide, by decide, fun f H3 f0 f9 hp3 bt3 => ?_⟩
    walk_at "go"
    refine ⟨_, _, rfl, hp3, by decide, by decide, fun d H4 d0 d9 hp4 bt4 => ?_⟩
    walk_at "go"
    have ns : NB s 140 := NB.of s0 (by omega)
    have nr : NB r 140 := NB.of r0 (by omega)
    have nf : NB (1 + f) 30 := NB.of (by omega) (by omega)
    have sf0 : 0 ≤ s * (1 + f) := Int.mul_nonneg s0 (by omega)
    have rf0 : 0 ≤ r * (1 + f) := Int.mul_nonneg r0 (by omega)
    have sf9 := NB.lt (ns.mul nf)
    have rf9 := NB.lt (nr.mul nf)
    simp only [Nat.reduceAdd] at sf9 rf9
    refine ⟨s, r, rfl, s0, by omega, r0, by omega, ?_⟩
    walk_at "go"
    refine ⟨s + 1, r, rfl, by omega, by omega, r0, by omega, ?_⟩
    walk_at "go"
    refine ⟨s, r + 1, rfl, s0, by omega, by omega, by omega, ?_⟩
    walk_at "go"
    refine ⟨ns.cm nf (by decide), nr.cm nf (by decide), ?_⟩
    refine ⟨s * (1 + f), r * (1 + f), rfl, sf0, by omega, rf0, by omega, ?_⟩
    walk_at "go"
    refine ⟨s, r, rfl, s0, by omega, r0, by omega, ?_⟩
    walk_at "go"
    refine ⟨s + 1, r, rfl, by omega, by omega, r0, by omega, ?_⟩
    walk_at "go"
    refine ⟨s, r + 1, rfl, s0, by omega, by omega, by omega, ?_⟩
    walk_at "go"
    refine ⟨ns.cm nf (by decide), nr.cm nf (by decide), ?_⟩
    refine ⟨s * (1 + f), r * (1 + f), rfl, sf0, by omega, rf0, by omega, ?_⟩
    walk_at "go"
    refine ite_t (badF_anti s0 r0) (ite_f (fun z => z (badF_mono s0 r0)) (ite_f (fun z => z (badF_scale (by omega))) ?_))
    walk_at "go"
    intro z hz
    walk_at "go"
    obtain ⟨t0, t9, _⟩ := badF_spec s0 r0
    refine loopL _ (PvLaw z [V.int 0, V.int 1, V.int 11, V.int 12, V.int 13, V.int 14, V.int 98, V.int 99, V.int 100, V.int 101, V.int 9999, V.int 10000, V.int d, V.int (badF s r)]
      [some (V.ref a1), some (V.ref p), some (V.ref l), some (V.int s), some (V.int r), some (V.int (1 + f)), some (V.int d), some (V.int (badF s r)), some (V.int (badF (s + 1) r)), some (V.int (badF s (r + 1))), some (V.int (badF (s * (1 + f)) (r * (1 + f))))])
      ⟨upd_same, _, rfl⟩ (fun i σ' H' hi p => SqL.of p.1) ?_ ?_
    · rintro i y σ' H' hy ⟨hz', v, rfl⟩
      obtain ⟨b, rfl, b0, b9⟩ : ∃ b, y = V.int b ∧ 0 ≤ b ∧ b ≤ 10000 := by
        have := List.mem_of_getElem? hy
        simp only [List.mem_cons, List.not_mem_nil, or_false] at this
        rcases this with rfl | rfl | rfl | rfl | rfl | rfl | rfl | rfl | rfl | rfl | rfl | rfl | rfl | rfl
        all_goals exact ⟨_, rfl, by omega, by omega⟩
      walk_at "go"
      refine ⟨_, _, rfl, b0, b9, fun H6 h6 => ?_⟩
      walk_at "go"
      exact ⟨h6 _ _ hz', _, rfl⟩
    · rintro σ' H' ⟨hz', v, rfl⟩
      walk_at "go"
      exact k _
end
theorem all_mk {l : PySem.W.OpenLaw} {w : World} {K : PySem.W.Frag} {h : Heap} {mg : Str → Option Value} {fa f_badness f_line_class f_law_pool f_law_draw f_law_size f_law_least_slack f_law_pair f_law_int f_law_exact f_law_classes f_law : Addr} (X : K.In h) (G : h.Ns mainGlobals mg) (hfa : mg "law" = some (.ref fa))
    {od0 an0 od1 an1 od2 an2 od3 an3 od4 an4 od5 an5 od6 an6 od7 an7 od8 an8 od9 an9 od10 an10 : Option Addr} {sl0 sl1 sl2 sl3 sl4 sl5 sl6 sl7 sl8 sl9 sl10 : Array (Option Value)} {oc0 kV0 dc0 pm0 cd0 ct0 oc1 kV1 dc1 pm1 cd1 ct1 oc2 kV2 dc2 pm2 cd2 ct2 oc3 kV3 dc3 pm3 cd3 ct3 oc4 kV4 dc4 pm4 cd4 ct4 oc5 kV5 dc5 pm5 cd5 ct5 oc6 kV6 dc6 pm6 cd6 ct6 oc7 kV7 dc7 pm7 cd7 ct7 oc8 kV8 dc8 pm8 cd8 ct8 oc9 kV9 dc9 pm9 cd9 ct9 oc10 kV10 dc10 pm10 cd10 ct10 : Value} {t0 : Tok}
    (a0 : PySem.W.nsIn K mainGlobals "badness" = some (some (.ref f_badness))) (l0 : K.lookup f_badness = some ⟨oc0, od0, .func (PySem.W.fnOf "badness" "badness" (defArgs s_badness) (defBody s_badness) (defScope s_badness) .none kV0 dc0 pm0 an0 cd0 ct0), sl0⟩) (c0 : PySem.W.codeIn K cd0 "badness" = true) (k0 : PySem.W.keepIn K (.ref f_badness) = true)
    (a1 : PySem.W.nsIn K mainGlobals "line_class" = some (some (.ref f_line_class))) (l1 : K.lookup f_line_class = some ⟨oc1, od1, .func (PySem.W.fnOf "line_class" "line_class" (defArgs s_line_class) (defBody s_line_class) (defScope s_line_class) .none kV1 dc1 pm1 an1 cd1 ct1), sl1⟩) (c1 : PySem.W.codeIn K cd1 "line_class" = true) (k1 : PySem.W.keepIn K (.ref f_line_class) = true)
    (a2 : PySem.W.nsIn K mainGlobals "_law_pool" = some (some (.ref f_law_pool))) (l2 : K.lookup f_law_pool = some ⟨oc2, od2, .func (PySem.W.fnOf "_law_pool" "_law_pool" (defArgs s_law_pool) (defBody s_law_pool) (defScope s_law_pool) .none kV2 dc2 pm2 an2 cd2 ct2), sl2⟩) (c2 : PySem.W.codeIn K cd2 "_law_pool" = true) (k2 : PySem.W.keepIn K (.ref f_law_pool) = true)
    (a3 : PySem.W.nsIn K mainGlobals "_law_draw" = some (some (.ref f_law_draw))) (l3 : K.lookup f_law_draw = some ⟨oc3, od3, .func (PySem.W.fnOf "_law_draw" "_law_draw" (defArgs s_law_draw) (defBody s_law_draw) (defScope s_law_draw) .none kV3 dc3 pm3 an3 cd3 ct3), sl3⟩) (c3 : PySem.W.codeIn K cd3 "_law_draw" = true) (k3 : PySem.W.keepIn K (.ref f_law_draw) = true)
    (a4 : PySem.W.nsIn K mainGlobals "_law_size" = some (some (.ref f_law_size))) (l4 : K.lookup f_law_size = some ⟨oc4, od4, .func (PySem.W.fnOf "_law_size" "_law_size" (defArgs s_law_size) (defBody s_law_size) (defScope s_law_size) .none kV4 dc4 pm4 an4 cd4 ct4), sl4⟩) (c4 : PySem.W.codeIn K cd4 "_law_size" = true) (k4 : PySem.W.keepIn K (.ref f_law_size) = true)
    (a5 : PySem.W.nsIn K mainGlobals "_law_least_slack" = some (some (.ref f_law_least_slack))) (l5 : K.lookup f_law_least_slack = some ⟨oc5, od5, .func (PySem.W.fnOf "_law_least_slack" "_law_least_slack" (defArgs s_law_least_slack) (defBody s_law_least_slack) (defScope s_law_least_slack) .none kV5 dc5 pm5 an5 cd5 ct5), sl5⟩) (c5 : PySem.W.codeIn K cd5 "_law_least_slack" = true) (k5 : PySem.W.keepIn K (.ref f_law_least_slack) = true)
    (a6 : PySem.W.nsIn K mainGlobals "_law_pair" = some (some (.ref f_law_pair))) (l6 : K.lookup f_law_pair = some ⟨oc6, od6, .func (PySem.W.fnOf "_law_pair" "_law_pair" (defArgs s_law_pair) (defBody s_law_pair) (defScope s_law_pair) .none kV6 dc6 pm6 an6 cd6 ct6), sl6⟩) (c6 : PySem.W.codeIn K cd6 "_law_pair" = true) (k6 : PySem.W.keepIn K (.ref f_law_pair) = true)
    (a7 : PySem.W.nsIn K mainGlobals "_law_int" = some (some (.ref f_law_int))) (l7 : K.lookup f_law_int = some ⟨oc7, od7, .func (PySem.W.fnOf "_law_int" "_law_int" (defArgs s_law_int) (defBody s_law_int) (defScope s_law_int) .none kV7 dc7 pm7 an7 cd7 ct7), sl7⟩) (c7 : PySem.W.codeIn K cd7 "_law_int" = true) (k7 : PySem.W.keepIn K (.ref f_law_int) = true)
    (a8 : PySem.W.nsIn K mainGlobals "_law_exact" = some (some (.ref f_law_exact))) (l8 : K.lookup f_law_exact = some ⟨oc8, od8, .func (PySem.W.fnOf "_law_exact" "_law_exact" (defArgs s_law_exact) (defBody s_law_exact) (defScope s_law_exact) .none kV8 dc8 pm8 an8 cd8 ct8), sl8⟩) (c8 : PySem.W.codeIn K cd8 "_law_exact" = true) (k8 : PySem.W.keepIn K (.ref f_law_exact) = true)
    (a9 : PySem.W.nsIn K mainGlobals "_law_classes" = some (some (.ref f_law_classes))) (l9 : K.lookup f_law_classes = some ⟨oc9, od9, .func (PySem.W.fnOf "_law_classes" "_law_classes" (defArgs s_law_classes) (defBody s_law_classes) (defScope s_law_classes) .none kV9 dc9 pm9 an9 cd9 ct9), sl9⟩) (c9 : PySem.W.codeIn K cd9 "_law_classes" = true) (k9 : PySem.W.keepIn K (.ref f_law_classes) = true)
    (a10 : PySem.W.nsIn K mainGlobals "law" = some (some (.ref f_law))) (l10 : K.lookup f_law = some ⟨oc10, od10, .func (PySem.W.fnOf "law" "law" (defArgs s_law) (defBody s_law) (defScope s_law) .none kV10 dc10 pm10 an10 cd10 ct10), sl10⟩) (c10 : PySem.W.codeIn K cd10 "law" = true) (k10 : PySem.W.keepIn K (.ref f_law) = true)
    (z_abs : PySem.W.nsIn K mainGlobals "abs" = some none)
    (z_bool : PySem.W.nsIn K mainGlobals "bool" = some none)
    (z_int : PySem.W.nsIn K mainGlobals "int" = some none)
    (z_isinstance : PySem.W.nsIn K mainGlobals "isinstance" = some none)
    (z_len : PySem.W.nsIn K mainGlobals "len" = some none)
    (z_list : PySem.W.nsIn K mainGlobals "list" = some none)
    (z_max : PySem.W.nsIn K mainGlobals "max" = some none)
    (z_min : PySem.W.nsIn K mainGlobals "min" = some none)
    (z_range : PySem.W.nsIn K mainGlobals "range" = some none)
    (g_WORST : PySem.W.nsIn K mainGlobals "WORST" = some (some (.int 10000 t0)))
    : ∃ fd : FuncData, (∀ (s : Shared) (v : Value), BindsTo s fd ⟨[v], []⟩ [("script", v)]) ∧ ∀ base : Heap, K.In base → base.Ns mainGlobals mg → FnOk l.prog w K mg base CX0 4 fa fd ["script"] (spLaw K) := by
  have e := hfa.symm.trans (PySem.W.mg_of X G a10)
  cases e
  have T : Txt mg := ⟨PySem.W.mg_none_of X G z_abs, PySem.W.mg_none_of X G z_bool, PySem.W.mg_none_of X G z_int, PySem.W.mg_none_of X G z_isinstance, PySem.W.mg_none_of X G z_len, PySem.W.mg_none_of X G z_list, PySem.W.mg_none_of X G z_max, PySem.W.mg_none_of X G z_min, PySem.W.mg_none_of X G z_range, ⟨_, PySem.W.mg_of X G g_WORST⟩⟩
  have F0 := fun_mk (st := s_badness) l0 c0 k0
  have b0 := F0.binds (ps := ["slack", "room"]) fun _ _ _ _ _ _ us hl => match us, hl with | [_, _], _ => rfl
  have F1 := fun_mk (st := s_line_class) l1 c1 k1
  have b1 := F1.binds (ps := ["slack", "bad"]) fun _ _ _ _ _ _ us hl => match us, hl with | [_, _], _ => rfl
  have F2 := fun_mk (st := s_law_pool) l2 c2 k2
  have b2 := F2.binds (ps := ["script"]) fun _ _ _ _ _ _ us hl => match us, hl with | [_], _ => rfl
  have F3 := fun_mk (st := s_law_draw) l3 c3 k3
  have b3 := F3.binds (ps := ["pool", "many"]) fun _ _ _ _ _ _ us hl => match us, hl with | [_, _], _ => rfl
  have F4 := fun_mk (st := s_law_size) l4 c4 k4
  have b4 := F4.binds (ps := ["pool"]) fun _ _ _ _ _ _ us hl => match us, hl with | [_], _ => rfl
  have F5 := fun_mk (st := s_law_least_slack) l5 c5 k5
  have b5 := F5.binds (ps := ["room", "bad"]) fun _ _ _ _ _ _ us hl => match us, hl with | [_, _], _ => rfl
  have F6 := fun_mk (st := s_law_pair) l6 c6 k6
  have b6 := F6.binds (ps := ["pool"]) fun _ _ _ _ _ _ us hl => match us, hl with | [_], _ => rfl
  have F7 := fun_mk (st := s_law_int) l7 c7 k7
  have b7 := F7.binds (ps := ["got"]) fun _ _ _ _ _ _ us hl => match us, hl with | [_], _ => rfl
  have F8 := fun_mk (st := s_law_exact) l8 c8 k8
  have b8 := F8.binds (ps := ["got", "slack", "room"]) fun _ _ _ _ _ _ us hl => match us, hl with | [_, _, _], _ => rfl
  have F9 := fun_mk (st := s_law_classes) l9 c9 k9
  have b9 := F9.binds (ps := ["slack", "bad"]) fun _ _ _ _ _ _ us hl => match us, hl with | [_, _], _ => rfl
  have F10 := fun_mk (st := s_law) l10 c10 k10
  refine ⟨PySem.W.fnOf "law" "law" (defArgs s_law) (defBody s_law) (defScope s_law) .none kV10 dc10 pm10 an10 cd10 ct10, fun s v => .of_eq rfl, fun base _ _ => ?_⟩
  have G_badness : Def l.prog w K mg base 1 "badness" ["slack", "room"] (spBad) := ⟨_, _, ok_badness F0 T , PySem.W.mg_of X G a0, k0, b0⟩
  have G_line_class : Def l.prog w K mg base 1 "line_class" ["slack", "bad"] (spClass) := ⟨_, _, ok_line_class F1 T , PySem.W.mg_of X G a1, k1, b1⟩
  have G_law_pool : Def l.prog w K mg base 1 "_law_pool" ["script"] (spPool K) := ⟨_, _, ok_law_pool F2 T , PySem.W.mg_of X G a2, k2, b2⟩
  have G_law_draw : Def l.prog w K mg base 1 "_law_draw" ["pool", "many"] (spDraw) := ⟨_, _, ok_law_draw F3 T , PySem.W.mg_of X G a3, k3, b3⟩
  have G_law_size : Def l.prog w K mg base 2 "_law_size" ["pool"] (spSize) := ⟨_, _, ok_law_size F4 T G_law_draw, PySem.W.mg_of X G a4, k4, b4⟩
  have G_law_least_slack : Def l.prog w K mg base 2 "_law_least_slack" ["room", "bad"] (spLeast) := ⟨_, _, ok_law_least_slack F5 T , PySem.W.mg_of X G a5, k5, b5⟩
  have G_law_pair : Def l.prog w K mg base 3 "_law_pair" ["pool"] (spPair) := ⟨_, _, ok_law_pair F6 T G_law_draw G_law_size G_law_least_slack, PySem.W.mg_of X G a6, k6, b6⟩
  have G_law_int : Def l.prog w K mg base 1 "_law_int" ["got"] (spInt) := ⟨_, _, ok_law_int F7 T , PySem.W.mg_of X G a7, k7, b7⟩
  have G_law_exact : Def l.prog w K mg base 2 "_law_exact" ["got", "slack", "room"] (spExact) := ⟨_, _, ok_law_exact F8 T G_law_int, PySem.W.mg_of X G a8, k8, b8⟩
  have G_law_classes : Def l.prog w K mg base 2 "_law_classes" ["slack", "bad"] (spClasses) := ⟨_, _, ok_law_classes F9 T G_line_class G_law_int, PySem.W.mg_of X G a9, k9, b9⟩
  exact ok_law F10 T G_badness G_law_pool G_law_draw G_law_pair G_law_exact G_law_classes
theorem walk {l : PySem.W.OpenLaw} {q : Program} {loose : List Str} {XP : (Str → Option Value) → Heap → Prop} {YP : World → Heap → Prop} {d : DefRec} {K : Params → PySem.W.Frag} (hn : l.most = some 63) (hdf : d.params.defaults = [])
    (hY : ∀ (w : World) (h : Heap), YP w h → (K w.params).In h)
    (F : ∀ (w : World) (mg : Str → Option Value) (fa : Addr) (h : Heap), (K w.params).In h → h.Ns mainGlobals mg → mg d.name = some (.ref fa) →
      ∃ fd : FuncData, (∀ (s : Shared) (u : Value), BindsTo s fd ⟨[u], []⟩ [("script", u)]) ∧ ∀ base : Heap, (K w.params).In base → base.Ns mainGlobals mg → FnOk l.prog w (K w.params) mg base CX0 4 fa fd ["script"] (spLaw (K w.params))) :
    PySem.W.WalkO q loose XP YP l.row.toRowW d [] (fun f vs => PySem.call f vs) :=
  L2.walk_of (n := 63) (k := 4) (x := "script") (CX := fun _ => CX0) (sp := fun w => spLaw (K w.params)) hn (by decide) hdf ⟨rfl, by decide, by decide⟩ hY F (fun _ _ a ns hl _ hS => ⟨a, ns, rfl, hS, hl, fun _ => rfl⟩) fun _ _ _ _ _ z => z
end K32
open PySem PySem.W PyProof.Rows
set_option maxRecDepth 100000 in
set_option maxHeartbeats 0 in
theorem PySem.Challenge.cw_galleywork_k32_badness_and_class_holds : PySem.Challenge.rw_galleywork_k32_badness_and_class.Holds := by
  w_on; o_law; k_head; (case hw => w_witness2)
  k_fill
  refine K32.walk (l := PySem.Challenge.rw_galleywork_k32_badness_and_class) rfl rfl (fun w h Y => PySem.W.kIn_of Y) ?F
  case F =>
    intro w mg fa h KX G hmg
    refine' K32.all_mk KX G hmg ?a0 ?l0 ?c0 ?k0 ?a1 ?l1 ?c1 ?k1 ?a2 ?l2 ?c2 ?k2 ?a3 ?l3 ?c3 ?k3 ?a4 ?l4 ?c4 ?k4 ?a5 ?l5 ?c5 ?k5 ?a6 ?l6 ?c6 ?k6 ?a7 ?l7 ?c7 ?k7 ?a8 ?l8 ?c8 ?k8 ?a9 ?l9 ?c9 ?k9 ?a10 ?l10 ?c10 ?k10 ?z_abs ?z_bool ?z_int ?z_isinstance ?z_len ?z_list ?z_max ?z_min ?z_range ?g_WORST
    (case a0 => k_is)
    (case l0 => k_is)
    (case c0 => k_is)
    (case k0 => k_is)
    (case a1 => k_is)
    (case l1 => k_is)
    (case c1 => k_is)
    (case k1 => k_is)
    (case a2 => k_is)
    (case l2 => k_is)
    (case c2 => k_is)
    (case k2 => k_is)
    (case a3 => k_is)
    (case l3 => k_is)
    (case c3 => k_is)
    (case k3 => k_is)
    (case a4 => k_is)
    (case l4 => k_is)
    (case c4 => k_is)
    (case k4 => k_is)
    (case a5 => k_is)
    (case l5 => k_is)
    (case c5 => k_is)
    (case k5 => k_is)
    (case a6 => k_is)
    (case l6 => k_is)
    (case c6 => k_is)
    (case k6 => k_is)
    (case a7 => k_is)
    (case l7 => k_is)
    (case c7 => k_is)
    (case k7 => k_is)
    (case a8 => k_is)
    (case l8 => k_is)
    (case c8 => k_is)
    (case k8 => k_is)
    (case a9 => k_is)
    (case l9 => k_is)
    (case c9 => k_is)
    (case k9 => k_is)
    (case a10 => k_is)
    (case l10 => k_is)
    (case c10 => k_is)
    (case k10 => k_is)
    (case z_abs => k_is)
    (case z_bool => k_is)
    (case z_int => k_is)
    (case z_isinstance => k_is)
    (case z_len => k_is)
    (case z_list => k_is)
    (case z_max => k_is)
    (case z_min => k_is)
    (case z_range => k_is)
    (case g_WORST => k_is)
#print axioms PySem.Challenge.cw_galleywork_k32_badness_and_class_holds

