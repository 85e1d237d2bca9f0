import PyProof.Rows.All
import Wide.All
import OpenK.AllK
import Wide.FinOn
import Lean
import PyProof.EqAt
import PyProof.EqKinds
import PyProof.TupleCall
import PySem.Challenge.RW_logloom_k72_bits_without_a_word
set_option Elab.async false
set_option linter.all false
set_option maxRecDepth 100000
/-! the run of the top over a tree of objects, by the library's faster forms, in one kernel run -/
namespace HT
open PySem PySem.W
abbrev annR : Option Value := some (.ref 6)
noncomputable abbrev okQ : Thread → Bool := Fast.tw6613529449190102663 11 annR
noncomputable abbrev stQ (p : Program) (w : World) : SharedT → Thread → Option (SharedT × Thread) :=
  Fast.tw10156331382660048174 (Fast.tw11892475500146522536 Fast.tw14364793385576792824) p w
noncomputable def runQ (p : Program) (w : World) : Nat → SharedT → Thread → Option SharedT
  | 0, _, _ => none
  | fuel + 1, a, th => @Bool.rec (fun _ => Option SharedT)
      (@Bool.rec (fun _ => Option SharedT) none (@Option.rec (SharedT × Thread) (fun _ => Option SharedT) none (fun r => runQ p w fuel r.1 r.2) (stQ p w a th)) (okQ th))
      (some a) (through th)
theorem okQ_is (th : Thread) : okQ th = stepOk 11 annR th := by
  show Fast.tw6613529449190102663 11 annR th = _
  rw [← Fast.te6613529449190102663]
theorem stQ_is (p : Program) (w : World) (a : SharedT) (th : Thread) : stQ p w a th = stepT (denote treeTable) p w a th := by
  show Fast.tw10156331382660048174 (Fast.tw11892475500146522536 Fast.tw14364793385576792824) p w a th = _
  rw [← Fast.te10156331382660048174, ← Fast.te11892475500146522536, ← Fast.te14364793385576792824]
theorem runQ_top {p : Program} {w : World} : ∀ (fuel : Nat) (a b : SharedT) (th : Thread),
    runQ p w fuel a th = some b → topRun treeTable p w 11 annR fuel a.abs th = some b.abs
  | 0, _, _, _, e => by cases e
  | fuel + 1, a, b, th, e => by
    unfold runQ at e
    unfold topRun
    rw [okQ_is, stQ_is] at e
    cases e1 : through th
    · rw [e1] at e
      cases e2 : stepOk 11 annR th
      · rw [e2] at e; cases e
      · rw [e2] at e
        cases e3 : stepT (denote treeTable) p w a th with
        | none => rw [e3] at e; cases e
        | some r =>
          rw [e3] at e
          have e4 := stepT_spec (s' := r.1) (t' := r.2) e3
          rw [e4]
          exact runQ_top fuel r.1 b r.2 e
    · rw [e1] at e
      have : a = b := Option.some.inj e
      rw [this]
noncomputable def bT (P : Params) : BT :=
  .node (boot_o_0 P)
    (.node (boot_o_1 P) (.node (boot_o_3 P) (.node (boot_o_7 P) .nil .nil) .nil) (.node (boot_o_5 P) (.node (boot_o_9 P) .nil .nil) .nil))
    (.node (boot_o_2 P) (.node (boot_o_4 P) (.node (boot_o_8 P) .nil .nil) .nil) (.node (boot_o_6 P) (.node (boot_o_10 P) .nil .nil) .nil))
theorem bT_boot : ∀ P, boot_heap P = absHeap (bT P) 11 {} := fun P => by kernel_rfl
noncomputable abbrev at0 (w : World) (os : OsState) : SharedT := ⟨bT w.params, 11, {}, Array.mk [], boot_drawn, boot_toks, os⟩
theorem at0_abs (w : World) (os : OsState) : (at0 w os).abs = ⟨boot_heap w.params, Array.mk [], boot_drawn, boot_toks, os⟩ := by
  rw [bT_boot]; rfl
theorem boot_looks : ∀ P : Params, (((boot_heap P).isNs mainGlobals && (#[] : Array GenState).size == 0) = true ∧ (boot_heap P).objs.size = 11) ∧
    (boot_heap P).nsMap mainGlobals "__annotations__" = annR := fun P => ⟨⟨by kernel_rfl, by kernel_rfl⟩, by kernel_rfl⟩
/-- what is looked at behind the top, ahead of the views -/
noncomputable abbrev kept (p : Program) (P : Params) (b : Shared) : Bool :=
  staticsOk (importedModules p.main.body) (boot_heap P) b.heap && namesBound p b.heap && gensDone b && laidKept (boot_heap P) b.heap
/-- the head out of one kernel run -/
theorem left1 {p q : Program} {loose : List Str} {Xt : Shared → Bool} {α : Type} {Yf : Shared → α} {Ya : World → α} {N : Nat} {g0 : Bool}
    (e : opening p = plainProg p.main.scope.names) (hN : Nat.ble 600 N = true) (f : ∀ s, fenceModules? p s = some s)
    (run : ∀ (w : World) (os : OsState), (runQ p w N (at0 w os) (topStub p)).map (fun b =>
      (kept p w.params b.abs, Fast.tw4187177175401517315 q loose (importedModules p.main.body) Xt g0 b.abs, Yf b.abs)) = some (true, openGood q loose, Ya w)) :
    LeftO p q loose Xt Yf Ya N g0 := by
  intro w
  obtain ⟨⟨hp, gs, d, k, os⟩, o1, o2⟩ := Option.map_eq_some_iff.mp (boot_open e hN f w)
  obtain ⟨rfl, rfl, rfl, rfl⟩ : hp = boot_heap w.params ∧ gs = Array.mk [] ∧ d = boot_drawn ∧ k = boot_toks := by
    simpa using o2
  obtain ⟨⟨z1, z2⟩, z3⟩ := boot_looks w.params
  have r := run w os
  rw [← Fast.te4187177175401517315] at r
  obtain ⟨b, r1, r2⟩ := Option.map_eq_some_iff.mp r
  rw [Prod.mk.injEq, Prod.mk.injEq] at r2
  have r3 := runQ_top N _ b _ r1
  rw [at0_abs] at r3
  have r4 : topFrom treeTable p w N ⟨boot_heap w.params, Array.mk [], boot_drawn, boot_toks, os⟩ = some b.abs := by
    have k1 : kept p w.params b.abs = true := r2.1
    unfold kept at k1
    unfold topFrom
    simp only [z1, z2, z3, r3, Option.bind_some, k1]
  have r5 : openEnds treeTable p w N = some b.abs := by
    unfold openEnds
    simp only [o1, Option.bind_some, r4]
  rw [r5]
  exact congrArg some (by rw [← r2.2.1, ← r2.2.2])
end HT
namespace L2
open PySem
def inClass (s : Stmt) (j : Nat) : Stmt := match s with
  | .ClassDef _ _ _ body _ _ _ _ _ _ _ => body.getD j (.Pass ⟨0, 0, 0, 0⟩)
  | _ => .Pass ⟨0, 0, 0, 0⟩
def defArgs (s : Stmt) : Arguments := match s with
  | .FunctionDef _ a _ _ _ _ _ _ _ _ => a
  | _ => { posonlyargs := [], args := [], vararg := none, kwonlyargs := [], kw_defaults := [], kwarg := none, defaults := [] }
def defBody (s : Stmt) : List Stmt := match s with
  | .FunctionDef _ _ b _ _ _ _ _ _ _ => b
  | _ => []
def defScope (s : Stmt) : Scope := match s with
  | .FunctionDef _ _ _ _ _ _ sc _ _ _ => sc
  | _ => { kind := .function, names := [], isGenerator := false, isCoroutine := false }
end L2
namespace SL
open PySem L2
def top (i : Nat) : Stmt := PySem.Challenge.pw_logloom_k72_bits_without_a_word.main.body.getD i (.Pass ⟨0, 0, 0, 0⟩)
abbrev sMo : Stmt := top 16
abbrev sPw : Stmt := inClass (top 17) 0
abbrev sPt : Stmt := inClass (top 17) 1
abbrev sNw : Stmt := inClass (top 18) 0
abbrev sNt : Stmt := inClass (top 18) 1
abbrev sAw : Stmt := inClass (top 19) 0
abbrev sAt : Stmt := inClass (top 19) 1
abbrev sIw : Stmt := inClass (top 20) 0
abbrev sIt : Stmt := inClass (top 20) 1
abbrev sKw : Stmt := inClass (top 21) 0
abbrev sKt : Stmt := inClass (top 21) 1
abbrev sIi : Stmt := top 22
abbrev sAl : Stmt := top 23
abbrev sSo : Stmt := top 24
abbrev sOf : Stmt := top 38
abbrev sIn : Stmt := top 39
abbrev sIm : Stmt := top 40
abbrev sIl : Stmt := top 41
abbrev sLs : Stmt := top 42
abbrev sSi : Stmt := top 43
abbrev sNu : Stmt := top 44
abbrev sNa : Stmt := top 45
abbrev sMk : Stmt := top 46
abbrev sLi : Stmt := top 47
abbrev sWo : Stmt := top 48
end SL
namespace BT
open PySem L2
def top (i : Nat) : Stmt := PySem.Challenge.pw_logloom_k72_bits_without_a_word.main.body.getD i (.Pass ⟨0, 0, 0, 0⟩)
abbrev sNu : Stmt := top 34
abbrev sRi : Stmt := inClass (top 35) 0
abbrev sRb : Stmt := inClass (top 35) 1
abbrev sRl : Stmt := inClass (top 35) 2
abbrev sPu : Stmt := top 49
abbrev sEi : Stmt := top 50
end BT
namespace CD
open PySem L2
def top (i : Nat) : Stmt := PySem.Challenge.pw_logloom_k72_bits_without_a_word.main.body.getD i (.Pass ⟨0, 0, 0, 0⟩)
abbrev sNn : Stmt := top 27
abbrev sNs : Stmt := top 28
abbrev sNi : Stmt := top 29
abbrev sTr : Stmt := top 30
abbrev sNw : Stmt := top 31
abbrev sMb : Stmt := top 51
abbrev sPl : Stmt := top 52
abbrev sQs : Stmt := top 53
abbrev sQn : Stmt := top 54
abbrev sQw : Stmt := top 55
abbrev sLaw : Stmt := top 58
abbrev sCe : Stmt := top 37
abbrev sNm : Stmt := top 56
abbrev sBi : Stmt := top 57
end CD
namespace SL
open PySem L2
def hK : PySem.Params → PySem.W.Frag := fun P =>
  (nat_lit 2, ({ cls := Value.none, data := Data.dict #[] } : Obj)) ::
  (nat_lit 3, ({ cls := Value.type "dict", data := Data.dict #[{ hash := PyData.keyHash P (Str.ofString "__name__"), key := Value.str (Str.ofString "__name__") 165, val := Value.str (Str.ofString "law_logloom_k72_bits_without_a_word") 651 }, { hash := PyData.keyHash P (Str.ofString "__doc__"), key := Value.str (Str.ofString "__doc__") 166, val := Value.none }, { hash := PyData.keyHash P (Str.ofString "__package__"), key := Value.str (Str.ofString "__package__") 167, val := Value.none }, { hash := PyData.keyHash P (Str.ofString "__loader__"), key := Value.str (Str.ofString "__loader__") 168, val := Value.builtin "__main__.__loader__#opaque" }, { hash := PyData.keyHash P (Str.ofString "__spec__"), key := Value.str (Str.ofString "__spec__") 169, val := Value.none }, { hash := PyData.keyHash P (Str.ofString "__annotations__"), key := Value.str (Str.ofString "__annotations__") 170, val := Value.ref 6 }, { hash := PyData.keyHash P (Str.ofString "__builtins__"), key := Value.str (Str.ofString "__builtins__") 171, val := Value.ref 4 }, { hash := PyData.keyHash P (Str.ofString "__file__"), key := Value.str (Str.ofString "__file__") 173, val := Value.str (Str.ofString "/claim/cut.py") 172 }, { hash := PyData.keyHash P (Str.ofString "__cached__"), key := Value.str (Str.ofString "__cached__") 174, val := Value.none }, { hash := PyData.keyHash P (Str.ofString "LoomError"), key := Value.str (Str.ofString "LoomError") 206, val := Value.ref 24 }, { hash := PyData.keyHash P (Str.ofString "NoRow"), key := Value.str (Str.ofString "NoRow") 231, val := Value.ref 44 }, { hash := PyData.keyHash P (Str.ofString "NoGap"), key := Value.str (Str.ofString "NoGap") 256, val := Value.ref 63 }, { hash := PyData.keyHash P (Str.ofString "Unknown"), key := Value.str (Str.ofString "Unknown") 281, val := Value.ref 82 }, { hash := PyData.keyHash P (Str.ofString "Clash"), key := Value.str (Str.ofString "Clash") 306, val := Value.ref 101 }, { hash := PyData.keyHash P (Str.ofString "Spoiled"), key := Value.str (Str.ofString "Spoiled") 322, val := Value.ref 113 }, { hash := PyData.keyHash P (Str.ofString "Untaught"), key := Value.str (Str.ofString "Untaught") 338, val := Value.ref 125 }, { hash := PyData.keyHash P (Str.ofString "FIGURES"), key := Value.str (Str.ofString "FIGURES") 342, val := Value.str (Str.ofString "0123456789") 341 }, { hash := PyData.keyHash P (Str.ofString "SMALL_LETTERS"), key := Value.str (Str.ofString "SMALL_LETTERS") 344, val := Value.str (Str.ofString "abcdefghijklmnopqrstuvwxyz") 343 }, { hash := PyData.keyHash P (Str.ofString "NAME_SIGNS"), key := Value.str (Str.ofString "NAME_SIGNS") 346, val := Value.str (Str.ofString "abcdefghijklmnopqrstuvwxyz0123456789") 345 }, { hash := PyData.keyHash P (Str.ofString "MARK_SIGNS"), key := Value.str (Str.ofString "MARK_SIGNS") 348, val := Value.str (Str.ofString "abcdefghijklmnopqrstuvwxyzABCDEFGHIJKLMNOPQRSTUVWXYZ0123456789.:-_/=") 347 }, { hash := PyData.keyHash P (Str.ofString "MOST_FIGURES"), key := Value.str (Str.ofString "MOST_FIGURES") 350, val := Value.int 9 349 }, { hash := PyData.keyHash P (Str.ofString "MOST_SIGNS"), key := Value.str (Str.ofString "MOST_SIGNS") 352, val := Value.int 12 351 }, { hash := PyData.keyHash P (Str.ofString "MOST_ITEMS"), key := Value.str (Str.ofString "MOST_ITEMS") 354, val := Value.int 4 353 }, { hash := PyData.keyHash P (Str.ofString "made_of"), key := Value.str (Str.ofString "made_of") 360, val := Value.ref 132 }, { hash := PyData.keyHash P (Str.ofString "Sort"), key := Value.str (Str.ofString "Sort") 395, val := Value.ref 156 }, { hash := PyData.keyHash P (Str.ofString "Number"), key := Value.str (Str.ofString "Number") 426, val := Value.ref 184 }, { hash := PyData.keyHash P (Str.ofString "Name"), key := Value.str (Str.ofString "Name") 457, val := Value.ref 210 }, { hash := PyData.keyHash P (Str.ofString "Items"), key := Value.str (Str.ofString "Items") 486, val := Value.ref 234 }, { hash := PyData.keyHash P (Str.ofString "Mark"), key := Value.str (Str.ofString "Mark") 517, val := Value.ref 260 }, { hash := PyData.keyHash P (Str.ofString "is_item"), key := Value.str (Str.ofString "is_item") 524, val := Value.ref 269 }, { hash := PyData.keyHash P (Str.ofString "all_sorts"), key := Value.str (Str.ofString "all_sorts") 530, val := Value.ref 276 }, { hash := PyData.keyHash P (Str.ofString "sort_of"), key := Value.str (Str.ofString "sort_of") 538, val := Value.ref 283 }, { hash := PyData.keyHash P (Str.ofString "ITEM_SORTS"), key := Value.str (Str.ofString "ITEM_SORTS") 543, val := Value.ref 284 }, { hash := PyData.keyHash P (Str.ofString "next_number"), key := Value.str (Str.ofString "next_number") 552, val := Value.ref 291 }, { hash := PyData.keyHash P (Str.ofString "next_signs"), key := Value.str (Str.ofString "next_signs") 565, val := Value.ref 298 }, { hash := PyData.keyHash P (Str.ofString "next_items"), key := Value.str (Str.ofString "next_items") 577, val := Value.ref 305 }, { hash := PyData.keyHash P (Str.ofString "text_read"), key := Value.str (Str.ofString "text_read") 585, val := Value.ref 312 }, { hash := PyData.keyHash P (Str.ofString "next_word"), key := Value.str (Str.ofString "next_word") 594, val := Value.ref 319 }, { hash := PyData.keyHash P (Str.ofString "WIDE"), key := Value.str (Str.ofString "WIDE") 598, val := Value.int 8 597 }, { hash := PyData.keyHash P (Str.ofString "number_of"), key := Value.str (Str.ofString "number_of") 607, val := Value.ref 326 }, { hash := PyData.keyHash P (Str.ofString "Reader"), key := Value.str (Str.ofString "Reader") 650, val := Value.ref 355 }, { hash := PyData.keyHash P (Str.ofString "_law_cell_at"), key := Value.str (Str.ofString "_law_cell_at") 660, val := Value.ref 366 }, { hash := PyData.keyHash P (Str.ofString "_law_of"), key := Value.str (Str.ofString "_law_of") 666, val := Value.ref 371 }, { hash := PyData.keyHash P (Str.ofString "_law_is_number"), key := Value.str (Str.ofString "_law_is_number") 673, val := Value.ref 378 }, { hash := PyData.keyHash P (Str.ofString "_law_is_name"), key := Value.str (Str.ofString "_law_is_name") 681, val := Value.ref 385 }, { hash := PyData.keyHash P (Str.ofString "_law_is_list"), key := Value.str (Str.ofString "_law_is_list") 687, val := Value.ref 390 }, { hash := PyData.keyHash P (Str.ofString "_law_sort"), key := Value.str (Str.ofString "_law_sort") 695, val := Value.ref 397 }, { hash := PyData.keyHash P (Str.ofString "_law_signs"), key := Value.str (Str.ofString "_law_signs") 707, val := Value.ref 404 }, { hash := PyData.keyHash P (Str.ofString "_law_number_word"), key := Value.str (Str.ofString "_law_number_word") 715, val := Value.ref 411 }, { hash := PyData.keyHash P (Str.ofString "_law_name_word"), key := Value.str (Str.ofString "_law_name_word") 723, val := Value.ref 418 }, { hash := PyData.keyHash P (Str.ofString "_law_mark_word"), key := Value.str (Str.ofString "_law_mark_word") 735, val := Value.ref 425 }, { hash := PyData.keyHash P (Str.ofString "_law_list_word"), key := Value.str (Str.ofString "_law_list_word") 745, val := Value.ref 432 }, { hash := PyData.keyHash P (Str.ofString "_law_word"), key := Value.str (Str.ofString "_law_word") 752, val := Value.ref 439 }, { hash := PyData.keyHash P (Str.ofString "_law_put"), key := Value.str (Str.ofString "_law_put") 758, val := Value.ref 444 }, { hash := PyData.keyHash P (Str.ofString "_law_eighths"), key := Value.str (Str.ofString "_law_eighths") 769, val := Value.ref 451 }, { hash := PyData.keyHash P (Str.ofString "_law_many_bits"), key := Value.str (Str.ofString "_law_many_bits") 777, val := Value.ref 458 }, { hash := PyData.keyHash P (Str.ofString "_law_place"), key := Value.str (Str.ofString "_law_place") 786, val := Value.ref 465 }, { hash := PyData.keyHash P (Str.ofString "_law_put_signs"), key := Value.str (Str.ofString "_law_put_signs") 797, val := Value.ref 472 }, { hash := PyData.keyHash P (Str.ofString "_law_put_number"), key := Value.str (Str.ofString "_law_put_number") 807, val := Value.ref 479 }, { hash := PyData.keyHash P (Str.ofString "_law_put_word"), key := Value.str (Str.ofString "_law_put_word") 813, val := Value.ref 484 }, { hash := PyData.keyHash P (Str.ofString "_law_numbers"), key := Value.str (Str.ofString "_law_numbers") 826, val := Value.ref 491 }, { hash := PyData.keyHash P (Str.ofString "_law_bits"), key := Value.str (Str.ofString "_law_bits") 835, val := Value.ref 498 }, { hash := PyData.keyHash P (Str.ofString "law"), key := Value.str (Str.ofString "law") 841, val := Value.ref 503 }] 63 } : Obj)) ::
  (nat_lit 15, ({ cls := Value.type "tuple", data := Data.seq #[Value.type "ValueError"] } : Obj)) ::
  (nat_lit 22, ({ cls := Value.type "tuple", data := Data.seq #[] } : Obj)) ::
  (nat_lit 23, ({ cls := Value.type "dict", data := Data.dict #[{ hash := PyData.keyHash P (Str.ofString "__module__"), key := Value.str (Str.ofString "__module__") 196, val := Value.str (Str.ofString "logloom.errors") 187 }, { hash := PyData.keyHash P (Str.ofString "__firstlineno__"), key := Value.str (Str.ofString "__firstlineno__") 200, val := Value.int 2 199 }, { hash := PyData.keyHash P (Str.ofString "__static_attributes__"), key := Value.str (Str.ofString "__static_attributes__") 201, val := Value.ref 22 }, { hash := PyData.keyHash P (Str.ofString "__weakref__"), key := Value.str (Str.ofString "__weakref__") 203, val := Value.ref 25 }, { hash := PyData.keyHash P (Str.ofString "__doc__"), key := Value.str (Str.ofString "__doc__") 204, val := Value.none }] 3 } : Obj)) ::
  (nat_lit 24, ({ cls := Value.type "type", data := Data.cls { name := Str.ofString "LoomError", bases := [Value.type "ValueError"], mro := [Value.ref 24, Value.type "ValueError", Value.type "Exception", Value.type "BaseException", Value.type "object"], ns := 23, qualname := Str.ofString "LoomError", subclasses := [Value.ref 44, Value.ref 63, Value.ref 82, Value.ref 101, Value.ref 113, Value.ref 125] }, slots := #[some (Value.ref 15), none, some (Value.str (Str.ofString "LoomError") 189), some (Value.str (Str.ofString "LoomError") 197), some (Value.builtin "ValueError.__new__"), some (Value.bool true)] } : Obj)) ::
  (nat_lit 25, ({ cls := Value.type "getset_descriptor", data := Data.fields #[Value.str (Str.ofString "__weakref__") 202, Value.ref 24, Value.builtin "ExceptionGroup.__weakref__", Value.none] } : Obj)) ::
  (nat_lit 28, ({ cls := Value.type "tuple", data := Data.seq #[Value.ref 24] } : Obj)) ::
  (nat_lit 35, ({ cls := Value.type "tuple", data := Data.seq #[] } : Obj)) ::
  (nat_lit 37, ({ cls := Value.type "tuple", data := Data.seq #[Value.str (Str.ofString "self") 222, Value.str (Str.ofString "at") 223] } : Obj)) ::
  (nat_lit 38, ({ cls := Value.type "tuple", data := Data.seq #[] } : Obj)) ::
  (nat_lit 40, ({ cls := Value.type "code", data := Data.fields #[Value.str (Str.ofString "__init__") 219, Value.str (Str.ofString "NoRow.__init__") 220, Value.str (Str.ofString "/claim/cut.py") 221, Value.int 6 0, Value.int 2 0, Value.int 0 0, Value.int 0 0, Value.int 3 0, Value.ref 35, Value.bool true, Value.int 181 0, Value.ref 36, Value.none, Value.ref 37, Value.ref 38, Value.ref 39, Value.int 224 0, Value.int 6 0, Value.str (Str.ofString "/claim/cut.py") 225] } : Obj)) ::
  (nat_lit 41, (⟨(Value.type "function"), (none), .func (PySem.W.fnOf (Str.ofString "__init__") (Str.ofString "NoRow.__init__") (defArgs (inClass (top 2) 0)) (defBody (inClass (top 2) 0)) (defScope (inClass (top 2) 0)) (Value.none) (Value.none) (Value.none) (Value.str (Str.ofString "logloom.errors") 187) (none) (Value.ref 40) (Value.none)), (#[])⟩ : Obj)) ::
  (nat_lit 42, ({ cls := Value.type "tuple", data := Data.seq #[Value.str (Str.ofString "at") 227] } : Obj)) ::
  (nat_lit 43, ({ cls := Value.type "dict", data := Data.dict #[{ hash := PyData.keyHash P (Str.ofString "__module__"), key := Value.str (Str.ofString "__module__") 214, val := Value.str (Str.ofString "logloom.errors") 187 }, { hash := PyData.keyHash P (Str.ofString "__firstlineno__"), key := Value.str (Str.ofString "__firstlineno__") 218, val := Value.int 4 217 }, { hash := PyData.keyHash P (Str.ofString "__init__"), key := Value.str (Str.ofString "__init__") 226, val := Value.ref 41 }, { hash := PyData.keyHash P (Str.ofString "__static_attributes__"), key := Value.str (Str.ofString "__static_attributes__") 228, val := Value.ref 42 }, { hash := PyData.keyHash P (Str.ofString "__doc__"), key := Value.str (Str.ofString "__doc__") 229, val := Value.none }] 2 } : Obj)) ::
  (nat_lit 44, ({ cls := Value.type "type", data := Data.cls { name := Str.ofString "NoRow", bases := [Value.ref 24], mro := [Value.ref 44, Value.ref 24, Value.type "ValueError", Value.type "Exception", Value.type "BaseException", Value.type "object"], ns := 43, qualname := Str.ofString "NoRow" }, slots := #[some (Value.ref 28), none, some (Value.str (Str.ofString "NoRow") 207), some (Value.str (Str.ofString "NoRow") 215), some (Value.builtin "ValueError.__new__"), some (Value.bool true)] } : Obj)) ::
  (nat_lit 47, ({ cls := Value.type "tuple", data := Data.seq #[Value.ref 24] } : Obj)) ::
  (nat_lit 54, ({ cls := Value.type "tuple", data := Data.seq #[] } : Obj)) ::
  (nat_lit 56, ({ cls := Value.type "tuple", data := Data.seq #[Value.str (Str.ofString "self") 247, Value.str (Str.ofString "at") 248] } : Obj)) ::
  (nat_lit 57, ({ cls := Value.type "tuple", data := Data.seq #[] } : Obj)) ::
  (nat_lit 59, ({ cls := Value.type "code", data := Data.fields #[Value.str (Str.ofString "__init__") 244, Value.str (Str.ofString "NoGap.__init__") 245, Value.str (Str.ofString "/claim/cut.py") 246, Value.int 10 0, Value.int 2 0, Value.int 0 0, Value.int 0 0, Value.int 3 0, Value.ref 54, Value.bool true, Value.int 181 0, Value.ref 55, Value.none, Value.ref 56, Value.ref 57, Value.ref 58, Value.int 249 0, Value.int 10 0, Value.str (Str.ofString "/claim/cut.py") 250] } : Obj)) ::
  (nat_lit 60, (⟨(Value.type "function"), (none), .func (PySem.W.fnOf (Str.ofString "__init__") (Str.ofString "NoGap.__init__") (defArgs (inClass (top 3) 0)) (defBody (inClass (top 3) 0)) (defScope (inClass (top 3) 0)) (Value.none) (Value.none) (Value.none) (Value.str (Str.ofString "logloom.errors") 187) (none) (Value.ref 59) (Value.none)), (#[])⟩ : Obj)) ::
  (nat_lit 61, ({ cls := Value.type "tuple", data := Data.seq #[Value.str (Str.ofString "at") 252] } : Obj)) ::
  (nat_lit 62, ({ cls := Value.type "dict", data := Data.dict #[{ hash := PyData.keyHash P (Str.ofString "__module__"), key := Value.str (Str.ofString "__module__") 239, val := Value.str (Str.ofString "logloom.errors") 187 }, { hash := PyData.keyHash P (Str.ofString "__firstlineno__"), key := Value.str (Str.ofString "__firstlineno__") 243, val := Value.int 8 242 }, { hash := PyData.keyHash P (Str.ofString "__init__"), key := Value.str (Str.ofString "__init__") 251, val := Value.ref 60 }, { hash := PyData.keyHash P (Str.ofString "__static_attributes__"), key := Value.str (Str.ofString "__static_attributes__") 253, val := Value.ref 61 }, { hash := PyData.keyHash P (Str.ofString "__doc__"), key := Value.str (Str.ofString "__doc__") 254, val := Value.none }] 2 } : Obj)) ::
  (nat_lit 63, ({ cls := Value.type "type", data := Data.cls { name := Str.ofString "NoGap", bases := [Value.ref 24], mro := [Value.ref 63, Value.ref 24, Value.type "ValueError", Value.type "Exception", Value.type "BaseException", Value.type "object"], ns := 62, qualname := Str.ofString "NoGap" }, slots := #[some (Value.ref 47), none, some (Value.str (Str.ofString "NoGap") 232), some (Value.str (Str.ofString "NoGap") 240), some (Value.builtin "ValueError.__new__"), some (Value.bool true)] } : Obj)) ::
  (nat_lit 66, ({ cls := Value.type "tuple", data := Data.seq #[Value.ref 24] } : Obj)) ::
  (nat_lit 73, ({ cls := Value.type "tuple", data := Data.seq #[] } : Obj)) ::
  (nat_lit 75, ({ cls := Value.type "tuple", data := Data.seq #[Value.str (Str.ofString "self") 272, Value.str (Str.ofString "number") 273] } : Obj)) ::
  (nat_lit 76, ({ cls := Value.type "tuple", data := Data.seq #[] } : Obj)) ::
  (nat_lit 78, ({ cls := Value.type "code", data := Data.fields #[Value.str (Str.ofString "__init__") 269, Value.str (Str.ofString "Unknown.__init__") 270, Value.str (Str.ofString "/claim/cut.py") 271, Value.int 14 0, Value.int 2 0, Value.int 0 0, Value.int 0 0, Value.int 3 0, Value.ref 73, Value.bool true, Value.int 181 0, Value.ref 74, Value.none, Value.ref 75, Value.ref 76, Value.ref 77, Value.int 274 0, Value.int 14 0, Value.str (Str.ofString "/claim/cut.py") 275] } : Obj)) ::
  (nat_lit 79, (⟨(Value.type "function"), (none), .func (PySem.W.fnOf (Str.ofString "__init__") (Str.ofString "Unknown.__init__") (defArgs (inClass (top 4) 0)) (defBody (inClass (top 4) 0)) (defScope (inClass (top 4) 0)) (Value.none) (Value.none) (Value.none) (Value.str (Str.ofString "logloom.errors") 187) (none) (Value.ref 78) (Value.none)), (#[])⟩ : Obj)) ::
  (nat_lit 80, ({ cls := Value.type "tuple", data := Data.seq #[Value.str (Str.ofString "number") 277] } : Obj)) ::
  (nat_lit 81, ({ cls := Value.type "dict", data := Data.dict #[{ hash := PyData.keyHash P (Str.ofString "__module__"), key := Value.str (Str.ofString "__module__") 264, val := Value.str (Str.ofString "logloom.errors") 187 }, { hash := PyData.keyHash P (Str.ofString "__firstlineno__"), key := Value.str (Str.ofString "__firstlineno__") 268, val := Value.int 12 267 }, { hash := PyData.keyHash P (Str.ofString "__init__"), key := Value.str (Str.ofString "__init__") 276, val := Value.ref 79 }, { hash := PyData.keyHash P (Str.ofString "__static_attributes__"), key := Value.str (Str.ofString "__static_attributes__") 278, val := Value.ref 80 }, { hash := PyData.keyHash P (Str.ofString "__doc__"), key := Value.str (Str.ofString "__doc__") 279, val := Value.none }] 2 } : Obj)) ::
  (nat_lit 82, ({ cls := Value.type "type", data := Data.cls { name := Str.ofString "Unknown", bases := [Value.ref 24], mro := [Value.ref 82, Value.ref 24, Value.type "ValueError", Value.type "Exception", Value.type "BaseException", Value.type "object"], ns := 81, qualname := Str.ofString "Unknown" }, slots := #[some (Value.ref 66), none, some (Value.str (Str.ofString "Unknown") 257), some (Value.str (Str.ofString "Unknown") 265), some (Value.builtin "ValueError.__new__"), some (Value.bool true)] } : Obj)) ::
  (nat_lit 85, ({ cls := Value.type "tuple", data := Data.seq #[Value.ref 24] } : Obj)) ::
  (nat_lit 92, ({ cls := Value.type "tuple", data := Data.seq #[] } : Obj)) ::
  (nat_lit 94, ({ cls := Value.type "tuple", data := Data.seq #[Value.str (Str.ofString "self") 297, Value.str (Str.ofString "run") 298] } : Obj)) ::
  (nat_lit 95, ({ cls := Value.type "tuple", data := Data.seq #[] } : Obj)) ::
  (nat_lit 97, ({ cls := Value.type "code", data := Data.fields #[Value.str (Str.ofString "__init__") 294, Value.str (Str.ofString "Clash.__init__") 295, Value.str (Str.ofString "/claim/cut.py") 296, Value.int 18 0, Value.int 2 0, Value.int 0 0, Value.int 0 0, Value.int 3 0, Value.ref 92, Value.bool true, Value.int 181 0, Value.ref 93, Value.none, Value.ref 94, Value.ref 95, Value.ref 96, Value.int 299 0, Value.int 18 0, Value.str (Str.ofString "/claim/cut.py") 300] } : Obj)) ::
  (nat_lit 98, (⟨(Value.type "function"), (none), .func (PySem.W.fnOf (Str.ofString "__init__") (Str.ofString "Clash.__init__") (defArgs (inClass (top 5) 0)) (defBody (inClass (top 5) 0)) (defScope (inClass (top 5) 0)) (Value.none) (Value.none) (Value.none) (Value.str (Str.ofString "logloom.errors") 187) (none) (Value.ref 97) (Value.none)), (#[])⟩ : Obj)) ::
  (nat_lit 99, ({ cls := Value.type "tuple", data := Data.seq #[Value.str (Str.ofString "run") 302] } : Obj)) ::
  (nat_lit 100, ({ cls := Value.type "dict", data := Data.dict #[{ hash := PyData.keyHash P (Str.ofString "__module__"), key := Value.str (Str.ofString "__module__") 289, val := Value.str (Str.ofString "logloom.errors") 187 }, { hash := PyData.keyHash P (Str.ofString "__firstlineno__"), key := Value.str (Str.ofString "__firstlineno__") 293, val := Value.int 16 292 }, { hash := PyData.keyHash P (Str.ofString "__init__"), key := Value.str (Str.ofString "__init__") 301, val := Value.ref 98 }, { hash := PyData.keyHash P (Str.ofString "__static_attributes__"), key := Value.str (Str.ofString "__static_attributes__") 303, val := Value.ref 99 }, { hash := PyData.keyHash P (Str.ofString "__doc__"), key := Value.str (Str.ofString "__doc__") 304, val := Value.none }] 2 } : Obj)) ::
  (nat_lit 101, ({ cls := Value.type "type", data := Data.cls { name := Str.ofString "Clash", bases := [Value.ref 24], mro := [Value.ref 101, Value.ref 24, Value.type "ValueError", Value.type "Exception", Value.type "BaseException", Value.type "object"], ns := 100, qualname := Str.ofString "Clash" }, slots := #[some (Value.ref 85), none, some (Value.str (Str.ofString "Clash") 282), some (Value.str (Str.ofString "Clash") 290), some (Value.builtin "ValueError.__new__"), some (Value.bool true)] } : Obj)) ::
  (nat_lit 104, ({ cls := Value.type "tuple", data := Data.seq #[Value.ref 24] } : Obj)) ::
  (nat_lit 111, ({ cls := Value.type "tuple", data := Data.seq #[] } : Obj)) ::
  (nat_lit 112, ({ cls := Value.type "dict", data := Data.dict #[{ hash := PyData.keyHash P (Str.ofString "__module__"), key := Value.str (Str.ofString "__module__") 314, val := Value.str (Str.ofString "logloom.errors") 187 }, { hash := PyData.keyHash P (Str.ofString "__firstlineno__"), key := Value.str (Str.ofString "__firstlineno__") 318, val := Value.int 20 317 }, { hash := PyData.keyHash P (Str.ofString "__static_attributes__"), key := Value.str (Str.ofString "__static_attributes__") 319, val := Value.ref 111 }, { hash := PyData.keyHash P (Str.ofString "__doc__"), key := Value.str (Str.ofString "__doc__") 320, val := Value.none }] 2 } : Obj)) ::
  (nat_lit 113, ({ cls := Value.type "type", data := Data.cls { name := Str.ofString "Spoiled", bases := [Value.ref 24], mro := [Value.ref 113, Value.ref 24, Value.type "ValueError", Value.type "Exception", Value.type "BaseException", Value.type "object"], ns := 112, qualname := Str.ofString "Spoiled" }, slots := #[some (Value.ref 104), none, some (Value.str (Str.ofString "Spoiled") 307), some (Value.str (Str.ofString "Spoiled") 315), some (Value.builtin "ValueError.__new__"), some (Value.bool true)] } : Obj)) ::
  (nat_lit 116, ({ cls := Value.type "tuple", data := Data.seq #[Value.ref 24] } : Obj)) ::
  (nat_lit 123, ({ cls := Value.type "tuple", data := Data.seq #[] } : Obj)) ::
  (nat_lit 124, ({ cls := Value.type "dict", data := Data.dict #[{ hash := PyData.keyHash P (Str.ofString "__module__"), key := Value.str (Str.ofString "__module__") 330, val := Value.str (Str.ofString "logloom.errors") 187 }, { hash := PyData.keyHash P (Str.ofString "__firstlineno__"), key := Value.str (Str.ofString "__firstlineno__") 334, val := Value.int 22 333 }, { hash := PyData.keyHash P (Str.ofString "__static_attributes__"), key := Value.str (Str.ofString "__static_attributes__") 335, val := Value.ref 123 }, { hash := PyData.keyHash P (Str.ofString "__doc__"), key := Value.str (Str.ofString "__doc__") 336, val := Value.none }] 2 } : Obj)) ::
  (nat_lit 125, ({ cls := Value.type "type", data := Data.cls { name := Str.ofString "Untaught", bases := [Value.ref 24], mro := [Value.ref 125, Value.ref 24, Value.type "ValueError", Value.type "Exception", Value.type "BaseException", Value.type "object"], ns := 124, qualname := Str.ofString "Untaught" }, slots := #[some (Value.ref 116), none, some (Value.str (Str.ofString "Untaught") 323), some (Value.str (Str.ofString "Untaught") 331), some (Value.builtin "ValueError.__new__"), some (Value.bool true)] } : Obj)) ::
  (nat_lit 128, ({ cls := Value.type "tuple", data := Data.seq #[] } : Obj)) ::
  (nat_lit 131, ({ cls := Value.type "code", data := Data.fields #[Value.str (Str.ofString "made_of") 355, Value.str (Str.ofString "made_of") 356, Value.str (Str.ofString "/claim/cut.py") 357, Value.int 32 0, Value.int 2 0, Value.int 0 0, Value.int 0 0, Value.int 3 0, Value.ref 128, Value.bool true, Value.int 181 0, Value.ref 129, Value.none, Value.none, Value.none, Value.ref 130, Value.int 358 0, Value.int 32 0, Value.str (Str.ofString "/claim/cut.py") 359] } : Obj)) ::
  (nat_lit 132, (⟨(Value.type "function"), (none), .func (PySem.W.fnOf (Str.ofString "made_of") (Str.ofString "made_of") (defArgs (top 16)) (defBody (top 16)) (defScope (top 16)) (Value.none) (Value.none) (Value.none) (Value.str (Str.ofString "logloom.sorts") 339) (none) (Value.ref 131) (Value.none)), (#[])⟩ : Obj)) ::
  (nat_lit 140, ({ cls := Value.type "tuple", data := Data.seq #[] } : Obj)) ::
  (nat_lit 142, ({ cls := Value.type "tuple", data := Data.seq #[Value.str (Str.ofString "self") 376] } : Obj)) ::
  (nat_lit 143, ({ cls := Value.type "tuple", data := Data.seq #[] } : Obj)) ::
  (nat_lit 145, ({ cls := Value.type "code", data := Data.fields #[Value.str (Str.ofString "word") 373, Value.str (Str.ofString "Sort.word") 374, Value.str (Str.ofString "/claim/cut.py") 375, Value.int 36 0, Value.int 1 0, Value.int 0 0, Value.int 0 0, Value.int 3 0, Value.ref 140, Value.bool true, Value.int 181 0, Value.ref 141, Value.none, Value.ref 142, Value.ref 143, Value.ref 144, Value.int 377 0, Value.int 36 0, Value.str (Str.ofString "/claim/cut.py") 378] } : Obj)) ::
  (nat_lit 146, (⟨(Value.type "function"), (none), .func (PySem.W.fnOf (Str.ofString "word") (Str.ofString "Sort.word") (defArgs (inClass (top 17) 0)) (defBody (inClass (top 17) 0)) (defScope (inClass (top 17) 0)) (Value.none) (Value.none) (Value.none) (Value.str (Str.ofString "logloom.sorts") 339) (none) (Value.ref 145) (Value.none)), (#[])⟩ : Obj)) ::
  (nat_lit 147, ({ cls := Value.type "tuple", data := Data.seq #[] } : Obj)) ::
  (nat_lit 149, ({ cls := Value.type "tuple", data := Data.seq #[Value.str (Str.ofString "self") 383, Value.str (Str.ofString "text") 384] } : Obj)) ::
  (nat_lit 150, ({ cls := Value.type "tuple", data := Data.seq #[] } : Obj)) ::
  (nat_lit 152, ({ cls := Value.type "code", data := Data.fields #[Value.str (Str.ofString "takes") 380, Value.str (Str.ofString "Sort.takes") 381, Value.str (Str.ofString "/claim/cut.py") 382, Value.int 39 0, Value.int 2 0, Value.int 0 0, Value.int 0 0, Value.int 3 0, Value.ref 147, Value.bool true, Value.int 181 0, Value.ref 148, Value.none, Value.ref 149, Value.ref 150, Value.ref 151, Value.int 385 0, Value.int 39 0, Value.str (Str.ofString "/claim/cut.py") 386] } : Obj)) ::
  (nat_lit 153, (⟨(Value.type "function"), (none), .func (PySem.W.fnOf (Str.ofString "takes") (Str.ofString "Sort.takes") (defArgs (inClass (top 17) 1)) (defBody (inClass (top 17) 1)) (defScope (inClass (top 17) 1)) (Value.none) (Value.none) (Value.none) (Value.str (Str.ofString "logloom.sorts") 339) (none) (Value.ref 152) (Value.none)), (#[])⟩ : Obj)) ::
  (nat_lit 154, ({ cls := Value.type "tuple", data := Data.seq #[] } : Obj)) ::
  (nat_lit 155, ({ cls := Value.type "dict", data := Data.dict #[{ hash := PyData.keyHash P (Str.ofString "__module__"), key := Value.str (Str.ofString "__module__") 368, val := Value.str (Str.ofString "logloom.sorts") 339 }, { hash := PyData.keyHash P (Str.ofString "__firstlineno__"), key := Value.str (Str.ofString "__firstlineno__") 372, val := Value.int 34 371 }, { hash := PyData.keyHash P (Str.ofString "word"), key := Value.str (Str.ofString "word") 379, val := Value.ref 146 }, { hash := PyData.keyHash P (Str.ofString "takes"), key := Value.str (Str.ofString "takes") 387, val := Value.ref 153 }, { hash := PyData.keyHash P (Str.ofString "__static_attributes__"), key := Value.str (Str.ofString "__static_attributes__") 388, val := Value.ref 154 }, { hash := PyData.keyHash P (Str.ofString "__dict__"), key := Value.str (Str.ofString "__dict__") 390, val := Value.ref 157 }, { hash := PyData.keyHash P (Str.ofString "__weakref__"), key := Value.str (Str.ofString "__weakref__") 392, val := Value.ref 158 }, { hash := PyData.keyHash P (Str.ofString "__doc__"), key := Value.str (Str.ofString "__doc__") 393, val := Value.none }] 4 } : Obj)) ::
  (nat_lit 156, ({ cls := Value.type "type", data := Data.cls { name := Str.ofString "Sort", bases := [Value.type "object"], mro := [Value.ref 156, Value.type "object"], ns := 155, qualname := Str.ofString "Sort", subclasses := [Value.ref 184, Value.ref 210, Value.ref 234, Value.ref 260] }, slots := #[none, none, some (Value.str (Str.ofString "Sort") 361), some (Value.str (Str.ofString "Sort") 369), some (Value.builtin "object.__new__"), some (Value.bool true)] } : Obj)) ::
  (nat_lit 157, ({ cls := Value.type "getset_descriptor", data := Data.fields #[Value.str (Str.ofString "__dict__") 389, Value.ref 156, Value.builtin "function.__dict__", Value.builtin "function.__dict__#set"] } : Obj)) ::
  (nat_lit 158, ({ cls := Value.type "getset_descriptor", data := Data.fields #[Value.str (Str.ofString "__weakref__") 391, Value.ref 156, Value.builtin "ExceptionGroup.__weakref__", Value.none] } : Obj)) ::
  (nat_lit 161, ({ cls := Value.type "tuple", data := Data.seq #[Value.ref 156] } : Obj)) ::
  (nat_lit 168, ({ cls := Value.type "tuple", data := Data.seq #[] } : Obj)) ::
  (nat_lit 170, ({ cls := Value.type "tuple", data := Data.seq #[Value.str (Str.ofString "self") 411] } : Obj)) ::
  (nat_lit 171, ({ cls := Value.type "tuple", data := Data.seq #[] } : Obj)) ::
  (nat_lit 173, ({ cls := Value.type "code", data := Data.fields #[Value.str (Str.ofString "word") 408, Value.str (Str.ofString "Number.word") 409, Value.str (Str.ofString "/claim/cut.py") 410, Value.int 43 0, Value.int 1 0, Value.int 0 0, Value.int 0 0, Value.int 3 0, Value.ref 168, Value.bool true, Value.int 181 0, Value.ref 169, Value.none, Value.ref 170, Value.ref 171, Value.ref 172, Value.int 412 0, Value.int 43 0, Value.str (Str.ofString "/claim/cut.py") 413] } : Obj)) ::
  (nat_lit 174, (⟨(Value.type "function"), (none), .func (PySem.W.fnOf (Str.ofString "word") (Str.ofString "Number.word") (defArgs (inClass (top 18) 0)) (defBody (inClass (top 18) 0)) (defScope (inClass (top 18) 0)) (Value.none) (Value.none) (Value.none) (Value.str (Str.ofString "logloom.sorts") 339) (none) (Value.ref 173) (Value.none)), (#[])⟩ : Obj)) ::
  (nat_lit 175, ({ cls := Value.type "tuple", data := Data.seq #[] } : Obj)) ::
  (nat_lit 177, ({ cls := Value.type "tuple", data := Data.seq #[Value.str (Str.ofString "self") 418, Value.str (Str.ofString "text") 419] } : Obj)) ::
  (nat_lit 178, ({ cls := Value.type "tuple", data := Data.seq #[] } : Obj)) ::
  (nat_lit 180, ({ cls := Value.type "code", data := Data.fields #[Value.str (Str.ofString "takes") 415, Value.str (Str.ofString "Number.takes") 416, Value.str (Str.ofString "/claim/cut.py") 417, Value.int 46 0, Value.int 2 0, Value.int 0 0, Value.int 0 0, Value.int 3 0, Value.ref 175, Value.bool true, Value.int 181 0, Value.ref 176, Value.none, Value.ref 177, Value.ref 178, Value.ref 179, Value.int 420 0, Value.int 46 0, Value.str (Str.ofString "/claim/cut.py") 421] } : Obj)) ::
  (nat_lit 181, (⟨(Value.type "function"), (none), .func (PySem.W.fnOf (Str.ofString "takes") (Str.ofString "Number.takes") (defArgs (inClass (top 18) 1)) (defBody (inClass (top 18) 1)) (defScope (inClass (top 18) 1)) (Value.none) (Value.none) (Value.none) (Value.str (Str.ofString "logloom.sorts") 339) (none) (Value.ref 180) (Value.none)), (#[])⟩ : Obj)) ::
  (nat_lit 182, ({ cls := Value.type "tuple", data := Data.seq #[] } : Obj)) ::
  (nat_lit 183, ({ cls := Value.type "dict", data := Data.dict #[{ hash := PyData.keyHash P (Str.ofString "__module__"), key := Value.str (Str.ofString "__module__") 403, val := Value.str (Str.ofString "logloom.sorts") 339 }, { hash := PyData.keyHash P (Str.ofString "__firstlineno__"), key := Value.str (Str.ofString "__firstlineno__") 407, val := Value.int 41 406 }, { hash := PyData.keyHash P (Str.ofString "word"), key := Value.str (Str.ofString "word") 414, val := Value.ref 174 }, { hash := PyData.keyHash P (Str.ofString "takes"), key := Value.str (Str.ofString "takes") 422, val := Value.ref 181 }, { hash := PyData.keyHash P (Str.ofString "__static_attributes__"), key := Value.str (Str.ofString "__static_attributes__") 423, val := Value.ref 182 }, { hash := PyData.keyHash P (Str.ofString "__doc__"), key := Value.str (Str.ofString "__doc__") 424, val := Value.none }] 2 } : Obj)) ::
  (nat_lit 184, ({ cls := Value.type "type", data := Data.cls { name := Str.ofString "Number", bases := [Value.ref 156], mro := [Value.ref 184, Value.ref 156, Value.type "object"], ns := 183, qualname := Str.ofString "Number" }, slots := #[some (Value.ref 161), none, some (Value.str (Str.ofString "Number") 396), some (Value.str (Str.ofString "Number") 404), some (Value.builtin "object.__new__"), some (Value.bool true)] } : Obj)) ::
  (nat_lit 187, ({ cls := Value.type "tuple", data := Data.seq #[Value.ref 156] } : Obj)) ::
  (nat_lit 194, ({ cls := Value.type "tuple", data := Data.seq #[] } : Obj)) ::
  (nat_lit 196, ({ cls := Value.type "tuple", data := Data.seq #[Value.str (Str.ofString "self") 442] } : Obj)) ::
  (nat_lit 197, ({ cls := Value.type "tuple", data := Data.seq #[] } : Obj)) ::
  (nat_lit 199, ({ cls := Value.type "code", data := Data.fields #[Value.str (Str.ofString "word") 439, Value.str (Str.ofString "Name.word") 440, Value.str (Str.ofString "/claim/cut.py") 441, Value.int 52 0, Value.int 1 0, Value.int 0 0, Value.int 0 0, Value.int 3 0, Value.ref 194, Value.bool true, Value.int 181 0, Value.ref 195, Value.none, Value.ref 196, Value.ref 197, Value.ref 198, Value.int 443 0, Value.int 52 0, Value.str (Str.ofString "/claim/cut.py") 444] } : Obj)) ::
  (nat_lit 200, (⟨(Value.type "function"), (none), .func (PySem.W.fnOf (Str.ofString "word") (Str.ofString "Name.word") (defArgs (inClass (top 19) 0)) (defBody (inClass (top 19) 0)) (defScope (inClass (top 19) 0)) (Value.none) (Value.none) (Value.none) (Value.str (Str.ofString "logloom.sorts") 339) (none) (Value.ref 199) (Value.none)), (#[])⟩ : Obj)) ::
  (nat_lit 201, ({ cls := Value.type "tuple", data := Data.seq #[] } : Obj)) ::
  (nat_lit 203, ({ cls := Value.type "tuple", data := Data.seq #[Value.str (Str.ofString "self") 449, Value.str (Str.ofString "text") 450] } : Obj)) ::
  (nat_lit 204, ({ cls := Value.type "tuple", data := Data.seq #[] } : Obj)) ::
  (nat_lit 206, ({ cls := Value.type "code", data := Data.fields #[Value.str (Str.ofString "takes") 446, Value.str (Str.ofString "Name.takes") 447, Value.str (Str.ofString "/claim/cut.py") 448, Value.int 55 0, Value.int 2 0, Value.int 0 0, Value.int 0 0, Value.int 3 0, Value.ref 201, Value.bool true, Value.int 181 0, Value.ref 202, Value.none, Value.ref 203, Value.ref 204, Value.ref 205, Value.int 451 0, Value.int 55 0, Value.str (Str.ofString "/claim/cut.py") 452] } : Obj)) ::
  (nat_lit 207, (⟨(Value.type "function"), (none), .func (PySem.W.fnOf (Str.ofString "takes") (Str.ofString "Name.takes") (defArgs (inClass (top 19) 1)) (defBody (inClass (top 19) 1)) (defScope (inClass (top 19) 1)) (Value.none) (Value.none) (Value.none) (Value.str (Str.ofString "logloom.sorts") 339) (none) (Value.ref 206) (Value.none)), (#[])⟩ : Obj)) ::
  (nat_lit 208, ({ cls := Value.type "tuple", data := Data.seq #[] } : Obj)) ::
  (nat_lit 209, ({ cls := Value.type "dict", data := Data.dict #[{ hash := PyData.keyHash P (Str.ofString "__module__"), key := Value.str (Str.ofString "__module__") 434, val := Value.str (Str.ofString "logloom.sorts") 339 }, { hash := PyData.keyHash P (Str.ofString "__firstlineno__"), key := Value.str (Str.ofString "__firstlineno__") 438, val := Value.int 50 437 }, { hash := PyData.keyHash P (Str.ofString "word"), key := Value.str (Str.ofString "word") 445, val := Value.ref 200 }, { hash := PyData.keyHash P (Str.ofString "takes"), key := Value.str (Str.ofString "takes") 453, val := Value.ref 207 }, { hash := PyData.keyHash P (Str.ofString "__static_attributes__"), key := Value.str (Str.ofString "__static_attributes__") 454, val := Value.ref 208 }, { hash := PyData.keyHash P (Str.ofString "__doc__"), key := Value.str (Str.ofString "__doc__") 455, val := Value.none }] 2 } : Obj)) ::
  (nat_lit 210, ({ cls := Value.type "type", data := Data.cls { name := Str.ofString "Name", bases := [Value.ref 156], mro := [Value.ref 210, Value.ref 156, Value.type "object"], ns := 209, qualname := Str.ofString "Name" }, slots := #[some (Value.ref 187), none, some (Value.str (Str.ofString "Name") 427), some (Value.str (Str.ofString "Name") 435), some (Value.builtin "object.__new__"), some (Value.bool true)] } : Obj)) ::
  (nat_lit 213, ({ cls := Value.type "tuple", data := Data.seq #[Value.ref 156] } : Obj)) ::
  (nat_lit 220, ({ cls := Value.type "tuple", data := Data.seq #[] } : Obj)) ::
  (nat_lit 222, ({ cls := Value.type "tuple", data := Data.seq #[Value.str (Str.ofString "self") 473] } : Obj)) ::
  (nat_lit 223, ({ cls := Value.type "tuple", data := Data.seq #[] } : Obj)) ::
  (nat_lit 225, ({ cls := Value.type "code", data := Data.fields #[Value.str (Str.ofString "word") 470, Value.str (Str.ofString "Items.word") 471, Value.str (Str.ofString "/claim/cut.py") 472, Value.int 61 0, Value.int 1 0, Value.int 0 0, Value.int 0 0, Value.int 3 0, Value.ref 220, Value.bool true, Value.int 181 0, Value.ref 221, Value.none, Value.ref 222, Value.ref 223, Value.ref 224, Value.int 474 0, Value.int 61 0, Value.str (Str.ofString "/claim/cut.py") 475] } : Obj)) ::
  (nat_lit 226, (⟨(Value.type "function"), (none), .func (PySem.W.fnOf (Str.ofString "word") (Str.ofString "Items.word") (defArgs (inClass (top 20) 0)) (defBody (inClass (top 20) 0)) (defScope (inClass (top 20) 0)) (Value.none) (Value.none) (Value.none) (Value.str (Str.ofString "logloom.sorts") 339) (none) (Value.ref 225) (Value.none)), (#[])⟩ : Obj)) ::
  (nat_lit 227, ({ cls := Value.type "tuple", data := Data.seq #[] } : Obj)) ::
  (nat_lit 230, ({ cls := Value.type "code", data := Data.fields #[Value.str (Str.ofString "takes") 477, Value.str (Str.ofString "Items.takes") 478, Value.str (Str.ofString "/claim/cut.py") 479, Value.int 64 0, Value.int 2 0, Value.int 0 0, Value.int 0 0, Value.int 3 0, Value.ref 227, Value.bool true, Value.int 181 0, Value.ref 228, Value.none, Value.none, Value.none, Value.ref 229, Value.int 480 0, Value.int 64 0, Value.str (Str.ofString "/claim/cut.py") 481] } : Obj)) ::
  (nat_lit 231, (⟨(Value.type "function"), (none), .func (PySem.W.fnOf (Str.ofString "takes") (Str.ofString "Items.takes") (defArgs (inClass (top 20) 1)) (defBody (inClass (top 20) 1)) (defScope (inClass (top 20) 1)) (Value.none) (Value.none) (Value.none) (Value.str (Str.ofString "logloom.sorts") 339) (none) (Value.ref 230) (Value.none)), (#[])⟩ : Obj)) ::
  (nat_lit 232, ({ cls := Value.type "tuple", data := Data.seq #[] } : Obj)) ::
  (nat_lit 233, ({ cls := Value.type "dict", data := Data.dict #[{ hash := PyData.keyHash P (Str.ofString "__module__"), key := Value.str (Str.ofString "__module__") 465, val := Value.str (Str.ofString "logloom.sorts") 339 }, { hash := PyData.keyHash P (Str.ofString "__firstlineno__"), key := Value.str (Str.ofString "__firstlineno__") 469, val := Value.int 59 468 }, { hash := PyData.keyHash P (Str.ofString "word"), key := Value.str (Str.ofString "word") 476, val := Value.ref 226 }, { hash := PyData.keyHash P (Str.ofString "takes"), key := Value.str (Str.ofString "takes") 482, val := Value.ref 231 }, { hash := PyData.keyHash P (Str.ofString "__static_attributes__"), key := Value.str (Str.ofString "__static_attributes__") 483, val := Value.ref 232 }, { hash := PyData.keyHash P (Str.ofString "__doc__"), key := Value.str (Str.ofString "__doc__") 484, val := Value.none }] 2 } : Obj)) ::
  (nat_lit 234, ({ cls := Value.type "type", data := Data.cls { name := Str.ofString "Items", bases := [Value.ref 156], mro := [Value.ref 234, Value.ref 156, Value.type "object"], ns := 233, qualname := Str.ofString "Items" }, slots := #[some (Value.ref 213), none, some (Value.str (Str.ofString "Items") 458), some (Value.str (Str.ofString "Items") 466), some (Value.builtin "object.__new__"), some (Value.bool true)] } : Obj)) ::
  (nat_lit 237, ({ cls := Value.type "tuple", data := Data.seq #[Value.ref 156] } : Obj)) ::
  (nat_lit 244, ({ cls := Value.type "tuple", data := Data.seq #[] } : Obj)) ::
  (nat_lit 246, ({ cls := Value.type "tuple", data := Data.seq #[Value.str (Str.ofString "self") 502] } : Obj)) ::
  (nat_lit 247, ({ cls := Value.type "tuple", data := Data.seq #[] } : Obj)) ::
  (nat_lit 249, ({ cls := Value.type "code", data := Data.fields #[Value.str (Str.ofString "word") 499, Value.str (Str.ofString "Mark.word") 500, Value.str (Str.ofString "/claim/cut.py") 501, Value.int 73 0, Value.int 1 0, Value.int 0 0, Value.int 0 0, Value.int 3 0, Value.ref 244, Value.bool true, Value.int 181 0, Value.ref 245, Value.none, Value.ref 246, Value.ref 247, Value.ref 248, Value.int 503 0, Value.int 73 0, Value.str (Str.ofString "/claim/cut.py") 504] } : Obj)) ::
  (nat_lit 250, (⟨(Value.type "function"), (none), .func (PySem.W.fnOf (Str.ofString "word") (Str.ofString "Mark.word") (defArgs (inClass (top 21) 0)) (defBody (inClass (top 21) 0)) (defScope (inClass (top 21) 0)) (Value.none) (Value.none) (Value.none) (Value.str (Str.ofString "logloom.sorts") 339) (none) (Value.ref 249) (Value.none)), (#[])⟩ : Obj)) ::
  (nat_lit 251, ({ cls := Value.type "tuple", data := Data.seq #[] } : Obj)) ::
  (nat_lit 253, ({ cls := Value.type "tuple", data := Data.seq #[Value.str (Str.ofString "self") 509, Value.str (Str.ofString "text") 510] } : Obj)) ::
  (nat_lit 254, ({ cls := Value.type "tuple", data := Data.seq #[] } : Obj)) ::
  (nat_lit 256, ({ cls := Value.type "code", data := Data.fields #[Value.str (Str.ofString "takes") 506, Value.str (Str.ofString "Mark.takes") 507, Value.str (Str.ofString "/claim/cut.py") 508, Value.int 76 0, Value.int 2 0, Value.int 0 0, Value.int 0 0, Value.int 3 0, Value.ref 251, Value.bool true, Value.int 181 0, Value.ref 252, Value.none, Value.ref 253, Value.ref 254, Value.ref 255, Value.int 511 0, Value.int 76 0, Value.str (Str.ofString "/claim/cut.py") 512] } : Obj)) ::
  (nat_lit 257, (⟨(Value.type "function"), (none), .func (PySem.W.fnOf (Str.ofString "takes") (Str.ofString "Mark.takes") (defArgs (inClass (top 21) 1)) (defBody (inClass (top 21) 1)) (defScope (inClass (top 21) 1)) (Value.none) (Value.none) (Value.none) (Value.str (Str.ofString "logloom.sorts") 339) (none) (Value.ref 256) (Value.none)), (#[])⟩ : Obj)) ::
  (nat_lit 258, ({ cls := Value.type "tuple", data := Data.seq #[] } : Obj)) ::
  (nat_lit 259, ({ cls := Value.type "dict", data := Data.dict #[{ hash := PyData.keyHash P (Str.ofString "__module__"), key := Value.str (Str.ofString "__module__") 494, val := Value.str (Str.ofString "logloom.sorts") 339 }, { hash := PyData.keyHash P (Str.ofString "__firstlineno__"), key := Value.str (Str.ofString "__firstlineno__") 498, val := Value.int 71 497 }, { hash := PyData.keyHash P (Str.ofString "word"), key := Value.str (Str.ofString "word") 505, val := Value.ref 250 }, { hash := PyData.keyHash P (Str.ofString "takes"), key := Value.str (Str.ofString "takes") 513, val := Value.ref 257 }, { hash := PyData.keyHash P (Str.ofString "__static_attributes__"), key := Value.str (Str.ofString "__static_attributes__") 514, val := Value.ref 258 }, { hash := PyData.keyHash P (Str.ofString "__doc__"), key := Value.str (Str.ofString "__doc__") 515, val := Value.none }] 2 } : Obj)) ::
  (nat_lit 260, ({ cls := Value.type "type", data := Data.cls { name := Str.ofString "Mark", bases := [Value.ref 156], mro := [Value.ref 260, Value.ref 156, Value.type "object"], ns := 259, qualname := Str.ofString "Mark" }, slots := #[some (Value.ref 237), none, some (Value.str (Str.ofString "Mark") 487), some (Value.str (Str.ofString "Mark") 495), some (Value.builtin "object.__new__"), some (Value.bool true)] } : Obj)) ::
  (nat_lit 263, ({ cls := Value.type "tuple", data := Data.seq #[] } : Obj)) ::
  (nat_lit 265, ({ cls := Value.type "tuple", data := Data.seq #[Value.str (Str.ofString "text") 521] } : Obj)) ::
  (nat_lit 266, ({ cls := Value.type "tuple", data := Data.seq #[] } : Obj)) ::
  (nat_lit 268, ({ cls := Value.type "code", data := Data.fields #[Value.str (Str.ofString "is_item") 518, Value.str (Str.ofString "is_item") 519, Value.str (Str.ofString "/claim/cut.py") 520, Value.int 80 0, Value.int 1 0, Value.int 0 0, Value.int 0 0, Value.int 3 0, Value.ref 263, Value.bool true, Value.int 181 0, Value.ref 264, Value.none, Value.ref 265, Value.ref 266, Value.ref 267, Value.int 522 0, Value.int 80 0, Value.str (Str.ofString "/claim/cut.py") 523] } : Obj)) ::
  (nat_lit 269, (⟨(Value.type "function"), (none), .func (PySem.W.fnOf (Str.ofString "is_item") (Str.ofString "is_item") (defArgs (top 22)) (defBody (top 22)) (defScope (top 22)) (Value.none) (Value.none) (Value.none) (Value.str (Str.ofString "logloom.sorts") 339) (none) (Value.ref 268) (Value.none)), (#[])⟩ : Obj)) ::
  (nat_lit 270, ({ cls := Value.type "tuple", data := Data.seq #[] } : Obj)) ::
  (nat_lit 272, ({ cls := Value.type "tuple", data := Data.seq #[] } : Obj)) ::
  (nat_lit 273, ({ cls := Value.type "tuple", data := Data.seq #[] } : Obj)) ::
  (nat_lit 275, ({ cls := Value.type "code", data := Data.fields #[Value.str (Str.ofString "all_sorts") 525, Value.str (Str.ofString "all_sorts") 526, Value.str (Str.ofString "/claim/cut.py") 527, Value.int 82 0, Value.int 0 0, Value.int 0 0, Value.int 0 0, Value.int 3 0, Value.ref 270, Value.bool true, Value.int 181 0, Value.ref 271, Value.none, Value.ref 272, Value.ref 273, Value.ref 274, Value.int 528 0, Value.int 82 0, Value.str (Str.ofString "/claim/cut.py") 529] } : Obj)) ::
  (nat_lit 276, (⟨(Value.type "function"), (none), .func (PySem.W.fnOf (Str.ofString "all_sorts") (Str.ofString "all_sorts") (defArgs (top 23)) (defBody (top 23)) (defScope (top 23)) (Value.none) (Value.none) (Value.none) (Value.str (Str.ofString "logloom.sorts") 339) (none) (Value.ref 275) (Value.none)), (#[])⟩ : Obj)) ::
  (nat_lit 277, ({ cls := Value.type "tuple", data := Data.seq #[] } : Obj)) ::
  (nat_lit 279, ({ cls := Value.type "tuple", data := Data.seq #[Value.str (Str.ofString "text") 534, Value.str (Str.ofString "sort") 535] } : Obj)) ::
  (nat_lit 280, ({ cls := Value.type "tuple", data := Data.seq #[] } : Obj)) ::
  (nat_lit 282, ({ cls := Value.type "code", data := Data.fields #[Value.str (Str.ofString "sort_of") 531, Value.str (Str.ofString "sort_of") 532, Value.str (Str.ofString "/claim/cut.py") 533, Value.int 84 0, Value.int 1 0, Value.int 0 0, Value.int 0 0, Value.int 3 0, Value.ref 277, Value.bool true, Value.int 181 0, Value.ref 278, Value.none, Value.ref 279, Value.ref 280, Value.ref 281, Value.int 536 0, Value.int 84 0, Value.str (Str.ofString "/claim/cut.py") 537] } : Obj)) ::
  (nat_lit 283, (⟨(Value.type "function"), (none), .func (PySem.W.fnOf (Str.ofString "sort_of") (Str.ofString "sort_of") (defArgs (top 24)) (defBody (top 24)) (defScope (top 24)) (Value.none) (Value.none) (Value.none) (Value.str (Str.ofString "logloom.sorts") 339) (none) (Value.ref 282) (Value.none)), (#[])⟩ : Obj)) ::
  (nat_lit 284, ({ cls := Value.type "tuple", data := Data.seq #[Value.str (Str.ofString "number") 541, Value.str (Str.ofString "name") 542] } : Obj)) ::
  (nat_lit 285, ({ cls := Value.type "tuple", data := Data.seq #[] } : Obj)) ::
  (nat_lit 287, ({ cls := Value.type "tuple", data := Data.seq #[Value.str (Str.ofString "reader") 547, Value.str (Str.ofString "wide") 548, Value.str (Str.ofString "number") 549] } : Obj)) ::
  (nat_lit 288, ({ cls := Value.type "tuple", data := Data.seq #[] } : Obj)) ::
  (nat_lit 290, ({ cls := Value.type "code", data := Data.fields #[Value.str (Str.ofString "next_number") 544, Value.str (Str.ofString "next_number") 545, Value.str (Str.ofString "/claim/cut.py") 546, Value.int 91 0, Value.int 1 0, Value.int 0 0, Value.int 0 0, Value.int 3 0, Value.ref 285, Value.bool true, Value.int 181 0, Value.ref 286, Value.none, Value.ref 287, Value.ref 288, Value.ref 289, Value.int 550 0, Value.int 91 0, Value.str (Str.ofString "/claim/cut.py") 551] } : Obj)) ::
  (nat_lit 291, (⟨(Value.type "function"), (none), .func (PySem.W.fnOf (Str.ofString "next_number") (Str.ofString "next_number") (defArgs (top 27)) (defBody (top 27)) (defScope (top 27)) (Value.none) (Value.none) (Value.none) (Value.str (Str.ofString "logloom.codes") 539) (none) (Value.ref 290) (Value.none)), (#[])⟩ : Obj)) ::
  (nat_lit 292, ({ cls := Value.type "tuple", data := Data.seq #[] } : Obj)) ::
  (nat_lit 294, ({ cls := Value.type "tuple", data := Data.seq #[Value.str (Str.ofString "reader") 556, Value.str (Str.ofString "signs") 557, Value.str (Str.ofString "wide") 558, Value.str (Str.ofString "word") 559, Value.str (Str.ofString "many") 560, Value.str (Str.ofString "place") 561, Value.str (Str.ofString "number") 562] } : Obj)) ::
  (nat_lit 295, ({ cls := Value.type "tuple", data := Data.seq #[] } : Obj)) ::
  (nat_lit 297, ({ cls := Value.type "code", data := Data.fields #[Value.str (Str.ofString "next_signs") 553, Value.str (Str.ofString "next_signs") 554, Value.str (Str.ofString "/claim/cut.py") 555, Value.int 97 0, Value.int 3 0, Value.int 0 0, Value.int 0 0, Value.int 3 0, Value.ref 292, Value.bool true, Value.int 181 0, Value.ref 293, Value.none, Value.ref 294, Value.ref 295, Value.ref 296, Value.int 563 0, Value.int 97 0, Value.str (Str.ofString "/claim/cut.py") 564] } : Obj)) ::
  (nat_lit 298, (⟨(Value.type "function"), (none), .func (PySem.W.fnOf (Str.ofString "next_signs") (Str.ofString "next_signs") (defArgs (top 28)) (defBody (top 28)) (defScope (top 28)) (Value.none) (Value.none) (Value.none) (Value.str (Str.ofString "logloom.codes") 539) (none) (Value.ref 297) (Value.none)), (#[])⟩ : Obj)) ::
  (nat_lit 299, ({ cls := Value.type "tuple", data := Data.seq #[] } : Obj)) ::
  (nat_lit 301, ({ cls := Value.type "tuple", data := Data.seq #[Value.str (Str.ofString "reader") 569, Value.str (Str.ofString "pieces") 570, Value.str (Str.ofString "many") 571, Value.str (Str.ofString "place") 572, Value.str (Str.ofString "sort") 573, Value.str (Str.ofString "inner") 574] } : Obj)) ::
  (nat_lit 302, ({ cls := Value.type "tuple", data := Data.seq #[] } : Obj)) ::
  (nat_lit 304, ({ cls := Value.type "code", data := Data.fields #[Value.str (Str.ofString "next_items") 566, Value.str (Str.ofString "next_items") 567, Value.str (Str.ofString "/claim/cut.py") 568, Value.int 106 0, Value.int 1 0, Value.int 0 0, Value.int 0 0, Value.int 3 0, Value.ref 299, Value.bool true, Value.int 181 0, Value.ref 300, Value.none, Value.ref 301, Value.ref 302, Value.ref 303, Value.int 575 0, Value.int 106 0, Value.str (Str.ofString "/claim/cut.py") 576] } : Obj)) ::
  (nat_lit 305, (⟨(Value.type "function"), (none), .func (PySem.W.fnOf (Str.ofString "next_items") (Str.ofString "next_items") (defArgs (top 29)) (defBody (top 29)) (defScope (top 29)) (Value.none) (Value.none) (Value.none) (Value.str (Str.ofString "logloom.codes") 539) (none) (Value.ref 304) (Value.none)), (#[])⟩ : Obj)) ::
  (nat_lit 306, ({ cls := Value.type "tuple", data := Data.seq #[] } : Obj)) ::
  (nat_lit 308, ({ cls := Value.type "tuple", data := Data.seq #[Value.str (Str.ofString "reader") 581, Value.str (Str.ofString "sort") 582] } : Obj)) ::
  (nat_lit 309, ({ cls := Value.type "tuple", data := Data.seq #[] } : Obj)) ::
  (nat_lit 311, ({ cls := Value.type "code", data := Data.fields #[Value.str (Str.ofString "text_read") 578, Value.str (Str.ofString "text_read") 579, Value.str (Str.ofString "/claim/cut.py") 580, Value.int 114 0, Value.int 2 0, Value.int 0 0, Value.int 0 0, Value.int 3 0, Value.ref 306, Value.bool true, Value.int 181 0, Value.ref 307, Value.none, Value.ref 308, Value.ref 309, Value.ref 310, Value.int 583 0, Value.int 114 0, Value.str (Str.ofString "/claim/cut.py") 584] } : Obj)) ::
  (nat_lit 312, (⟨(Value.type "function"), (none), .func (PySem.W.fnOf (Str.ofString "text_read") (Str.ofString "text_read") (defArgs (top 30)) (defBody (top 30)) (defScope (top 30)) (Value.none) (Value.none) (Value.none) (Value.str (Str.ofString "logloom.codes") 539) (none) (Value.ref 311) (Value.none)), (#[])⟩ : Obj)) ::
  (nat_lit 313, ({ cls := Value.type "tuple", data := Data.seq #[] } : Obj)) ::
  (nat_lit 315, ({ cls := Value.type "tuple", data := Data.seq #[Value.str (Str.ofString "reader") 589, Value.str (Str.ofString "sort") 590, Value.str (Str.ofString "text") 591] } : Obj)) ::
  (nat_lit 316, ({ cls := Value.type "tuple", data := Data.seq #[] } : Obj)) ::
  (nat_lit 318, ({ cls := Value.type "code", data := Data.fields #[Value.str (Str.ofString "next_word") 586, Value.str (Str.ofString "next_word") 587, Value.str (Str.ofString "/claim/cut.py") 588, Value.int 122 0, Value.int 2 0, Value.int 0 0, Value.int 0 0, Value.int 3 0, Value.ref 313, Value.bool true, Value.int 181 0, Value.ref 314, Value.none, Value.ref 315, Value.ref 316, Value.ref 317, Value.int 592 0, Value.int 122 0, Value.str (Str.ofString "/claim/cut.py") 593] } : Obj)) ::
  (nat_lit 319, (⟨(Value.type "function"), (none), .func (PySem.W.fnOf (Str.ofString "next_word") (Str.ofString "next_word") (defArgs (top 31)) (defBody (top 31)) (defScope (top 31)) (Value.none) (Value.none) (Value.none) (Value.str (Str.ofString "logloom.codes") 539) (none) (Value.ref 318) (Value.none)), (#[])⟩ : Obj)) ::
  (nat_lit 320, ({ cls := Value.type "tuple", data := Data.seq #[] } : Obj)) ::
  (nat_lit 322, ({ cls := Value.type "tuple", data := Data.seq #[Value.str (Str.ofString "bits") 602, Value.str (Str.ofString "number") 603, Value.str (Str.ofString "bit") 604] } : Obj)) ::
  (nat_lit 323, ({ cls := Value.type "tuple", data := Data.seq #[] } : Obj)) ::
  (nat_lit 325, ({ cls := Value.type "code", data := Data.fields #[Value.str (Str.ofString "number_of") 599, Value.str (Str.ofString "number_of") 600, Value.str (Str.ofString "/claim/cut.py") 601, Value.int 129 0, Value.int 1 0, Value.int 0 0, Value.int 0 0, Value.int 3 0, Value.ref 320, Value.bool true, Value.int 181 0, Value.ref 321, Value.none, Value.ref 322, Value.ref 323, Value.ref 324, Value.int 605 0, Value.int 129 0, Value.str (Str.ofString "/claim/cut.py") 606] } : Obj)) ::
  (nat_lit 326, (⟨(Value.type "function"), (none), .func (PySem.W.fnOf (Str.ofString "number_of") (Str.ofString "number_of") (defArgs (top 34)) (defBody (top 34)) (defScope (top 34)) (Value.none) (Value.none) (Value.none) (Value.str (Str.ofString "logloom.bits") 595) (none) (Value.ref 325) (Value.none)), (#[])⟩ : Obj)) ::
  (nat_lit 334, ({ cls := Value.type "tuple", data := Data.seq #[] } : Obj)) ::
  (nat_lit 336, ({ cls := Value.type "tuple", data := Data.seq #[Value.str (Str.ofString "self") 623, Value.str (Str.ofString "numbers") 624] } : Obj)) ::
  (nat_lit 337, ({ cls := Value.type "tuple", data := Data.seq #[] } : Obj)) ::
  (nat_lit 339, ({ cls := Value.type "code", data := Data.fields #[Value.str (Str.ofString "__init__") 620, Value.str (Str.ofString "Reader.__init__") 621, Value.str (Str.ofString "/claim/cut.py") 622, Value.int 136 0, Value.int 2 0, Value.int 0 0, Value.int 0 0, Value.int 3 0, Value.ref 334, Value.bool true, Value.int 181 0, Value.ref 335, Value.none, Value.ref 336, Value.ref 337, Value.ref 338, Value.int 625 0, Value.int 136 0, Value.str (Str.ofString "/claim/cut.py") 626] } : Obj)) ::
  (nat_lit 340, (⟨(Value.type "function"), (none), .func (PySem.W.fnOf (Str.ofString "__init__") (Str.ofString "Reader.__init__") (defArgs (inClass (top 35) 0)) (defBody (inClass (top 35) 0)) (defScope (inClass (top 35) 0)) (Value.none) (Value.none) (Value.none) (Value.str (Str.ofString "logloom.bits") 595) (none) (Value.ref 339) (Value.none)), (#[])⟩ : Obj)) ::
  (nat_lit 341, ({ cls := Value.type "tuple", data := Data.seq #[] } : Obj)) ::
  (nat_lit 344, ({ cls := Value.type "code", data := Data.fields #[Value.str (Str.ofString "bits") 628, Value.str (Str.ofString "Reader.bits") 629, Value.str (Str.ofString "/claim/cut.py") 630, Value.int 140 0, Value.int 2 0, Value.int 0 0, Value.int 0 0, Value.int 3 0, Value.ref 341, Value.bool true, Value.int 181 0, Value.ref 342, Value.none, Value.none, Value.none, Value.ref 343, Value.int 631 0, Value.int 140 0, Value.str (Str.ofString "/claim/cut.py") 632] } : Obj)) ::
  (nat_lit 345, (⟨(Value.type "function"), (none), .func (PySem.W.fnOf (Str.ofString "bits") (Str.ofString "Reader.bits") (defArgs (inClass (top 35) 1)) (defBody (inClass (top 35) 1)) (defScope (inClass (top 35) 1)) (Value.none) (Value.none) (Value.none) (Value.str (Str.ofString "logloom.bits") 595) (none) (Value.ref 344) (Value.none)), (#[])⟩ : Obj)) ::
  (nat_lit 346, ({ cls := Value.type "tuple", data := Data.seq #[] } : Obj)) ::
  (nat_lit 348, ({ cls := Value.type "tuple", data := Data.seq #[Value.str (Str.ofString "self") 637] } : Obj)) ::
  (nat_lit 349, ({ cls := Value.type "tuple", data := Data.seq #[] } : Obj)) ::
  (nat_lit 351, ({ cls := Value.type "code", data := Data.fields #[Value.str (Str.ofString "left") 634, Value.str (Str.ofString "Reader.left") 635, Value.str (Str.ofString "/claim/cut.py") 636, Value.int 147 0, Value.int 1 0, Value.int 0 0, Value.int 0 0, Value.int 3 0, Value.ref 346, Value.bool true, Value.int 181 0, Value.ref 347, Value.none, Value.ref 348, Value.ref 349, Value.ref 350, Value.int 638 0, Value.int 147 0, Value.str (Str.ofString "/claim/cut.py") 639] } : Obj)) ::
  (nat_lit 352, (⟨(Value.type "function"), (none), .func (PySem.W.fnOf (Str.ofString "left") (Str.ofString "Reader.left") (defArgs (inClass (top 35) 2)) (defBody (inClass (top 35) 2)) (defScope (inClass (top 35) 2)) (Value.none) (Value.none) (Value.none) (Value.str (Str.ofString "logloom.bits") 595) (none) (Value.ref 351) (Value.none)), (#[])⟩ : Obj)) ::
  (nat_lit 353, ({ cls := Value.type "tuple", data := Data.seq #[Value.str (Str.ofString "numbers") 641, Value.str (Str.ofString "taken") 642] } : Obj)) ::
  (nat_lit 354, ({ cls := Value.type "dict", data := Data.dict #[{ hash := PyData.keyHash P (Str.ofString "__module__"), key := Value.str (Str.ofString "__module__") 615, val := Value.str (Str.ofString "logloom.bits") 595 }, { hash := PyData.keyHash P (Str.ofString "__firstlineno__"), key := Value.str (Str.ofString "__firstlineno__") 619, val := Value.int 134 618 }, { hash := PyData.keyHash P (Str.ofString "__init__"), key := Value.str (Str.ofString "__init__") 627, val := Value.ref 340 }, { hash := PyData.keyHash P (Str.ofString "bits"), key := Value.str (Str.ofString "bits") 633, val := Value.ref 345 }, { hash := PyData.keyHash P (Str.ofString "left"), key := Value.str (Str.ofString "left") 640, val := Value.ref 352 }, { hash := PyData.keyHash P (Str.ofString "__static_attributes__"), key := Value.str (Str.ofString "__static_attributes__") 643, val := Value.ref 353 }, { hash := PyData.keyHash P (Str.ofString "__dict__"), key := Value.str (Str.ofString "__dict__") 645, val := Value.ref 356 }, { hash := PyData.keyHash P (Str.ofString "__weakref__"), key := Value.str (Str.ofString "__weakref__") 647, val := Value.ref 357 }, { hash := PyData.keyHash P (Str.ofString "__doc__"), key := Value.str (Str.ofString "__doc__") 648, val := Value.none }] 4 } : Obj)) ::
  (nat_lit 355, ({ cls := Value.type "type", data := Data.cls { name := Str.ofString "Reader", bases := [Value.type "object"], mro := [Value.ref 355, Value.type "object"], ns := 354, qualname := Str.ofString "Reader" }, slots := #[none, none, some (Value.str (Str.ofString "Reader") 608), some (Value.str (Str.ofString "Reader") 616), some (Value.builtin "object.__new__"), some (Value.bool true)] } : Obj)) ::
  (nat_lit 356, ({ cls := Value.type "getset_descriptor", data := Data.fields #[Value.str (Str.ofString "__dict__") 644, Value.ref 355, Value.builtin "function.__dict__", Value.builtin "function.__dict__#set"] } : Obj)) ::
  (nat_lit 357, ({ cls := Value.type "getset_descriptor", data := Data.fields #[Value.str (Str.ofString "__weakref__") 646, Value.ref 355, Value.builtin "ExceptionGroup.__weakref__", Value.none] } : Obj)) ::
  (nat_lit 360, ({ cls := Value.type "tuple", data := Data.seq #[] } : Obj)) ::
  (nat_lit 362, ({ cls := Value.type "tuple", data := Data.seq #[Value.str (Str.ofString "_law_script") 656, Value.str (Str.ofString "_law_k") 657] } : Obj)) ::
  (nat_lit 363, ({ cls := Value.type "tuple", data := Data.seq #[] } : Obj)) ::
  (nat_lit 365, ({ cls := Value.type "code", data := Data.fields #[Value.str (Str.ofString "_law_cell_at") 653, Value.str (Str.ofString "_law_cell_at") 654, Value.str (Str.ofString "/claim/cut.py") 655, Value.int 150 0, Value.int 2 0, Value.int 0 0, Value.int 0 0, Value.int 3 0, Value.ref 360, Value.bool true, Value.int 181 0, Value.ref 361, Value.none, Value.ref 362, Value.ref 363, Value.ref 364, Value.int 658 0, Value.int 150 0, Value.str (Str.ofString "/claim/cut.py") 659] } : Obj)) ::
  (nat_lit 366, (⟨(Value.type "function"), (none), .func (PySem.W.fnOf (Str.ofString "_law_cell_at") (Str.ofString "_law_cell_at") (defArgs (top 37)) (defBody (top 37)) (defScope (top 37)) (Value.none) (Value.none) (Value.none) (Value.str (Str.ofString "law_logloom_k72_bits_without_a_word") 651) (none) (Value.ref 365) (Value.none)), (#[])⟩ : Obj)) ::
  (nat_lit 367, ({ cls := Value.type "tuple", data := Data.seq #[] } : Obj)) ::
  (nat_lit 370, ({ cls := Value.type "code", data := Data.fields #[Value.str (Str.ofString "_law_of") 661, Value.str (Str.ofString "_law_of") 662, Value.str (Str.ofString "/claim/cut.py") 663, Value.int 154 0, Value.int 2 0, Value.int 0 0, Value.int 0 0, Value.int 3 0, Value.ref 367, Value.bool true, Value.int 181 0, Value.ref 368, Value.none, Value.none, Value.none, Value.ref 369, Value.int 664 0, Value.int 154 0, Value.str (Str.ofString "/claim/cut.py") 665] } : Obj)) ::
  (nat_lit 371, (⟨(Value.type "function"), (none), .func (PySem.W.fnOf (Str.ofString "_law_of") (Str.ofString "_law_of") (defArgs (top 38)) (defBody (top 38)) (defScope (top 38)) (Value.none) (Value.none) (Value.none) (Value.str (Str.ofString "law_logloom_k72_bits_without_a_word") 651) (none) (Value.ref 370) (Value.none)), (#[])⟩ : Obj)) ::
  (nat_lit 372, ({ cls := Value.type "tuple", data := Data.seq #[] } : Obj)) ::
  (nat_lit 374, ({ cls := Value.type "tuple", data := Data.seq #[Value.str (Str.ofString "_law_text") 670] } : Obj)) ::
  (nat_lit 375, ({ cls := Value.type "tuple", data := Data.seq #[] } : Obj)) ::
  (nat_lit 377, ({ cls := Value.type "code", data := Data.fields #[Value.str (Str.ofString "_law_is_number") 667, Value.str (Str.ofString "_law_is_number") 668, Value.str (Str.ofString "/claim/cut.py") 669, Value.int 156 0, Value.int 1 0, Value.int 0 0, Value.int 0 0, Value.int 3 0, Value.ref 372, Value.bool true, Value.int 181 0, Value.ref 373, Value.none, Value.ref 374, Value.ref 375, Value.ref 376, Value.int 671 0, Value.int 156 0, Value.str (Str.ofString "/claim/cut.py") 672] } : Obj)) ::
  (nat_lit 378, (⟨(Value.type "function"), (none), .func (PySem.W.fnOf (Str.ofString "_law_is_number") (Str.ofString "_law_is_number") (defArgs (top 39)) (defBody (top 39)) (defScope (top 39)) (Value.none) (Value.none) (Value.none) (Value.str (Str.ofString "law_logloom_k72_bits_without_a_word") 651) (none) (Value.ref 377) (Value.none)), (#[])⟩ : Obj)) ::
  (nat_lit 379, ({ cls := Value.type "tuple", data := Data.seq #[] } : Obj)) ::
  (nat_lit 381, ({ cls := Value.type "tuple", data := Data.seq #[Value.str (Str.ofString "_law_text") 677, Value.str (Str.ofString "_law_small") 678] } : Obj)) ::
  (nat_lit 382, ({ cls := Value.type "tuple", data := Data.seq #[] } : Obj)) ::
  (nat_lit 384, ({ cls := Value.type "code", data := Data.fields #[Value.str (Str.ofString "_law_is_name") 674, Value.str (Str.ofString "_law_is_name") 675, Value.str (Str.ofString "/claim/cut.py") 676, Value.int 160 0, Value.int 1 0, Value.int 0 0, Value.int 0 0, Value.int 3 0, Value.ref 379, Value.bool true, Value.int 181 0, Value.ref 380, Value.none, Value.ref 381, Value.ref 382, Value.ref 383, Value.int 679 0, Value.int 160 0, Value.str (Str.ofString "/claim/cut.py") 680] } : Obj)) ::
  (nat_lit 385, (⟨(Value.type "function"), (none), .func (PySem.W.fnOf (Str.ofString "_law_is_name") (Str.ofString "_law_is_name") (defArgs (top 40)) (defBody (top 40)) (defScope (top 40)) (Value.none) (Value.none) (Value.none) (Value.str (Str.ofString "law_logloom_k72_bits_without_a_word") 651) (none) (Value.ref 384) (Value.none)), (#[])⟩ : Obj)) ::
  (nat_lit 386, ({ cls := Value.type "tuple", data := Data.seq #[] } : Obj)) ::
  (nat_lit 389, ({ cls := Value.type "code", data := Data.fields #[Value.str (Str.ofString "_law_is_list") 682, Value.str (Str.ofString "_law_is_list") 683, Value.str (Str.ofString "/claim/cut.py") 684, Value.int 165 0, Value.int 1 0, Value.int 0 0, Value.int 0 0, Value.int 3 0, Value.ref 386, Value.bool true, Value.int 181 0, Value.ref 387, Value.none, Value.none, Value.none, Value.ref 388, Value.int 685 0, Value.int 165 0, Value.str (Str.ofString "/claim/cut.py") 686] } : Obj)) ::
  (nat_lit 390, (⟨(Value.type "function"), (none), .func (PySem.W.fnOf (Str.ofString "_law_is_list") (Str.ofString "_law_is_list") (defArgs (top 41)) (defBody (top 41)) (defScope (top 41)) (Value.none) (Value.none) (Value.none) (Value.str (Str.ofString "law_logloom_k72_bits_without_a_word") 651) (none) (Value.ref 389) (Value.none)), (#[])⟩ : Obj)) ::
  (nat_lit 391, ({ cls := Value.type "tuple", data := Data.seq #[] } : Obj)) ::
  (nat_lit 393, ({ cls := Value.type "tuple", data := Data.seq #[Value.str (Str.ofString "_law_text") 691, Value.str (Str.ofString "_law_small") 692] } : Obj)) ::
  (nat_lit 394, ({ cls := Value.type "tuple", data := Data.seq #[] } : Obj)) ::
  (nat_lit 396, ({ cls := Value.type "code", data := Data.fields #[Value.str (Str.ofString "_law_sort") 688, Value.str (Str.ofString "_law_sort") 689, Value.str (Str.ofString "/claim/cut.py") 690, Value.int 178 0, Value.int 1 0, Value.int 0 0, Value.int 0 0, Value.int 3 0, Value.ref 391, Value.bool true, Value.int 181 0, Value.ref 392, Value.none, Value.ref 393, Value.ref 394, Value.ref 395, Value.int 693 0, Value.int 178 0, Value.str (Str.ofString "/claim/cut.py") 694] } : Obj)) ::
  (nat_lit 397, (⟨(Value.type "function"), (none), .func (PySem.W.fnOf (Str.ofString "_law_sort") (Str.ofString "_law_sort") (defArgs (top 42)) (defBody (top 42)) (defScope (top 42)) (Value.none) (Value.none) (Value.none) (Value.str (Str.ofString "law_logloom_k72_bits_without_a_word") 651) (none) (Value.ref 396) (Value.none)), (#[])⟩ : Obj)) ::
  (nat_lit 398, ({ cls := Value.type "tuple", data := Data.seq #[] } : Obj)) ::
  (nat_lit 400, ({ cls := Value.type "tuple", data := Data.seq #[Value.str (Str.ofString "_law_cell") 699, Value.str (Str.ofString "_law_many") 700, Value.str (Str.ofString "_law_signs_here") 701, Value.str (Str.ofString "_law_found") 702, Value.str (Str.ofString "_law_number") 703, Value.str (Str.ofString "_law_k") 704] } : Obj)) ::
  (nat_lit 401, ({ cls := Value.type "tuple", data := Data.seq #[] } : Obj)) ::
  (nat_lit 403, ({ cls := Value.type "code", data := Data.fields #[Value.str (Str.ofString "_law_signs") 696, Value.str (Str.ofString "_law_signs") 697, Value.str (Str.ofString "/claim/cut.py") 698, Value.int 189 0, Value.int 3 0, Value.int 0 0, Value.int 0 0, Value.int 3 0, Value.ref 398, Value.bool true, Value.int 181 0, Value.ref 399, Value.none, Value.ref 400, Value.ref 401, Value.ref 402, Value.int 705 0, Value.int 189 0, Value.str (Str.ofString "/claim/cut.py") 706] } : Obj)) ::
  (nat_lit 404, (⟨(Value.type "function"), (none), .func (PySem.W.fnOf (Str.ofString "_law_signs") (Str.ofString "_law_signs") (defArgs (top 43)) (defBody (top 43)) (defScope (top 43)) (Value.none) (Value.none) (Value.none) (Value.str (Str.ofString "law_logloom_k72_bits_without_a_word") 651) (none) (Value.ref 403) (Value.none)), (#[])⟩ : Obj)) ::
  (nat_lit 405, ({ cls := Value.type "tuple", data := Data.seq #[] } : Obj)) ::
  (nat_lit 407, ({ cls := Value.type "tuple", data := Data.seq #[Value.str (Str.ofString "_law_cell") 711, Value.str (Str.ofString "_law_many") 712] } : Obj)) ::
  (nat_lit 408, ({ cls := Value.type "tuple", data := Data.seq #[] } : Obj)) ::
  (nat_lit 410, ({ cls := Value.type "code", data := Data.fields #[Value.str (Str.ofString "_law_number_word") 708, Value.str (Str.ofString "_law_number_word") 709, Value.str (Str.ofString "/claim/cut.py") 710, Value.int 196 0, Value.int 1 0, Value.int 0 0, Value.int 0 0, Value.int 3 0, Value.ref 405, Value.bool true, Value.int 181 0, Value.ref 406, Value.none, Value.ref 407, Value.ref 408, Value.ref 409, Value.int 713 0, Value.int 196 0, Value.str (Str.ofString "/claim/cut.py") 714] } : Obj)) ::
  (nat_lit 411, (⟨(Value.type "function"), (none), .func (PySem.W.fnOf (Str.ofString "_law_number_word") (Str.ofString "_law_number_word") (defArgs (top 44)) (defBody (top 44)) (defScope (top 44)) (Value.none) (Value.none) (Value.none) (Value.str (Str.ofString "law_logloom_k72_bits_without_a_word") 651) (none) (Value.ref 410) (Value.none)), (#[])⟩ : Obj)) ::
  (nat_lit 412, ({ cls := Value.type "tuple", data := Data.seq #[] } : Obj)) ::
  (nat_lit 414, ({ cls := Value.type "tuple", data := Data.seq #[Value.str (Str.ofString "_law_cell") 719, Value.str (Str.ofString "_law_small") 720] } : Obj)) ::
  (nat_lit 415, ({ cls := Value.type "tuple", data := Data.seq #[] } : Obj)) ::
  (nat_lit 417, ({ cls := Value.type "code", data := Data.fields #[Value.str (Str.ofString "_law_name_word") 716, Value.str (Str.ofString "_law_name_word") 717, Value.str (Str.ofString "/claim/cut.py") 718, Value.int 201 0, Value.int 1 0, Value.int 0 0, Value.int 0 0, Value.int 3 0, Value.ref 412, Value.bool true, Value.int 181 0, Value.ref 413, Value.none, Value.ref 414, Value.ref 415, Value.ref 416, Value.int 721 0, Value.int 201 0, Value.str (Str.ofString "/claim/cut.py") 722] } : Obj)) ::
  (nat_lit 418, (⟨(Value.type "function"), (none), .func (PySem.W.fnOf (Str.ofString "_law_name_word") (Str.ofString "_law_name_word") (defArgs (top 45)) (defBody (top 45)) (defScope (top 45)) (Value.none) (Value.none) (Value.none) (Value.str (Str.ofString "law_logloom_k72_bits_without_a_word") 651) (none) (Value.ref 417) (Value.none)), (#[])⟩ : Obj)) ::
  (nat_lit 419, ({ cls := Value.type "tuple", data := Data.seq #[] } : Obj)) ::
  (nat_lit 421, ({ cls := Value.type "tuple", data := Data.seq #[Value.str (Str.ofString "_law_cell") 727, Value.str (Str.ofString "_law_signs_here") 728, Value.str (Str.ofString "_law_many") 729, Value.str (Str.ofString "_law_word_here") 730, Value.str (Str.ofString "_law_at") 731, Value.str (Str.ofString "_law_great") 732] } : Obj)) ::
  (nat_lit 422, ({ cls := Value.type "tuple", data := Data.seq #[] } : Obj)) ::
  (nat_lit 424, ({ cls := Value.type "code", data := Data.fields #[Value.str (Str.ofString "_law_mark_word") 724, Value.str (Str.ofString "_law_mark_word") 725, Value.str (Str.ofString "/claim/cut.py") 726, Value.int 204 0, Value.int 1 0, Value.int 0 0, Value.int 0 0, Value.int 3 0, Value.ref 419, Value.bool true, Value.int 181 0, Value.ref 420, Value.none, Value.ref 421, Value.ref 422, Value.ref 423, Value.int 733 0, Value.int 204 0, Value.str (Str.ofString "/claim/cut.py") 734] } : Obj)) ::
  (nat_lit 425, (⟨(Value.type "function"), (none), .func (PySem.W.fnOf (Str.ofString "_law_mark_word") (Str.ofString "_law_mark_word") (defArgs (top 46)) (defBody (top 46)) (defScope (top 46)) (Value.none) (Value.none) (Value.none) (Value.str (Str.ofString "law_logloom_k72_bits_without_a_word") 651) (none) (Value.ref 424) (Value.none)), (#[])⟩ : Obj)) ::
  (nat_lit 426, ({ cls := Value.type "tuple", data := Data.seq #[] } : Obj)) ::
  (nat_lit 428, ({ cls := Value.type "tuple", data := Data.seq #[Value.str (Str.ofString "_law_cell") 739, Value.str (Str.ofString "_law_items") 740, Value.str (Str.ofString "_law_k") 741, Value.str (Str.ofString "_law_part") 742] } : Obj)) ::
  (nat_lit 429, ({ cls := Value.type "tuple", data := Data.seq #[] } : Obj)) ::
  (nat_lit 431, ({ cls := Value.type "code", data := Data.fields #[Value.str (Str.ofString "_law_list_word") 736, Value.str (Str.ofString "_law_list_word") 737, Value.str (Str.ofString "/claim/cut.py") 738, Value.int 213 0, Value.int 1 0, Value.int 0 0, Value.int 0 0, Value.int 3 0, Value.ref 426, Value.bool true, Value.int 181 0, Value.ref 427, Value.none, Value.ref 428, Value.ref 429, Value.ref 430, Value.int 743 0, Value.int 213 0, Value.str (Str.ofString "/claim/cut.py") 744] } : Obj)) ::
  (nat_lit 432, (⟨(Value.type "function"), (none), .func (PySem.W.fnOf (Str.ofString "_law_list_word") (Str.ofString "_law_list_word") (defArgs (top 47)) (defBody (top 47)) (defScope (top 47)) (Value.none) (Value.none) (Value.none) (Value.str (Str.ofString "law_logloom_k72_bits_without_a_word") 651) (none) (Value.ref 431) (Value.none)), (#[])⟩ : Obj)) ::
  (nat_lit 433, ({ cls := Value.type "tuple", data := Data.seq #[] } : Obj)) ::
  (nat_lit 435, ({ cls := Value.type "tuple", data := Data.seq #[Value.str (Str.ofString "_law_cell") 749] } : Obj)) ::
  (nat_lit 436, ({ cls := Value.type "tuple", data := Data.seq #[] } : Obj)) ::
  (nat_lit 438, ({ cls := Value.type "code", data := Data.fields #[Value.str (Str.ofString "_law_word") 746, Value.str (Str.ofString "_law_word") 747, Value.str (Str.ofString "/claim/cut.py") 748, Value.int 222 0, Value.int 1 0, Value.int 0 0, Value.int 0 0, Value.int 3 0, Value.ref 433, Value.bool true, Value.int 181 0, Value.ref 434, Value.none, Value.ref 435, Value.ref 436, Value.ref 437, Value.int 750 0, Value.int 222 0, Value.str (Str.ofString "/claim/cut.py") 751] } : Obj)) ::
  (nat_lit 439, (⟨(Value.type "function"), (none), .func (PySem.W.fnOf (Str.ofString "_law_word") (Str.ofString "_law_word") (defArgs (top 48)) (defBody (top 48)) (defScope (top 48)) (Value.none) (Value.none) (Value.none) (Value.str (Str.ofString "law_logloom_k72_bits_without_a_word") 651) (none) (Value.ref 438) (Value.none)), (#[])⟩ : Obj)) ::
  (nat_lit 440, ({ cls := Value.type "tuple", data := Data.seq #[] } : Obj)) ::
  (nat_lit 443, ({ cls := Value.type "code", data := Data.fields #[Value.str (Str.ofString "_law_put") 753, Value.str (Str.ofString "_law_put") 754, Value.str (Str.ofString "/claim/cut.py") 755, Value.int 230 0, Value.int 3 0, Value.int 0 0, Value.int 0 0, Value.int 3 0, Value.ref 440, Value.bool true, Value.int 181 0, Value.ref 441, Value.none, Value.none, Value.none, Value.ref 442, Value.int 756 0, Value.int 230 0, Value.str (Str.ofString "/claim/cut.py") 757] } : Obj)) ::
  (nat_lit 444, (⟨(Value.type "function"), (none), .func (PySem.W.fnOf (Str.ofString "_law_put") (Str.ofString "_law_put") (defArgs (top 49)) (defBody (top 49)) (defScope (top 49)) (Value.none) (Value.none) (Value.none) (Value.str (Str.ofString "law_logloom_k72_bits_without_a_word") 651) (none) (Value.ref 443) (Value.none)), (#[])⟩ : Obj)) ::
  (nat_lit 445, ({ cls := Value.type "tuple", data := Data.seq #[] } : Obj)) ::
  (nat_lit 447, ({ cls := Value.type "tuple", data := Data.seq #[Value.str (Str.ofString "_law_bits_here") 762, Value.str (Str.ofString "_law_found") 763, Value.str (Str.ofString "_law_k") 764, Value.str (Str.ofString "_law_total") 765, Value.str (Str.ofString "_law_bit") 766] } : Obj)) ::
  (nat_lit 448, ({ cls := Value.type "tuple", data := Data.seq #[] } : Obj)) ::
  (nat_lit 450, ({ cls := Value.type "code", data := Data.fields #[Value.str (Str.ofString "_law_eighths") 759, Value.str (Str.ofString "_law_eighths") 760, Value.str (Str.ofString "/claim/cut.py") 761, Value.int 233 0, Value.int 1 0, Value.int 0 0, Value.int 0 0, Value.int 3 0, Value.ref 445, Value.bool true, Value.int 181 0, Value.ref 446, Value.none, Value.ref 447, Value.ref 448, Value.ref 449, Value.int 767 0, Value.int 233 0, Value.str (Str.ofString "/claim/cut.py") 768] } : Obj)) ::
  (nat_lit 451, (⟨(Value.type "function"), (none), .func (PySem.W.fnOf (Str.ofString "_law_eighths") (Str.ofString "_law_eighths") (defArgs (top 50)) (defBody (top 50)) (defScope (top 50)) (Value.none) (Value.none) (Value.none) (Value.str (Str.ofString "law_logloom_k72_bits_without_a_word") 651) (none) (Value.ref 450) (Value.none)), (#[])⟩ : Obj)) ::
  (nat_lit 452, ({ cls := Value.type "tuple", data := Data.seq #[] } : Obj)) ::
  (nat_lit 454, ({ cls := Value.type "tuple", data := Data.seq #[Value.str (Str.ofString "_law_number") 773, Value.str (Str.ofString "_law_many") 774] } : Obj)) ::
  (nat_lit 455, ({ cls := Value.type "tuple", data := Data.seq #[] } : Obj)) ::
  (nat_lit 457, ({ cls := Value.type "code", data := Data.fields #[Value.str (Str.ofString "_law_many_bits") 770, Value.str (Str.ofString "_law_many_bits") 771, Value.str (Str.ofString "/claim/cut.py") 772, Value.int 242 0, Value.int 1 0, Value.int 0 0, Value.int 0 0, Value.int 3 0, Value.ref 452, Value.bool true, Value.int 181 0, Value.ref 453, Value.none, Value.ref 454, Value.ref 455, Value.ref 456, Value.int 775 0, Value.int 242 0, Value.str (Str.ofString "/claim/cut.py") 776] } : Obj)) ::
  (nat_lit 458, (⟨(Value.type "function"), (none), .func (PySem.W.fnOf (Str.ofString "_law_many_bits") (Str.ofString "_law_many_bits") (defArgs (top 51)) (defBody (top 51)) (defScope (top 51)) (Value.none) (Value.none) (Value.none) (Value.str (Str.ofString "law_logloom_k72_bits_without_a_word") 651) (none) (Value.ref 457) (Value.none)), (#[])⟩ : Obj)) ::
  (nat_lit 459, ({ cls := Value.type "tuple", data := Data.seq #[] } : Obj)) ::
  (nat_lit 461, ({ cls := Value.type "tuple", data := Data.seq #[Value.str (Str.ofString "_law_sign") 781, Value.str (Str.ofString "_law_signs_here") 782, Value.str (Str.ofString "_law_k") 783] } : Obj)) ::
  (nat_lit 462, ({ cls := Value.type "tuple", data := Data.seq #[] } : Obj)) ::
  (nat_lit 464, ({ cls := Value.type "code", data := Data.fields #[Value.str (Str.ofString "_law_place") 778, Value.str (Str.ofString "_law_place") 779, Value.str (Str.ofString "/claim/cut.py") 780, Value.int 248 0, Value.int 2 0, Value.int 0 0, Value.int 0 0, Value.int 3 0, Value.ref 459, Value.bool true, Value.int 181 0, Value.ref 460, Value.none, Value.ref 461, Value.ref 462, Value.ref 463, Value.int 784 0, Value.int 248 0, Value.str (Str.ofString "/claim/cut.py") 785] } : Obj)) ::
  (nat_lit 465, (⟨(Value.type "function"), (none), .func (PySem.W.fnOf (Str.ofString "_law_place") (Str.ofString "_law_place") (defArgs (top 52)) (defBody (top 52)) (defScope (top 52)) (Value.none) (Value.none) (Value.none) (Value.str (Str.ofString "law_logloom_k72_bits_without_a_word") 651) (none) (Value.ref 464) (Value.none)), (#[])⟩ : Obj)) ::
  (nat_lit 466, ({ cls := Value.type "tuple", data := Data.seq #[] } : Obj)) ::
  (nat_lit 468, ({ cls := Value.type "tuple", data := Data.seq #[Value.str (Str.ofString "_law_bits_here") 790, Value.str (Str.ofString "_law_word_here") 791, Value.str (Str.ofString "_law_great") 792, Value.str (Str.ofString "_law_signs_here") 793, Value.str (Str.ofString "_law_sign") 794] } : Obj)) ::
  (nat_lit 469, ({ cls := Value.type "tuple", data := Data.seq #[] } : Obj)) ::
  (nat_lit 471, ({ cls := Value.type "code", data := Data.fields #[Value.str (Str.ofString "_law_put_signs") 787, Value.str (Str.ofString "_law_put_signs") 788, Value.str (Str.ofString "/claim/cut.py") 789, Value.int 253 0, Value.int 3 0, Value.int 0 0, Value.int 0 0, Value.int 3 0, Value.ref 466, Value.bool true, Value.int 181 0, Value.ref 467, Value.none, Value.ref 468, Value.ref 469, Value.ref 470, Value.int 795 0, Value.int 253 0, Value.str (Str.ofString "/claim/cut.py") 796] } : Obj)) ::
  (nat_lit 472, (⟨(Value.type "function"), (none), .func (PySem.W.fnOf (Str.ofString "_law_put_signs") (Str.ofString "_law_put_signs") (defArgs (top 53)) (defBody (top 53)) (defScope (top 53)) (Value.none) (Value.none) (Value.none) (Value.str (Str.ofString "law_logloom_k72_bits_without_a_word") 651) (none) (Value.ref 471) (Value.none)), (#[])⟩ : Obj)) ::
  (nat_lit 473, ({ cls := Value.type "tuple", data := Data.seq #[] } : Obj)) ::
  (nat_lit 475, ({ cls := Value.type "tuple", data := Data.seq #[Value.str (Str.ofString "_law_bits_here") 801, Value.str (Str.ofString "_law_word_here") 802, Value.str (Str.ofString "_law_number") 803, Value.str (Str.ofString "_law_many") 804] } : Obj)) ::
  (nat_lit 476, ({ cls := Value.type "tuple", data := Data.seq #[] } : Obj)) ::
  (nat_lit 478, ({ cls := Value.type "code", data := Data.fields #[Value.str (Str.ofString "_law_put_number") 798, Value.str (Str.ofString "_law_put_number") 799, Value.str (Str.ofString "/claim/cut.py") 800, Value.int 261 0, Value.int 2 0, Value.int 0 0, Value.int 0 0, Value.int 3 0, Value.ref 473, Value.bool true, Value.int 181 0, Value.ref 474, Value.none, Value.ref 475, Value.ref 476, Value.ref 477, Value.int 805 0, Value.int 261 0, Value.str (Str.ofString "/claim/cut.py") 806] } : Obj)) ::
  (nat_lit 479, (⟨(Value.type "function"), (none), .func (PySem.W.fnOf (Str.ofString "_law_put_number") (Str.ofString "_law_put_number") (defArgs (top 54)) (defBody (top 54)) (defScope (top 54)) (Value.none) (Value.none) (Value.none) (Value.str (Str.ofString "law_logloom_k72_bits_without_a_word") 651) (none) (Value.ref 478) (Value.none)), (#[])⟩ : Obj)) ::
  (nat_lit 480, ({ cls := Value.type "tuple", data := Data.seq #[] } : Obj)) ::
  (nat_lit 483, ({ cls := Value.type "code", data := Data.fields #[Value.str (Str.ofString "_law_put_word") 808, Value.str (Str.ofString "_law_put_word") 809, Value.str (Str.ofString "/claim/cut.py") 810, Value.int 265 0, Value.int 3 0, Value.int 0 0, Value.int 0 0, Value.int 3 0, Value.ref 480, Value.bool true, Value.int 181 0, Value.ref 481, Value.none, Value.none, Value.none, Value.ref 482, Value.int 811 0, Value.int 265 0, Value.str (Str.ofString "/claim/cut.py") 812] } : Obj)) ::
  (nat_lit 484, (⟨(Value.type "function"), (none), .func (PySem.W.fnOf (Str.ofString "_law_put_word") (Str.ofString "_law_put_word") (defArgs (top 55)) (defBody (top 55)) (defScope (top 55)) (Value.none) (Value.none) (Value.none) (Value.str (Str.ofString "law_logloom_k72_bits_without_a_word") 651) (none) (Value.ref 483) (Value.none)), (#[])⟩ : Obj)) ::
  (nat_lit 485, ({ cls := Value.type "tuple", data := Data.seq #[] } : Obj)) ::
  (nat_lit 487, ({ cls := Value.type "tuple", data := Data.seq #[Value.str (Str.ofString "_law_cells") 817, Value.str (Str.ofString "_law_word_here") 818, Value.str (Str.ofString "_law_numbers_here") 819, Value.str (Str.ofString "_law_way") 820, Value.str (Str.ofString "_law_number") 821, Value.str (Str.ofString "_law_k") 822, Value.str (Str.ofString "_law_at") 823] } : Obj)) ::
  (nat_lit 488, ({ cls := Value.type "tuple", data := Data.seq #[] } : Obj)) ::
  (nat_lit 490, ({ cls := Value.type "code", data := Data.fields #[Value.str (Str.ofString "_law_numbers") 814, Value.str (Str.ofString "_law_numbers") 815, Value.str (Str.ofString "/claim/cut.py") 816, Value.int 278 0, Value.int 2 0, Value.int 0 0, Value.int 0 0, Value.int 3 0, Value.ref 485, Value.bool true, Value.int 181 0, Value.ref 486, Value.none, Value.ref 487, Value.ref 488, Value.ref 489, Value.int 824 0, Value.int 278 0, Value.str (Str.ofString "/claim/cut.py") 825] } : Obj)) ::
  (nat_lit 491, (⟨(Value.type "function"), (none), .func (PySem.W.fnOf (Str.ofString "_law_numbers") (Str.ofString "_law_numbers") (defArgs (top 56)) (defBody (top 56)) (defScope (top 56)) (Value.none) (Value.none) (Value.none) (Value.str (Str.ofString "law_logloom_k72_bits_without_a_word") 651) (none) (Value.ref 490) (Value.none)), (#[])⟩ : Obj)) ::
  (nat_lit 492, ({ cls := Value.type "tuple", data := Data.seq #[] } : Obj)) ::
  (nat_lit 494, ({ cls := Value.type "tuple", data := Data.seq #[Value.str (Str.ofString "_law_numbers_here") 830, Value.str (Str.ofString "_law_bits_here") 831, Value.str (Str.ofString "_law_number") 832] } : Obj)) ::
  (nat_lit 495, ({ cls := Value.type "tuple", data := Data.seq #[] } : Obj)) ::
  (nat_lit 497, ({ cls := Value.type "code", data := Data.fields #[Value.str (Str.ofString "_law_bits") 827, Value.str (Str.ofString "_law_bits") 828, Value.str (Str.ofString "/claim/cut.py") 829, Value.int 296 0, Value.int 1 0, Value.int 0 0, Value.int 0 0, Value.int 3 0, Value.ref 492, Value.bool true, Value.int 181 0, Value.ref 493, Value.none, Value.ref 494, Value.ref 495, Value.ref 496, Value.int 833 0, Value.int 296 0, Value.str (Str.ofString "/claim/cut.py") 834] } : Obj)) ::
  (nat_lit 498, (⟨(Value.type "function"), (none), .func (PySem.W.fnOf (Str.ofString "_law_bits") (Str.ofString "_law_bits") (defArgs (top 57)) (defBody (top 57)) (defScope (top 57)) (Value.none) (Value.none) (Value.none) (Value.str (Str.ofString "law_logloom_k72_bits_without_a_word") 651) (none) (Value.ref 497) (Value.none)), (#[])⟩ : Obj)) ::
  (nat_lit 499, ({ cls := Value.type "tuple", data := Data.seq #[] } : Obj)) ::
  (nat_lit 502, ({ cls := Value.type "code", data := Data.fields #[Value.str (Str.ofString "law") 836, Value.str (Str.ofString "law") 837, Value.str (Str.ofString "/claim/cut.py") 838, Value.int 301 0, Value.int 1 0, Value.int 0 0, Value.int 0 0, Value.int 3 0, Value.ref 499, Value.bool true, Value.int 181 0, Value.ref 500, Value.none, Value.none, Value.none, Value.ref 501, Value.int 839 0, Value.int 301 0, Value.str (Str.ofString "/claim/cut.py") 840] } : Obj)) ::
  (nat_lit 503, (⟨(Value.type "function"), (none), .func (PySem.W.fnOf (Str.ofString "law") (Str.ofString "law") (defArgs (top 58)) (defBody (top 58)) (defScope (top 58)) (Value.none) (Value.none) (Value.none) (Value.str (Str.ofString "law_logloom_k72_bits_without_a_word") 651) (none) (Value.ref 502) (Value.none)), (#[])⟩ : Obj)) :: []
def hA : List PySem.Addr := nat_lit 2 :: nat_lit 3 :: nat_lit 15 :: nat_lit 22 :: nat_lit 23 :: nat_lit 24 :: nat_lit 25 :: nat_lit 28 :: nat_lit 35 :: nat_lit 37 :: nat_lit 38 :: nat_lit 40 :: nat_lit 41 :: nat_lit 42 :: nat_lit 43 :: nat_lit 44 :: nat_lit 47 :: nat_lit 54 :: nat_lit 56 :: nat_lit 57 :: nat_lit 59 :: nat_lit 60 :: nat_lit 61 :: nat_lit 62 :: nat_lit 63 :: nat_lit 66 :: nat_lit 73 :: nat_lit 75 :: nat_lit 76 :: nat_lit 78 :: nat_lit 79 :: nat_lit 80 :: nat_lit 81 :: nat_lit 82 :: nat_lit 85 :: nat_lit 92 :: nat_lit 94 :: nat_lit 95 :: nat_lit 97 :: nat_lit 98 :: nat_lit 99 :: nat_lit 100 :: nat_lit 101 :: nat_lit 104 :: nat_lit 111 :: nat_lit 112 :: nat_lit 113 :: nat_lit 116 :: nat_lit 123 :: nat_lit 124 :: nat_lit 125 :: nat_lit 128 :: nat_lit 131 :: nat_lit 132 :: nat_lit 140 :: nat_lit 142 :: nat_lit 143 :: nat_lit 145 :: nat_lit 146 :: nat_lit 147 :: nat_lit 149 :: nat_lit 150 :: nat_lit 152 :: nat_lit 153 :: nat_lit 154 :: nat_lit 155 :: nat_lit 156 :: nat_lit 157 :: nat_lit 158 :: nat_lit 161 :: nat_lit 168 :: nat_lit 170 :: nat_lit 171 :: nat_lit 173 :: nat_lit 174 :: nat_lit 175 :: nat_lit 177 :: nat_lit 178 :: nat_lit 180 :: nat_lit 181 :: nat_lit 182 :: nat_lit 183 :: nat_lit 184 :: nat_lit 187 :: nat_lit 194 :: nat_lit 196 :: nat_lit 197 :: nat_lit 199 :: nat_lit 200 :: nat_lit 201 :: nat_lit 203 :: nat_lit 204 :: nat_lit 206 :: nat_lit 207 :: nat_lit 208 :: nat_lit 209 :: nat_lit 210 :: nat_lit 213 :: nat_lit 220 :: nat_lit 222 :: nat_lit 223 :: nat_lit 225 :: nat_lit 226 :: nat_lit 227 :: nat_lit 230 :: nat_lit 231 :: nat_lit 232 :: nat_lit 233 :: nat_lit 234 :: nat_lit 237 :: nat_lit 244 :: nat_lit 246 :: nat_lit 247 :: nat_lit 249 :: nat_lit 250 :: nat_lit 251 :: nat_lit 253 :: nat_lit 254 :: nat_lit 256 :: nat_lit 257 :: nat_lit 258 :: nat_lit 259 :: nat_lit 260 :: nat_lit 263 :: nat_lit 265 :: nat_lit 266 :: nat_lit 268 :: nat_lit 269 :: nat_lit 270 :: nat_lit 272 :: nat_lit 273 :: nat_lit 275 :: nat_lit 276 :: nat_lit 277 :: nat_lit 279 :: nat_lit 280 :: nat_lit 282 :: nat_lit 283 :: nat_lit 284 :: nat_lit 285 :: nat_lit 287 :: nat_lit 288 :: nat_lit 290 :: nat_lit 291 :: nat_lit 292 :: nat_lit 294 :: nat_lit 295 :: nat_lit 297 :: nat_lit 298 :: nat_lit 299 :: nat_lit 301 :: nat_lit 302 :: nat_lit 304 :: nat_lit 305 :: nat_lit 306 :: nat_lit 308 :: nat_lit 309 :: nat_lit 311 :: nat_lit 312 :: nat_lit 313 :: nat_lit 315 :: nat_lit 316 :: nat_lit 318 :: nat_lit 319 :: nat_lit 320 :: nat_lit 322 :: nat_lit 323 :: nat_lit 325 :: nat_lit 326 :: nat_lit 334 :: nat_lit 336 :: nat_lit 337 :: nat_lit 339 :: nat_lit 340 :: nat_lit 341 :: nat_lit 344 :: nat_lit 345 :: nat_lit 346 :: nat_lit 348 :: nat_lit 349 :: nat_lit 351 :: nat_lit 352 :: nat_lit 353 :: nat_lit 354 :: nat_lit 355 :: nat_lit 356 :: nat_lit 357 :: nat_lit 360 :: nat_lit 362 :: nat_lit 363 :: nat_lit 365 :: nat_lit 366 :: nat_lit 367 :: nat_lit 370 :: nat_lit 371 :: nat_lit 372 :: nat_lit 374 :: nat_lit 375 :: nat_lit 377 :: nat_lit 378 :: nat_lit 379 :: nat_lit 381 :: nat_lit 382 :: nat_lit 384 :: nat_lit 385 :: nat_lit 386 :: nat_lit 389 :: nat_lit 390 :: nat_lit 391 :: nat_lit 393 :: nat_lit 394 :: nat_lit 396 :: nat_lit 397 :: nat_lit 398 :: nat_lit 400 :: nat_lit 401 :: nat_lit 403 :: nat_lit 404 :: nat_lit 405 :: nat_lit 407 :: nat_lit 408 :: nat_lit 410 :: nat_lit 411 :: nat_lit 412 :: nat_lit 414 :: nat_lit 415 :: nat_lit 417 :: nat_lit 418 :: nat_lit 419 :: nat_lit 421 :: nat_lit 422 :: nat_lit 424 :: nat_lit 425 :: nat_lit 426 :: nat_lit 428 :: nat_lit 429 :: nat_lit 431 :: nat_lit 432 :: nat_lit 433 :: nat_lit 435 :: nat_lit 436 :: nat_lit 438 :: nat_lit 439 :: nat_lit 440 :: nat_lit 443 :: nat_lit 444 :: nat_lit 445 :: nat_lit 447 :: nat_lit 448 :: nat_lit 450 :: nat_lit 451 :: nat_lit 452 :: nat_lit 454 :: nat_lit 455 :: nat_lit 457 :: nat_lit 458 :: nat_lit 459 :: nat_lit 461 :: nat_lit 462 :: nat_lit 464 :: nat_lit 465 :: nat_lit 466 :: nat_lit 468 :: nat_lit 469 :: nat_lit 471 :: nat_lit 472 :: nat_lit 473 :: nat_lit 475 :: nat_lit 476 :: nat_lit 478 :: nat_lit 479 :: nat_lit 480 :: nat_lit 483 :: nat_lit 484 :: nat_lit 485 :: nat_lit 487 :: nat_lit 488 :: nat_lit 490 :: nat_lit 491 :: nat_lit 492 :: nat_lit 494 :: nat_lit 495 :: nat_lit 497 :: nat_lit 498 :: nat_lit 499 :: nat_lit 502 :: nat_lit 503 :: []
theorem hE : ∀ P, hA = (hK P).map (·.1) := fun _ => by kernel_rfl
def hQ : PySem.Program := { PySem.Challenge.pw_logloom_k72_bits_without_a_word with
  main := { PySem.Challenge.pw_logloom_k72_bits_without_a_word.main with
    body := [top 1, top 2, top 3, top 4, top 5, top 6, top 7, top 9, top 10, top 11, top 12, top 13, top 14, top 15, top 16, top 17, top 18, top 19, top 20, top 21, top 22, top 23, top 24, top 26, top 27, top 28, top 29, top 30, top 31, top 33, top 34, top 35, top 37, top 38, top 39, top 40, top 41, top 42, top 43, top 44, top 45, top 46, top 47, top 48, top 49, top 50, top 51, top 52, top 53, top 54, top 55, top 56, top 57, top 58] } }
abbrev hH : PySem.W.Hook := PySem.W.kHook hK hA hE
abbrev hX (s : PySem.Shared) : Bool := PySem.W.xlAt hQ [] s &&
  PySem.W.recOk (PySem.W.RowW.records (PySem.W.OpenRow.toRowW (PySem.W.OpenLaw.row PySem.Challenge.rw_logloom_k72_bits_without_a_word))) s
set_option maxHeartbeats 0 in
theorem hL : PySem.W.LeftO PySem.Challenge.pw_logloom_k72_bits_without_a_word hQ [] hX hH.obs hH.val 8764 :=
  HT.left1 rfl rfl (fun _ => rfl) (fun w os => by kernel_rfl)
end SL

namespace L2
open PySem PySem.Spec PyProof.Rows


abbrev Key := Sum Int Str
def keyIs : Key → Value → Bool
  | .inl k, v => Value.isInt k v
  | .inr x, v => Value.isStrOf x v
def keyH (w : World) : Key → Int
  | .inl k => hashInt k
  | .inr x => hashStr w x
theorem keyIs_shape : ∀ {k : Key} {v : Value}, keyIs k v = true → (∃ i t, k = Sum.inl i ∧ v = Value.int i t) ∨ (∃ x t, k = Sum.inr x ∧ v = Value.str x t)
  | .inl i, v, h => by
    obtain ⟨t, e⟩ := Value.isInt_shape (k := i) (v := v) h
    exact .inl ⟨i, t, rfl, e⟩
  | .inr x, v, h => by
    obtain ⟨t, e⟩ := Value.isStrOf_shape (x := x) (v := v) h
    exact .inr ⟨x, t, rfl, e⟩
theorem key_ll (a b : Int) : decide ((Sum.inl a : Key) = Sum.inl b) = (a == b) := by
  by_cases e : a = b
  · subst e; simp
  · have h : ¬ (Sum.inl a : Key) = Sum.inl b := fun q => e (Sum.inl.inj q)
    rw [decide_eq_false h]
    exact (beq_eq_false_iff_ne.mpr e).symm
theorem key_rr (a b : Str) : decide ((Sum.inr a : Key) = Sum.inr b) = decide (a = b) := by
  by_cases e : a = b
  · subst e; simp
  · have h : ¬ (Sum.inr a : Key) = Sum.inr b := fun q => e (Sum.inr.inj q)
    rw [decide_eq_false h, decide_eq_false e]
theorem key_lr (a : Int) (b : Str) : decide ((Sum.inl a : Key) = Sum.inr b) = false := decide_eq_false (fun q => nomatch q)
theorem key_rl (a : Str) (b : Int) : decide ((Sum.inr a : Key) = Sum.inl b) = false := decide_eq_false (fun q => nomatch q)

def mixKind (prog : Program) (w : World) : PySem.KeyKind prog w Key where
  is := keyIs
  hash := keyH w
  inj := fun v a b ha hb => by
    rcases keyIs_shape ha with ⟨i, t, rfl, rfl⟩ | ⟨x, t, rfl, rfl⟩
    · rcases keyIs_shape hb with ⟨j, u, rfl, e⟩ | ⟨y, u, rfl, e⟩
      · injection e with e1 _; rw [e1]
      · exact nomatch e
    · rcases keyIs_shape hb with ⟨j, u, rfl, e⟩ | ⟨y, u, rfl, e⟩
      · exact nomatch e
      · injection e with e1 _; rw [e1]
  byValue := fun k v h => by
    rcases keyIs_shape h with ⟨i, t, rfl, rfl⟩ | ⟨x, t, rfl, rfl⟩ <;> rfl
  pyHash := fun hv h => by
    rcases keyIs_shape hv with ⟨i, t, rfl, rfl⟩ | ⟨x, t, rfl, rfl⟩
    · exact wpAny_pyHash_int h
    · exact wpAny_pyHash_str h
  eqBool := fun hu hv h => by
    rcases keyIs_shape hu with ⟨i, t, rfl, rfl⟩ | ⟨x, t, rfl, rfl⟩
    · rcases keyIs_shape hv with ⟨j, u, rfl, rfl⟩ | ⟨y, u, rfl, rfl⟩
      · rw [key_ll] at h; exact wpAny_eqBool_int h
      · rw [key_lr] at h; exact SeqAt.EqAt.int_str i t y u _ _ _ _ h
    · rcases keyIs_shape hv with ⟨j, u, rfl, rfl⟩ | ⟨y, u, rfl, rfl⟩
      · rw [key_rl] at h; exact SeqAt.EqAt.str_int x t j u _ _ _ _ h
      · rw [key_rr] at h; exact wpAny_eqBool_str h
  «strs» := fun k x t v h => by
    rcases keyIs_shape h with ⟨i, u, rfl, e⟩ | ⟨y, u, rfl, e⟩
    · exact nomatch e
    · injection e with e1 _
      subst e1
      cases v <;> rfl

end L2

namespace L2
open PySem PySem.Spec PyProof.Rows


inductive V where
  | non | bl (b : Bool) | int (i : Int) | str (x : Str) | byt (b : Array UInt8) | flt (b : UInt64) | ref (a : Addr) | ty (n : String)
  deriving DecidableEq

def RelV : V → Value → Prop
  | .non, u => u = Value.none
  | .bl b, u => u = Value.bool b
  | .int i, u => ∃ t, u = Value.int i t
  | .str x, u => ∃ t, u = Value.str x t
  | .byt b, u => ∃ t, u = Value.bytes b t
  | .flt b, u => ∃ t, u = Value.float b t
  | .ref a, u => u = Value.ref a
  | .ty n, u => u = Value.type n

abbrev Vals : List V → List Value → Prop := Paired RelV
theorem Vals.length {xs : List V} {us : List Value} (r : Vals xs us) : xs.length = us.length := Paired.length r
theorem Vals.get : ∀ {xs : List V} {us : List Value} {i : Nat} {x : V}, Vals xs us → xs[i]? = some x → ∃ u, us[i]? = some u ∧ RelV x u
  | _, _, _, _, .nil, e => by simp at e
  | _, _, 0, _, .cons r _, e => by simp at e; subst e; exact ⟨_, rfl, r⟩
  | _, _, i + 1, x, .cons _ t, e => by
    obtain ⟨u, h1, h2⟩ := Vals.get (i := i) (x := x) t (by simpa using e)
    exact ⟨u, by simpa using h1, h2⟩
theorem Vals.set {x : V} {u : Value} (r : RelV x u) : ∀ {xs : List V} {us : List Value} (i : Nat), Vals xs us → Vals (xs.set i x) (us.set i u)
  | _, _, _, .nil => .nil
  | _, _, 0, .cons _ t => .cons r t
  | _, _, i + 1, .cons q t => .cons q (Vals.set r i t)
theorem Vals.append : ∀ {xs ys : List V} {us ws : List Value}, Vals xs us → Vals ys ws → Vals (xs ++ ys) (us ++ ws)
  | _, _, _, _, .nil, s => s
  | _, _, _, _, .cons r t, s => .cons r (Vals.append t s)
theorem Vals.take : ∀ {xs : List V} {us : List Value} (n : Nat), Vals xs us → Vals (xs.take n) (us.take n)
  | _, _, 0, _ => .nil
  | _, _, _ + 1, .nil => .nil
  | _, _, n + 1, .cons r t => .cons r (Vals.take n t)
theorem Vals.drop : ∀ {xs : List V} {us : List Value} (n : Nat), Vals xs us → Vals (xs.drop n) (us.drop n)
  | _, _, 0, r => r
  | _, _, _ + 1, .nil => .nil
  | _, _, n + 1, .cons _ t => Vals.drop n t
def RelO : Option V → Option Value → Prop
  | some v, some u => RelV v u
  | none, none => True
  | _, _ => False
def KV {κ : Type} : List (κ × V) → List (κ × Value) → Prop := Paired fun (p : κ × V) (q : κ × Value) => p.1 = q.1 ∧ RelV p.2 q.2


def kV : Key → V
  | .inl i => .int i
  | .inr x => .str x


inductive HO where
  
  | lst (xs : List V)
  
  | tup (xs : List V)
  
  | dK (kvs : List (Key × V)) | dT (kvs : List (List Key × V))
  
  | set (S : Int → Bool) (n : Nat)
  
  | ins (C dx : Addr) (fs : List (Str × V))
  
  | own (x : Addr)
  
  | xd (fs : List (Str × V))
  
  | met (f x : Addr)
  
  | rng (lo hi : Int)
  
  | frz (o : Obj) (u : HO)
  
  | tbl (ps : Array Value)
  
  | ext (φ : Heap → Prop)

abbrev Hp := Addr → Option HO
def upd (H : Hp) (a : Addr) (o : HO) : Hp := fun b => if b = a then some o else H b
theorem upd_same {H : Hp} {a : Addr} {o : HO} : upd H a o a = some o := by unfold upd; rw [if_pos rfl]
theorem upd_ne {H : Hp} {a b : Addr} {o : HO} (h : b ≠ a) : upd H a o b = H b := by unfold upd; rw [if_neg h]
theorem ne_of_none {H : Hp} {a b : Addr} {o : HO} (h : H a = some o) (h' : H b = none) : a ≠ b := by
  intro e; subst e; rw [h] at h'; cases h'

section
variable (P : Program) (w : World)
def ObjOk (H : Hp) (h : Heap) (a : Addr) : HO → Prop
  | .lst xs => xs.length ≤ sizeLine ∧ ∃ (its : List Value) (n : Nat), Vals xs its ∧ h.get? a = some { cls := .type "list", data := .seq its.toArray n }
  | .tup xs => xs.length ≤ sizeLine ∧ ∃ its : List Value, Vals xs its ∧ IsTup h a its.toArray
  | .dK kvs => kvs.length ≤ sizeLine ∧ (a == sysModules) = false ∧ ∃ vs, KV kvs vs ∧ h.DictOf (mixKind P w) a vs
  | .dT kvs => kvs.length ≤ sizeLine ∧ (a == sysModules) = false ∧ ∃ xs : List (List Key × Addr × Value),
      Paired (fun (p : List Key × V) (q : List Key × Addr × Value) => p.1 = q.1 ∧ H q.2.1 = some (.tup (p.1.map kV)) ∧ RelV p.2 q.2.2) kvs xs ∧
      ∃ o es ep, h.get? a = some o ∧ o.ExactDict ∧ o.data = .dict es ep ∧ es.toList = xs.map (entryOfKey (tupleKind (mixKind P w))) ∧ (xs.map (·.1)).Nodup
  | .set S n => h.SetOf (intKind P w) a S n
  | .ins C dx fs => H dx = some (.own a) ∧ fs.length ≤ 1000 ∧ dx ≠ a ∧ h.get? a = some (PySem.W.instObj C dx) ∧
      ∃ mA, h.Ns1 dx mA ∧ (∀ f, RelO (fs.lookup f) (mA f)) ∧ PySem.Within mA (fs.map (·.1))
  | .own _ => ∃ o, h.get? a = some o
  | .xd fs => ∃ mA, h.Ns1 a mA ∧ ∀ f, RelO (fs.lookup f) (mA f)
  | .rng lo hi => ∃ t u v, h.get? a = some { cls := .type "range", data := .fields #[.int lo t, .int hi u, .int 1 v] }
  | .frz o u => h.get? a = some o ∧ ObjOk H h a u
  | .tbl ps => h.get? a = some { cls := .none, data := .fields ps }
  | .met f x => h.get? a = some (PySem.W.methodObj (.ref f) (.ref x))
  | .ext φ => φ h ∧ (∃ o, h.get? a = some o) ∧ ∀ h1 h2 : Heap, φ h1 → (∀ o, h1.get? a = some o → h2.get? a = some o) → φ h2

def HOk (H : Hp) (h : Heap) : Prop := ∀ a o, H a = some o → ObjOk P w H h a o
end

section
variable {P : Program} {w : World} {H H' : Hp} {h h' : Heap} {a : Addr} {o : HO}
theorem ObjOk.lt (x : ObjOk P w H h a o) : a < h.objs.size := by
  cases o with
  | lst xs => obtain ⟨_, _, _, _, e⟩ := x; exact Heap.lt_size e
  | tup xs => obtain ⟨_, _, _, p⟩ := x; exact p.lt
  | dK kvs => obtain ⟨_, _, _, _, o, _, _, e, _⟩ := x; exact Heap.lt_size e
  | dT kvs => obtain ⟨_, _, _, _, o, _, _, e, _⟩ := x; exact Heap.lt_size e
  | set S n => obtain ⟨o, _, _, _, e, _⟩ := x; exact Heap.lt_size e
  | ins C dx fs => obtain ⟨_, _, _, e, _⟩ := x; exact Heap.lt_size e
  | own y => obtain ⟨_, e⟩ := x; exact Heap.lt_size e
  | xd fs => obtain ⟨_, ⟨_, _, _, e, _⟩, _⟩ := x; exact Heap.lt_size e
  | rng lo hi => obtain ⟨_, _, _, e⟩ := x; exact Heap.lt_size e
  | frz ob u => obtain ⟨e, _⟩ := x; exact Heap.lt_size e
  | tbl ps => exact Heap.lt_size (show h.get? a = some _ from x)
  | met f y => exact Heap.lt_size (show h.get? a = some _ from x)
  | ext φ => obtain ⟨_, ⟨_, e⟩, _⟩ := x; exact Heap.lt_size e
theorem Paired.mapP {α β : Type} {F G : α → β → Prop} : ∀ {l₁ : List α} {l₂ : List β}, Paired F l₁ l₂ → (∀ a b, F a b → G a b) → Paired G l₁ l₂
  | _, _, .nil, _ => .nil
  | _, _, .cons r t, f => .cons (f _ _ r) (Paired.mapP t f)
theorem ObjOk.stay (x : ObjOk P w H h a o) (k : ∀ b u, (b = a ∨ H b = some (.own a)) → h.get? b = some u → h'.get? b = some u)
    (ho : ∀ b, H b = some (.own a) → H' b = some (.own a)) (ht : ∀ b xs, H b = some (.tup xs) → H' b = some (.tup xs)) : ObjOk P w H' h' a o := by
  induction o with
  | lst xs => obtain ⟨z, its, n, r, e⟩ := x; exact ⟨z, its, n, r, k _ _ (.inl rfl) e⟩
  | tup xs => obtain ⟨z, its, r, ob, e, c⟩ := x; exact ⟨z, its, r, ob, k _ _ (.inl rfl) e, c⟩
  | dK kvs => obtain ⟨z, y, vs, r, ob, es, ep, e, c⟩ := x; exact ⟨z, y, vs, r, ob, es, ep, k _ _ (.inl rfl) e, c⟩
  | dT kvs =>
    obtain ⟨z, y, xs, r, ob, es, ep, e, c⟩ := x
    exact ⟨z, y, xs, Paired.mapP r fun p q z => ⟨z.1, ht _ _ z.2.1, z.2.2⟩, ob, es, ep, k _ _ (.inl rfl) e, c⟩
  | set S n => obtain ⟨ob, es, ep, t, e, c⟩ := x; exact ⟨ob, es, ep, t, k _ _ (.inl rfl) e, c⟩
  | ins C dx fs =>
    obtain ⟨d, z, ne, e, mA, ⟨od, es, ep, e2, c⟩, r⟩ := x
    exact ⟨ho _ d, z, ne, k _ _ (.inl rfl) e, mA, ⟨od, es, ep, k _ _ (.inr d) e2, c⟩, r⟩
  | own y => obtain ⟨ob, e⟩ := x; exact ⟨ob, k _ _ (.inl rfl) e⟩
  | xd fs => obtain ⟨mA, ⟨od, es, ep, e, c⟩, r⟩ := x; exact ⟨mA, ⟨od, es, ep, k _ _ (.inl rfl) e, c⟩, r⟩
  | rng lo hi => obtain ⟨t, u, v, e⟩ := x; exact ⟨t, u, v, k _ _ (.inl rfl) e⟩
  | frz ob u ih => obtain ⟨e, q⟩ := x; exact ⟨k _ _ (.inl rfl) e, ih q⟩
  | tbl ps =>
    have e : h.get? a = some { cls := .none, data := .fields ps } := x
    show h'.get? a = some { cls := .none, data := .fields ps }
    exact k a _ (.inl rfl) e
  | met f y =>
    have e : h.get? a = some (PySem.W.methodObj (.ref f) (.ref y)) := x
    show h'.get? a = some (PySem.W.methodObj (.ref f) (.ref y))
    exact k a _ (.inl rfl) e
  | ext φ => obtain ⟨p, ⟨o, e⟩, st⟩ := x; exact ⟨st _ _ p fun o q => k _ _ (.inl rfl) q, ⟨o, k _ _ (.inl rfl) e⟩, st⟩
theorem HOk.lt (x : HOk P w H h) (e : H a = some o) : a < h.objs.size := (x a o e).lt
theorem HOk.fresh (x : HOk P w H h) (e : h.objs.size ≤ a) : H a = none := by
  cases q : H a with
  | none => rfl
  | some u => exact absurd (Nat.lt_of_lt_of_le (x.lt q) e) (Nat.lt_irrefl _)

theorem HOk.kept (x : HOk P w H h) (k : ∀ b u, h.get? b = some u → h'.get? b = some u) : HOk P w H h' := fun a o e =>
  (x a o e).stay (fun b u _ q => k b u q) (fun _ q => q) fun _ _ q => q

theorem HOk.laid (x : HOk P w H h) (k : ∀ b u, h.get? b = some u → h'.get? b = some u) (hp : h.objs.size ≤ a) (new : ObjOk P w (upd H a o) h' a o) : HOk P w (upd H a o) h' := fun b u e => by
  have hn := x.fresh hp
  by_cases hb : b = a
  · subst hb; rw [upd_same] at e; cases e; exact new
  · rw [upd_ne hb] at e
    exact (x b u e).stay (fun c v _ q => k c v q) (fun c q => by rw [upd_ne (ne_of_none q hn)]; exact q) fun c xs q => by rw [upd_ne (ne_of_none q hn)]; exact q
end


def Rd (H : Hp) (a : Addr) (u : HO) : Prop := H a = some u ∨ ∃ o, H a = some (.frz o u)
theorem Rd.ok {P : Program} {w : World} {H : Hp} {h : Heap} {a : Addr} {u : HO} (r : Rd H a u) (x : HOk P w H h) : ObjOk P w H h a u := by
  rcases r with r | ⟨o, r⟩
  · exact x a u r
  · obtain ⟨_, q⟩ := x a _ r
    exact q

def Mut : Option HO → Prop
  | some (.lst _) => True
  | some (.dK _) => True
  | some (.dT _) => True
  | some (.set _ _) => True
  | some (.ins _ _ _) => True
  | some (.ext _) => True
  | _ => False
section
variable {P : Program} {w : World} {H : Hp} {h h' : Heap} {x e : Addr} {o' : HO}

theorem HOk.write (ok : HOk P w H h) (mu : Mut (H x)) (he : e = x ∨ H e = some (.own x)) (k : ∀ b u, b ≠ e → h.get? b = some u → h'.get? b = some u) (heo : ∃ u, h'.get? e = some u)
    (new : ObjOk P w (upd H x o') h' x o') : HOk P w (upd H x o') h' := fun b u q => by
  have nown : ∀ c y, H c = some (.own y) → c ≠ x := fun c y r z => by subst z; rw [r] at mu; exact mu
  have ntup : ∀ c xs, H c = some (.tup xs) → c ≠ x := fun c xs r z => by subst z; rw [r] at mu; exact mu
  by_cases hb : b = x
  · subst hb; rw [upd_same] at q; cases q; exact new
  · rw [upd_ne hb] at q
    by_cases hbe : b = e
    · have q' : H b = some (.own x) := by
        rcases he with z | z
        · exact absurd (hbe.trans z) hb
        · rw [hbe]; exact z
      rw [q] at q'; cases q'
      obtain ⟨v, hv⟩ := heo
      exact ⟨v, by rw [hbe]; exact hv⟩
    · refine (ok b u q).stay (fun c v hc r => k c v ?_ r) (fun c r => by rw [upd_ne (nown c b r)]; exact r) fun c xs r => by rw [upd_ne (ntup c xs r)]; exact r
      rcases hc with rfl | hc
      · exact hbe
      · rintro rfl
        rcases he with z | z
        · exact nown c b hc z
        · rw [hc] at z; cases z; exact hb rfl
end


structure Un (fs ex : List Addr) (H H' : Hp) (h h' : Heap) : Prop where
  keep : ∀ b o, h.get? b = some o → H b = none → b ∉ fs → b ∉ ex → h'.get? b = some o
  slot : ∀ b o, h.get? b = some o → H b = none → b ∈ fs → b ∉ ex → ∃ sl, h'.get? b = some { o with slots := sl }
  free : ∀ b o, h.get? b = some o → H b = none → b ∉ ex → H' b = none
  there : ∀ b o, h.get? b = some o → b ∉ ex → ∃ o', h'.get? b = some o'
  tups : ∀ b xs, H b = some (.tup xs) → H' b = some (.tup xs)
  frzs : ∀ b o u, H b = some (.frz o u) → H' b = some (.frz o u)
  tbls : ∀ b ps, H b = some (.tbl ps) → ∃ more, H' b = some (.tbl (ps ++ more))
section
variable {fs fs' ex ex' : List Addr} {H H1 H2 : Hp} {h h1 h2 h' : Heap} {a x e : Addr} {o : HO}
theorem Un.any (u : Un fs ex H H1 h h1) {b : Addr} {ob : Obj} (q : h.get? b = some ob) (n : H b = none) (hx : b ∉ ex) : ∃ sl, h1.get? b = some { ob with slots := sl } := by
  by_cases hb : b ∈ fs
  · exact u.slot b ob q n hb hx
  · exact ⟨ob.slots, u.keep b ob q n hb hx⟩
theorem Un.kept (k : ∀ b u, h.get? b = some u → h'.get? b = some u) : Un fs ex H H h h' :=
  ⟨fun b ob q _ _ _ => k b ob q, fun b ob q _ _ _ => ⟨ob.slots, k b ob q⟩, fun _ _ _ n _ => n, fun b ob q _ => ⟨ob, k b ob q⟩, fun _ _ q => q, fun _ _ _ q => q, fun _ ps q => ⟨#[], by rw [q]; simp⟩⟩
theorem Un.refl : Un fs ex H H h h := Un.kept fun _ _ q => q
theorem Un.laid (k : ∀ b u, h.get? b = some u → h'.get? b = some u) (hp : h.objs.size ≤ a) (hn : H a = none) : Un fs ex H (upd H a o) h h' where
  keep := fun b u q _ _ _ => k b u q
  slot := fun b u q _ _ _ => ⟨u.slots, k b u q⟩
  free := fun b u q n _ => by rw [upd_ne (Nat.ne_of_lt (Nat.lt_of_lt_of_le (Heap.lt_size q) hp))]; exact n
  there := fun b u q _ => ⟨u, k b u q⟩
  tups := fun b xs q => by rw [upd_ne (ne_of_none q hn)]; exact q
  frzs := fun b u xs q => by rw [upd_ne (ne_of_none q hn)]; exact q
  tbls := fun b ps q => ⟨#[], by rw [upd_ne (ne_of_none q hn), q]; simp⟩
theorem Un.write (mu : Mut (H x)) (he : e = x ∨ H e = some (.own x)) (k : ∀ b u, b ≠ e → h.get? b = some u → h'.get? b = some u) (heo : ∃ u, h'.get? e = some u) : Un fs ex H (upd H x o) h h' := by
  have hx : ∀ b, H b = none → b ≠ x := fun b n z => by subst z; rw [n] at mu; exact mu
  have hb : ∀ b, H b = none → b ≠ e := fun b n z => by
    subst z
    rcases he with r | r
    · exact hx b n r
    · rw [n] at r; cases r
  have hm : ∀ b u, H b = some u → ¬ Mut (some u) → b ≠ x := fun b u q nm z => by subst z; rw [q] at mu; exact nm mu
  refine ⟨fun b u q n _ _ => k b u (hb b n) q, fun b u q n _ _ => ⟨u.slots, k b u (hb b n) q⟩, fun b u q n _ => by rw [upd_ne (hx b n)]; exact n, fun b u q _ => ?_,
    fun b xs q => by rw [upd_ne (hm b _ q fun z => z)]; exact q, fun b u xs q => by rw [upd_ne (hm b _ q fun z => z)]; exact q, fun b ps q => ⟨#[], by rw [upd_ne (hm b _ q fun z => z), q]; simp⟩⟩
  by_cases hbe : b = e
  · subst hbe; exact heo
  · exact ⟨u, k b u hbe q⟩
end


def trk (h : Heap) (H : Hp) : List Addr := (List.range h.objs.size).filter fun a => (H a).isSome
def hidT (h : Heap) (H : Hp) : Heap := PySem.W.hideAll h (trk h H)
theorem hidT_size (h : Heap) (H : Hp) : (hidT h H).objs.size = h.objs.size := PySem.W.hideAll_size _ _
theorem hidT_get {h : Heap} {H : Hp} {b : Addr} {o : Obj} (e : h.get? b = some o) (n : H b = none) : (hidT h H).get? b = some o :=
  PySem.W.hideAll_get _ e fun hm => by
    have q : (H b).isSome = true := (List.mem_filter.mp hm).2
    rw [n] at q; simp at q
theorem of_hidT {h : Heap} {H : Hp} {b : Addr} {o : Obj} (e : (hidT h H).get? b = some o) : h.get? b = some o ∧ H b = none := by
  have e' : h.get? b = some o := PySem.W.of_hideAll (trk h H) e
  refine ⟨e', ?_⟩
  cases q : H b with
  | none => rfl
  | some x =>
    have hm : b ∈ trk h H := List.mem_filter.mpr ⟨List.mem_range.mpr (Heap.lt_size e'), by simp [q]⟩
    have z : (hidT h H).get? b = none := PySem.W.hideAll_none (trk h H) hm
    rw [z] at e; cases e


end L2

namespace L2
open PySem PySem.Spec PyProof.Rows


structure Mod (K : PySem.W.Frag) (mg : Str → Option Value) (base : Heap) : Prop where
  kin : K.In base
  glob : base.Ns mainGlobals mg
  blt : ∃ mb, base.Ns builtinsNs mb ∧ ∀ x : Str, x ≠ "__name__" → mb x = bootBuiltins x
  nolimit : base.NoLimit


structure Cx where
  prog : Program
  w : World
  K : PySem.W.Frag
  mg : Str → Option Value
  base : Heap
  A : Around
  N : List Str
  s₀ : Shared
  H₀ : Hp
  env : Env
  outer : List Env
  stack : List Env
  ex : List Addr
  fn : Str → Bool
  calm : Bool
  pn : List (Addr × Obj)
  xe : Value → Shared → Prop

def frs (l : List Env) : List Addr := l.filterMap (·.frame)
abbrev Cx.fs (X : Cx) : List Addr := frs X.outer

def Vis (sc : Scope) (x : Str) : Prop := sc.names.lookup x = some .local ∨ sc.names.lookup x = some .cell ∨ sc.names.lookup x = some .free
def Loc (sc : Scope) (x : Str) : Prop := sc.names.lookup x = some .local ∨ sc.names.lookup x = some .cell
def Look (env : Env) (h : Heap) (m : Str → Option Value) (x : Str) (u : Value) : Prop :=
  (env.kindOf x = some .local ∧ m x = some u) ∨ ((env.kindOf x = some .cell ∨ env.kindOf x = some .free) ∧ ∃ c, env.cells.lookup x = some c ∧ h.IsCell c (some u))

structure Cx.Ok (X : Cx) : Prop where
  mod : Mod X.K X.mg X.base
  kind : X.env.scope.kind = .function
  glob : X.env.globals = mainGlobals
  blt : X.env.builtins = builtinsNs
  above : X.s₀.heap.objs.size ≤ X.env.locals
  inj : ∀ x y c, X.env.cells.lookup x = some c → X.env.cells.lookup y = some c → x = y
  has : ∀ x, (X.env.kindOf x = some .cell ∨ X.env.kindOf x = some .free) → ∃ c, X.env.cells.lookup x = some c
  cab : ∀ x c, X.fn x = true → X.env.cells.lookup x = some c → X.s₀.heap.objs.size ≤ c
  hd : X.calm = true → X.A.handled = none
  frames : X.A.frames = some X.stack
  stk : X.stack = X.outer ∨ (X.stack = X.env :: X.outer ∧ X.env.frame = some X.env.locals)
  exf : ∀ b ∈ X.ex, b ≠ X.env.locals ∧ ∀ x c, X.env.cells.lookup x = some c → c ≠ b
  bs : ∀ b o, X.base.get? b = some o → X.s₀.heap.get? b = some o ∧ X.H₀ b = none
  bsz : X.base.objs.size ≤ X.s₀.heap.objs.size
  noex : ∀ b o, X.base.get? b = some o → b ∉ X.ex
  exfs : ∀ b ∈ X.ex, b ∉ X.fs
  funs : X.s₀.heap.FunFrames X.base X.outer
  frf : ∀ b ∈ X.fs, X.H₀ b = none

structure Inv (X : Cx) (pins : List (Addr × Obj)) (σ : List (Option V)) (H : Hp) (s : Shared) : Prop where
  ok : X.Ok
  os : s.os = X.s₀.os
  bare : AllBare s.gens
  base : Un X.fs X.ex X.H₀ H X.s₀.heap s.heap
  loc : ∃ m, s.heap.Ns X.env.locals m ∧ ∀ (i : Nat) (x : Str) (v : V), X.N[i]? = some x → σ[i]? = some (some v) → Vis X.env.scope x → ∃ u, RelV v u ∧ Look X.env s.heap m x u
  cell : ∀ x c, X.env.cells.lookup x = some c → ∃ v, s.heap.IsCell c v
  free : H X.env.locals = none
  freeC : ∀ x c, X.env.cells.lookup x = some c → H c = none
  pin : ∀ p ∈ X.pn ++ pins, s.heap.get? p.1 = some p.2 ∧ H p.1 = none ∧ p.1 ≠ X.env.locals ∧ p.1 ∉ X.fs ∧ ∀ v, p.2.data ≠ .cell v
  hok : HOk X.prog X.w H s.heap
  len : σ.length = X.N.length

section
variable {X : Cx} {pins : List (Addr × Obj)} {σ : List (Option V)} {H H' : Hp} {s : Shared} {h' : Heap}

theorem Cx.Ok.nofr (ok : X.Ok) {b : Addr} {o : Obj} (e : X.base.get? b = some o) : b ∉ X.fs := fun hb => by
  have := (ok.funs.mem hb).1
  rw [e] at this; cases this
theorem Inv.bs (I : Inv X pins σ H s) : ∀ b o, X.base.get? b = some o → s.heap.get? b = some o ∧ H b = none := fun b o e =>
  ⟨I.base.keep b o (I.ok.bs b o e).1 (I.ok.bs b o e).2 (I.ok.nofr e) (I.ok.noex b o e), I.base.free b o (I.ok.bs b o e).1 (I.ok.bs b o e).2 (I.ok.noex b o e)⟩
theorem Inv.bk (I : Inv X pins σ H s) : ∀ b o, X.base.get? b = some o → s.heap.get? b = some o := fun b o e => (I.bs b o e).1
theorem Inv.mod (I : Inv X pins σ H s) : Mod X.K X.mg X.base := I.ok.mod
theorem Inv.kIn (I : Inv X pins σ H s) : X.K.In s.heap := I.ok.mod.kin.keeps I.bk
theorem Inv.lt (I : Inv X pins σ H s) : X.env.locals < s.heap.objs.size := let ⟨_, hn, _⟩ := I.loc; hn.lt
theorem Inv.sz (I : Inv X pins σ H s) : X.s₀.heap.objs.size ≤ s.heap.objs.size := Nat.le_trans I.ok.above (Nat.le_of_lt I.lt)
theorem Inv.nofs (I : Inv X pins σ H s) {a : Addr} (h : s.heap.objs.size ≤ a) : a ∉ X.fs := fun hb => by
  obtain ⟨_, o, ho, _⟩ := I.ok.funs.mem hb
  exact absurd (Nat.lt_of_lt_of_le (Heap.lt_size ho) (Nat.le_trans I.sz h)) (Nat.lt_irrefl _)
theorem Inv.cne (I : Inv X pins σ H s) : ∀ x c, X.env.cells.lookup x = some c → c ≠ X.env.locals := fun x c e z => by
  obtain ⟨v, o, ho, hd⟩ := I.cell x c e
  obtain ⟨m, ⟨o', es, ep, ho', hd', _⟩, _⟩ := I.loc
  rw [z, ho'] at ho; cases ho; rw [hd'] at hd; cases hd
theorem Inv.funs (I : Inv X pins σ H s) : s.heap.FunFrames X.base X.outer := by
  have all : ∀ (l : List Env), (∀ b ∈ frs l, b ∈ X.fs) → X.s₀.heap.FunFrames X.base l → s.heap.FunFrames X.base l := by
    intro l
    induction l with
    | nil => intro _ _; trivial
    | cons env r ih =>
      intro hs hl
      obtain ⟨hk, ⟨L, o, hf, hn, ho, hd⟩, hr⟩ := hl
      have hL : L ∈ X.fs := hs L (by unfold frs; rw [List.filterMap_cons, hf]; exact List.mem_cons_self)
      obtain ⟨sl, e⟩ := I.base.slot L o ho (I.ok.frf L hL) hL fun z => I.ok.exfs L z hL
      exact ⟨hk, ⟨L, _, hf, hn, e, hd⟩, ih (fun b hb => hs b (by unfold frs; rw [List.filterMap_cons, hf]; exact List.mem_cons_of_mem _ hb)) hr⟩
  exact all X.outer (fun _ hb => hb) I.ok.funs


theorem Inv.stack (I : Inv X pins σ H s) : s.heap.FunFrames X.base X.stack := by
  rcases I.ok.stk with e | ⟨e, hf⟩
  · rw [e]; exact I.funs
  · rw [e]
    obtain ⟨m, hn, _⟩ := I.loc
    refine .cons (by rw [I.ok.kind]; decide) hf hn ?_ I.funs
    exact Heap.get?_none_of_le (Nat.le_trans I.ok.bsz I.ok.above)
theorem Inv.stkSub (I : Inv X pins σ H s) : ∀ b ∈ frs X.stack, b ∈ X.env.locals :: X.fs := fun b hb => by
  rcases I.ok.stk with e | ⟨e, hf⟩
  · rw [e] at hb; exact List.mem_cons_of_mem _ hb
  · rw [e] at hb
    unfold frs at hb
    rw [List.filterMap_cons, hf] at hb
    exact hb
theorem Inv.stkFree (I : Inv X pins σ H s) : ∀ b ∈ frs X.stack, H b = none := fun b hb => by
  rcases List.mem_cons.mp (I.stkSub b hb) with e | hb
  · rw [e]; exact I.free
  · obtain ⟨_, o, ho, _⟩ := I.ok.funs.mem hb
    exact I.base.free b o ho (I.ok.frf b hb) fun z => I.ok.exfs b z hb


theorem Inv.step {g' : Array GenState} {t' : Nat} {d' : Drawn} {ch : List Addr} (I : Inv X pins σ H s)
    (hch : ∀ b ∈ ch, (b ∈ X.ex ∨ X.s₀.heap.objs.size ≤ b) ∧ b ≠ X.env.locals ∧ (∀ x c, X.env.cells.lookup x = some c → c ≠ b) ∧ ∀ p ∈ X.pn ++ pins, p.1 ≠ b)
    (keep : ∀ b o, b ≠ X.env.locals → b ∉ X.fs → b ∉ ch → s.heap.get? b = some o → H b = none → h'.get? b = some o)
    (slot : ∀ b o, b ≠ X.env.locals → b ∈ X.fs → b ∉ ch → s.heap.get? b = some o → H b = none → ∃ sl, h'.get? b = some { o with slots := sl }) (free : ∀ b o, b ∉ ch → s.heap.get? b = some o → H b = none → H' b = none)
    (there : ∀ b o, b ∉ ch → s.heap.get? b = some o → ∃ o', h'.get? b = some o')
    (tups : ∀ b xs, H b = some (.tup xs) → H' b = some (.tup xs)) (frzs : ∀ b o u, H b = some (.frz o u) → H' b = some (.frz o u)) (tbls : ∀ b ps, H b = some (.tbl ps) → ∃ more, H' b = some (.tbl (ps ++ more)))
    (ns : ∀ m, s.heap.Ns X.env.locals m → h'.Ns X.env.locals m) (hok : HOk X.prog X.w H' h') (hg : AllBare g') :
    Inv X pins σ H' { s with heap := h', gens := g', drawn := d', toks := t' } := by
  have neL : ∀ b o, X.s₀.heap.get? b = some o → b ≠ X.env.locals := fun b o e => Nat.ne_of_lt (Nat.lt_of_lt_of_le (Heap.lt_size e) I.ok.above)
  have neC : ∀ b o, X.s₀.heap.get? b = some o → b ∉ X.ex → b ∉ ch := fun b o e hx hb => by
    rcases (hch b hb).1 with z | z
    · exact hx z
    · exact absurd (Nat.lt_of_lt_of_le (Heap.lt_size e) z) (Nat.lt_irrefl _)
  have cellK : ∀ x c, X.env.cells.lookup x = some c → ∀ v, s.heap.IsCell c v → h'.IsCell c v := fun x c e v ⟨o, ho, hd⟩ => by
    have nch : c ∉ ch := fun z => (hch c z).2.2.1 x c e rfl
    by_cases hc : c ∈ X.fs
    · obtain ⟨sl, q⟩ := slot c o (I.cne x c e) hc nch ho (I.freeC x c e)
      exact ⟨_, q, hd⟩
    · exact ⟨o, keep c o (I.cne x c e) hc nch ho (I.freeC x c e), hd⟩
  refine ⟨I.ok, I.os, hg, ⟨fun b o e n hb hx => ?_, fun b o e n hb hx => ?_, fun b o e n hx => ?_, fun b o e hx => ?_, fun b xs e => tups b xs (I.base.tups b xs e), fun b o xs e => frzs b o xs (I.base.frzs b o xs e), fun b ps e => ?_⟩, ?_, fun x c e => ?_, ?_, fun x c e => ?_, fun p hp => ?_, hok, I.len⟩
  · exact keep b o (neL b o e) hb (neC b o e hx) (I.base.keep b o e n hb hx) (I.base.free b o e n hx)
  · obtain ⟨sl, e1⟩ := I.base.slot b o e n hb hx
    obtain ⟨sl', e2⟩ := slot b _ (neL b o e) hb (neC b o e hx) e1 (I.base.free b o e n hx)
    exact ⟨sl', e2⟩
  · obtain ⟨o', e1⟩ := I.base.there b o e hx
    exact free b o' (neC b o e hx) e1 (I.base.free b o e n hx)
  · obtain ⟨o', e1⟩ := I.base.there b o e hx
    exact there b o' (neC b o e hx) e1
  · obtain ⟨m1, e1⟩ := I.base.tbls b ps e
    obtain ⟨m2, e2⟩ := tbls b _ e1
    exact ⟨m1 ++ m2, by rw [e2, Array.append_assoc]⟩
  · obtain ⟨m, hn, hl⟩ := I.loc
    refine ⟨m, ns m hn, fun i x v e1 e2 e3 => ?_⟩
    obtain ⟨u, r, l⟩ := hl i x v e1 e2 e3
    refine ⟨u, r, ?_⟩
    rcases l with l | ⟨k, c, e, z⟩
    · exact .inl l
    · exact .inr ⟨k, c, e, cellK x c e _ z⟩
  · obtain ⟨v, z⟩ := I.cell x c e
    exact ⟨v, cellK x c e v z⟩
  · obtain ⟨m, ⟨o, _, _, ho, _⟩, _⟩ := I.loc
    exact free _ o (fun z => (hch _ z).2.1 rfl) ho I.free
  · obtain ⟨v, o, ho, hd⟩ := I.cell x c e
    exact free c o (fun z => (hch c z).2.2.1 x c e rfl) ho (I.freeC x c e)
  · obtain ⟨e, n, ne, nf, d⟩ := I.pin p hp
    have nch : p.1 ∉ ch := fun z => (hch p.1 z).2.2.2 p hp rfl
    exact ⟨keep p.1 p.2 ne nf nch e n, free p.1 p.2 nch e n, ne, nf, d⟩

theorem Inv.un {t' : Nat} (I : Inv X pins σ H s) (u : Un X.fs [] H H' s.heap h') (hok : HOk X.prog X.w H' h') : Inv X pins σ H' { s with heap := h', toks := t' } := by
  obtain ⟨m, ⟨o, es, ep, ho, r⟩, _⟩ := id I.loc
  obtain ⟨sl, hL⟩ := u.any ho I.free (by simp)
  exact I.step (g' := s.gens) (d' := s.drawn) (ch := []) (fun _ z => nomatch z) (fun b o _ hb _ e n => u.keep b o e n hb (by simp)) (fun b o _ hb _ e n => u.slot b o e n hb (by simp)) (fun b o _ e n => u.free b o e n (by simp)) (fun b o _ e => u.there b o e (by simp)) u.tups u.frzs u.tbls (fun m' hm => by
    obtain ⟨o', es', ep', ho', r'⟩ := hm
    rw [ho] at ho'; cases ho'
    exact ⟨_, es', ep', hL, r'⟩) hok I.bare

theorem Inv.call {g' : Array GenState} {t' : Nat} {d' : Drawn} {ch : List Addr} (I : Inv X pins σ H s) (u : Un (frs X.stack) ch H H' s.heap h') (hok : HOk X.prog X.w H' h') (hg : AllBare g')
    (hch : ∀ b ∈ ch, (b ∈ X.ex ∨ X.s₀.heap.objs.size ≤ b) ∧ b ≠ X.env.locals ∧ (∀ x c, X.env.cells.lookup x = some c → c ≠ b) ∧ ∀ p ∈ X.pn ++ pins, p.1 ≠ b) :
    Inv X pins σ H' { s with heap := h', gens := g', drawn := d', toks := t' } := by
  obtain ⟨m, ⟨o, es, ep, ho, r⟩, _⟩ := id I.loc
  obtain ⟨sl, hL⟩ := u.any ho I.free fun z => (hch _ z).2.1 rfl
  exact I.step (ch := ch) hch (fun b o hL hb hc e n => u.keep b o e n (fun z => (List.mem_cons.mp (I.stkSub b z)).elim hL hb) hc) (fun b o _ _ hc e n => u.any e n hc) (fun b o hc e n => u.free b o e n hc) (fun b o hc e => u.there b o e hc) u.tups u.frzs u.tbls (fun m' hm => by
    obtain ⟨o', es', ep', ho', r'⟩ := hm
    rw [ho] at ho'; cases ho'
    exact ⟨_, es', ep', hL, r'⟩) hok hg

theorem Inv.turned {t' : Nat} {it : Addr} (I : Inv X pins σ H s) (k : ∀ b o, b ≠ it → s.heap.get? b = some o → h'.get? b = some o) (hn : H it = none) (hL : it ≠ X.env.locals)
    (h1 : it ∈ X.ex ∨ X.s₀.heap.objs.size ≤ it) (h2 : ∀ x c, X.env.cells.lookup x = some c → c ≠ it) (h3 : ∀ p ∈ X.pn ++ pins, p.1 ≠ it) : Inv X pins σ H { s with heap := h', toks := t' } := by
  have nit : ∀ b u, H b = some u → b ≠ it := fun b u e z => by rw [z, hn] at e; cases e
  refine I.step (g' := s.gens) (d' := s.drawn) (ch := [it]) (fun b hb => ?_) (fun b o _ _ hc e _ => k b o (fun z => hc (by simp [z])) e) (fun b o _ _ hc e _ => ⟨o.slots, k b o (fun z => hc (by simp [z])) e⟩) (fun _ _ _ _ n => n)
    (fun b o hc e => ⟨o, k b o (fun z => hc (by simp [z])) e⟩) (fun _ _ e => e) (fun _ _ _ e => e) (fun b ps e => ⟨#[], by rw [e]; simp⟩) (fun m hm => ?_) (fun b u e => ?_) I.bare
  · have e : b = it := by simpa using hb
    subst e
    exact ⟨h1, hL, h2, h3⟩
  · obtain ⟨o, es, ep, ho, r⟩ := hm
    exact ⟨o, es, ep, k _ o (Ne.symm hL) ho, r⟩
  · refine (I.hok b u e).stay (fun c v hc q => k c v ?_ q) (fun _ q => q) fun _ _ q => q
    rcases hc with z | z
    · rw [z]; exact nit b u e
    · exact nit c _ z
theorem Inv.tok (I : Inv X pins σ H s) (t : Nat) : Inv X pins σ H { s with toks := t } := I.un (h' := s.heap) (t' := t) Un.refl I.hok

theorem Inv.kept {t' : Nat} (I : Inv X pins σ H s) (k : ∀ b u, s.heap.get? b = some u → h'.get? b = some u) : Inv X pins σ H { s with heap := h', toks := t' } := I.un (Un.kept k) (I.hok.kept k)

theorem Inv.laid {a : Addr} {o : HO} {t' : Nat} (I : Inv X pins σ H s) (k : ∀ b u, s.heap.get? b = some u → h'.get? b = some u) (hp : s.heap.objs.size ≤ a) (new : ObjOk X.prog X.w (upd H a o) h' a o) :
    Inv X pins σ (upd H a o) { s with heap := h', toks := t' } := I.un (Un.laid k hp (I.hok.fresh hp)) (I.hok.laid k hp new)

theorem Inv.write {x e : Addr} {o : HO} {t' : Nat} (I : Inv X pins σ H s) (mu : Mut (H x)) (he : e = x ∨ H e = some (.own x)) (k : ∀ b u, b ≠ e → s.heap.get? b = some u → h'.get? b = some u) (heo : ∃ u, h'.get? e = some u)
    (new : ObjOk X.prog X.w (upd H x o) h' x o) : Inv X pins σ (upd H x o) { s with heap := h', toks := t' } := I.un (Un.write mu he k heo) (I.hok.write mu he k heo new)

theorem Inv.pins_of {pins' : List (Addr × Obj)} (I : Inv X pins σ H s) (h : ∀ p ∈ pins', s.heap.get? p.1 = some p.2 ∧ H p.1 = none ∧ p.1 ≠ X.env.locals ∧ p.1 ∉ X.fs ∧ ∀ v, p.2.data ≠ .cell v) : Inv X pins' σ H s :=
  ⟨I.ok, I.os, I.bare, I.base, I.loc, I.cell, I.free, I.freeC, fun p hp => (List.mem_append.mp hp).elim (fun z => I.pin p (List.mem_append_left _ z)) (h p), I.hok, I.len⟩

theorem nodup_ix {N : List Str} (hN : N.Nodup) {i j : Nat} {x : Str} (a : N[i]? = some x) (b : N[j]? = some x) : i = j := by
  obtain ⟨h1, e1⟩ := List.getElem?_eq_some_iff.mp a
  obtain ⟨h2, e2⟩ := List.getElem?_eq_some_iff.mp b
  exact (List.getElem_inj hN).mp (e1.trans e2.symm)


theorem store_ok2 {M : Model} {A : Around} {E : Value → Shared → Prop} {i : Nat} {x : Str} {v : V} {u : Value} {Q : Unit → Shared → Prop} (I : Inv X pins σ H s) (hN : X.N.Nodup) (hi : X.N[i]? = some x) (hx : Loc X.env.scope x) (r : RelV v u)
    (h : ∀ s', Inv X pins (σ.set i (some v)) H s' → (∃ a, Heap.SameBut a s.heap s'.heap ∧ (a = X.env.locals ∨ X.env.cells.lookup x = some a)) → Q () s') (hf : X.fn x = true ∨ X.env.scope.names.lookup x = some .local := by first | exact .inl rfl | exact .inr rfl | assumption) : wpAny M A (storeName X.env x u) Q E s := by
  obtain ⟨m, hn, hl⟩ := id I.loc
  have hcls : (X.env.scope.kind == .class || (X.env.scope.kind == .module && X.env.locals != X.env.globals)) = false := by rw [I.ok.kind]; rfl
  have hiσ : i < σ.length := by rw [I.len]; exact (List.getElem?_eq_some_iff.mp hi).1
  have cne := I.cne
  have tracked : ∀ {a : Addr} {h' : Heap}, (∃ o, s.heap.get? a = some o ∧ H a = none) → Heap.SameBut a s.heap h' → HOk X.prog X.w H h' := fun {a h'} ha hs b ob e => by
    obtain ⟨_, _, hfree⟩ := ha
    refine (I.hok b ob e).stay (fun c w' hc q => (hs.2 c ?_).trans q) (fun _ q => q) fun _ _ q => q
    rintro rfl
    rcases hc with rfl | hc
    · rw [hfree] at e; cases e
    · rw [hfree] at hc; cases hc
  rcases hx with hk | hk
  · refine wpAny_storeName_local hk hn (fun h' hn' hs => ?_) hcls
    obtain ⟨oL, _, _, hoL, _⟩ := id hn
    refine h _ ⟨I.ok, I.os, I.bare, ⟨fun b o e n hb hx => ?_, fun b o e n hb hx => ?_, I.base.free, fun b o e hx => ?_, I.base.tups, I.base.frzs, I.base.tbls⟩, ⟨_, hn', fun j y v' e1 e2 e3 => ?_⟩, fun y c e => ?_, I.free, I.freeC, fun p hp => ?_, tracked ⟨oL, hoL, I.free⟩ hs, by simpa using I.len⟩ ⟨_, hs, .inl rfl⟩
    · exact (hs.2 b (Nat.ne_of_lt (Nat.lt_of_lt_of_le (Heap.lt_size e) I.ok.above))).trans (I.base.keep b o e n hb hx)
    · obtain ⟨sl, e1⟩ := I.base.slot b o e n hb hx
      exact ⟨sl, (hs.2 b (Nat.ne_of_lt (Nat.lt_of_lt_of_le (Heap.lt_size e) I.ok.above))).trans e1⟩
    · obtain ⟨o', e1⟩ := I.base.there b o e hx
      exact ⟨o', (hs.2 b (Nat.ne_of_lt (Nat.lt_of_lt_of_le (Heap.lt_size e) I.ok.above))).trans e1⟩
    · by_cases hj : j = i
      · subst hj
        rw [hi] at e1; cases e1
        rw [List.getElem?_set_self hiσ] at e2
        cases e2
        exact ⟨u, r, .inl ⟨hk, by simp⟩⟩
      · rw [List.getElem?_set_ne (Ne.symm hj)] at e2
        obtain ⟨u', r', q⟩ := hl j y v' e1 e2 e3
        refine ⟨u', r', ?_⟩
        rcases q with ⟨k, e⟩ | ⟨k, c, e, z⟩
        · refine .inl ⟨k, ?_⟩
          have : y ≠ x := fun e => hj (nodup_ix hN e1 (e ▸ hi))
          simp [this, e]
        · exact .inr ⟨k, c, e, z.sameBut hs (cne y c e)⟩
    · obtain ⟨w', z⟩ := I.cell y c e
      exact ⟨w', z.sameBut hs (cne y c e)⟩
    · obtain ⟨e, n, ne, nf, d⟩ := I.pin p hp
      exact ⟨(hs.2 p.1 ne).trans e, n, ne, nf, d⟩
  · have hfn : X.fn x = true := by
      rcases hf with z | z
      · exact z
      · rw [z] at hk; cases hk
    obtain ⟨c, hc⟩ := I.ok.has x (.inl hk)
    obtain ⟨w', z⟩ := I.cell x c hc
    refine wpAny_storeName_cell I.ok.kind hk hc z (fun h' hc' hs => ?_)
    obtain ⟨oc, hoc, hocd⟩ := id z
    refine h { s with heap := h' } ⟨I.ok, I.os, I.bare, ⟨fun b o e n hb hx => ?_, fun b o e n hb hx => ?_, I.base.free, fun b o e hx => ?_, I.base.tups, I.base.frzs, I.base.tbls⟩, ⟨m, hn.sameBut hs (Ne.symm (cne x c hc)), fun j y v' e1 e2 e3 => ?_⟩, fun y c' e => ?_, I.free, I.freeC, fun p hp => ?_, tracked ⟨oc, hoc, I.freeC x c hc⟩ hs, by simpa using I.len⟩ ⟨c, hs, .inr hc⟩
    · exact (hs.2 b (Nat.ne_of_lt (Nat.lt_of_lt_of_le (Heap.lt_size e) (I.ok.cab x c hfn hc)))).trans (I.base.keep b o e n hb hx)
    · obtain ⟨sl, e1⟩ := I.base.slot b o e n hb hx
      exact ⟨sl, (hs.2 b (Nat.ne_of_lt (Nat.lt_of_lt_of_le (Heap.lt_size e) (I.ok.cab x c hfn hc)))).trans e1⟩
    · obtain ⟨o', e1⟩ := I.base.there b o e hx
      exact ⟨o', (hs.2 b (Nat.ne_of_lt (Nat.lt_of_lt_of_le (Heap.lt_size e) (I.ok.cab x c hfn hc)))).trans e1⟩
    · by_cases hj : j = i
      · subst hj
        rw [hi] at e1; cases e1
        rw [List.getElem?_set_self hiσ] at e2
        cases e2
        exact ⟨u, r, .inr ⟨.inl hk, c, hc, hc'⟩⟩
      · rw [List.getElem?_set_ne (Ne.symm hj)] at e2
        obtain ⟨u', r', q⟩ := hl j y v' e1 e2 e3
        refine ⟨u', r', ?_⟩
        rcases q with q | ⟨k, c', e, z'⟩
        · exact .inl q
        · refine .inr ⟨k, c', e, z'.sameBut hs ?_⟩
          rintro rfl
          exact hj (nodup_ix hN e1 (I.ok.inj _ _ _ e hc ▸ hi))
    · by_cases hcc : c' = c
      · subst hcc; exact ⟨_, hc'⟩
      · obtain ⟨w2, z2⟩ := I.cell y c' e
        exact ⟨w2, z2.sameBut hs hcc⟩
    · obtain ⟨e, n, ne, nf, d⟩ := I.pin p hp
      refine ⟨(hs.2 p.1 ?_).trans e, n, ne, nf, d⟩
      intro q
      rw [q, hoc] at e
      have q' : oc = p.2 := Option.some.inj e
      exact d w' (by rw [← q']; exact hocd)
theorem store_ok {M : Model} {A : Around} {E : Value → Shared → Prop} {i : Nat} {x : Str} {v : V} {u : Value} {Q : Unit → Shared → Prop} (I : Inv X pins σ H s) (hN : X.N.Nodup) (hi : X.N[i]? = some x) (hx : Loc X.env.scope x) (r : RelV v u)
    (h : ∀ s', Inv X pins (σ.set i (some v)) H s' → Q () s') (hf : X.fn x = true ∨ X.env.scope.names.lookup x = some .local := by first | exact .inl rfl | exact .inr rfl | assumption) : wpAny M A (storeName X.env x u) Q E s :=
  store_ok2 I hN hi hx r (fun s' I' _ => h s' I') hf

theorem Inv.call' {s' : Shared} {ch : List Addr} (I : Inv X pins σ H s) (ho : s'.os = s.os) (u : Un (frs X.stack) ch H H' s.heap s'.heap) (hok : HOk X.prog X.w H' s'.heap) (hg : AllBare s'.gens)
    (hch : ∀ b ∈ ch, (b ∈ X.ex ∨ X.s₀.heap.objs.size ≤ b) ∧ b ≠ X.env.locals ∧ (∀ x c, X.env.cells.lookup x = some c → c ≠ b) ∧ ∀ p ∈ X.pn ++ pins, p.1 ≠ b) : Inv X pins σ H' s' := by
  obtain ⟨h', g', d', t', o'⟩ := s'
  have e : o' = s.os := ho
  subst e
  exact I.call (g' := g') (t' := t') (d' := d') u hok hg hch
end



abbrev XK := Value → Option Addr → Hp → Prop
abbrev St := List (Option V)
abbrev VK := V → Hp → Prop

abbrev TE := St → Hp → VK → Prop
abbrev TT := St → Hp → (Bool → Hp → Prop) → Prop
abbrev TA := St → Hp → (List V → Hp → Prop) → Prop

structure Ends where
  nx : St → Hp → Prop
  rt : VK
  bk : St → Hp → Prop := fun _ _ => False
  ct : St → Hp → Prop := fun _ _ => False
abbrev TS := Ends → St → Hp → Prop

def EP (X : Cx) (pins : List (Addr × Obj)) (σ : St) (Q : VK) (u : Value) (s' : Shared) : Prop := ∃ v H', Inv X pins σ H' s' ∧ RelV v u ∧ Q v H'
def TP (X : Cx) (pins : List (Addr × Obj)) (σ : St) (Q : Bool → Hp → Prop) (b : Bool) (s' : Shared) : Prop := ∃ H', Inv X pins σ H' s' ∧ Q b H'
def AP (X : Cx) (pins : List (Addr × Obj)) (σ : St) (Q : List V → Hp → Prop) (us : List Value) (s' : Shared) : Prop := ∃ vs H', Inv X pins σ H' s' ∧ Vals vs us ∧ Q vs H'
def SP (X : Cx) (pins : List (Addr × Obj)) (D : Ends) (f : Flow) (s' : Shared) : Prop :=
  match f with
  | .next => ∃ σ' H', Inv X pins σ' H' s' ∧ D.nx σ' H'
  | .brk => ∃ σ' H', Inv X pins σ' H' s' ∧ D.bk σ' H'
  | .cont => ∃ σ' H', Inv X pins σ' H' s' ∧ D.ct σ' H'
  | .ret u => ∃ v σ' H', Inv X pins σ' H' s' ∧ RelV v u ∧ D.rt v H'

def PE (X : Cx) (e : Expr) (t : TE) : Prop :=
  ∀ (pins : List (Addr × Obj)) (s : Shared) (σ : St) (H : Hp) (Q : VK), Inv X pins σ H s → t σ H Q → wpAny (model X.prog X.w) X.A (eval e X.env) (EP X pins σ Q) X.xe s
def PT (X : Cx) (e : Expr) (t : TT) : Prop :=
  ∀ (pins : List (Addr × Obj)) (s : Shared) (σ : St) (H : Hp) (Q : Bool → Hp → Prop), Inv X pins σ H s → t σ H Q → wpAny (model X.prog X.w) X.A (isTrue e X.env (eval e X.env)) (TP X pins σ Q) X.xe s

def PW (X : Cx) (e : Expr) (t : TT) : Prop :=
  ∀ (whole : Sem Value) (pins : List (Addr × Obj)) (s : Shared) (σ : St) (H : Hp) (Q : Bool → Hp → Prop), Inv X pins σ H s → t σ H Q → wpAny (model X.prog X.w) X.A (isTrue e X.env whole) (TP X pins σ Q) X.xe s
theorem PW.pt {X : Cx} {e : Expr} {t : TT} (h : PW X e t) : PT X e t := h _

def PA (X : Cx) (es : List Expr) (t : TA) : Prop :=
  ∀ (pos : Pos) (pins : List (Addr × Obj)) (s : Shared) (σ : St) (H : Hp) (Q : List V → Hp → Prop), Inv X pins σ H s → t σ H Q → wpAny (model X.prog X.w) X.A (spliced (backTo pos (starEach es X.env))) (AP X pins σ Q) X.xe s
def PS (X : Cx) (st : Stmt) (t : TS) : Prop :=
  ∀ (pins : List (Addr × Obj)) (s : Shared) (σ : St) (H : Hp) (D : Ends), Inv X pins σ H s → t D σ H → wpAny (model X.prog X.w) X.A (exec st X.env) (SP X pins D) X.xe s
def PSs (X : Cx) (st : List Stmt) (t : TS) : Prop :=
  ∀ (pins : List (Addr × Obj)) (s : Shared) (σ : St) (H : Hp) (D : Ends), Inv X pins σ H s → t D σ H → wpAny (model X.prog X.w) X.A (execs st X.env) (SP X pins D) X.xe s

theorem thn {α : Type} {t : Sem α} {Q Q' : α → Shared → Prop} {M : Model} {A : Around} {E : Value → Shared → Prop} {s : Shared} (h : wpAny M A t Q E s) (hQ : ∀ a s, Q a s → Q' a s) : wpAny M A t Q' E s := wpAny_mono h hQ fun _ _ x => x
end L2

namespace L2
open PySem PySem.Spec PyProof.Rows
section
variable {X : Cx}


def tVar (i : Nat) : TE := fun σ H Q => ∃ v, σ[i]? = some (some v) ∧ Q v H
def tC (v : V) : TE := fun _ H Q => Q v H
theorem pe_var {i : Nat} {x : Str} {pos : Pos} (hN : X.N[i]? = some x) (hv : Vis X.env.scope x) (hd : (x == ("__debug__" : Str)) = false := by decide) (hcd : (x == ("__classdict__" : Str)) = false := by decide) : PE X (.Name x pos) (tVar i) := by
  intro pins s σ H Q I h
  obtain ⟨v, e, h⟩ := h
  obtain ⟨m, hn, hl⟩ := I.loc
  obtain ⟨u, r, l⟩ := hl i x v hN e hv
  have fin : EP X pins σ Q u s := ⟨v, H, I, r, h⟩
  rcases l with ⟨hk, hm⟩ | ⟨hk, c, hc, hcell⟩
  · exact wpAny_Name (wpAny_loadName_local I.ok.kind hk hn hm fin) hd
  · rcases hk with hk | hk
    · exact wpAny_Name (wpAny_loadName_cell I.ok.kind hk hc hcell fin) hd
    · exact wpAny_Name (wpAny_loadName_free I.ok.kind hk hc hcell fin hcd) hd
theorem pe_int {i j pos} : PE X (.Constant (.int i) j pos) (tC (.int i)) := fun _ _ _ H _ I h => wpAny_Constant_int ⟨.int i, H, I.tok _, ⟨_, rfl⟩, h⟩
theorem pe_bl {b j pos} : PE X (.Constant (.bool b) j pos) (tC (.bl b)) := fun _ _ _ H _ I h => Constant_bool ⟨.bl b, H, I, rfl, h⟩
theorem pe_non {j pos} : PE X (.Constant .none j pos) (tC .non) := fun _ _ _ H _ I h => Constant_none ⟨.non, H, I, rfl, h⟩
theorem pe_str {x j pos} : PE X (.Constant (.str x) j pos) (tC (.str x)) := fun _ _ _ H _ I h => Calls.Constant_str ⟨.str x, H, I.tok _, ⟨_, rfl⟩, h⟩


def Gl (X : Cx) (x : Str) : Prop := X.env.kindOf x = some .globalImplicit
theorem ld_glob {E : Value → Shared → Prop} {pins : List (Addr × Obj)} {s : Shared} {σ : St} {H : Hp} {x : Str} {u : Value} {pos : Pos} {Q : Value → Shared → Prop} (I : Inv X pins σ H s) (hg : Gl X x) (hm : X.mg x = some u) (h : Q u s)
    (hd : (x == ("__debug__" : Str)) = false := by decide) : wpAny (model X.prog X.w) X.A (eval (.Name x pos) X.env) Q E s :=
  Calls.Name_function_global I.ok.kind hg (Calls.loadGlobal_global (by rw [I.ok.glob]; exact I.mod.glob.keeps I.bk) hm h) hd
theorem ld_blt {E : Value → Shared → Prop} {pins : List (Addr × Obj)} {s : Shared} {σ : St} {H : Hp} {x : Str} {u : Value} {pos : Pos} {Q : Value → Shared → Prop} (I : Inv X pins σ H s) (hg : Gl X x) (hm : X.mg x = none) (hv : bootBuiltins x = some u) (h : Q u s)
    (hn : x ≠ "__name__" := by decide) (hd : (x == ("__debug__" : Str)) = false := by decide) : wpAny (model X.prog X.w) X.A (eval (.Name x pos) X.env) Q E s := by
  obtain ⟨mb, h1, h2⟩ := I.mod.blt
  exact Calls.Name_function_global I.ok.kind hg (Calls.loadGlobal_builtin (by rw [I.ok.glob]; exact I.mod.glob.keeps I.bk) hm (by rw [I.ok.blt]; exact h1.keeps I.bk) ((h2 x hn).trans hv) h) hd

theorem pe_glob {x : Str} {v : V} {u : Value} {pos : Pos} (hg : Gl X x) (hm : X.mg x = some u) (r : RelV v u) (hd : (x == ("__debug__" : Str)) = false := by decide) : PE X (.Name x pos) (tC v) :=
  fun _ _ _ H _ I h => ld_glob I hg hm ⟨v, H, I, r, h⟩ hd
theorem pe_bltn {x : Str} {v : V} {u : Value} {pos : Pos} (hg : Gl X x) (hm : X.mg x = none) (hv : bootBuiltins x = some u) (r : RelV v u) (hn : x ≠ "__name__" := by decide) (hd : (x == ("__debug__" : Str)) = false := by decide) : PE X (.Name x pos) (tC v) :=
  fun _ _ _ H _ I h => ld_blt I hg hm hv ⟨v, H, I, r, h⟩ hn hd



variable {a b : Expr} {ta tb : TE} {pos : Pos}
def tB (t : TE) : TT := fun σ H Q => t σ H fun x H1 => ∃ c, x = .bl c ∧ Q c H1
theorem pt_val {e : Expr} {t : TE} (h : PE X e t) (he : ∀ whole, isTrue e X.env whole = (do let v ← whole; standAt e.pos; holding [v] (truthy v)) := by intro _; rfl) : PT X e (tB t) := by
  intro pins s σ H Q I hw
  refine isTrue_plain (thn (h pins s σ H _ I hw) fun v s1 ⟨x, H1, I1, r1, q1⟩ => ?_) (he _)
  obtain ⟨d, rfl, q⟩ := q1
  cases r1
  exact wpAny_truthy_bool ⟨H1, I1, q⟩


variable {tA tB' : TT} {rest : List Expr}
def tAnd (t u : TT) : TT := fun σ H Q => t σ H fun c H1 => if c = true then u σ H1 Q else Q false H1
def tOr (t u : TT) : TT := fun σ H Q => t σ H fun c H1 => if c = true then Q true H1 else u σ H1 Q
def tNot (t : TT) : TT := fun σ H Q => t σ H fun c H1 => Q (!c) H1
theorem pw_and1 (ha : PT X a tA) : PW X (.BoolOp .And [a] pos) tA := by
  intro wh pins s σ H Q I h
  refine isTrue_and (thn (ha pins s σ H Q I h) fun c s1 e => ?_)
  cases c with
  | true => exact isTrue_and_nil e
  | false => exact e
theorem pw_or1 (ha : PT X a tA) : PW X (.BoolOp .Or [a] pos) tA := by
  intro wh pins s σ H Q I h
  refine isTrue_or (thn (ha pins s σ H Q I h) fun c s1 e => ?_)
  cases c with
  | false => exact isTrue_or_nil e
  | true => exact e
theorem pw_and (ha : PT X a tA) (hb : PW X (.BoolOp .And (b :: rest) pos) tB') : PW X (.BoolOp .And (a :: b :: rest) pos) (tAnd tA tB') := by
  intro wh pins s σ H Q I h
  refine isTrue_and (thn (ha pins s σ H _ I h) fun c s1 ⟨H1, I1, q1⟩ => ?_)
  cases c with
  | true => exact hb wh pins s1 σ H1 Q I1 q1
  | false => exact ⟨H1, I1, q1⟩
theorem pw_or (ha : PT X a tA) (hb : PW X (.BoolOp .Or (b :: rest) pos) tB') : PW X (.BoolOp .Or (a :: b :: rest) pos) (tOr tA tB') := by
  intro wh pins s σ H Q I h
  refine isTrue_or (thn (ha pins s σ H _ I h) fun c s1 ⟨H1, I1, q1⟩ => ?_)
  cases c with
  | true => exact ⟨H1, I1, q1⟩
  | false => exact hb wh pins s1 σ H1 Q I1 q1
theorem pt_not (ha : PT X a tA) : PT X (.UnaryOp .Not a pos) (tNot tA) := by
  intro pins s σ H Q I h
  exact isTrue_not (ha pins s σ H (fun c H1 => Q (!c) H1) I h)

def tAndV (ta tb : TE) : TE := fun σ H Q => ta σ H fun x H1 => ∃ c, x = .bl c ∧ if c = true then tb σ H1 Q else Q (.bl false) H1
def tOrV (ta tb : TE) : TE := fun σ H Q => ta σ H fun x H1 => ∃ c, x = .bl c ∧ if c = true then Q (.bl true) H1 else tb σ H1 Q
def tNotV (ta : TE) : TE := fun σ H Q => ta σ H fun x H1 => ∃ c, x = .bl c ∧ Q (.bl (!c)) H1
theorem pe_one {op} {t : TE} (h : PE X a t) : PE X (.BoolOp op [a] pos) t := fun pins s σ H Q I hw => BoolOp_one (h pins s σ H Q I hw)
theorem pe_and (ha : PE X a ta) (hb : PE X (.BoolOp .And (b :: rest) pos) tb) : PE X (.BoolOp .And (a :: b :: rest) pos) (tAndV ta tb) := by
  intro pins s σ H Q I h
  refine BoolOp_and (thn (ha pins s σ H _ I h) fun v s1 ⟨x, H1, I1, r1, q1⟩ => ?_)
  obtain ⟨c, rfl, q1⟩ := q1
  cases r1
  refine wpAny_truthy_bool ?_
  cases c with
  | true => exact hb pins s1 σ H1 Q I1 q1
  | false => exact ⟨.bl false, H1, I1, rfl, q1⟩
theorem pe_or (ha : PE X a ta) (hb : PE X (.BoolOp .Or (b :: rest) pos) tb) : PE X (.BoolOp .Or (a :: b :: rest) pos) (tOrV ta tb) := by
  intro pins s σ H Q I h
  refine BoolOp_or (thn (ha pins s σ H _ I h) fun v s1 ⟨x, H1, I1, r1, q1⟩ => ?_)
  obtain ⟨c, rfl, q1⟩ := q1
  cases r1
  refine wpAny_truthy_bool ?_
  cases c with
  | false => exact hb pins s1 σ H1 Q I1 q1
  | true => exact ⟨.bl true, H1, I1, rfl, q1⟩
theorem pe_not (ha : PE X a ta) : PE X (.UnaryOp .Not a pos) (tNotV ta) := by
  intro pins s σ H Q I h
  refine UnaryOp_ (thn (ha pins s σ H _ I h) fun v s1 ⟨x, H1, I1, r1, q1⟩ => ?_)
  obtain ⟨c, rfl, q1⟩ := q1
  cases r1
  exact not_of (wpAny_truthy_bool ⟨.bl (!c), H1, I1, rfl, q1⟩)

end
end L2

namespace L2
open PySem PySem.Spec PyProof.Rows


def SqL (K : PySem.W.Frag) (H : Hp) (a : Addr) (xs : List V) : Prop :=
  Rd H a (.lst xs) ∨
    ∃ (o : Obj) (its : Array Value) (n : Nat), K.lookup a = some o ∧ o.cls = .type "list" ∧ o.dict = none ∧ o.data = .seq its n ∧ its.size ≤ sizeLine ∧ Vals xs its.toList
def SqT (K : PySem.W.Frag) (H : Hp) (a : Addr) (xs : List V) : Prop :=
  Rd H a (.tup xs) ∨
    ∃ (o : Obj) (its : Array Value) (n : Nat), K.lookup a = some o ∧ o.cls = .type "tuple" ∧ o.data = .seq its n ∧ its.size ≤ sizeLine ∧ Vals xs its.toList
def absV : Value → Option V
  | .none => some .non
  | .bool b => some (.bl b)
  | .int i _ => some (.int i)
  | .str x _ => some (.str x)
  | .bytes b _ => some (.byt b)
  | .float b _ => some (.flt b)
  | .ref a => some (.ref a)
  | .type n => some (.ty n)
  | _ => none
theorem RelV.abs {x : V} {u : Value} (r : RelV x u) : absV u = some x := by
  cases x with
  | non => cases r; rfl
  | bl _ => cases r; rfl
  | int _ => obtain ⟨t, rfl⟩ := r; rfl
  | str _ => obtain ⟨t, rfl⟩ := r; rfl
  | byt _ => obtain ⟨t, rfl⟩ := r; rfl
  | flt _ => obtain ⟨t, rfl⟩ := r; rfl
  | ref _ => cases r; rfl
  | ty _ => cases r; rfl
theorem RelV.inj {x y : V} {u : Value} (r : RelV x u) (q : RelV y u) : x = y := Option.some.inj (r.abs.symm.trans q.abs)
theorem Vals.inj : ∀ {xs ys : List V} {us : List Value}, Vals xs us → Vals ys us → xs = ys
  | _, _, _, .nil, .nil => rfl
  | _, _, _, .cons r t, .cons r' t' => by rw [r.inj r', Vals.inj t t']
section
variable {X : Cx} {pins : List (Addr × Obj)} {σ : St} {H : Hp} {s : Shared} {a : Addr} {xs ys : List V}
theorem SqL.of {K : PySem.W.Frag} (h : H a = some (.lst xs)) : SqL K H a xs := .inl (.inl h)
theorem SqT.of {K : PySem.W.Frag} (h : H a = some (.tup xs)) : SqT K H a xs := .inl (.inl h)
theorem Inv.list (I : Inv X pins σ H s) (h : SqL X.K H a xs) : ∃ its : List Value, Vals xs its ∧ PlainL s.heap a its.toArray ∧ xs.length ≤ sizeLine := by
  rcases h with h | ⟨o, its, n, hk, hc, hd, hs, hz, r⟩
  · obtain ⟨z, its, n, r, e⟩ := h.ok I.hok
    exact ⟨its, r, ⟨_, n, e, rfl, rfl, rfl⟩, z⟩
  · refine ⟨its.toList, r, ⟨o, n, I.kIn a o hk, hc, hd, by simpa using hs⟩, ?_⟩
    have e := r.length
    simp only [Array.length_toList] at e
    omega
theorem Inv.tuple (I : Inv X pins σ H s) (h : SqT X.K H a xs) : ∃ its : List Value, Vals xs its ∧ IsTup s.heap a its.toArray ∧ xs.length ≤ sizeLine := by
  rcases h with h | ⟨o, its, n, hk, hc, hs, hz, r⟩
  · obtain ⟨z, its, r, p⟩ := h.ok I.hok
    exact ⟨its, r, p, z⟩
  · refine ⟨its.toList, r, ⟨o, I.kIn a o hk, hc, n, by simpa using hs⟩, ?_⟩
    have e := r.length
    simp only [Array.length_toList] at e
    omega
theorem Inv.list_inj (I : Inv X pins σ H s) (h : SqL X.K H a xs) (h' : SqL X.K H a ys) : xs = ys := by
  obtain ⟨its, r, ⟨o, n, e, _, _, d⟩, _⟩ := I.list h
  obtain ⟨its', r', ⟨o', n', e', _, _, d'⟩, _⟩ := I.list h'
  rw [e] at e'; cases e'
  rw [d] at d'
  injection d' with d1 _
  have : its = its' := by simpa using congrArg Array.toList d1
  subst this
  exact r.inj r'
theorem Inv.tuple_inj (I : Inv X pins σ H s) (h : SqT X.K H a xs) (h' : SqT X.K H a ys) : xs = ys := by
  obtain ⟨its, r, ⟨o, e, _, n, d⟩, _⟩ := I.tuple h
  obtain ⟨its', r', ⟨o', e', _, n', d'⟩, _⟩ := I.tuple h'
  rw [e] at e'; cases e'
  rw [d] at d'
  injection d' with d1 _
  have : its = its' := by simpa using congrArg Array.toList d1
  subst this
  exact r.inj r'
end


abbrev Cx.wish (X : Cx) (E : Value → Shared → Prop) : Cx := { X with xe := E }

abbrev Cx.nox (X : Cx) : Cx := X.wish fun _ _ => False
theorem Cx.Ok.wish {X : Cx} (ok : X.Ok) (E : Value → Shared → Prop) : (X.wish E).Ok :=
  ⟨ok.mod, ok.kind, ok.glob, ok.blt, ok.above, ok.inj, ok.has, ok.cab, ok.hd, ok.frames, ok.stk, ok.exf, ok.bs, ok.bsz, ok.noex, ok.exfs, ok.funs, ok.frf⟩
theorem Cx.Ok.unwish {X : Cx} {E : Value → Shared → Prop} (ok : (X.wish E).Ok) : X.Ok :=
  ⟨ok.mod, ok.kind, ok.glob, ok.blt, ok.above, ok.inj, ok.has, ok.cab, ok.hd, ok.frames, ok.stk, ok.exf, ok.bs, ok.bsz, ok.noex, ok.exfs, ok.funs, ok.frf⟩
section
variable {X : Cx} {pins : List (Addr × Obj)} {σ : St} {H : Hp} {s : Shared} {E : Value → Shared → Prop}
theorem Inv.wish (I : Inv X pins σ H s) (E : Value → Shared → Prop) : Inv (X.wish E) pins σ H s := ⟨I.ok.wish E, I.os, I.bare, I.base, I.loc, I.cell, I.free, I.freeC, I.pin, I.hok, I.len⟩
theorem Inv.unwish (I : Inv (X.wish E) pins σ H s) : Inv X pins σ H s := ⟨I.ok.unwish, I.os, I.bare, I.base, I.loc, I.cell, I.free, I.freeC, I.pin, I.hok, I.len⟩
theorem SP.unwish {D : Ends} {f : Flow} {s' : Shared} (h : SP (X.wish E) pins D f s') : SP X pins D f s' := by
  cases f with
  | next => obtain ⟨σ', H', I, q⟩ := h; exact ⟨σ', H', I.unwish, q⟩
  | brk => obtain ⟨σ', H', I, q⟩ := h; exact ⟨σ', H', I.unwish, q⟩
  | cont => obtain ⟨σ', H', I, q⟩ := h; exact ⟨σ', H', I.unwish, q⟩
  | ret u => obtain ⟨v, σ', H', I, r, q⟩ := h; exact ⟨v, σ', H', I.unwish, r, q⟩
theorem PSs.nox {st : List Stmt} {t : TS} (h : PSs X.nox st t) : PSs X st t := fun pins s σ H D I hw =>
  wpAny_mono (h pins s σ H D (I.wish _) hw) (fun _ _ q => q.unwish) fun _ _ z => False.elim z
end


section
variable {X : Cx} {st : Stmt} {rest : List Stmt} {t u : TS} {e : Expr} {te : TE} {pos : Pos}
def tNext : TS := fun D σ H => D.nx σ H
def tSeq (t u : TS) : TS := fun D σ H => t { D with nx := u D } σ H
theorem pss_nil : PSs X [] tNext := fun _ _ σ H _ I h => wpAny_execs_nil ⟨σ, H, I, h⟩
theorem pss_cons (h1 : PS X st t) (h2 : PSs X rest u) : PSs X (st :: rest) (tSeq t u) := by
  intro pins s σ H D I h
  refine wpAny_execs_cons (thn (h1 pins s σ H { D with nx := u D } I h) fun f s1 q => ?_)
  cases f with
  | next =>
    obtain ⟨σ', H', I', q⟩ := q
    exact h2 pins s1 σ' H' D I' q
  | ret v => exact q
  | brk => exact q
  | cont => exact q
theorem pss_one (h1 : PS X st t) : PSs X [st] t := by
  intro pins s σ H D I h
  refine wpAny_execs_cons (thn (h1 pins s σ H D I h) fun f s1 q => ?_)
  cases f with
  | next => exact wpAny_execs_nil q
  | ret v => exact q
  | brk => exact q
  | cont => exact q
theorem Inv.quiet {pins : List (Addr × Obj)} {σ : St} {H : Hp} {s : Shared} (I : Inv X pins σ H s) : interactive X.env = false := by simp [interactive, I.ok.kind]

def tDrop (te : TE) : TS := fun D σ H => te σ H fun _ H1 => D.nx σ H1
theorem ps_expr (he : PE X e te) (hs : swapsWith e none pos.line X.env = pure false := by rfl) : PS X (.Expr e pos) (tDrop te) := by
  intro pins s σ H D I h
  exact wpAny_Expr_any (thn (he pins s σ H _ I h) fun v s1 ⟨x, H1, I1, r1, q1⟩ => ⟨σ, H1, I1, q1⟩) I.quiet hs
def tRet (te : TE) : TS := fun D σ H => te σ H D.rt
theorem ps_ret (he : PE X e te) : PS X (.Return (some e) pos) (tRet te) := by
  intro pins s σ H D I h
  exact wpAny_Return_some (thn (he pins s σ H _ I h) fun v s1 ⟨x, H1, I1, r1, q1⟩ => ⟨x, σ, H1, I1, r1, q1⟩)
def tIfS (c : TT) (t u : TS) : TS := fun D σ H => c σ H fun b H1 => if b = true then t D σ H1 else u D σ H1
theorem ps_if {c : Expr} {a b : List Stmt} {tc : TT} (hc : PT X c tc) (ha : PSs X a t) (hb : PSs X b u) : PS X (.If c a b pos) (tIfS tc t u) := by
  intro pins s σ H D I h
  refine wpAny_If (thn (hc pins s σ H _ I h) fun d s1 ⟨H1, I1, q1⟩ => ?_)
  cases d with
  | true => exact ha pins s1 σ H1 D I1 q1
  | false => exact hb pins s1 σ H1 D I1 q1

def tNever : TS := fun _ _ _ => False
theorem pss_never {sts : List Stmt} : PSs X sts tNever := fun _ _ _ _ _ _ h => h.elim
end


abbrev TG := V → St → Hp → (St → Hp → Prop) → Prop
def PG (X : Cx) (target : Expr) (t : TG) : Prop :=
  ∀ (pins : List (Addr × Obj)) (s : Shared) (σ : St) (H : Hp) (v : V) (u : Value) (Q : St → Hp → Prop), Inv X pins σ H s → RelV v u → t v σ H Q →
    wpAny (model X.prog X.w) X.A (assign target X.env u) (fun _ s' => ∃ σ' H', Inv X pins σ' H' s' ∧ Q σ' H') X.xe s

abbrev TSet := V → V → V → Hp → (Hp → Prop) → Prop
def PSet (X : Cx) (t : TSet) : Prop :=
  ∀ (pins : List (Addr × Obj)) (s : Shared) (σ : St) (H : Hp) (o i v : V) (ov iv u : Value) (Q : Hp → Prop), Inv X pins σ H s → RelV o ov → RelV i iv → RelV v u → t o i v H Q →
    wpAny (model X.prog X.w) X.A (setItem ov iv u) (fun _ s' => ∃ H', Inv X pins σ H' s' ∧ Q H') X.xe s

section
variable {X : Cx} {pos : Pos}
def gName (i : Nat) : TG := fun v σ H Q => Q (σ.set i (some v)) H
theorem pg_name {i : Nat} {x : Str} (hN : X.N.Nodup) (hi : X.N[i]? = some x) (hx : Loc X.env.scope x) (hf : X.fn x = true ∨ X.env.scope.names.lookup x = some .local := by first | exact .inl rfl | exact .inr rfl | assumption) : PG X (.Name x pos) (gName i) := by
  intro pins s σ H v u Q I r h
  exact wpAny_assign_Name (store_ok I hN hi hx r (fun s' I' => ⟨_, H, I', h⟩) hf)
def gSub (to ti : TE) (t : TSet) : TG := fun v σ H Q => to σ H fun o H1 => ti σ H1 fun i H2 => t o i v H2 fun H3 => Q σ H3
theorem pg_sub {o i : Expr} {to ti : TE} {t : TSet} (ho : PE X o to) (hi : PE X i ti) (hs : PSet X t)
    (ha : ∀ v, assign (.Subscript o i pos) X.env v = (do
      let ov ← holding [v] (eval o X.env)
      let iv ← holding [v, ov] (eval i X.env)
      standAt pos
      holding [v, ov, iv] (setItem ov iv v)
      release [v, ov, iv] []) := by intro _; rfl) : PG X (.Subscript o i pos) (gSub to ti t) := by
  intro pins s σ H v u Q I r h
  rw [ha]
  refine wpAny_bind (wpAny_holding (thn (ho pins s σ H _ I h) fun ov s1 ⟨x, H1, I1, r1, q1⟩ => ?_))
  refine wpAny_bind (wpAny_holding (thn (hi pins s1 σ H1 _ I1 q1) fun iv s2 ⟨y, H2, I2, r2, q2⟩ => ?_))
  refine wpAny_bind (wpAny_standAt (wpAny_bind (wpAny_holding (thn (hs pins s2 σ H2 x y v ov iv u _ I2 r1 r2 r q2) fun _ s3 ⟨H3, I3, q3⟩ => ?_))))
  exact wpAny_release ⟨σ, H3, I3, q3⟩

def tAsg (te : TE) (g : TG) : TS := fun D σ H => te σ H fun x H1 => g x σ H1 D.nx
theorem ps_asg {tg e : Expr} {te : TE} {g : TG} (he : PE X e te) (hg : PG X tg g) (hs : swapsWithSole [tg] e pos.line X.env = pure false := by rfl) (hw : swappedStores [tg] e X.env = pure none := by rfl)
    (h1 : (assignEach [tg] X.env).map (·.2) = [assign tg X.env] := by rfl) : PS X (.Assign [tg] e pos) (tAsg te g) := by
  intro pins s σ H D I h
  refine wpAny_Assign_stores (thn (he pins s σ H _ I h) fun v s1 ⟨x, H1, I1, r1, q1⟩ => ?_) hs hw
  rw [h1]
  exact thn (hg pins s1 σ H1 x v _ I1 r1 q1) fun _ s2 q => q

theorem ps_set {i : Nat} {x : Str} {e : Expr} {te : TE} {pos' : Pos} (hN : X.N.Nodup) (hi : X.N[i]? = some x) (hx : Loc X.env.scope x) (he : PE X e te) (hs : swapsWith e (some (.Name x pos')) pos.line X.env = pure false := by rfl) (hf : X.fn x = true ∨ X.env.scope.names.lookup x = some .local := by first | exact .inl rfl | exact .inr rfl | assumption) :
    PS X (.Assign [.Name x pos'] e pos) (tAsg te (gName i)) := by
  intro pins s σ H D I h
  refine wpAny_Assign_Name (thn (he pins s σ H _ I h) fun v s1 ⟨y, H1, I1, r1, q1⟩ => ?_) hs
  exact store_ok I1 hN hi hx r1 (fun s2 I2 => ⟨_, H1, I2, q1⟩) hf

end


section
variable {X : Cx} {pos : Pos}

def tWhile (c : TT) (tb : TS) : TS := fun D σ H => ∃ W : Nat → St → Hp → Prop, (∃ m, W m σ H) ∧ ∀ m σ H, W m σ H →
  c σ H fun b H1 => if b = true then ∃ N : St → Hp → Prop, (∀ σ' H', N σ' H' → ∃ m', m' < m ∧ W m' σ' H') ∧ tb { D with nx := N, ct := N, bk := D.nx } σ H1 else D.nx σ H1
theorem ps_while {c : Expr} {body : List Stmt} {tc : TT} {tb : TS} (hp : PassesOwn (model X.prog X.w) X.A X.env X.xe) (hc : PT X c tc) (hb : PSs X body tb) : PS X (.While c body [] pos) (tWhile tc tb) := by
  intro pins s σ H D I h
  obtain ⟨W, ⟨m0, w0⟩, turn⟩ := h
  refine wpAny_While (codeAny_whileLoop (fun n s' => ∃ σ' H', Inv X pins σ' H' s' ∧ W n σ' H') ?_ m0 ⟨σ, H, I, w0⟩)
  rintro n s1 ⟨σ1, H1, I1, w1⟩
  refine wpAny_passesOwn hp (thn (hc pins s1 σ1 H1 _ I1 (turn n σ1 H1 w1)) fun b s2 ⟨H2, I2, q2⟩ => ?_)
  cases b with
  | true =>
    obtain ⟨N, hN, q2⟩ := q2
    rw [if_pos rfl]
    refine wpAny_passesOwn hp (thn (hb pins s2 σ1 H2 _ I2 q2) fun f s3 q3 => ?_)
    cases f with
    | next =>
      obtain ⟨σ3, H3, I3, n3⟩ := q3
      obtain ⟨m', hm, w3⟩ := hN σ3 H3 n3
      exact ⟨m', hm, σ3, H3, I3, w3⟩
    | cont =>
      obtain ⟨σ3, H3, I3, n3⟩ := q3
      obtain ⟨m', hm, w3⟩ := hN σ3 H3 n3
      exact ⟨m', hm, σ3, H3, I3, w3⟩
    | brk => exact q3
    | ret v => exact q3
  | false =>
    rw [if_neg Bool.false_ne_true]
    exact wpAny_execs_nil ⟨σ1, H2, I2, q2⟩
end



structure It where
  go : Nat → Hp → Prop
  yld : Nat → Hp → V → Hp → Prop
  stop : Nat → Hp → Prop

def FpOk (X : Cx) (pins : List (Addr × Obj)) (H : Hp) (b : Addr) : Prop :=
  H b = none ∧ b ≠ X.env.locals ∧ b ∉ X.fs ∧ (b ∈ X.ex ∨ X.s₀.heap.objs.size ≤ b) ∧ (∀ x c, X.env.cells.lookup x = some c → c ≠ b) ∧ ∀ p ∈ X.pn ++ pins, p.1 ≠ b
theorem Inv.fpOk {X : Cx} {pins : List (Addr × Obj)} {σ : St} {H H' : Hp} {s : Shared} {b : Addr} (I : Inv X pins σ H s) (hb : s.heap.objs.size ≤ b) (hn : H' b = none) : FpOk X pins H' b := by
  refine ⟨hn, Nat.ne_of_gt (Nat.lt_of_lt_of_le I.lt hb), I.nofs hb, .inr (Nat.le_trans I.sz hb), fun x c e z => ?_, fun p hp z => ?_⟩
  · obtain ⟨v, q⟩ := I.cell x c e
    exact absurd (Nat.lt_of_lt_of_le q.lt (by rw [z]; exact hb)) (Nat.lt_irrefl _)
  · exact absurd (Nat.lt_of_lt_of_le (Heap.lt_size (I.pin p hp).1) (by rw [z]; exact hb)) (Nat.lt_irrefl _)
structure Turn (P : Program) (w : World) (K : PySem.W.Frag) (tg : Expr) (J : It) (fp : List Addr) (it : Addr) (tn : Nat → Heap → Prop) : Prop where
  mem : it ∈ fp
  obj : ∀ i h, tn i h → ∀ b ∈ fp, ∃ o, h.get? b = some o ∧ ∀ v, o.data ≠ .cell v
  keep : ∀ i h h', tn i h → (∀ b ∈ fp, ∀ o, h.get? b = some o → h'.get? b = some o) → tn i h'
  item : ∀ (X : Cx), X.prog = P → X.w = w → X.K = K → X.calm = true → ∀ (i : Nat) (pins : List (Addr × Obj)) (s : Shared) (σ : St) (H : Hp) (E : Value → Shared → Prop), Inv X pins σ H s → (∀ b ∈ fp, FpOk X pins H b) → tn i s.heap → J.go i H →
    wpAny (model P w) X.A (pyNext (.ref it)) (fun r s1 => ∃ u, r = some u ∧
      wpAny (model P w) X.A (letOwnedTupleGo tg (.ref it) u) (fun _ s2 => ∃ x H', Inv X pins σ H' s2 ∧ RelV x u ∧ J.yld i H x H' ∧ tn (i + 1) s2.heap ∧ ∀ b ∈ fp, H' b = none) E s1) E s
  done : ∀ (X : Cx), X.prog = P → X.w = w → X.K = K → X.calm = true → ∀ (i : Nat) (pins : List (Addr × Obj)) (s : Shared) (σ : St) (H : Hp) (E : Value → Shared → Prop), Inv X pins σ H s → (∀ b ∈ fp, FpOk X pins H b) → tn i s.heap → J.stop i H →
    wpAny (model P w) X.A (pyNext (.ref it)) (fun r s1 => r = none ∧ Inv X pins σ H s1) E s
  self : ∀ (A : Around) (i : Nat) (s : Shared) (Q : Value → Shared → Prop) (E : Value → Shared → Prop), tn i s.heap → Q (.ref it) s → wpAny (model P w) A (pyIter (.ref it)) Q E s
abbrev TI := St → Hp → (It → Hp → Prop) → Prop

def PIE (X : Cx) (pins : List (Addr × Obj)) (σ : St) (tg : Expr) (R : It → Hp → Prop) (itv : Value) (s2 : Shared) : Prop :=
  ∃ (it : Addr) (fp : List Addr) (tn : Nat → Heap → Prop) (J : It) (H' : Hp), itv = .ref it ∧ Inv X pins σ H' s2 ∧ Turn X.prog X.w X.K tg J fp it tn ∧ tn 0 s2.heap ∧ (∀ b ∈ fp, FpOk X pins H' b) ∧ R J H'
def PI (X : Cx) (tg iter : Expr) (wi : TI) : Prop :=
  ∀ (pins : List (Addr × Obj)) (s : Shared) (σ : St) (H : Hp) (R : It → Hp → Prop), Inv X pins σ H s → wi σ H R →
    wpAny (model X.prog X.w) X.A (eval iter X.env) (fun v s1 => wpAny (model X.prog X.w) X.A (pyIter v) (PIE X pins σ tg R) X.xe s1) X.xe s


theorem go_of {M : Model} {A : Around} {E : Value → Shared → Prop} {s : Shared} {tg : Expr} {it : Addr} {u : Value} {o : Obj} {n : String} {vs : Array Value} {Q : Unit → Shared → Prop} (ho : s.heap.get? it = some o) (hc : o.cls = .type n) (hd : o.data = .fields vs)
    (hn : ["enumerate", "zip", "dict_itemiterator", "dict_reverseitemiterator", "odict_iterator", "itertools.zip_longest", "itertools.pairwise"].contains n = false) (hQ : Q () s) : wpAny M A (letOwnedTupleGo tg (.ref it) u) Q E s := by
  unfold letOwnedTupleGo
  cases tg <;> first
    | exact wpAny_pure hQ
    | (cases u <;> first
        | exact wpAny_pure hQ
        | (refine wpAny_bind (wpAny_load ho ?_)
           rw [hc, hd]
           show wpAny M A (if (["enumerate", "zip", "dict_itemiterator", "dict_reverseitemiterator", "odict_iterator", "itertools.zip_longest", "itertools.pairwise"].contains n && vs[0]? == some (rawInt _)) = true then _ else _) Q E s
           rw [if_neg (by intro h; rw [hn, Bool.false_and] at h; cases h)]
           exact wpAny_pure hQ))


def Itl (K : PySem.W.Frag) (a : Addr) : It :=
  ⟨fun i H => ∃ xs x, SqL K H a xs ∧ xs[i]? = some x, fun i H x H' => H' = H ∧ ∀ xs, SqL K H a xs → xs[i]? = some x, fun i H => ∃ xs, SqL K H a xs ∧ xs.length ≤ i⟩
def Itt (K : PySem.W.Frag) (a : Addr) : It :=
  ⟨fun i H => ∃ xs x, SqT K H a xs ∧ xs[i]? = some x, fun i H x H' => H' = H ∧ ∀ xs, SqT K H a xs → xs[i]? = some x, fun i H => ∃ xs, SqT K H a xs ∧ xs.length ≤ i⟩

def Itr (lo : Int) (n : Nat) : It := ⟨fun i _ => i < n, fun i H x H' => H' = H ∧ x = .int (lo + i), fun i _ => n ≤ i⟩
theorem turn_list {P : Program} {w : World} {K : PySem.W.Frag} {tg : Expr} (a it : Addr) : Turn P w K tg (Itl K a) [it] it (fun i h => h.IsListIter it a i) where
  mem := by simp
  obj := fun i h st b hb => by
    have e : b = it := by simpa using hb
    subst e
    obtain ⟨o, e, c, d⟩ := st
    exact ⟨o, e, fun v z => by rw [d] at z; cases z⟩
  keep := fun i h h' st k => st.at fun o e => k it (by simp) o e
  item := by
    intro X hP hw hK hc i pins s σ H E I hf st hg
    subst hP hw hK
    obtain ⟨xs, x, hq, hx⟩ := hg
    obtain ⟨its, rv, p, hz⟩ := I.list hq
    obtain ⟨u, hu, ru⟩ := rv.get hx
    obtain ⟨f0, f1, f2, f3, f4, f5⟩ := hf it (by simp)
    refine wpAny_pyNext_list_item st p.isList (x := u) (by simpa using hu) fun h' st' sb => ?_
    have I1 : Inv X pins σ H { s with heap := h' } := I.turned (t' := s.toks) (fun b o hb e => (sb.2 b hb).trans e) f0 f1 f3 f4 f5
    obtain ⟨o, e, c, d⟩ := id st'
    exact ⟨u, rfl, go_of (s := { s with heap := h' }) e c d (by decide) ⟨x, H, I1, ru, ⟨rfl, fun ys hy => by rw [I.list_inj hy hq]; exact hx⟩, st', fun b hb => (hf b hb).1⟩⟩
  done := by
    intro X hP hw hK hc i pins s σ H E I hf st hg
    subst hP hw hK
    obtain ⟨xs, hq, hx⟩ := hg
    obtain ⟨its, rv, p, hz⟩ := I.list hq
    obtain ⟨f0, f1, f2, f3, f4, f5⟩ := hf it (by simp)
    have hl := rv.length
    exact wpAny_pyNext_list_end (I.ok.hd hc) st p.isList (by simp; omega) fun h' eb => ⟨rfl, I.turned (t' := s.toks) (fun b o hb e => eb b o hb e) f0 f1 f3 f4 f5⟩
  self := fun _ _ _ _ _ st h => wpAny_pyIter_listiter st h
theorem turn_tuple {P : Program} {w : World} {K : PySem.W.Frag} {tg : Expr} (a it : Addr) : Turn P w K tg (Itt K a) [it] it (fun i h => h.IsTupleIter it a i) where
  mem := by simp
  obj := fun i h st b hb => by
    have e : b = it := by simpa using hb
    subst e
    obtain ⟨o, e, c, d⟩ := st
    exact ⟨o, e, fun v z => by rw [d] at z; cases z⟩
  keep := fun i h h' st k => st.at fun o e => k it (by simp) o e
  item := by
    intro X hP hw hK hc i pins s σ H E I hf st hg
    subst hP hw hK
    obtain ⟨xs, x, hq, hx⟩ := hg
    obtain ⟨its, rv, p, hz⟩ := I.tuple hq
    obtain ⟨u, hu, ru⟩ := rv.get hx
    obtain ⟨f0, f1, f2, f3, f4, f5⟩ := hf it (by simp)
    refine wpAny_pyNext_tuple_item st (show s.heap.IsTuple a its.toArray from p) (x := u) (by simpa using hu) fun h' st' sb => ?_
    have I1 : Inv X pins σ H { s with heap := h' } := I.turned (t' := s.toks) (fun b o hb e => (sb.2 b hb).trans e) f0 f1 f3 f4 f5
    obtain ⟨o, e, c, d⟩ := id st'
    exact ⟨u, rfl, go_of (s := { s with heap := h' }) e c d (by decide) ⟨x, H, I1, ru, ⟨rfl, fun ys hy => by rw [I.tuple_inj hy hq]; exact hx⟩, st', fun b hb => (hf b hb).1⟩⟩
  done := by
    intro X hP hw hK hc i pins s σ H E I hf st hg
    subst hP hw hK
    obtain ⟨xs, hq, hx⟩ := hg
    obtain ⟨its, rv, p, hz⟩ := I.tuple hq
    obtain ⟨f0, f1, f2, f3, f4, f5⟩ := hf it (by simp)
    have hl := rv.length
    exact wpAny_pyNext_tuple_end (I.ok.hd hc) st (show s.heap.IsTuple a its.toArray from p) (by simp; omega) fun h' eb => ⟨rfl, I.turned (t' := s.toks) (fun b o hb e => eb b o hb e) f0 f1 f3 f4 f5⟩
  self := fun _ _ _ _ _ st h => wpAny_pyIter_tupleiter st h
theorem turn_range {P : Program} {w : World} {K : PySem.W.Frag} {tg : Expr} (it : Addr) (lo : Int) (n : Nat) : Turn P w K tg (Itr lo n) [it] it (fun i h => IsRangeIter h it (lo + (i : Nat) * 1) ((n : Int) - (i : Nat)) 1) where
  mem := by simp
  obj := fun i h st b hb => by
    have e : b = it := by simpa using hb
    subst e
    exact ⟨_, st, fun v z => by
      have z' : Data.fields _ = Data.cell v := z
      cases z'⟩
  keep := fun i h h' st k => k it (by simp) _ st
  item := by
    intro X hP hw hK hc i pins s σ H E I hf st hg
    subst hP hw hK
    obtain ⟨f0, f1, f2, f3, f4, f5⟩ := hf it (by simp)
    have W := Walks.range (prog := X.prog) (w := X.w) (I.ok.hd hc) it lo 1 n
    refine W.item i s _ _ hg st fun v h' tk hv st' kk => ?_
    obtain ⟨t, rfl⟩ := hv
    have I1 : Inv X pins σ H { s with heap := h', toks := tk } := I.turned (fun b o hb e => kk b o (by simpa using hb) e) f0 f1 f3 f4 f5
    refine ⟨_, rfl, go_of (s := { s with heap := h', toks := tk }) (n := "range_iterator") st' rfl rfl (by decide) ⟨.int (lo + i), H, I1, ⟨t, ?_⟩, ⟨rfl, rfl⟩, st', fun b hb => (hf b hb).1⟩⟩
    rw [Int.mul_one]
  done := by
    intro X hP hw hK hc i pins s σ H E I hf st hg
    subst hP hw hK
    obtain ⟨f0, f1, f2, f3, f4, f5⟩ := hf it (by simp)
    exact wpAny_pyNext_range_end (I.ok.hd hc) st (by have : n ≤ i := hg; omega) fun h' eb => ⟨rfl, I.turned (t' := s.toks) (fun b o hb e => eb b o hb e) f0 f1 f3 f4 f5⟩
  self := fun _ _ _ _ _ st h => wpAny_pyIter_rangeiter st h
end L2

namespace L2
open PySem PySem.Spec PyProof.Rows
section
variable {X : Cx} {tg : Expr}
def iList (K : PySem.W.Frag) (tl : TE) : TI := fun σ H R => tl σ H fun x H1 => ∃ a, x = .ref a ∧ (∃ xs, SqL K H1 a xs) ∧ R (Itl K a) H1
def iTup (K : PySem.W.Frag) (tl : TE) : TI := fun σ H R => tl σ H fun x H1 => ∃ a, x = .ref a ∧ (∃ xs, SqT K H1 a xs) ∧ R (Itt K a) H1
theorem pi_list {l : Expr} {tl : TE} (hl : PE X l tl) : PI X tg l (iList X.K tl) := by
  intro pins s σ H R I h
  refine thn (hl pins s σ H _ I h) fun v s1 ⟨x, H1, I1, r1, q1⟩ => ?_
  obtain ⟨a, e, ⟨xs, hq⟩, q⟩ := q1
  subst e
  cases r1
  obtain ⟨its, rv, p, hz⟩ := I1.list hq
  refine wpAny_pyIter_list p.isList ?_
  refine ⟨s1.heap.objs.size, [s1.heap.objs.size], _, _, H1, rfl, I1.kept (t' := s1.toks) fun b o e => Heap.get?_push_of_some _ e, turn_list a _, ⟨_, Heap.get?_push_size _ rfl, rfl, rfl⟩, fun b hb => ?_, q⟩
  have e : b = s1.heap.objs.size := by simpa using hb
  subst e
  exact I1.fpOk (Nat.le_refl _) (I1.hok.fresh (Nat.le_refl _))
theorem pi_tup {l : Expr} {tl : TE} (hl : PE X l tl) : PI X tg l (iTup X.K tl) := by
  intro pins s σ H R I h
  refine thn (hl pins s σ H _ I h) fun v s1 ⟨x, H1, I1, r1, q1⟩ => ?_
  obtain ⟨a, e, ⟨xs, hq⟩, q⟩ := q1
  subst e
  cases r1
  obtain ⟨its, rv, p, hz⟩ := I1.tuple hq
  refine wpAny_pyIter_tuple (show s1.heap.IsTuple a its.toArray from p) ?_
  refine ⟨s1.heap.objs.size, [s1.heap.objs.size], _, _, H1, rfl, I1.kept (t' := s1.toks) fun b o e => Heap.get?_push_of_some _ e, turn_tuple a _, ⟨_, Heap.get?_push_size _ rfl, rfl, rfl⟩, fun b hb => ?_, q⟩
  have e : b = s1.heap.objs.size := by simpa using hb
  subst e
  exact I1.fpOk (Nat.le_refl _) (I1.hok.fresh (Nat.le_refl _))

theorem range_it {pins : List (Addr × Obj)} {σ : St} {H : Hp} {s : Shared} {R : It → Hp → Prop} {E : Value → Shared → Prop} {lo hi : Int} {t u v : Tok} {tk : Nat} (I : Inv X pins σ H s) (h1 : -(2 ^ 62) ≤ lo) (h2 : lo < 2 ^ 62) (h3 : -(2 ^ 62) ≤ hi) (h4 : hi < 2 ^ 62)
    (q : R (Itr lo (hi - lo).toNat) H) : wpAny (model X.prog X.w) X.A (pyIter (.ref s.heap.objs.size)) (PIE X pins σ tg R) E { s with heap := s.heap.push { cls := .type "range", data := .fields #[.int lo t, .int hi u, .int 1 v] }, toks := tk } := by
  refine wpAny_pyIter_range (IsRange.new ..) (small_one h1 h2 h3 h4) ?_
  have I1 : Inv X pins σ H { s with heap := s.heap.push { cls := .type "range", data := .fields #[.int lo t, .int hi u, .int 1 v] }, toks := tk } := I.kept fun b o e => Heap.get?_push_of_some _ e
  refine ⟨(s.heap.push { cls := .type "range", data := .fields #[.int lo t, .int hi u, .int 1 v] }).objs.size, [(s.heap.push { cls := .type "range", data := .fields #[.int lo t, .int hi u, .int 1 v] }).objs.size], _, _, H, rfl,
    I1.kept (t' := tk) fun b o e => Heap.get?_push_of_some _ e, turn_range _ lo (hi - lo).toNat, ?_, fun b hb => ?_, q⟩
  · have e1 : lo + ((0 : Nat) : Int) * 1 = lo := by simp
    have e2 : (((hi - lo).toNat : Nat) : Int) - ((0 : Nat) : Int) = Builtin.Range.rangeSize lo hi 1 := by rw [rangeSize_one]; split <;> omega
    show IsRangeIter _ _ (lo + ((0 : Nat) : Int) * 1) ((((hi - lo).toNat : Nat) : Int) - ((0 : Nat) : Int)) 1
    rw [e1, e2]
    exact Heap.get?_push_size _ rfl
  · have e : b = (s.heap.push { cls := .type "range", data := .fields #[.int lo t, .int hi u, .int 1 v] }).objs.size := by simpa using hb
    subst e
    exact I1.fpOk (Nat.le_refl _) (I1.hok.fresh (Nat.le_refl _))
def iRng1 (ta : TA) : TI := fun σ H R => ta σ H fun vs H1 => ∃ j : Int, vs = [.int j] ∧ -(2 ^ 62) ≤ j ∧ j < 2 ^ 62 ∧ R (Itr 0 j.toNat) H1
theorem pi_range1 {a : Expr} {ta : TA} {p pos : Pos} (hg : Gl X "range") (hm : X.mg "range" = none) (ha : PA X [a] ta) (hs : starEach [a] X.env = [(false, eval a X.env)] := by rfl) : PI X tg (.Call (.Name "range" p) [a] [] pos) (iRng1 ta) := by
  intro pins s σ H R I h
  refine Call_ (ld_blt I hg hm boot_range (PyProof.Rows.callWith_type1 (thn (ha pos pins s σ H _ I h) fun us s1 ⟨vs, H1, I1, r1, q1⟩ => ?_) hs rfl))
  obtain ⟨j, e, q1, q2, q⟩ := q1
  subst e
  cases r1 with
  | cons r rr =>
    cases rr
    obtain ⟨t, rfl⟩ := r
    exact call_range_1 (range_it I1 (by omega) (by omega) q1 q2 (by simpa using q))
def tFor (wi : TI) (g : TG) (tb : TS) : TS := fun D σ H => wi σ H fun J H1 => ∃ W : Nat → Nat → St → Hp → Prop, (∃ m, W 0 m σ H1) ∧ ∀ i m σ H, W i m σ H →
  (J.stop i H ∧ D.nx σ H) ∨ (J.go i H ∧ ∃ N : St → Hp → Prop, (∀ σ' H', N σ' H' → ∃ m', m' < m ∧ W (i + 1) m' σ' H') ∧ ∀ x H', J.yld i H x H' → g x σ H' fun σ2 H2 => tb { D with nx := N, ct := N, bk := D.nx } σ2 H2)

def pinsAt (fp : List Addr) (h : Heap) : List (Addr × Obj) := fp.filterMap fun b => (h.get? b).map fun o => (b, o)
theorem mem_pinsAt {fp : List Addr} {h : Heap} {b : Addr} {o : Obj} (hb : b ∈ fp) (e : h.get? b = some o) : (b, o) ∈ pinsAt fp h := List.mem_filterMap.mpr ⟨b, hb, by rw [e]; rfl⟩
theorem of_pinsAt {fp : List Addr} {h : Heap} {p : Addr × Obj} (hp : p ∈ pinsAt fp h) : p.1 ∈ fp ∧ h.get? p.1 = some p.2 := by
  obtain ⟨b, hb, e⟩ := List.mem_filterMap.mp hp
  cases q : h.get? b with
  | none => rw [q] at e; cases e
  | some o =>
    rw [q] at e
    have e' : (b, o) = p := Option.some.inj e
    subst e'
    exact ⟨hb, q⟩
theorem Inv.pinned {pins : List (Addr × Obj)} {σ : St} {H : Hp} {s : Shared} {fp : List Addr} (I : Inv X pins σ H s) (hf : ∀ b ∈ fp, FpOk X pins H b) (ho : ∀ b ∈ fp, ∃ o, s.heap.get? b = some o ∧ ∀ v, o.data ≠ .cell v) : Inv X (pins ++ pinsAt fp s.heap) σ H s :=
  I.pins_of fun p hp => (List.mem_append.mp hp).elim (fun z => I.pin p (List.mem_append_right _ z)) fun z => by
    obtain ⟨hb, e⟩ := of_pinsAt z
    obtain ⟨f0, f1, f2, _⟩ := hf p.1 hb
    obtain ⟨o, e', d⟩ := ho p.1 hb
    rw [e] at e'; cases e'
    exact ⟨e, f0, f1, f2, d⟩
theorem Inv.unpinned {pins pl : List (Addr × Obj)} {σ : St} {H : Hp} {s : Shared} (I : Inv X (pins ++ pl) σ H s) : Inv X pins σ H s := I.pins_of fun p hp => I.pin p (List.mem_append_right _ (List.mem_append_left _ hp))
theorem ps_for {iter : Expr} {body : List Stmt} {wi : TI} {g : TG} {tb : TS} {pos : Pos} (hp : PassesOwn (model X.prog X.w) X.A X.env X.xe) (hc : X.calm = true) (hi : PI X tg iter wi) (hg : PG X tg g) (hb : PSs X body tb)
    (hs : ∀ x, foldedSetIterable iter X.env x = pure x := by intro _; rfl) : PS X (.For tg iter body [] pos) (tFor wi g tb) := by
  intro pins s σ H D I h
  refine wpAny_For (thn (hi pins s σ H _ I h) fun v s1 h1 => thn h1 fun itv s2 h2 => ?_) hs
  obtain ⟨it, fp, tn, J, H2, e, I2, T, st2, f2, W, ⟨m0, w0⟩, turn⟩ := h2
  subst e
  -- what stays true of the iterator's objects through the loop
  have stat : ∀ {H' : Hp}, (∀ b ∈ fp, H' b = none) → ∀ b ∈ fp, FpOk X pins H' b := fun hn b hb => ⟨hn b hb, (f2 b hb).2⟩
  refine codeAny_forLoop_any (fun n s' => ∃ i σ' H', Inv X pins σ' H' s' ∧ tn i s'.heap ∧ (∀ b ∈ fp, H' b = none) ∧ W i n σ' H') ?_ m0 ⟨0, σ, H2, I2, st2, fun b hb => (f2 b hb).1, w0⟩
  rintro n s3 ⟨i, σ3, H3, I3, st3, fr3, w3⟩
  rcases turn i n σ3 H3 w3 with ⟨stop, qn⟩ | ⟨go, N, hN, step⟩
  · refine wpAny_passesOwn hp (thn (T.done X rfl rfl rfl hc i pins s3 σ3 H3 X.xe I3 (stat fr3) st3 stop) fun r s4 ⟨hr, I4⟩ => ?_)
    subst hr
    exact wpAny_execs_nil ⟨σ3, H3, I4, qn⟩
  · refine wpAny_passesOwn hp (thn (T.item X rfl rfl rfl hc i pins s3 σ3 H3 X.xe I3 (stat fr3) st3 go) fun r s4 ⟨u, hr, h4⟩ => ?_)
    subst hr
    refine wpAny_passesOwn hp (thn h4 fun _ s5 ⟨x, H5, I5, r5, y5, st5, fr5⟩ => ?_)
    have I5' := I5.pinned (stat fr5) (T.obj _ _ st5)
    refine wpAny_passesOwn hp (thn (hg _ s5 σ3 H5 x u _ I5' r5 (step x H5 y5)) fun _ s6 ⟨σ6, H6, I6, q6⟩ => ?_)
    refine wpAny_passesOwn hp (thn (hb _ s6 σ6 H6 _ I6 q6) fun f s7 q7 => ?_)
    have again : ∀ {σ7 : St} {H7 : Hp}, Inv X (pins ++ pinsAt fp s5.heap) σ7 H7 s7 → N σ7 H7 → ∃ m, m < n ∧ ∃ i σ' H', Inv X pins σ' H' s7 ∧ tn i s7.heap ∧ (∀ b ∈ fp, H' b = none) ∧ W i m σ' H' := fun {σ7 H7} I7 n7 => by
      obtain ⟨m', hm, w7⟩ := hN σ7 H7 n7
      refine ⟨m', hm, i + 1, σ7, H7, I7.unpinned, T.keep _ _ _ st5 fun b hb o e => (I7.pin (b, o) (List.mem_append_right _ (List.mem_append_right _ (mem_pinsAt hb e)))).1, fun b hb => ?_, w7⟩
      obtain ⟨o, e, d⟩ := T.obj _ _ st5 b hb
      exact (I7.pin (b, o) (List.mem_append_right _ (List.mem_append_right _ (mem_pinsAt hb e)))).2.1
    cases f with
    | next => obtain ⟨σ7, H7, I7, n7⟩ := q7; exact again I7 n7
    | cont => obtain ⟨σ7, H7, I7, n7⟩ := q7; exact again I7 n7
    | brk => obtain ⟨σ7, H7, I7, q7⟩ := q7; exact ⟨σ7, H7, I7.unpinned, q7⟩
    | ret v => obtain ⟨x7, σ7, H7, I7, r7, q7⟩ := q7; exact ⟨x7, σ7, H7, I7.unpinned, r7, q7⟩
end



theorem for_list {K : PySem.W.Frag} {a : Addr} {xs : List V} {g : TG} {tb : TS} {D : Ends} {σ : St} {H : Hp} (Pv : Nat → St → Hp → Prop) (h0 : Pv 0 σ H) (hl : ∀ i σ H, i ≤ xs.length → Pv i σ H → SqL K H a xs)
    (hs : ∀ i x σ H, xs[i]? = some x → Pv i σ H → g x σ H fun σ2 H2 => tb { D with nx := Pv (i + 1), ct := Pv (i + 1), bk := D.nx } σ2 H2) (hd : ∀ σ H, Pv xs.length σ H → D.nx σ H) :
    ∃ W : Nat → Nat → St → Hp → Prop, (∃ m, W 0 m σ H) ∧ ∀ i m σ H, W i m σ H →
      ((Itl K a).stop i H ∧ D.nx σ H) ∨ ((Itl K a).go i H ∧ ∃ N : St → Hp → Prop, (∀ σ' H', N σ' H' → ∃ m', m' < m ∧ W (i + 1) m' σ' H') ∧ ∀ x H', (Itl K a).yld i H x H' → g x σ H' fun σ2 H2 => tb { D with nx := N, ct := N, bk := D.nx } σ2 H2) := by
  refine ⟨fun i m σ H => m = xs.length - i ∧ i ≤ xs.length ∧ Pv i σ H, ⟨xs.length, by simp, Nat.zero_le _, h0⟩, ?_⟩
  rintro i m σ H ⟨rfl, hi, p⟩
  have q := hl i σ H hi p
  by_cases hlt : i < xs.length
  · refine .inr ⟨⟨xs, xs[i], q, by simp [hlt]⟩, Pv (i + 1), fun σ' H' p' => ⟨xs.length - (i + 1), by omega, rfl, hlt, p'⟩, fun x H' y => ?_⟩
    obtain ⟨e, y⟩ := y
    subst e
    exact hs i x σ _ (y xs q) p
  · have e : i = xs.length := by omega
    subst e
    exact .inl ⟨⟨xs, q, Nat.le_refl _⟩, hd σ H p⟩
theorem for_tup {K : PySem.W.Frag} {a : Addr} {xs : List V} {g : TG} {tb : TS} {D : Ends} {σ : St} {H : Hp} (Pv : Nat → St → Hp → Prop) (h0 : Pv 0 σ H) (hl : ∀ i σ H, i ≤ xs.length → Pv i σ H → SqT K H a xs)
    (hs : ∀ i x σ H, xs[i]? = some x → Pv i σ H → g x σ H fun σ2 H2 => tb { D with nx := Pv (i + 1), ct := Pv (i + 1), bk := D.nx } σ2 H2) (hd : ∀ σ H, Pv xs.length σ H → D.nx σ H) :
    ∃ W : Nat → Nat → St → Hp → Prop, (∃ m, W 0 m σ H) ∧ ∀ i m σ H, W i m σ H →
      ((Itt K a).stop i H ∧ D.nx σ H) ∨ ((Itt K a).go i H ∧ ∃ N : St → Hp → Prop, (∀ σ' H', N σ' H' → ∃ m', m' < m ∧ W (i + 1) m' σ' H') ∧ ∀ x H', (Itt K a).yld i H x H' → g x σ H' fun σ2 H2 => tb { D with nx := N, ct := N, bk := D.nx } σ2 H2) := by
  refine ⟨fun i m σ H => m = xs.length - i ∧ i ≤ xs.length ∧ Pv i σ H, ⟨xs.length, by simp, Nat.zero_le _, h0⟩, ?_⟩
  rintro i m σ H ⟨rfl, hi, p⟩
  have q := hl i σ H hi p
  by_cases hlt : i < xs.length
  · refine .inr ⟨⟨xs, xs[i], q, by simp [hlt]⟩, Pv (i + 1), fun σ' H' p' => ⟨xs.length - (i + 1), by omega, rfl, hlt, p'⟩, fun x H' y => ?_⟩
    obtain ⟨e, y⟩ := y
    subst e
    exact hs i x σ _ (y xs q) p
  · have e : i = xs.length := by omega
    subst e
    exact .inl ⟨⟨xs, q, Nat.le_refl _⟩, hd σ H p⟩
theorem for_range {lo : Int} {n : Nat} {g : TG} {tb : TS} {D : Ends} {σ : St} {H : Hp} (Pv : Nat → St → Hp → Prop) (h0 : Pv 0 σ H)
    (hs : ∀ i σ H, i < n → Pv i σ H → g (.int (lo + i)) σ H fun σ2 H2 => tb { D with nx := Pv (i + 1), ct := Pv (i + 1), bk := D.nx } σ2 H2) (hd : ∀ σ H, Pv n σ H → D.nx σ H) :
    ∃ W : Nat → Nat → St → Hp → Prop, (∃ m, W 0 m σ H) ∧ ∀ i m σ H, W i m σ H →
      ((Itr lo n).stop i H ∧ D.nx σ H) ∨ ((Itr lo n).go i H ∧ ∃ N : St → Hp → Prop, (∀ σ' H', N σ' H' → ∃ m', m' < m ∧ W (i + 1) m' σ' H') ∧ ∀ x H', (Itr lo n).yld i H x H' → g x σ H' fun σ2 H2 => tb { D with nx := N, ct := N, bk := D.nx } σ2 H2) := by
  refine ⟨fun i m σ H => m = n - i ∧ i ≤ n ∧ Pv i σ H, ⟨n, by simp, Nat.zero_le _, h0⟩, ?_⟩
  rintro i m σ H ⟨rfl, hi, p⟩
  by_cases hlt : i < n
  · refine .inr ⟨hlt, Pv (i + 1), fun σ' H' p' => ⟨n - (i + 1), by omega, rfl, hlt, p'⟩, fun x H' y => ?_⟩
    obtain ⟨e, y⟩ := y
    subst e y
    exact hs i σ _ hlt p
  · have e : i = n := by omega
    subst e
    exact .inl ⟨Nat.le_refl _, hd σ H p⟩

theorem while_by {c : TT} {tb : TS} {D : Ends} {σ : St} {H : Hp} (Pv : St → Hp → Prop) (μ : St → Hp → Nat) (h0 : Pv σ H)
    (hs : ∀ σ H, Pv σ H → c σ H fun b H1 => if b = true then tb { D with nx := fun σ' H' => Pv σ' H' ∧ μ σ' H' < μ σ H, ct := fun σ' H' => Pv σ' H' ∧ μ σ' H' < μ σ H, bk := D.nx } σ H1 else D.nx σ H1)
    (mono : ∀ σ H Q Q', (∀ b H1, Q b H1 → Q' b H1) → c σ H Q → c σ H Q') : tWhile c tb D σ H := by
  refine ⟨fun m σ H => m = μ σ H ∧ Pv σ H, ⟨_, rfl, h0⟩, ?_⟩
  rintro m σ H ⟨rfl, p⟩
  refine mono σ H _ _ (fun b H1 q => ?_) (hs σ H p)
  cases b with
  | true => exact ⟨_, fun σ' H' ⟨p', l⟩ => ⟨_, l, rfl, p'⟩, q⟩
  | false => exact q
end L2

namespace L2
open PySem PySem.Spec PyProof.Rows

abbrev R2 := V → V → Hp → VK → Prop

def OpR (X : Cx) (f : Value → Value → Sem Value) (r : R2) : Prop :=
  ∀ (pins : List (Addr × Obj)) (s : Shared) (σ : St) (H : Hp) (x y : V) (v u : Value) (Q : VK), Inv X pins σ H s → RelV x v → RelV y u → r x y H Q →
    wpAny (model X.prog X.w) X.A (f v u) (EP X pins σ Q) X.xe s

def UnR (X : Cx) (f : Value → Sem Value) (r : V → Hp → VK → Prop) : Prop :=
  ∀ (pins : List (Addr × Obj)) (s : Shared) (σ : St) (H : Hp) (x : V) (v : Value) (Q : VK), Inv X pins σ H s → RelV x v → r x H Q →
    wpAny (model X.prog X.w) X.A (f v) (EP X pins σ Q) X.xe s

def CallR (X : Cx) (f : Value) (r : List V → Hp → VK → Prop) : Prop :=
  ∀ (pins : List (Addr × Obj)) (s : Shared) (σ : St) (H : Hp) (xs : List V) (us : List Value) (Q : VK), Inv X pins σ H s → Vals xs us → r xs H Q →
    wpAny (model X.prog X.w) X.A (call f us) (EP X pins σ Q) X.xe s

def tOp (r : R2) (ta tb : TE) : TE := fun σ H Q => ta σ H fun x H1 => tb σ H1 fun y H2 => r x y H2 Q
def tUn (r : V → Hp → VK → Prop) (ta : TE) : TE := fun σ H Q => ta σ H fun x H1 => r x H1 Q

def rI (C : Int → Int → Prop) (g : Int → Int → V) : R2 := fun x y H Q => ∃ i j, x = .int i ∧ y = .int j ∧ C i j ∧ Q (g i j) H
def rI0 (g : Int → Int → V) : R2 := fun x y H Q => ∃ i j, x = .int i ∧ y = .int j ∧ Q (g i j) H
def rU (g : Int → V) : V → Hp → VK → Prop := fun x H Q => ∃ i, x = .int i ∧ Q (g i) H

section
variable {X : Cx} {a b c : Expr} {ta tb tc : TE} {pos : Pos}

theorem binT (ha : PE X a ta) (hb : PE X b tb) {pins : List (Addr × Obj)} {s : Shared} {σ : St} {H : Hp} {R : V → V → Hp → Prop} (I : Inv X pins σ H s)
    (h : ta σ H fun x H1 => tb σ H1 fun y H2 => R x y H2) {Q : Value → Shared → Prop} {f : Value → Value → Sem Value}
    (hf : ∀ v u s2 x y H2, Inv X pins σ H2 s2 → RelV x v → RelV y u → R x y H2 → wpAny (model X.prog X.w) X.A (f v u) Q X.xe s2) :
    wpAny (model X.prog X.w) X.A (eval a X.env) (fun v s₁ => wpAny (model X.prog X.w) X.A (eval b X.env) (fun u s₂ => wpAny (model X.prog X.w) X.A (f v u) Q X.xe s₂) X.xe s₁) X.xe s := by
  refine thn (ha pins s σ H _ I h) fun v s1 ⟨x, H1, I1, r1, q1⟩ => ?_
  refine thn (hb pins s1 σ H1 _ I1 q1) fun u s2 ⟨y, H2, I2, r2, q2⟩ => ?_
  exact hf v u s2 x y H2 I2 r1 r2 q2

theorem pe_op {op : Operator} {r : R2} (ho : OpR X (binaryOp op) r) (ha : PE X a ta) (hb : PE X b tb) : PE X (.BinOp a op b pos) (tOp r ta tb) := by
  intro pins s σ H Q I h
  exact wpAny_BinOp (binT ha hb I h fun v u s2 x y H2 I2 rx ry q => ho pins s2 σ H2 x y v u Q I2 rx ry q)
theorem pe_un {op : UnaryOp} {r : V → Hp → VK → Prop} (ho : UnR X (unaryOp op) r) (ha : PE X a ta) : PE X (.UnaryOp op a pos) (tUn r ta) := by
  intro pins s σ H Q I h
  exact UnaryOp_ (thn (ha pins s σ H _ I h) fun v s1 ⟨x, H1, I1, r1, q1⟩ => ho pins s1 σ H1 x v Q I1 r1 q1)

theorem opI {f : Value → Value → Sem Value} {C : Int → Int → Prop} {g : Int → Int → Int}
    (rule : ∀ (i j : Int) (t u : Tok) (s : Shared) (Q : Value → Shared → Prop) (E : Value → Shared → Prop), C i j → Q (.int (g i j) s.toks) { s with toks := s.toks + 1 } → wpAny (model X.prog X.w) X.A (f (.int i t) (.int j u)) Q E s) :
    OpR X f (rI C fun i j => .int (g i j)) := by
  intro pins s σ H x y v u Q I rx ry h
  obtain ⟨i, j, rfl, rfl, hc, q⟩ := h
  obtain ⟨t, rfl⟩ := rx
  obtain ⟨t', rfl⟩ := ry
  exact rule i j t t' s _ _ hc ⟨.int (g i j), H, I.tok _, ⟨_, rfl⟩, q⟩
theorem opI0 {f : Value → Value → Sem Value} {g : Int → Int → Int}
    (rule : ∀ (i j : Int) (t u : Tok) (s : Shared) (Q : Value → Shared → Prop) (E : Value → Shared → Prop), Q (.int (g i j) s.toks) { s with toks := s.toks + 1 } → wpAny (model X.prog X.w) X.A (f (.int i t) (.int j u)) Q E s) :
    OpR X f (rI0 fun i j => .int (g i j)) := by
  intro pins s σ H x y v u Q I rx ry h
  obtain ⟨i, j, rfl, rfl, q⟩ := h
  obtain ⟨t, rfl⟩ := rx
  obtain ⟨t', rfl⟩ := ry
  exact rule i j t t' s _ _ ⟨.int (g i j), H, I.tok _, ⟨_, rfl⟩, q⟩
theorem opB0 {f : Value → Value → Sem Value} {g : Int → Int → Bool}
    (rule : ∀ (i j : Int) (t u : Tok) (s : Shared) (Q : Value → Shared → Prop) (E : Value → Shared → Prop), Q (.bool (g i j)) s → wpAny (model X.prog X.w) X.A (f (.int i t) (.int j u)) Q E s) :
    OpR X f (rI0 fun i j => .bl (g i j)) := by
  intro pins s σ H x y v u Q I rx ry h
  obtain ⟨i, j, rfl, rfl, q⟩ := h
  obtain ⟨t, rfl⟩ := rx
  obtain ⟨t', rfl⟩ := ry
  exact rule i j t t' s _ _ ⟨.bl (g i j), H, I, rfl, q⟩

def CDiv (i j : Int) : Prop := 0 < j ∧ j < 1073741824
def CPow (i j : Int) : Prop := 0 ≤ j ∧ j ≤ 1000000 ∧ i.natAbs < 2 ^ 64
def CMul (i j : Int) : Prop := (-(2 ^ 64) < i ∧ i < 2 ^ 64) ∨ (-(2 ^ 64) < j ∧ j < 2 ^ 64)
theorem CMul.ok {i j : Int} (h : CMul i j) : IntMulOk i j := by
  rcases h with ⟨h1, h2⟩ | ⟨h1, h2⟩
  · exact .of_left (intBits_le_64 h1 h2)
  · exact .of_right (intBits_le_64 h1 h2)
theorem two_pow_nn (k : Nat) : (0 : Int) ≤ 2 ^ k := by
  rw [two_pow_cast]
  exact Int.natCast_nonneg _

theorem op_add : OpR X (binaryOp .Add) (rI0 fun i j => .int (i + j)) := opI0 fun _ _ _ _ _ _ _ q => add_int q
theorem op_sub : OpR X (binaryOp .Sub) (rI0 fun i j => .int (i - j)) := opI0 fun _ _ _ _ _ _ _ q => sub_int q
theorem op_mul : OpR X (binaryOp .Mult) (rI CMul fun i j => .int (i * j)) := opI fun _ _ _ _ _ _ _ hc q => mul_int q hc.ok

theorem op_fdiv : OpR X (binaryOp .FloorDiv) (rI CDiv fun i j => .int (i / j)) := opI fun i j _ _ _ _ _ hc q => by
  have h1 : (0 : Int) < j := hc.1
  have h2 : j < 1073741824 := hc.2
  exact floordiv_int (by omega) (by rw [Int.fdiv_eq_ediv_of_nonneg i (by omega)]; exact q) (.inl (PyProof.noPylong_small (by omega)))
theorem op_mod : OpR X (binaryOp .Mod) (rI (fun _ j => 0 < j) fun i j => .int (i % j)) := opI fun i j _ _ _ _ _ hc q => by
  have h1 : (0 : Int) < j := hc
  exact mod_int' (by omega) (by rw [Int.fmod_eq_emod_of_nonneg i (by omega)]; exact q)
theorem op_shl : OpR X (binaryOp .LShift) (rI CPow fun i j => .int (i * 2 ^ j.toNat)) := opI fun _ _ _ _ _ _ _ hc q => lshift_int_small hc.1 hc.2.1 hc.2.2 q
theorem op_shr : OpR X (binaryOp .RShift) (rI (fun _ j => 0 ≤ j) fun i j => .int (i / 2 ^ j.toNat)) := opI fun i j _ _ _ _ _ hc q =>
  rshift_int hc (by rw [Int.fdiv_eq_ediv_of_nonneg i (two_pow_nn _)]; exact q)
theorem op_and : OpR X (binaryOp .BitAnd) (rI0 fun i j => .int (Builtin.bitAnd i j)) := opI0 fun _ _ _ _ _ _ _ q => and_int q
theorem op_xor : OpR X (binaryOp .BitXor) (rI0 fun i j => .int (Builtin.bitXor i j)) := opI0 fun _ _ _ _ _ _ _ q => xor_int q

theorem unI {f : Value → Sem Value} {g : Int → Int}
    (rule : ∀ (i : Int) (t : Tok) (s : Shared) (Q : Value → Shared → Prop) (E : Value → Shared → Prop), Q (.int (g i) s.toks) { s with toks := s.toks + 1 } → wpAny (model X.prog X.w) X.A (f (.int i t)) Q E s) :
    UnR X f (rU fun i => .int (g i)) := by
  intro pins s σ H x v Q I rx h
  obtain ⟨i, rfl, q⟩ := h
  obtain ⟨t, rfl⟩ := rx
  exact rule i t s _ _ ⟨.int (g i), H, I.tok _, ⟨_, rfl⟩, q⟩
theorem un_neg : UnR X (unaryOp .USub) (rU fun i => .int (-i)) := unI fun _ _ _ _ _ q => neg_int q
end



def scal : V → V → Bool
  | .non, .non => true | .non, .int _ => true | .int _, .non => true | .non, .bl _ => true | .bl _, .non => true | .non, .str _ => true | .str _, .non => true
  | .int _, .int _ => true | .bl _, .bl _ => true | .str _, .str _ => true | .byt _, .byt _ => true
  | .int _, .str _ => true | .str _, .int _ => true | .bl _, .str _ => true | .str _, .bl _ => true
  | _, _ => false
def rEq : R2 := fun x y H Q => scal x y = true ∧ Q (.bl (decide (x = y))) H
def rNe : R2 := fun x y H Q => scal x y = true ∧ Q (.bl (!decide (x = y))) H

theorem dec_int {i j : Int} : decide (V.int i = V.int j) = (i == j) := by
  rw [Bool.eq_iff_iff]
  simp
theorem dec_bl {i j : Bool} : decide (V.bl i = V.bl j) = (i == j) := by
  rw [Bool.eq_iff_iff]
  simp
theorem dec_str {i j : Str} : decide (V.str i = V.str j) = (i == j) := by
  rw [Bool.eq_iff_iff]
  simp
theorem dec_byt {i j : Array UInt8} : decide (V.byt i = V.byt j) = (i.toList == j.toList) := by
  rw [Bool.eq_iff_iff]
  cases i
  cases j
  simp

section
variable {X : Cx} {a b c : Expr} {ta tb tc : TE} {pos : Pos}
theorem fin_bl {pins : List (Addr × Obj)} {σ : St} {H : Hp} {s : Shared} {Q : VK} {k k' : Bool} (I : Inv X pins σ H s) (q : Q (.bl k) H) (e : k = k') : EP X pins σ Q (.bool k') s := by
  subst e
  exact ⟨.bl k, H, I, rfl, q⟩
theorem op_eq : OpR X (compareOp .Eq) rEq := by
  intro pins s σ H x y v u Q I rx ry h
  obtain ⟨hs, q⟩ := h
  cases x with
  | non =>
    cases rx
    cases y with
    | non => cases ry; exact PySem.EqNone.eq_none_none (fin_bl I q (by simp))
    | bl j => cases ry; exact PySem.EqNone.eq_none_bool (fin_bl I q (by simp))
    | int j => obtain ⟨t', rfl⟩ := ry; exact PySem.EqNone.eq_none_int (fin_bl I q (by simp))
    | str j => obtain ⟨t', rfl⟩ := ry; exact PySem.EqNone.eq_none_str (fin_bl I q (by simp))
    | _ => exact absurd (show false = true from hs) Bool.false_ne_true
  | bl i =>
    cases rx
    cases y with
    | non => cases ry; exact PySem.EqNone.eq_bool_none (fin_bl I q (by simp))
    | bl j => cases ry; exact eq_bool (fin_bl I q dec_bl)
    | str j => obtain ⟨t', rfl⟩ := ry; exact PySem.EqMixed.eq_bool_str (fin_bl I q (by simp))
    | _ => exact absurd (show false = true from hs) Bool.false_ne_true
  | int i =>
    obtain ⟨t, rfl⟩ := rx
    cases y with
    | non => cases ry; exact PySem.EqNone.eq_int_none (fin_bl I q (by simp))
    | int j => obtain ⟨t', rfl⟩ := ry; exact eq_int (fin_bl I q dec_int)
    | str j => obtain ⟨t', rfl⟩ := ry; exact PySem.EqMixed.eq_int_str (fin_bl I q (by simp))
    | _ => exact absurd (show false = true from hs) Bool.false_ne_true
  | str i =>
    obtain ⟨t, rfl⟩ := rx
    cases y with
    | non => cases ry; exact PySem.EqNone.eq_str_none (fin_bl I q (by simp))
    | bl j => cases ry; exact PySem.EqMixed.eq_str_bool (fin_bl I q (by simp))
    | int j => obtain ⟨t', rfl⟩ := ry; exact PySem.EqMixed.eq_str_int (fin_bl I q (by simp))
    | str j => obtain ⟨t', rfl⟩ := ry; exact eq_str (fin_bl I q dec_str)
    | _ => exact absurd (show false = true from hs) Bool.false_ne_true
  | byt i =>
    obtain ⟨t, rfl⟩ := rx
    cases y with
    | byt j => obtain ⟨t', rfl⟩ := ry; exact PySem.W.eq_bytes (fin_bl I q dec_byt)
    | _ => exact absurd (show false = true from hs) Bool.false_ne_true
  | _ => cases y <;> exact absurd (show false = true from hs) Bool.false_ne_true
theorem op_ne : OpR X (compareOp .NotEq) rNe := by
  intro pins s σ H x y v u Q I rx ry h
  obtain ⟨hs, q⟩ := h
  cases x with
  | non =>
    cases rx
    cases y with
    | non => cases ry; exact PySem.EqNone.ne_none_none (fin_bl I q (by simp))
    | bl j => cases ry; exact PySem.EqNone.ne_none_bool (fin_bl I q (by simp))
    | int j => obtain ⟨t', rfl⟩ := ry; exact PySem.EqNone.ne_none_int (fin_bl I q (by simp))
    | str j => obtain ⟨t', rfl⟩ := ry; exact PySem.EqNone.ne_none_str (fin_bl I q (by simp))
    | _ => exact absurd (show false = true from hs) Bool.false_ne_true
  | bl i =>
    cases rx
    cases y with
    | non => cases ry; exact PySem.EqNone.ne_bool_none (fin_bl I q (by simp))
    | bl j => cases ry; exact ne_bool (fin_bl I q (congrArg not dec_bl))
    | str j => obtain ⟨t', rfl⟩ := ry; exact PySem.EqMixed.ne_bool_str (fin_bl I q (by simp))
    | _ => exact absurd (show false = true from hs) Bool.false_ne_true
  | int i =>
    obtain ⟨t, rfl⟩ := rx
    cases y with
    | non => cases ry; exact PySem.EqNone.ne_int_none (fin_bl I q (by simp))
    | int j => obtain ⟨t', rfl⟩ := ry; exact ne_int (fin_bl I q (congrArg not dec_int))
    | str j => obtain ⟨t', rfl⟩ := ry; exact PySem.EqMixed.ne_int_str (fin_bl I q (by simp))
    | _ => exact absurd (show false = true from hs) Bool.false_ne_true
  | str i =>
    obtain ⟨t, rfl⟩ := rx
    cases y with
    | non => cases ry; exact PySem.EqNone.ne_str_none (fin_bl I q (by simp))
    | bl j => cases ry; exact PySem.EqMixed.ne_str_bool (fin_bl I q (by simp))
    | int j => obtain ⟨t', rfl⟩ := ry; exact PySem.EqMixed.ne_str_int (fin_bl I q (by simp))
    | str j => obtain ⟨t', rfl⟩ := ry; exact ne_str (fin_bl I q (congrArg not dec_str))
    | _ => exact absurd (show false = true from hs) Bool.false_ne_true
  | byt i =>
    obtain ⟨t, rfl⟩ := rx
    cases y with
    | byt j => obtain ⟨t', rfl⟩ := ry; exact PySem.W.ne_bytes (fin_bl I q (congrArg not dec_byt))
    | _ => exact absurd (show false = true from hs) Bool.false_ne_true
  | _ => cases y <;> exact absurd (show false = true from hs) Bool.false_ne_true

theorem op_lt : OpR X (compareOp .Lt) (rI0 fun i j => .bl (decide (i < j))) := opB0 fun _ _ _ _ _ _ _ q => lt_int q
theorem op_le : OpR X (compareOp .LtE) (rI0 fun i j => .bl (decide (i ≤ j))) := opB0 fun _ _ _ _ _ _ _ q => le_int q
theorem op_gt : OpR X (compareOp .Gt) (rI0 fun i j => .bl (decide (j < i))) := opB0 fun _ _ _ _ _ _ _ q => gt_int q
theorem op_ge : OpR X (compareOp .GtE) (rI0 fun i j => .bl (decide (j ≤ i))) := opB0 fun _ _ _ _ _ _ _ q => ge_int q
theorem op_in_str : OpR X (compareOp .In) (fun x y H Q => ∃ i j, x = .str i ∧ y = .str j ∧ Q (.bl (!(Builtin.Str.occurrences j i 0 j.length 1).isEmpty)) H) := by
  intro pins s σ H x y v u Q I rx ry h
  obtain ⟨i, j, rfl, rfl, q⟩ := h
  obtain ⟨t, rfl⟩ := rx
  obtain ⟨t', rfl⟩ := ry
  exact in_str (fin_bl I q rfl)


theorem op_notN : OpR X (compareOp .IsNot) (fun x y H Q => y = .non ∧ Q (.bl (!decide (x = .non))) H) := by
  intro pins s σ H x y v u Q I rx ry h
  obtain ⟨rfl, q⟩ := h
  cases ry
  refine isnot_none_gen (fin_bl I q ?_)
  cases x <;> first
    | (cases rx; rfl)
    | (obtain ⟨t, rfl⟩ := rx; rfl)

theorem nomark (b : Expr) {op : CmpOp} (h : op ≠ .In := by decide) (h2 : op ≠ .NotIn := by decide) : behindInMarks op b = false := by
  have e1 : (op == CmpOp.In) = false := by cases op <;> first | rfl | exact absurd rfl h
  have e2 : (op == CmpOp.NotIn) = false := by cases op <;> first | rfl | exact absurd rfl h2
  cases b <;> simp [behindInMarks, e1, e2]

theorem pe_cmpR {op : CmpOp} {r : R2} (ho : OpR X (compareOp op) r) (ha : PE X a ta) (hb : PE X b tb) (hm : behindInMarks op b = false) : PE X (.Compare a [op] [b] pos) (tOp r ta tb) := by
  intro pins s σ H Q I h
  exact wpAny_Compare1 (binT ha hb I h fun v u s2 x y H2 I2 rx ry q => ho pins s2 σ H2 x y v u Q I2 rx ry q) hm

def tTest (t : TE) : TT := fun σ H Q => t σ H fun x H' => ∃ k, x = .bl k ∧ Q k H'
theorem pt_cmpR {op : CmpOp} {r : R2} (ho : OpR X (compareOp op) r) (ha : PE X a ta) (hb : PE X b tb) (hm : behindInMarks op b = false) : PT X (.Compare a [op] [b] pos) (tTest (tOp r ta tb)) := by
  intro pins s σ H Q I h
  refine wpAny_isTrue_Compare1 (thn (ha pins s σ H _ I h) fun v s1 ⟨x, H1, I1, r1, q1⟩ => thn (hb pins s1 σ H1 _ I1 q1) fun u s2 ⟨y, H2, I2, r2, q2⟩ =>
    thn (ho pins s2 σ H2 x y v u _ I2 r1 r2 q2) fun c s3 ⟨z, H3, I3, r3, k, e, q3⟩ => ?_) hm
  subst e
  cases r3
  exact wpAny_truthy_bool ⟨H3, I3, q3⟩

def tChain (r r' : R2) (ta tb tc : TE) : TE := fun σ H Q => ta σ H fun x H1 => tb σ H1 fun y H2 => r x y H2 fun z H3 => ∃ k, z = .bl k ∧
  (if k = true then tc σ H3 fun w' H4 => r' y w' H4 Q else Q (.bl false) H3)
theorem pt_chain {op op' : CmpOp} {r r' : R2} (ho : OpR X (compareOp op) r) (ho' : OpR X (compareOp op') r') (ha : PE X a ta) (hb : PE X b tb) (hc : PE X c tc)
    (hm : lastMarks [op, op'] [b, c] = false := by with_unfolding_all rfl) : PT X (.Compare a [op, op'] [b, c] pos) (tTest (tChain r r' ta tb tc)) := by
  intro pins s σ H Q I h
  refine isTrue_chain (thn (ha pins s σ H _ I h) fun v s1 ⟨x, H1, I1, r1, q1⟩ => test_link (thn (hb pins s1 σ H1 _ I1 q1) fun u s2 ⟨y, H2, I2, r2, q2⟩ =>
    thn (ho pins s2 σ H2 x y v u _ I2 r1 r2 q2) fun d s3 ⟨z, H3, I3, r3, k, e, q3⟩ => ?_)) hm
  subst e
  cases r3
  refine wpAny_truthy_bool ?_
  cases k with
  | false =>
    obtain ⟨k', e', q'⟩ := q3
    cases e'
    exact ite_ff ⟨H3, I3, q'⟩
  | true =>
    refine ite_tt (test_last (thn (hc pins s3 σ H3 _ I3 q3) fun w' s4 ⟨z', H4, I4, r4, q4⟩ => thn (ho' pins s4 σ H4 y z' u w' _ I4 r2 r4 q4) fun d' s5 ⟨z2, H5, I5, r5, k2, e2, q5⟩ => ?_))
    subst e2
    cases r5
    exact wpAny_truthy_bool ⟨H5, I5, q5⟩



theorem line63 : (sizeLine : Nat) < 2 ^ 63 := by rw [sizeLine_eq]; decide
theorem op_add_str : OpR X (binaryOp .Add) (fun x y H Q => ∃ i j, x = .str i ∧ y = .str j ∧ i.length + j.length ≤ sizeLine ∧ Q (.str (i ++ j)) H) := by
  intro pins s σ H x y v u Q I rx ry h
  obtain ⟨i, j, rfl, rfl, hz, q⟩ := h
  obtain ⟨t, rfl⟩ := rx
  obtain ⟨t', rfl⟩ := ry
  exact add_str (fun t' tk => ⟨.str (i ++ j), H, I.tok _, ⟨_, rfl⟩, q⟩) hz
theorem vals1 {x : V} {us : List Value} (r : Vals [x] us) : ∃ u, us = [u] ∧ RelV x u := by
  cases r with
  | cons r1 r2 => cases r2; exact ⟨_, rfl, r1⟩
theorem vals2 {x y : V} {us : List Value} (r : Vals [x, y] us) : ∃ u w', us = [u, w'] ∧ RelV x u ∧ RelV y w' := by
  cases r with
  | cons r1 r2 =>
    cases r2 with
    | cons r3 r4 => cases r4; exact ⟨_, _, rfl, r1, r3⟩
theorem call_max2 (hc : X.calm = true) : CallR X (.builtin "max") (fun xs H Q => ∃ i j, xs = [.int i, .int j] ∧ Q (.int (if j > i then j else i)) H) := by
  intro pins s σ H xs us Q I r h
  obtain ⟨i, j, rfl, q⟩ := h
  obtain ⟨u, w', rfl, ⟨t, rfl⟩, ⟨t', rfl⟩⟩ := vals2 r
  refine max_two_ints (I.ok.hd hc) fun h' tk k => ⟨_, H, I.kept k, ?_, q⟩
  by_cases hj : j > i
  · rw [if_pos hj, if_pos hj]; exact ⟨_, rfl⟩
  · rw [if_neg hj, if_neg hj]; exact ⟨_, rfl⟩
theorem call_min2 (hc : X.calm = true) : CallR X (.builtin "min") (fun xs H Q => ∃ i j, xs = [.int i, .int j] ∧ Q (.int (if j < i then j else i)) H) := by
  intro pins s σ H xs us Q I r h
  obtain ⟨i, j, rfl, q⟩ := h
  obtain ⟨u, w', rfl, ⟨t, rfl⟩, ⟨t', rfl⟩⟩ := vals2 r
  refine min_two_ints (I.ok.hd hc) fun h' tk k => ⟨_, H, I.kept k, ?_, q⟩
  by_cases hj : j < i
  · rw [if_pos hj, if_pos hj]; exact ⟨_, rfl⟩
  · rw [if_neg hj, if_neg hj]; exact ⟨_, rfl⟩
theorem call_int1 : CallR X (.type "int") (fun xs H Q => (∃ i, xs = [.int i] ∧ Q (.int i) H) ∨ ∃ k, xs = [.bl k] ∧ Q (.int (if k then 1 else 0)) H) := by
  intro pins s σ H xs us Q I r h
  rcases h with ⟨i, rfl, q⟩ | ⟨k, rfl, q⟩
  · obtain ⟨u, rfl, t, rfl⟩ := vals1 r
    exact call_int_int ⟨.int i, H, I, ⟨_, rfl⟩, q⟩
  · obtain ⟨u, rfl, r1⟩ := vals1 r
    cases r1
    exact call_int_bool ⟨.int (if k then 1 else 0), H, I.tok _, ⟨_, rfl⟩, q⟩
end
end L2

namespace L2
open PySem PySem.Spec PyProof.Rows


structure ObjM (h : Heap) (x dx C : Addr) (mA : Str → Option Value) : Prop where
  obj : h.get? x = some (PySem.W.instObj C dx)
  ns : h.Ns1 dx mA
  ne : dx ≠ x

theorem lookIn_ns {h : Heap} {dx : Addr} {mA : Str → Option Value} (n : h.Ns1 dx mA) : ∃ od, h.get? dx = some od ∧ ∀ name, PySem.W.lookIn name od = some (mA name) := by
  obtain ⟨o, es, ep, ho, hd, hk, _, hm⟩ := n
  refine ⟨o, ho, fun name => ?_⟩
  have e := hm name
  unfold nsFind findBy at e
  rw [← Array.find?_toList] at e
  unfold PySem.W.lookIn
  rw [hd]
  dsimp only
  split
  · rename_i y q
    rw [q] at e
    exact congrArg some e
  · rename_i q
    rw [q] at e
    have a : es.toList.any (·.refKey) = false := by
      rw [List.any_eq_false]
      intro y hy
      obtain ⟨z, t, hkey⟩ := hk y (Array.mem_toList_iff.mp hy)
      simp [DictEntry.refKey, hkey]
    have a' : ¬ es.toList.any (·.refKey) = true := by rw [a]; exact Bool.false_ne_true
    rw [if_neg a']
    exact congrArg some e

theorem ObjM.look {h : Heap} {x dx C : Addr} {mA : Str → Option Value} (I : ObjM h x dx C mA) : ∃ od, PySem.W.InstAt h x (PySem.W.instObj C dx) C (some od) ∧ ∀ name, PySem.W.lookIn name od = some (mA name) :=
  let ⟨od, ho, hl⟩ := lookIn_ns I.ns
  ⟨od, ⟨I.obj, rfl, rfl, ho⟩, hl⟩

section
variable {prog : Program} {w : World} {A : Around} {E : Value → Shared → Prop} {s : Shared} {K : PySem.W.Frag} {x dx C f : Addr} {mA : Str → Option Value} {name : Str} {v : Value}

theorem get_map {expr : Bool} {Q : Value → Shared → Prop} (X : K.In s.heap) (I : ObjM s.heap x dx C mA) (hg : PySem.W.plainGet K C name = true) (hh : PySem.W.hasDictIn K C = true)
    (ha : PySem.W.findIn K (.ref C) name = some none) (hv : mA name = some v) (hv' : PySem.W.handedIn v = true) (h : Q v { s with toks := s.toks + 1 }) :
    wpAny (model prog w) A (getAttr (.ref x) name expr) Q E s := by
  obtain ⟨od, J, hl⟩ := I.look
  exact PySem.W.get_value X J (PySem.W.plainGet_of hg).1 (PySem.W.findObj_own hh ha rfl (by rw [hl, hv])) hv' h

theorem get_meth {pl : Sem Bool} {Q : Value × List Value → Shared → Prop} (X : K.In s.heap) (I : ObjM s.heap x dx C mA) (hg : PySem.W.plainGet K C name = true)
    (hf : PySem.W.findIn K (.ref C) name = some (some (.ref f))) (ht : PySem.W.isFn K (.ref f) = true) (hv : mA name = none) (h : Q (.ref f, [.ref x]) s) :
    wpAny (model prog w) A (getMethod (.ref x) name pl) Q E s := by
  obtain ⟨od, J, hl⟩ := I.look
  exact PySem.W.method_fn X J (PySem.W.plainGet_of hg).1 (PySem.W.plainGet_of hg).2 hf (beq_iff_eq.mp ht) (by show (PySem.W.lookIn name od).map (·.isSome) = some false; rw [hl, hv]; rfl) h

theorem set_map {ns : List Str} {Q : Unit → Shared → Prop} (X : K.In s.heap) (I : ObjM s.heap x dx C mA)
    (hs : PySem.W.findIn K (.ref C) "__setattr__" = some (some (.builtin "object.__setattr__"))) (hp : PySem.W.plainOver K C = true) (ht : PySem.W.takerIn K C name = some none) (hh : PySem.W.hasDictIn K C = true)
    (hw : PySem.Within mA ns) (hsz : ns.length ≤ sizeLine)
    (h : ∀ h', ObjM h' x dx C (fun y => if y = name then some v else mA y) → Heap.SameBut dx s.heap h' → Q () { s with heap := h', toks := s.toks + 2 }) :
    wpAny (model prog w) A (setAttr (.ref x) name v) Q E s := by
  obtain ⟨od, J, hl⟩ := I.look
  refine PySem.W.set_plain X J hs (PySem.W.osa_open (s := { s with toks := s.toks + 1 }) (r := none) X J hp ht fun b => ?_)
  obtain ⟨cd, hc, hd'⟩ := PySem.W.any_some hh
  have hx : s.heap.get? x = some ⟨.ref C, some dx, .plain, #[]⟩ := I.obj
  refine wpAny_bind (wpAny_pure (wpAny_bind (wpAny_bind (wpAny_loadPart hx (wpAny_bind (PySem.W.Looks.here (s := { s with toks := s.toks + 1 }) (PySem.W.looks_clsIn X hc) ?_))))))
  rw [hd']
  refine wpAny_pure (a := some dx) (wpAny_bind (wpAny_pure (wpAny_bind ?_)))
  refine wpAny_nsSet1 (s := { s with toks := s.toks + 1 }) I.ns fun h' hn2 hs2 => ?_
  obtain ⟨oD, esD, epD, hoD, hdD, hcD⟩ := hn2.count (PySem.Within.cons name v hw)
  refine wpAny_bind (wpAny_lookBehind hoD (by rw [hdD]; exact pastItsLine_dict (Nat.le_trans hcD (by rw [List.length_cons]; omega))) ?_)
  exact wpAny_pure (h _ ⟨(hs2.2 _ (Ne.symm I.ne)).trans I.obj, hn2, I.ne⟩ hs2)


theorem make_map {R : Result → Shared → Prop} {vs : List Value} {kw : List (Str × Value)} (X : K.In s.heap) (hm : PySem.W.makesIn K C = true)
    (hi : PySem.W.findIn K (.ref C) "__init__" = some (some (.ref f))) (hf : PySem.W.typeIn K (.ref f) = some (.type "function"))
    (h : codeAny (model prog w) (A.under (.builtin "type.__call__" ⟨.ref C :: vs, kw⟩)) (.call (.ref f) ⟨.ref (s.heap.objs.size + 1) :: vs, kw⟩) (PySem.W.InitBack (s.heap.objs.size + 1) R)
      { s with heap := (s.heap.push PySem.W.emptyDict).push (PySem.W.instObj C s.heap.objs.size) }) :
    codeAny (model prog w) A (.call (.ref C) ⟨vs, kw⟩) R s := by
  obtain ⟨hh, g, d, t, os⟩ := s
  exact PySem.W.make_core (PySem.W.makes_of X hm) (PySem.W.looks_findIn X hi) (fun self => PySem.W.bind_fn X self hf) (.inl rfl) h

theorem make_map0 {R : Result → Shared → Prop} (X : K.In s.heap) (hm : PySem.W.makesIn K C = true)
    (hi : PySem.W.findIn K (.ref C) "__init__" = some (some (.builtin "object.__init__")))
    (hb : ∀ self, PySem.W.Looks (model prog w) s.heap (bindSpecial (.builtin "object.__init__") self) (.builtin "object.__init__", [self]))
    (h : codeAny (model prog w) (A.under (.builtin "type.__call__" ⟨[.ref C], []⟩)) (.call (.builtin "object.__init__") ⟨[.ref (s.heap.objs.size + 1)], []⟩) (PySem.W.InitBack (s.heap.objs.size + 1) R)
      { s with heap := (s.heap.push PySem.W.emptyDict).push (PySem.W.instObj C s.heap.objs.size) }) :
    codeAny (model prog w) A (.call (.ref C) ⟨[], []⟩) R s := by
  obtain ⟨hh, g, d, t, os⟩ := s
  exact PySem.W.make_core (PySem.W.makes_of X hm) (PySem.W.looks_findIn X hi) hb (.inr ⟨rfl, rfl⟩) h
end


def putF (f : Str) (v : V) : List (Str × V) → List (Str × V)
  | [] => [(f, v)]
  | (g, x) :: r => if g = f then (g, v) :: r else (g, x) :: putF f v r
theorem lookup_putF (f g : Str) (v : V) : ∀ fs : List (Str × V), (putF f v fs).lookup g = if g = f then some v else fs.lookup g
  | [] => by
    show List.lookup g [(f, v)] = _
    by_cases h : g = f
    · have hb : (g == f) = true := beq_iff_eq.mpr h
      simp only [List.lookup, hb, if_pos h]
    · have hb : (g == f) = false := beq_eq_false_iff_ne.mpr h
      simp only [List.lookup, hb, if_neg h]
  | (k, x) :: r => by
    have ih := lookup_putF f g v r
    rw [show putF f v ((k, x) :: r) = (if k = f then (k, v) :: r else (k, x) :: putF f v r) from rfl]
    by_cases hk : k = f
    · rw [if_pos hk]
      by_cases h : g = k
      · have hb : (g == k) = true := beq_iff_eq.mpr h
        simp only [List.lookup, hb, if_pos (h.trans hk)]
      · have hb : (g == k) = false := beq_eq_false_iff_ne.mpr h
        simp only [List.lookup, hb, if_neg (fun e : g = f => h (e.trans hk.symm))]
    · rw [if_neg hk]
      by_cases h : g = k
      · have hb : (g == k) = true := beq_iff_eq.mpr h
        simp only [List.lookup, hb, if_neg (fun e : g = f => hk (h.symm.trans e))]
      · have hb : (g == k) = false := beq_eq_false_iff_ne.mpr h
        simp only [List.lookup, hb]
        exact ih
theorem keys_putF (f : Str) (v : V) : ∀ fs : List (Str × V), f ∈ (putF f v fs).map (·.1) ∧ ∀ g, g ∈ fs.map (·.1) → g ∈ (putF f v fs).map (·.1)
  | [] => ⟨by simp [putF], fun g h => by simp at h⟩
  | (k, x) :: r => by
    obtain ⟨i1, i2⟩ := keys_putF f v r
    rw [show putF f v ((k, x) :: r) = (if k = f then (k, v) :: r else (k, x) :: putF f v r) from rfl]
    by_cases hk : k = f
    · rw [if_pos hk]
      subst hk
      exact ⟨by simp, fun g h => by simpa using h⟩
    · rw [if_neg hk]
      refine ⟨?_, fun g h => ?_⟩
      · rw [List.map_cons]
        exact List.mem_cons_of_mem _ i1
      · rw [List.map_cons] at h ⊢
        rcases List.mem_cons.mp h with e | e
        · exact List.mem_cons.mpr (.inl e)
        · exact List.mem_cons_of_mem _ (i2 g e)
theorem length_putF (f : Str) (v : V) : ∀ fs : List (Str × V), (putF f v fs).length ≤ fs.length + 1
  | [] => by simp [putF]
  | (k, x) :: r => by
    have ih := length_putF f v r
    rw [show putF f v ((k, x) :: r) = (if k = f then (k, v) :: r else (k, x) :: putF f v r) from rfl]
    by_cases hk : k = f
    · rw [if_pos hk, List.length_cons, List.length_cons]; omega
    · rw [if_neg hk, List.length_cons, List.length_cons]; omega

theorem RelO.some_of {v : V} {o : Option Value} (r : RelO (some v) o) : ∃ u, o = some u ∧ RelV v u := by
  cases o with
  | none => exact (show False from r).elim
  | some u => exact ⟨u, rfl, r⟩
theorem RelO.none_of {o : Option Value} (r : RelO none o) : o = none := by
  cases o with
  | none => rfl
  | some u => exact (show False from r).elim
theorem handed_of {v : V} {u : Value} (r : RelV v u) : PySem.W.handedIn u = true := by
  cases v with
  | non => cases (show u = Value.none from r); rfl
  | bl b => cases (show u = Value.bool b from r); rfl
  | int i => obtain ⟨t, e⟩ := (show ∃ t, u = Value.int i t from r); cases e; rfl
  | str x => obtain ⟨t, e⟩ := (show ∃ t, u = Value.str x t from r); cases e; rfl
  | byt b => obtain ⟨t, e⟩ := (show ∃ t, u = Value.bytes b t from r); cases e; rfl
  | flt b => obtain ⟨t, e⟩ := (show ∃ t, u = Value.float b t from r); cases e; rfl
  | ref a => cases (show u = Value.ref a from r); rfl
  | ty n => cases (show u = Value.type n from r); rfl

section
variable {P : Program} {w : World} {H H' : Hp} {h h' : Heap} {a C dx : Addr} {fs fs' : List (Str × V)}
theorem ins_get (hok : HOk P w H h) (e : H a = some (.ins C dx fs)) : ∃ mA, ObjM h a dx C mA ∧ (∀ f, RelO (fs.lookup f) (mA f)) ∧ PySem.Within mA (fs.map (·.1)) ∧ fs.length ≤ 1000 ∧ H dx = some (.own a) := by
  obtain ⟨d, z, ne, ob, mA, n, r, q⟩ := (show ObjOk P w H h a (.ins C dx fs) from hok a _ e)
  exact ⟨mA, ⟨ob, n, ne⟩, r, q, z, d⟩
end


structure Cls (K : PySem.W.Frag) (C : Addr) : Prop where
  pg : PySem.W.plainGet K C Str.empty = true
  hd : PySem.W.hasDictIn K C = true
  po : PySem.W.plainOver K C = true
  sa : PySem.W.findIn K (.ref C) "__setattr__" = some (some (.builtin "object.__setattr__"))
theorem Cls.get {K : PySem.W.Frag} {C : Addr} (c : Cls K C) (f : Str) : PySem.W.plainGet K C f = true := c.pg

def NoAttr (K : PySem.W.Frag) (C : Addr) (f : Str) : Prop := PySem.W.findIn K (.ref C) f = some none
theorem NoAttr.taker {K : PySem.W.Frag} {C : Addr} {f : Str} (n : NoAttr K C f) : PySem.W.takerIn K C f = some none := by
  unfold PySem.W.takerIn
  rw [show PySem.W.findIn K (.ref C) f = some none from n]
  rfl

structure Con (K : PySem.W.Frag) (C : Addr) (f : Str) (v : V) (u : Value) : Prop where
  at_ : PySem.W.findIn K (.ref C) f = some (some u)
  rel : RelV v u
  get : PySem.W.specialIn K u "__get__" = some none
  cp : PySem.W.copiedNames.contains f = false

structure Meth (K : PySem.W.Frag) (C : Addr) (m : Str) (f : Addr) : Prop where
  at_ : PySem.W.findIn K (.ref C) m = some (some (.ref f))
  fn : PySem.W.isFn K (.ref f) = true
  kp : PySem.W.keepIn K (.ref f) = true

section
variable {X : Cx} {pins : List (Addr × Obj)} {σ : St} {H : Hp} {s : Shared} {a C dx : Addr} {fs : List (Str × V)} {f : Str} {v : V} {A : Around} {E : Value → Shared → Prop}

theorem getattr_ok {b : Bool} {Q : Value → Shared → Prop} (I : Inv X pins σ H s) (e : H a = some (.ins C dx fs)) (c : Cls X.K C) (n : NoAttr X.K C f) (l : fs.lookup f = some v)
    (h : ∀ u s', Inv X pins σ H s' → RelV v u → Q u s') : wpAny (model X.prog X.w) A (getAttr (.ref a) f b) Q E s := by
  obtain ⟨mA, O, r, _, _, _⟩ := ins_get I.hok e
  obtain ⟨u, hu, ru⟩ := RelO.some_of (v := v) (o := mA f) (by rw [← l]; exact r f)
  exact get_map I.kIn O (c.get f) c.hd n hu (handed_of ru) (h u _ (I.tok _) ru)

theorem getmeth_ok {m : Str} {g : Addr} {pl : Sem Bool} {Q : Value × List Value → Shared → Prop} (I : Inv X pins σ H s) (e : H a = some (.ins C dx fs)) (c : Cls X.K C) (k : Meth X.K C m g) (l : fs.lookup m = none)
    (h : Q (.ref g, [.ref a]) s) : wpAny (model X.prog X.w) A (getMethod (.ref a) m pl) Q E s := by
  obtain ⟨mA, O, r, _, _, _⟩ := ins_get I.hok e
  have hn : mA m = none := RelO.none_of (by rw [← l]; exact r m)
  exact get_meth I.kIn O (c.get m) k.at_ k.fn hn h

theorem setattr_ok {y : V} {u : Value} {Q : Unit → Shared → Prop} (I : Inv X pins σ H s) (e : H a = some (.ins C dx fs)) (c : Cls X.K C) (n : NoAttr X.K C f) (hl : fs.length < 1000) (ry : RelV y u)
    (h : ∀ s', Inv X pins σ (upd H a (.ins C dx (putF f y fs))) s' → Q () s') : wpAny (model X.prog X.w) A (setAttr (.ref a) f u) Q E s := by
  obtain ⟨mA, O, r, wi, _, ho⟩ := ins_get I.hok e
  have hz : (fs.map (·.1)).length ≤ sizeLine := by rw [List.length_map, sizeLine_eq]; omega
  refine set_map I.kIn O c.sa c.po n.taker c.hd wi hz fun h' O' sb => h _ ?_
  have hd : ∃ o, h'.get? dx = some o := let ⟨o, _, _, e', _⟩ := O'.ns; ⟨o, e'⟩
  refine I.write (x := a) (e := dx) (by rw [e]; exact True.intro) (.inr ho) (fun b q hb z => (sb.2 b hb).trans z) hd ?_
  refine ⟨by rw [upd_ne O.ne]; exact ho, ?_, O.ne, O'.obj, _, O'.ns, fun g => ?_, fun g hg => ?_⟩
  · have := length_putF f y fs; omega
  · show RelO ((putF f y fs).lookup g) (if g = f then some u else mA g)
    rw [lookup_putF]
    by_cases q : g = f
    · rw [if_pos q, if_pos q]; exact ry
    · rw [if_neg q, if_neg q]; exact r g
  · by_cases q : g = f
    · rw [q]; exact (keys_putF f y fs).1
    · refine (keys_putF f y fs).2 g (wi g fun z => hg ?_)
      show (if g = f then some u else mA g) = none
      rw [if_neg q]; exact z


theorem Inv.made (I : Inv X pins σ H s) : Inv X pins σ (upd (upd H s.heap.objs.size (.own (s.heap.objs.size + 1))) (s.heap.objs.size + 1) (.ins C s.heap.objs.size []))
    { s with heap := (s.heap.push PySem.W.emptyDict).push (PySem.W.instObj C s.heap.objs.size) } := by
  have e1 : (s.heap.push PySem.W.emptyDict).get? s.heap.objs.size = some PySem.W.emptyDict := Heap.get?_push_size s.heap rfl
  have e2 : ((s.heap.push PySem.W.emptyDict).push (PySem.W.instObj C s.heap.objs.size)).get? (s.heap.objs.size + 1) = some (PySem.W.instObj C s.heap.objs.size) := by
    have := Heap.get?_push_size (s.heap.push PySem.W.emptyDict) (o := PySem.W.instObj C s.heap.objs.size) rfl
    rwa [Heap.size_push] at this
  have e3 : (s.heap.push PySem.W.emptyDict).Ns s.heap.objs.size (fun _ => none) := ⟨PySem.W.emptyDict, #[], _, e1, rfl, (fun e he => absurd he (by simp)), fun _ => rfl⟩
  have I1 := I.laid (a := s.heap.objs.size) (o := .own (s.heap.objs.size + 1)) (h' := s.heap.push PySem.W.emptyDict) (t' := s.toks) (fun b u q => Heap.get?_push_of_some _ q) (Nat.le_refl _) ⟨_, e1⟩
  refine I1.laid (a := s.heap.objs.size + 1) (o := .ins C s.heap.objs.size []) (t' := s.toks) (fun b u q => Heap.get?_push_of_some _ q) (Nat.le_of_eq (Heap.size_push _ _)) ?_
  have ne : s.heap.objs.size ≠ s.heap.objs.size + 1 := Nat.ne_of_lt (Nat.lt_succ_self _)
  refine ⟨by rw [upd_ne ne, upd_same], Nat.zero_le _, ne, e2, fun _ => none, (Heap.Ns1.of_empty e3).at fun o q => Heap.get?_push_of_some _ q, fun _ => True.intro, fun y hy => absurd rfl hy⟩


theorem attr_of {prog : Program} {w : World} {env : Env} {e : Expr} {f : Str} {pos : Pos} {s : Shared} {Q : Value → Shared → Prop} (hb : attributeBase e f env (eval e env) = eval e env)
    (h : wpAny (model prog w) A (eval e env) (fun o s₁ => wpAny (model prog w) A (getAttr o f true) Q E s₁) E s) : wpAny (model prog w) A (eval (.Attribute e f pos) env) Q E s :=
  Attribute_any_ h (by rw [arm_eval_Attribute, hb])
end



def tFld (K : PySem.W.Frag) (ta : TE) (f : Str) : TE := fun σ H Q => ta σ H fun x H1 => ∃ a C dx fs v, x = .ref a ∧ H1 a = some (.ins C dx fs) ∧ Cls K C ∧ NoAttr K C f ∧ fs.lookup f = some v ∧ Q v H1

def sFld (K : PySem.W.Frag) (ta tv : TE) (f : Str) : TS := fun D σ H => tv σ H fun y H1 => ta σ H1 fun x H2 => ∃ a C dx fs, x = .ref a ∧ H2 a = some (.ins C dx fs) ∧ Cls K C ∧ NoAttr K C f ∧ fs.length < 1000 ∧
  D.nx σ (upd H2 a (.ins C dx (putF f y fs)))

section
variable {X : Cx} {o e value : Expr} {f : Str} {pos pos' tpos : Pos} {ta tv : TE}
theorem pe_fld (he : PE X e ta) (hb : attributeBase e f X.env (eval e X.env) = eval e X.env) : PE X (.Attribute e f pos) (tFld X.K ta f) := by
  intro pins s σ H Q I h
  refine attr_of hb (thn (he pins s σ H _ I h) fun u s1 ⟨x, H1, I1, rx, a, C, dx, fs, v, ex, ea, c, n, l, q⟩ => ?_)
  subst ex
  obtain rfl : u = Value.ref a := rx
  exact getattr_ok I1 ea c n l fun u' s2 I2 ru => ⟨v, H1, I2, ru, q⟩
theorem ps_fld (ha : PE X o ta) (hv : PE X value tv) (hs : swapsWith value (some (.Attribute o f pos')) pos.line X.env = pure false) : PS X (.Assign [.Attribute o f pos'] value pos) (sFld X.K ta tv f) := by
  intro pins s σ H D I h
  refine plainObj_wpAny_Assign_Attribute (thn (hv pins s σ H _ I h) fun u s1 ⟨y, H1, I1, ry, q⟩ => thn (ha pins s1 σ H1 _ I1 q) fun ov s2 ⟨x, H2, I2, rx, a, C, dx, fs, ex, ea, c, n, l, q2⟩ => ?_) hs
  subst ex
  obtain rfl : ov = Value.ref a := rx
  exact setattr_ok I2 ea c n l ry fun s3 I3 => ⟨σ, _, I3, q2⟩
end


section
variable {X : Cx} {pins : List (Addr × Obj)} {σ : St} {H : Hp} {s : Shared} {A : Around} {E : Value → Shared → Prop} {Q : Value → Shared → Prop} {c : Value} {b : Bool}

inductive TyOf (K : PySem.W.Frag) (H : Hp) : V → Value → Prop where
  | non : TyOf K H .non (.type "NoneType")
  | bl (x : Bool) : TyOf K H (.bl x) (.type "bool")
  | int (i : Int) : TyOf K H (.int i) (.type "int")
  | str (x : Str) : TyOf K H (.str x) (.type "str")
  | flt (x : UInt64) : TyOf K H (.flt x) (.type "float")
  | lst {a : Addr} {xs : List V} (e : H a = some (.lst xs)) : TyOf K H (.ref a) (.type "list")
  | frz {a : Addr} {o : Obj} {xs : List V} (e : H a = some (.frz o (.lst xs))) : TyOf K H (.ref a) (.type "list")
  | tup {a : Addr} {xs : List V} (e : H a = some (.tup xs)) : TyOf K H (.ref a) (.type "tuple")
  | dK {a : Addr} {kvs : List (Key × V)} (e : H a = some (.dK kvs)) : TyOf K H (.ref a) (.type "dict")
  | dT {a : Addr} {kvs : List (List Key × V)} (e : H a = some (.dT kvs)) : TyOf K H (.ref a) (.type "dict")
  | ins {a C dx : Addr} {fs : List (Str × V)} (e : H a = some (.ins C dx fs)) (cl : Cls K C) (ha : PySem.W.findIn K (.ref C) "__class__" = some (some (.builtin "object.__class__")))
      (hn : PySem.W.specialIn K (.builtin "object.__class__") "__get__" = some (some (.builtin "getset_descriptor.__get__"))) (htk : PySem.W.takesIn K (.builtin "object.__class__") = some true)
      (hm : PySem.W.mroIn K C (.type "object") = some true) : TyOf K H (.ref a) (.ref C)

theorem isinst_ok {x : V} {u t : Value} (I : Inv X pins σ H s) (rx : RelV x u) (ty : TyOf X.K H x t) (e : PySem.W.kitOne X.K t c = some b) (h : ∀ tk, Q (.bool b) { s with toks := tk }) :
    wpAny (model X.prog X.w) A (call (.builtin "isinstance") [u, c]) Q E s := by
  cases ty with
  | non => cases (show u = Value.none from rx); exact PySem.W.kia_one PySem.W.kitx_none I.kIn True.intro e (fun z => nomatch z) h
  | bl y => cases (show u = Value.bool y from rx); exact PySem.W.kia_one PySem.W.kitx_bool I.kIn True.intro e (fun z => nomatch z) h
  | int i => obtain ⟨t, q⟩ := (show ∃ t, u = Value.int i t from rx); cases q; exact PySem.W.kia_one PySem.W.kitx_int I.kIn True.intro e (fun z => nomatch z) h
  | str y => obtain ⟨t, q⟩ := (show ∃ t, u = Value.str y t from rx); cases q; exact PySem.W.kia_one PySem.W.kitx_str I.kIn True.intro e (fun z => nomatch z) h
  | flt y => obtain ⟨t, q⟩ := (show ∃ t, u = Value.float y t from rx); cases q; exact PySem.W.kia_one PySem.W.kitx_float I.kIn True.intro e (fun z => nomatch z) h
  | @lst a xs ea =>
    cases (show u = Value.ref a from rx)
    obtain ⟨_, _, n, _, h1⟩ := (show ObjOk X.prog X.w H s.heap a (.lst xs) from I.hok a _ ea)
    exact PySem.W.kia_one PySem.W.kitx_list I.kIn ⟨_, h1, rfl⟩ e (fun z => nomatch z) h
  | @frz a ob xs ea =>
    cases (show u = Value.ref a from rx)
    obtain ⟨_, _, _, n, _, h1⟩ := (show ObjOk X.prog X.w H s.heap a (.frz ob (.lst xs)) from I.hok a _ ea)
    exact PySem.W.kia_one PySem.W.kitx_list I.kIn ⟨_, h1, rfl⟩ e (fun z => nomatch z) h
  | @tup a xs ea =>
    cases (show u = Value.ref a from rx)
    obtain ⟨_, _, _, p⟩ := (show ObjOk X.prog X.w H s.heap a (.tup xs) from I.hok a _ ea)
    obtain ⟨o, h1, h2, _⟩ := p
    exact PySem.W.kia_one PySem.W.kitx_tuple I.kIn ⟨o, h1, h2⟩ e (fun z => nomatch z) h
  | @dK a kvs ea =>
    cases (show u = Value.ref a from rx)
    obtain ⟨_, _, vs, _, p⟩ := (show ObjOk X.prog X.w H s.heap a (.dK kvs) from I.hok a _ ea)
    obtain ⟨o, es, ep, h1, h2, _⟩ := p
    exact PySem.W.kia_one PySem.W.kitx_dict I.kIn ⟨o, h1, h2.1⟩ e (fun z => nomatch z) h
  | @dT a kvs ea =>
    cases (show u = Value.ref a from rx)
    obtain ⟨_, _, xs, _, o, es, ep, h1, h2, _⟩ := (show ObjOk X.prog X.w H s.heap a (.dT kvs) from I.hok a _ ea)
    exact PySem.W.kia_one PySem.W.kitx_dict I.kIn ⟨o, h1, h2.1⟩ e (fun z => nomatch z) h
  | @ins a C dx fs ea cl ha hn htk hm =>
    cases (show u = Value.ref a from rx)
    obtain ⟨mA, O, _⟩ := ins_get I.hok ea
    obtain ⟨od, J, _⟩ := O.look
    exact PySem.W.kia_one (PySem.W.kitx_own (cl.get _) cl.hd ha hn htk hm) I.kIn J e (fun z => nomatch z) h
end
end L2

namespace L2
open PySem PySem.Spec PyProof.Rows


structure Room (k : Nat) (A : Around) : Prop where
  hd : A.handled = none
  dp : A.depth + 3 * k + 5 < recursionLimit
  un : A.units + 16 * k + 200 < cLine
theorem Room.mono {j k : Nat} {A : Around} (r : Room k A) (h : j ≤ k) : Room j A := ⟨r.hd, by have := r.dp; omega, by have := r.un; omega⟩
theorem Room.deeper {k : Nat} {A : Around} (r : Room (k + 1) A) (env : Env) : Room k (A.deeper env) :=
  ⟨r.hd, by have := r.dp; show A.depth + 1 + 3 * k + 5 < _; omega, by have := r.un; show A.units + 3 + 16 * k + 200 < _; omega⟩
theorem make_depth {A : Around} {C : Addr} {us : List Value} {kw : List (Str × Value)} : (A.under (.builtin "type.__call__" ⟨.ref C :: us, kw⟩)).depth = A.depth + 1 := by
  first | rfl | simp [Around.under, Code.weight, Code.isCreation, Code.isGuard, Code.isCaller, Code.frames, Code.isFrame, guardIds]
theorem make_units {A : Around} {C : Addr} {us : List Value} {kw : List (Str × Value)} : (A.under (.builtin "type.__call__" ⟨.ref C :: us, kw⟩)).units = A.units + 1 := by
  first | rfl | simp [Around.under, Code.cUnits, Code.frames, Code.isFrame]
theorem Room.make {k : Nat} {A : Around} (r : Room (k + 1) A) (C : Addr) (us : List Value) (kw : List (Str × Value)) : Room k (A.under (.builtin "type.__call__" ⟨.ref C :: us, kw⟩)) :=
  ⟨r.hd, by have := r.dp; rw [make_depth]; omega, by have := r.un; rw [make_units]; omega⟩
theorem Room.depth {k : Nat} {A : Around} (r : Room k A) : A.depth < recursionLimit := by have := r.dp; omega
theorem Room.units {k : Nat} {A : Around} (r : Room k A) : A.units + 64 < cLine := by have := r.un; omega
def tNil : TA := fun _ H Q => Q [] H
def tCons (ta : TE) (tr : TA) : TA := fun σ H Q => ta σ H fun x H1 => tr σ H1 fun xs H2 => Q (x :: xs) H2
section
variable {X : Cx} {e : Expr} {es : List Expr} {te : TE} {t : TA} {pos : Pos}
theorem pa_nil : PA X [] tNil := fun _ _ _ _ H Q I h => Calls.spliced_nil ⟨[], H, I, .nil, h⟩
theorem pa_cons (ha : PE X e te) (hr : PA X es t) (hs : starEach (e :: es) X.env = (false, eval e X.env) :: starEach es X.env := by rfl) : PA X (e :: es) (tCons te t) := by
  intro pos pins s σ H Q I h
  rw [hs]
  show wpAny _ _ (spliced ((false, eval e X.env) :: backTo pos (starEach es X.env))) _ _ s
  refine Calls.spliced_cons (thn (ha pins s σ H _ I h) fun u s1 ⟨x, H1, I1, r1, q1⟩ => ?_)
  exact thn (hr pos pins s1 σ H1 _ I1 q1) fun us s2 ⟨xs, H2, I2, r2, q2⟩ => ⟨x :: xs, H2, I2, .cons r1 r2, q2⟩


def tTup (t : TA) : TE := fun σ H Q => t σ H fun xs H1 => xs.length ≤ sizeLine ∧ ∀ p, H1 p = none → Q (.ref p) (upd H1 p (.tup xs))
def tLst (t : TA) : TE := fun σ H Q => t σ H fun xs H1 => xs.length ≤ sizeLine ∧ ∀ p, H1 p = none → Q (.ref p) (upd H1 p (.lst xs))
theorem pe_tup {x1} (h : PA X es t) : PE X (.Tuple es x1 pos) (tTup t) := by
  intro pins s σ H Q I hq
  refine wpAny_Tuple_spliced (thn (h pos pins s σ H _ I hq) fun us s1 ⟨xs, H1, I1, r, z, q⟩ => ⟨by rw [← r.length]; exact z, ?_⟩)
  have hf : H1 s1.heap.objs.size = none := I1.hok.fresh (Nat.le_refl _)
  refine ⟨.ref s1.heap.objs.size, upd H1 s1.heap.objs.size (.tup xs), I1.laid (t' := s1.toks) (fun b u e => Heap.get?_push_of_some _ e) (Nat.le_refl _) ?_, rfl, q _ hf⟩
  exact ⟨z, us, r, ⟨_, Heap.get?_push_size _ rfl, rfl, _, rfl⟩⟩
theorem pe_lst (h : PA X es t) : PE X (.List es pos) (tLst t) := by
  intro pins s σ H Q I hq
  refine wpAny_List_spliced (thn (h pos pins s σ H _ I hq) fun us s1 ⟨xs, H1, I1, r, z, q⟩ => ⟨by rw [← r.length]; exact z, ?_⟩)
  have hf : H1 s1.heap.objs.size = none := I1.hok.fresh (Nat.le_refl _)
  refine ⟨.ref s1.heap.objs.size, upd H1 s1.heap.objs.size (.lst xs), I1.laid (t' := s1.toks) (fun b u e => Heap.get?_push_of_some _ e) (Nat.le_refl _) ?_, rfl, q _ hf⟩
  exact ⟨z, us, 0, r, Heap.get?_push_size _ rfl⟩
end



abbrev Sp := List V → Hp → VK → XK → Prop

abbrev CXT := List Env → Hp → Shared → XK → Value → Shared → Prop


structure Env0 (P : Program) (w : World) (K : PySem.W.Frag) (mg : Str → Option Value) (base : Heap) (A : Around) (outer : List Env) (s : Shared) (H : Hp) : Prop where
  frames : A.frames = some outer
  mod : Mod K mg base
  bs : ∀ b o, base.get? b = some o → s.heap.get? b = some o ∧ H b = none
  bsz : base.objs.size ≤ s.heap.objs.size
  funs : s.heap.FunFrames base outer
  frf : ∀ b ∈ frs outer, H b = none
  hok : HOk P w H s.heap
  bare : AllBare s.gens

def CE (outer : List Env) (P : Program) (w : World) (H : Hp) (s : Shared) (Q : VK) (u : Value) (s' : Shared) : Prop :=
  ∃ v H', s'.os = s.os ∧ AllBare s'.gens ∧ Un (frs outer) [] H H' s.heap s'.heap ∧ HOk P w H' s'.heap ∧ RelV v u ∧ Q v H'
def CR (CX : CXT) (outer : List Env) (P : Program) (w : World) (H : Hp) (s : Shared) (Q : VK) (E : XK) (r : Result) (s' : Shared) : Prop :=
  match r with
  | .ok (.ret u) => CE outer P w H s Q u s'
  | .ok _ => False
  | .error e => CX outer H s E e s'
structure FnOk (P : Program) (w : World) (K : PySem.W.Frag) (mg : Str → Option Value) (base : Heap) (CX : CXT) (k : Nat) (f : Addr) (fd : FuncData) (ps : List Str) (sp : Sp) : Prop where
  len : ∀ vs H Q E, sp vs H Q E → vs.length = ps.length
  run : ∀ (A : Around) (outer : List Env) (s : Shared) (H : Hp) (args : Args) (us : List Value) (vs : List V) (Q : VK) (E : XK), Room k A → Env0 P w K mg base A outer s H → BindsTo s fd args (ps.zip us) → Vals vs us → sp vs H Q E →
    codeAny (model P w) A (.call (.ref f) args) (CR CX outer P w H s Q E) s
theorem FnOk.mono {P : Program} {w : World} {K : PySem.W.Frag} {mg : Str → Option Value} {base : Heap} {CX : CXT} {j k : Nat} {f : Addr} {fd : FuncData} {ps : List Str} {sp : Sp} (F : FnOk P w K mg base CX j f fd ps sp) (h : j ≤ k) :
    FnOk P w K mg base CX k f fd ps sp := ⟨F.len, fun A outer s H args us vs Q E hr => F.run A outer s H args us vs Q E (hr.mono h)⟩

theorem Env0.make {P : Program} {w : World} {K : PySem.W.Frag} {mg : Str → Option Value} {base : Heap} {A : Around} {outer : List Env} {s : Shared} {H : Hp} (e : Env0 P w K mg base A outer s H) (C : Addr) (us : List Value) (kw : List (Str × Value)) :
    Env0 P w K mg base (A.under (.builtin "type.__call__" ⟨.ref C :: us, kw⟩)) outer s H := ⟨by first | exact e.frames | (simpa [Around.under, Code.envs, Code.isFrame, pushEnvs] using e.frames), e.mod, e.bs, e.bsz, e.funs, e.frf, e.hok, e.bare⟩
section
variable {X : Cx} {pins : List (Addr × Obj)} {σ : St} {H : Hp} {s s' : Shared}

theorem Inv.env0 (I : Inv X pins σ H s) : Env0 X.prog X.w X.K X.mg X.base X.A X.stack s H :=
  ⟨I.ok.frames, I.ok.mod, I.bs, Nat.le_trans I.ok.bsz I.sz, I.stack, I.stkFree, I.hok, I.bare⟩

theorem Inv.after {Q : VK} {u : Value} (I : Inv X pins σ H s) (h : CE X.stack X.prog X.w H s Q u s') : EP X pins σ Q u s' := by
  obtain ⟨v, H', os, bare, un, hok, r, q⟩ := h
  obtain ⟨hh, g, d, t, os'⟩ := s'
  obtain rfl : os' = s.os := os
  exact ⟨v, H', I.call (h' := hh) (g' := g) (d' := d) (t' := t) (ch := []) un hok bare (fun b z => absurd z (by simp)), r, q⟩
end



def tCall (sp : Sp) (dvs : List V) (E : XK) (t : TA) : TE := fun σ H Q => t σ H fun vs H1 => sp (vs ++ dvs) H1 Q E

def tMeth (C : Addr) (m : Str) (sp : Sp) (dvs : List V) (E : XK) (ta : TE) (t : TA) : TE := fun σ H Q => ta σ H fun x H1 => ∃ a dx fs, x = .ref a ∧ H1 a = some (.ins C dx fs) ∧ fs.lookup m = none ∧
  t σ H1 fun vs H2 => sp (x :: (vs ++ dvs)) H2 Q E

def tMake (C : Addr) (sp : Sp) (dvs : List V) (E : XK) (t : TA) : TE := fun σ H Q => t σ H fun vs H1 => ∀ x dx, H1 x = none → H1 dx = none → dx ≠ x →
  sp (.ref x :: (vs ++ dvs)) (upd (upd H1 dx (.own x)) x (.ins C dx [])) (fun v H2 => v = .non ∧ Q (.ref x) H2) E


def Binds (K : PySem.W.Frag) (fd : FuncData) (ps : List Str) (ds : List Value) : Prop :=
  ∀ (s : Shared) (us : List Value), K.In s.heap → (us ++ ds).length = ps.length → BindsTo s fd ⟨us, []⟩ (ps.zip (us ++ ds))

theorem Binds.all {K : PySem.W.Frag} {fd : FuncData} {ps : List Str} (h : ∀ us : List Value, us.length = ps.length → bindArgs fd ⟨us, []⟩ = pure (ps.zip us)) : Binds K fd ps [] := fun s us _ hl => by
  rw [List.append_nil] at hl ⊢
  exact .of_eq (h us hl)


def Passes (CX : CXT) (X : Cx) (E : XK) : Prop := ∀ (pins : List (Addr × Obj)) (σ : St) (H : Hp) (s : Shared) (e : Value) (s' : Shared), Inv X pins σ H s → CX X.stack H s E e s' → X.xe e s'

section
variable {X : Cx} {CX : CXT} {k : Nat} {f C : Addr} {fd : FuncData} {ps : List Str} {sp : Sp} {dvs : List V} {ds : List Value} {E : XK} {x m : Str} {p pos apos : Pos} {e o : Expr} {es : List Expr} {ta : TE} {t : TA}


theorem run_fn {pins : List (Addr × Obj)} {σ : St} {H : Hp} {s : Shared} {Q : VK} {us : List Value} {vs : List V} (F : FnOk X.prog X.w X.K X.mg X.base CX k f fd ps sp) (hr : Room k X.A) (hb : Binds X.K fd ps ds) (hd : Vals dvs ds) (hx : Passes CX X E)
    (I : Inv X pins σ H s) (r : Vals vs us) (h : sp (vs ++ dvs) H Q E) : wpAny (model X.prog X.w) X.A (call (.ref f) us) (EP X pins σ Q) X.xe s := by
  have r2 : Vals (vs ++ dvs) (us ++ ds) := r.append hd
  have hl : (us ++ ds).length = ps.length := by rw [← r2.length]; exact F.len _ _ _ _ h
  refine wpAny_call (codeAny_mono (F.run X.A X.stack s H ⟨us, []⟩ (us ++ ds) (vs ++ dvs) Q E hr I.env0 (hb s us I.kIn hl) r2 h) fun r s' hq => ?_)
  cases r with
  | error e => exact hx pins σ H s e s' I hq
  | ok fl =>
    cases fl with
    | ret u => exact I.after hq
    | next => exact False.elim hq
    | brk => exact False.elim hq
    | cont => exact False.elim hq

theorem pe_call (F : FnOk X.prog X.w X.K X.mg X.base CX k f fd ps sp) (hr : Room k X.A) (hg : Gl X x) (hm : X.mg x = some (.ref f)) (hk : PySem.W.keepIn X.K (.ref f) = true) (hb : Binds X.K fd ps ds) (hd : Vals dvs ds) (hx : Passes CX X E)
    (ha : PA X (e :: es) t) (hdb : (x == ("__debug__" : Str)) = false := by decide) (he : starEach (e :: es) X.env = (false, eval e X.env) :: starEach es X.env := by rfl) (hpl : (backTo pos (starEach es X.env)).any (·.1) = false := by rfl) :
    PE X (.Call (.Name x p) (e :: es) [] pos) (tCall sp dvs E t) := by
  intro pins s σ H Q I h
  refine wpAny_Call_Name_kw (ld_glob I hg hm ?_ hdb)
  refine PySem.W.callWith_K (h₀ := X.base) I.ok.mod.kin hk (thn (ha pos pins s σ H _ I h) fun us s1 ⟨vs, H1, I1, r, q⟩ => ⟨I1.kIn, ?_⟩) he hpl
  exact run_fn F hr hb hd hx I1 r q
theorem pe_call0 (F : FnOk X.prog X.w X.K X.mg X.base CX k f fd ps sp) (hr : Room k X.A) (hg : Gl X x) (hm : X.mg x = some (.ref f)) (hk : PySem.W.keepIn X.K (.ref f) = true) (hb : Binds X.K fd ps ds) (hd : Vals dvs ds) (hx : Passes CX X E)
    (hdb : (x == ("__debug__" : Str)) = false := by decide) : PE X (.Call (.Name x p) [] [] pos) (tCall sp dvs E tNil) := by
  intro pins s σ H Q I h
  refine wpAny_Call_Name_kw (ld_glob I hg hm ?_ hdb)
  exact PySem.W.callWith_K0 I.kIn hk (run_fn (us := []) F hr hb hd hx I .nil h)


theorem pe_meth {pl : Sem Bool} (he : PE X o ta) (c : Cls X.K C) (hm : Meth X.K C m f) (F : FnOk X.prog X.w X.K X.mg X.base CX k f fd ps sp) (hr : Room k X.A) (hb : Binds X.K fd ps ds) (hd : Vals dvs ds) (hx : Passes CX X E) (ha : PA X (e :: es) t)
    (hst : starEach (e :: es) X.env = (false, eval e X.env) :: starEach es X.env := by rfl) (hpl : (backTo pos (starEach es X.env)).any (·.1) = false := by rfl)
    (ht : eval (.Call (.Attribute o m apos) (e :: es) [] pos) X.env = (do
      let ov ← eval o X.env
      standAt apos.atName
      let (f, first) ← holding [ov] (getMethod ov m pl)
      callWith pos f first (backTo pos (starEach (e :: es) X.env)) (backToKw pos (keywordEach [] X.env))) := by rfl) :
    PE X (.Call (.Attribute o m apos) (e :: es) [] pos) (tMeth C m sp dvs E ta t) := by
  intro pins s σ H Q I h
  refine PySem.W.methodCall_KW (pl := pl) (thn (he pins s σ H _ I h) fun u s1 ⟨x, H1, I1, rx, a, dx, fs, ex, ea, l, q⟩ => ?_) ht
  subst ex
  obtain rfl : u = Value.ref a := rx
  refine getmeth_ok I1 ea c hm l ?_
  refine PySem.W.callWith_K (first := [.ref a]) (h₀ := X.base) I.ok.mod.kin hm.kp (thn (ha pos pins s1 σ H1 _ I1 q) fun us s2 ⟨vs, H2, I2, r, q2⟩ => ⟨I2.kIn, ?_⟩) hst hpl
  exact run_fn (us := .ref a :: us) (vs := .ref a :: vs) F hr hb hd hx I2 (.cons rfl r) q2

theorem pe_meth0 {pl : Sem Bool} (he : PE X o ta) (c : Cls X.K C) (hm : Meth X.K C m f) (F : FnOk X.prog X.w X.K X.mg X.base CX k f fd ps sp) (hr : Room k X.A) (hb : Binds X.K fd ps ds) (hd : Vals dvs ds) (hx : Passes CX X E)
    (ht : eval (.Call (.Attribute o m apos) [] [] pos) X.env = (do
      let ov ← eval o X.env
      standAt apos.atName
      let (f, first) ← holding [ov] (getMethod ov m pl)
      callWith pos f first (backTo pos (starEach [] X.env)) (backToKw pos (keywordEach [] X.env))) := by rfl) :
    PE X (.Call (.Attribute o m apos) [] [] pos) (tMeth C m sp dvs E ta tNil) := by
  intro pins s σ H Q I h
  refine PySem.W.methodCall_KW (pl := pl) (thn (he pins s σ H _ I h) fun u s1 ⟨x, H1, I1, rx, a, dx, fs, ex, ea, l, q⟩ => ?_) ht
  subst ex
  obtain rfl : u = Value.ref a := rx
  refine getmeth_ok I1 ea c hm l ?_
  exact PySem.W.callWith_K0 (first := [.ref a]) I1.kIn hm.kp (run_fn (us := [.ref a]) (vs := [.ref a]) F hr hb hd hx I1 (.cons rfl .nil) q)


structure Mk (K : PySem.W.Frag) (C f : Addr) : Prop where
  makes : PySem.W.makesIn K C = true
  init : PySem.W.findIn K (.ref C) "__init__" = some (some (.ref f))
  fn : PySem.W.isFn K (.ref f) = true
  kp : PySem.W.keepIn K (.ref C) = true

theorem run_make {pins : List (Addr × Obj)} {σ : St} {H : Hp} {s : Shared} {Q : VK} {us : List Value} {vs : List V} (M : Mk X.K C f) (F : FnOk X.prog X.w X.K X.mg X.base CX k f fd ps sp) (hr : Room (k + 1) X.A) (hb : Binds X.K fd ps ds) (hd : Vals dvs ds)
    (hx : Passes CX X E) (I : Inv X pins σ H s) (r : Vals vs us)
    (h : ∀ x dx, H x = none → H dx = none → dx ≠ x → sp (.ref x :: (vs ++ dvs)) (upd (upd H dx (.own x)) x (.ins C dx [])) (fun v H2 => v = .non ∧ Q (.ref x) H2) E) :
    wpAny (model X.prog X.w) X.A (call (.ref C) us) (EP X pins σ Q) X.xe s := by
  have hq := h (s.heap.objs.size + 1) s.heap.objs.size (I.hok.fresh (Nat.le_succ _)) (I.hok.fresh (Nat.le_refl _)) (Nat.ne_of_lt (Nat.lt_succ_self _))
  have I2 := Inv.made (C := C) I
  have r2 : Vals (V.ref (s.heap.objs.size + 1) :: (vs ++ dvs)) (Value.ref (s.heap.objs.size + 1) :: (us ++ ds)) := .cons rfl (r.append hd)
  have hl : (Value.ref (s.heap.objs.size + 1) :: us ++ ds).length = ps.length := by
    have e := r2.length
    rw [F.len _ _ _ _ hq] at e
    exact e.symm
  refine wpAny_call (make_map (f := f) I.kIn M.makes M.init (beq_iff_eq.mp M.fn) (codeAny_mono (F.run _ X.stack _ _ ⟨Value.ref (s.heap.objs.size + 1) :: us, []⟩ (Value.ref (s.heap.objs.size + 1) :: (us ++ ds)) _ _ E (hr.make C us [])
    (I2.env0.make C us []) (hb _ (Value.ref (s.heap.objs.size + 1) :: us) I2.kIn hl) r2 hq) fun r s' hq' => ?_))
  cases r with
  | error e => exact hx pins σ _ _ e s' I2 hq'
  | ok fl =>
    cases fl with
    | ret u =>
      obtain ⟨v, H', I3, rv, ev, q3⟩ := I2.after hq'
      subst ev
      exact ⟨rv, ⟨V.ref (s.heap.objs.size + 1), H', I3, rfl, q3⟩⟩
    | next => exact False.elim hq'
    | brk => exact False.elim hq'
    | cont => exact False.elim hq'
theorem pe_make (M : Mk X.K C f) (F : FnOk X.prog X.w X.K X.mg X.base CX k f fd ps sp) (hr : Room (k + 1) X.A) (hg : Gl X x) (hm : X.mg x = some (.ref C)) (hb : Binds X.K fd ps ds) (hd : Vals dvs ds) (hx : Passes CX X E)
    (ha : PA X (e :: es) t) (hdb : (x == ("__debug__" : Str)) = false := by decide) (he : starEach (e :: es) X.env = (false, eval e X.env) :: starEach es X.env := by rfl) (hpl : (backTo pos (starEach es X.env)).any (·.1) = false := by rfl) :
    PE X (.Call (.Name x p) (e :: es) [] pos) (tMake C sp dvs E t) := by
  intro pins s σ H Q I h
  refine wpAny_Call_Name_kw (ld_glob I hg hm ?_ hdb)
  refine PySem.W.callWith_K (h₀ := X.base) I.ok.mod.kin M.kp (thn (ha pos pins s σ H _ I h) fun us s1 ⟨vs, H1, I1, r, q⟩ => ⟨I1.kIn, ?_⟩) he hpl
  exact run_make M F hr hb hd hx I1 r q
end



section
variable {X : Cx} {CX : CXT} {k : Nat} {f C : Addr} {fd : FuncData} {ps ks : List Str} {sp : Sp} {E : XK} {x m : Str} {p pos apos kpos : Pos} {e o : Expr} {es : List Expr} {kws : List Keyword} {te ta : TE} {t tk : TA} {nm : Option Str}
structure KBinds (K : PySem.W.Frag) (fd : FuncData) (ps ks : List Str) (g : List Value → List Value → List Value) (gV : List V → List V → List V) : Prop where
  to : ∀ (s : Shared) (us ws : List Value), K.In s.heap → (g us ws).length = ps.length → BindsTo s fd ⟨us, ks.zip ws⟩ (ps.zip (g us ws))
  rel : ∀ {vs : List V} {us : List Value} {zs : List V} {ws : List Value}, Vals vs us → Vals zs ws → Vals (gV vs zs) (g us ws)
variable {g : List Value → List Value → List Value} {gV : List V → List V → List V}
end



structure FnScope (N P : List Str) (sc : Scope) : Prop where
  kind : sc.kind = .function
  co : sc.isCoroutine = false
  gen : sc.isGenerator = false
  nd : N.Nodup
  pre : N.take P.length = P
  par : ∀ x ∈ P, sc.names.lookup x = some .local ∨ sc.names.lookup x = some .cell
  nofree : ∀ y ∈ sc.names, y.2 ≠ .free

theorem bindL_out {kindOf : Str → Option NameKind} {x : Str} : ∀ {binds : List (Str × Value)} {m : Str → Option Value}, (∀ v, (x, v) ∉ binds) → bindL kindOf binds m x = m x
  | [], _, _ => rfl
  | (n, v) :: r, m, h => by
    unfold bindL
    rw [bindL_out fun w hw => h w (List.mem_cons_of_mem _ hw)]
    split
    · have : x ≠ n := by rintro rfl; exact h v List.mem_cons_self
      simp [this]
    · rfl
theorem bindC_out {kindOf : Str → Option NameKind} {x : Str} : ∀ {binds : List (Str × Value)} {m : Str → Option Value}, (∀ v, (x, v) ∉ binds) → bindC kindOf binds m x = m x
  | [], _, _ => rfl
  | (n, v) :: r, m, h => by
    unfold bindC
    rw [bindC_out fun w hw => h w (List.mem_cons_of_mem _ hw)]
    split
    · rfl
    · have : x ≠ n := by rintro rfl; exact h v List.mem_cons_self
      simp [this]
theorem bindL_get {kindOf : Str → Option NameKind} {x : Str} {v : Value} : ∀ {P : List Str} {vs : List Value} {i : Nat} {m : Str → Option Value}, P.Nodup → P[i]? = some x → vs[i]? = some v → kindOf x = some .local →
    bindL kindOf (P.zip vs) m x = some v
  | [], _, _, _, _, h, _, _ => by simp at h
  | _ :: _, [], _, _, _, _, h, _ => by simp at h
  | p :: P, w :: vs, 0, m, nd, h1, h2, hk => by
    simp at h1 h2; subst h1; subst h2
    show bindL kindOf ((p, w) :: P.zip vs) m p = _
    unfold bindL
    rw [bindL_out fun v hv => (List.nodup_cons.mp nd).1 (List.of_mem_zip hv).1, if_pos hk]
    simp
  | p :: P, w :: vs, i + 1, m, nd, h1, h2, hk => by
    show bindL kindOf ((p, w) :: P.zip vs) m x = _
    unfold bindL
    exact bindL_get (i := i) (List.nodup_cons.mp nd).2 (by simpa using h1) (by simpa using h2) hk
theorem bindC_get {kindOf : Str → Option NameKind} {x : Str} {v : Value} : ∀ {P : List Str} {vs : List Value} {i : Nat} {m : Str → Option Value}, P.Nodup → P[i]? = some x → vs[i]? = some v → kindOf x ≠ some .local →
    bindC kindOf (P.zip vs) m x = some v
  | [], _, _, _, _, h, _, _ => by simp at h
  | _ :: _, [], _, _, _, _, h, _ => by simp at h
  | p :: P, w :: vs, 0, m, nd, h1, h2, hk => by
    simp at h1 h2; subst h1; subst h2
    show bindC kindOf ((p, w) :: P.zip vs) m p = _
    unfold bindC
    rw [bindC_out fun v hv => (List.nodup_cons.mp nd).1 (List.of_mem_zip hv).1, if_neg hk]
    simp
  | p :: P, w :: vs, i + 1, m, nd, h1, h2, hk => by
    show bindC kindOf ((p, w) :: P.zip vs) m x = _
    unfold bindC
    exact bindC_get (i := i) (List.nodup_cons.mp nd).2 (by simpa using h1) (by simpa using h2) hk


def start (N : List Str) (vs : List V) : St := vs.map some ++ List.replicate (N.length - vs.length) none


def cxOf (CX : CXT) (P : Program) (w : World) (K : PySem.W.Frag) (mg : Str → Option Value) (base : Heap) (N : List Str) (qual : Str) (scope : Scope) (f : Addr) (cd : Value) (A : Around) (outer : List Env) (s : Shared) (H : Hp) (E : XK) : Cx where
  prog := P
  w := w
  K := K
  mg := mg
  base := base
  A := A.deeper (envOfC qual scope s.heap.objs.size f cd)
  N := N
  s₀ := s
  H₀ := H
  env := envOfC qual scope s.heap.objs.size f cd
  outer := outer
  stack := envOfC qual scope s.heap.objs.size f cd :: outer
  ex := []
  calm := true
  fn := fun _ => true
  pn := []
  xe := fun e s' => wpAny (model P w) (A.deeper (envOfC qual scope s.heap.objs.size f cd)) (leaving (envOfC qual scope s.heap.objs.size f cd) e) (fun _ s'' => CX outer H s E e s'') (fun e' s'' => CX outer H s E e' s'') s'

theorem cell_has {sc : Scope} {n : Nat} {x : Str} (h : sc.names.lookup x = some .cell) : ∃ c, (cellsFrom n sc.names []).lookup x = some c := by
  have q := PySem.W.cellsFrom_some sc.names n [] (.inl h)
  exact Option.isSome_iff_exists.mp q

theorem inv_start {CX : CXT} {P : Program} {w : World} {K : PySem.W.Frag} {mg : Str → Option Value} {base : Heap} {N ps : List Str} {qual : Str} {scope : Scope} {f : Addr} {cd : Value} {A : Around} {outer : List Env} {s s1 : Shared} {H : Hp} {E : XK} {us : List Value} {vs : List V}
    (S : FnScope N ps scope) (hd : A.handled = none) (e0 : Env0 P w K mg base A outer s H) (hl : vs.length = ps.length) (r : Vals vs us)
    (x : InCallC s s.heap.objs.size (bindL (envOfC qual scope s.heap.objs.size f cd).kindOf (ps.zip us) fun _ => none) (cellsFrom (s.heap.objs.size + 1) scope.names []) (bindC (envOfC qual scope s.heap.objs.size f cd).kindOf (ps.zip us) fun _ => none) s1) :
    Inv (cxOf CX P w K mg base N qual scope f cd A outer s H E) [] (start N vs) H s1 := by
  have hpl : ps.length ≤ N.length := by have := congrArg List.length S.pre; rw [List.length_take] at this; omega
  obtain ⟨h1, tk, rfl, hk⟩ := x.done
  have noA : ∀ b : Addr, b ∉ (cxOf CX P w K mg base N qual scope f cd A outer s H E).ex := fun b z => absurd (show b ∈ ([] : List Addr) from z) (by simp)
  refine ⟨⟨e0.mod, S.kind, rfl, rfl, Nat.le_refl _, fun y z c h1 h2 => ?_, fun y hy => ?_, fun y c _ h => ?_, fun _ => hd, Around.frames_deeper e0.frames, .inr ⟨rfl, rfl⟩, fun b z => absurd z (noA b), e0.bs, e0.bsz, fun b _ _ => noA b, fun b z => absurd z (noA b), e0.funs, e0.frf⟩,
    rfl, e0.bare, Un.kept hk, ⟨_, x.toInCall.ns, fun i y v h1 h2 h3 => ?_⟩, fun y c h => ⟨_, x.cell y c h⟩, e0.hok.fresh (Nat.le_refl _), fun y c h => ?_, fun p hp => absurd (show p ∈ ([] : List (Addr × Obj)) from hp) (by simp), e0.hok.kept hk, ?_⟩
  · exact name_of_addr x.apart (PySem.mem_of_lookup h1) (PySem.mem_of_lookup h2)
  · have hy : scope.names.lookup y = some .cell ∨ scope.names.lookup y = some .free := hy
    rcases hy with hy | hy
    · exact cell_has hy
    · exact absurd rfl (S.nofree _ (PySem.mem_of_lookup hy))
  · exact Nat.le_of_lt (x.above y c (PySem.mem_of_lookup h))
  · have hi : i < vs.length := by
      unfold start at h2
      by_cases hi : i < vs.length
      · exact hi
      · rw [List.getElem?_append_right (by simpa using hi)] at h2
        rw [List.getElem?_replicate] at h2
        split at h2 <;> cases h2
    have ha : vs[i]? = some v := by
      unfold start at h2
      rw [List.getElem?_append_left (by simpa using hi), List.getElem?_map] at h2
      cases e : vs[i]? with
      | none => rw [e] at h2; cases h2
      | some a => rw [e] at h2; cases h2; rfl
    obtain ⟨u, hu, rv⟩ := r.get ha
    have hp : ps[i]? = some y := by
      rw [← S.pre, List.getElem?_take_of_lt (by omega)]; exact h1
    have ndP : ps.Nodup := by rw [← S.pre]; exact S.nd.sublist (List.take_sublist _ _)
    refine ⟨u, rv, ?_⟩
    rcases S.par y (List.mem_of_getElem? hp) with k | k
    · exact .inl ⟨k, bindL_get ndP hp hu k⟩
    · obtain ⟨c, e⟩ := cell_has (n := s.heap.objs.size + 1) k
      refine .inr ⟨.inl k, c, e, ?_⟩
      have q := x.cell y c e
      rw [bindC_get ndP hp hu (by show scope.names.lookup y ≠ _; rw [k]; decide)] at q
      exact q
  · exact e0.hok.fresh (Nat.le_of_lt (x.above y c (PySem.mem_of_lookup h)))
  · unfold start
    show _ = N.length
    rw [List.length_append, List.length_map, List.length_replicate]
    omega


theorem fn_of {CX : CXT} {P : Program} {w : World} {K : PySem.W.Frag} {mg : Str → Option Value} {base : Heap} {k : Nat} {f : Addr} {name qual : Str} {params : Arguments} {body : List Stmt} {scope : Scope} {dV kV doc pm cdv ct oc : Value} {an od : Option Addr}
    {osl : Array (Option Value)} {N ps : List Str} {sp : Sp} (lk : K.lookup f = some ⟨oc, od, .func (PySem.W.fnOf name qual params body scope dV kV doc pm an cdv ct), osl⟩) (hcd : PySem.W.codeIn K cdv qual = true) (S : FnScope N ps scope)
    (len : ∀ vs H Q E, sp vs H Q E → vs.length = ps.length)
    (hbody : ∀ (A : Around) (outer : List Env) (s : Shared) (H : Hp) (vs : List V) (Q : VK) (E : XK), Room k (A.deeper (envOfC qual scope s.heap.objs.size f cdv)) → sp vs H Q E →
      ∃ t, PSs (cxOf CX P w K mg base N qual scope f cdv A outer s H E) body t ∧ t { nx := fun _ H' => Q .non H', rt := Q } (start N vs) H) :
    FnOk P w K mg base CX (k + 1) f (PySem.W.fnOf name qual params body scope dV kV doc pm an cdv ct) ps sp := by
  refine ⟨len, fun A outer s H args us vs Q E hr e0 hb r hsp => ?_⟩
  have hl := len _ _ _ _ hsp
  have KX : K.In s.heap := e0.mod.kin.keeps fun b o e => (e0.bs b o e).1
  have lim : s.heap.NoLimit := e0.mod.nolimit.keeps fun b o e => (e0.bs b o e).1
  have hkind : ∀ y ∈ ps.zip us, scope.names.lookup y.1 = some .local ∨ (scope.names.lookup y.1 = some .cell ∧ ((cellsFrom (s.heap.objs.size + 1) scope.names []).lookup y.1).isSome = true) := fun ⟨n, v⟩ hy => by
    rcases S.par n (List.of_mem_zip hy).1 with q | q
    · exact .inl q
    · exact .inr ⟨q, PySem.W.cellsFrom_some _ _ _ (.inl q)⟩
  refine codeAny_call_function hr.depth (KX _ _ lk) rfl S.co S.gen rfl (PySem.W.codeRec_of KX hcd) (hb _ _ _ _ ?_)
  refine wpAny_newFunctionEnv_cells S.kind hkind fun env he s1 x => ?_
  subst he
  refine ⟨lim.keeps x.toInCall.keep, codeAny_func ?_⟩
  obtain ⟨t, ht, hq⟩ := hbody A outer s H vs Q E (hr.deeper _) hsp
  have I : Inv (cxOf CX P w K mg base N qual scope f cdv A outer s H E) [] (start N vs) H s1 := inv_start S hr.hd e0 hl r x
  refine wpAny_mono (ht [] s1 (start N vs) H _ I hq) (fun fl s' hs => ?_) fun e s' hs => hs
  have fin : ∀ {σ' : St} {H' : Hp} {v : V} {u : Value}, Inv (cxOf CX P w K mg base N qual scope f cdv A outer s H E) [] σ' H' s' → RelV v u → Q v H' → CE outer P w H s Q u s' :=
    fun {σ' H' v u} J rv q => ⟨v, H', J.os, J.bare, J.base, J.hok, rv, q⟩
  cases fl with
  | ret u =>
    obtain ⟨v, σ', H', J, rv, q⟩ := hs
    exact fin J rv q
  | next =>
    obtain ⟨σ', H', J, q⟩ := hs
    exact fin (v := V.non) (u := Value.none) J rfl q
  | brk =>
    obtain ⟨_, _, _, q⟩ := hs
    exact False.elim q
  | cont =>
    obtain ⟨_, _, _, q⟩ := hs
    exact False.elim q
end L2

namespace L2
open PySem PySem.Spec PyProof.Rows
section
variable {X : Cx} {x : Str} {p pos : Pos} {e : Expr} {es : List Expr} {t : TA} {id T : String} {r : List V → Hp → VK → Prop}

def tCB (r : List V → Hp → VK → Prop) (t : TA) : TE := fun σ H Q => t σ H fun vs H1 => r vs H1 Q

theorem pe_callB (hc : CallR X (.builtin id) r) (hg : Gl X x) (hm : X.mg x = none) (hv : bootBuiltins x = some (.builtin id)) (ha : PA X (e :: es) t) (hn : x ≠ "__name__" := by decide) (hdb : (x == ("__debug__" : Str)) = false := by decide)
    (he : starEach (e :: es) X.env = (false, eval e X.env) :: starEach es X.env := by rfl) (hpl : (backTo pos (starEach es X.env)).any (·.1) = false := by rfl) : PE X (.Call (.Name x p) (e :: es) [] pos) (tCB r t) := by
  intro pins s σ H Q I h
  refine wpAny_Call_Name_kw (ld_blt I hg hm hv ?_ hn hdb)
  exact PyProof.Rows.callWith_builtin1 (thn (ha pos pins s σ H _ I h) fun us s1 ⟨vs, H1, I1, r1, q1⟩ => hc pins s1 σ H1 vs us Q I1 r1 q1) he hpl

theorem pe_callTy (hc : CallR X (.type T) r) (hg : Gl X x) (hm : X.mg x = none) (hv : bootBuiltins x = some (.type T)) (ha : PA X (e :: es) t) (hn : x ≠ "__name__" := by decide) (hdb : (x == ("__debug__" : Str)) = false := by decide)
    (he : starEach (e :: es) X.env = (false, eval e X.env) :: starEach es X.env := by rfl) (hpl : (backTo pos (starEach es X.env)).any (·.1) = false := by rfl) : PE X (.Call (.Name x p) (e :: es) [] pos) (tCB r t) := by
  intro pins s σ H Q I h
  refine wpAny_Call_Name_kw (ld_blt I hg hm hv ?_ hn hdb)
  exact PyProof.Rows.callWith_type1 (thn (ha pos pins s σ H _ I h) fun us s1 ⟨vs, H1, I1, r1, q1⟩ => hc pins s1 σ H1 vs us Q I1 r1 q1) he hpl

end
end L2

namespace HT
open PySem PyProof.Rows


section
open PySem.SeqAt
open PySem.AutoSeq1 (wpAny_loadPart')
open PySem.MeetsSeq PySem.MeetsSeq2 PySem.MeetsSeq3

end

section
variable {prog : Program} {w : World} {A : Around} {E : Value → Shared → Prop} {s : Shared}

def sIx (n d : Nat) : Option Int → Nat
  | none => d
  | some v => if v < 0 then (v + (n : Int)).toNat else min v.toNat n
theorem sIx_none (n d : Nat) : sIx n d none = d := rfl
theorem sIx_nat (n d k : Nat) : sIx n d (some (k : Int)) = min k n := by
  show (if (k : Int) < 0 then ((k : Int) + (n : Int)).toNat else min (k : Int).toNat n) = min k n
  rw [if_neg (by omega), Int.toNat_natCast]
end
end HT

namespace L2
open PySem PySem.Spec PyProof.Rows


abbrev TO := St → Hp → (Option Int → Hp → Prop) → Prop

def PO (X : Cx) (e : Option Expr) (t : TO) : Prop :=
  ∀ (pins : List (Addr × Obj)) (s : Shared) (σ : St) (H : Hp) (Q : Option Int → Hp → Prop), Inv X pins σ H s → t σ H Q →
    wpAny (model X.prog X.w) X.A (evalPart e X.env) (fun u s' => ∃ o H', Inv X pins σ H' s' ∧ IsPart u o ∧ Q o H') X.xe s
def tNoPart : TO := fun _ H Q => Q none H
def tPart (t : TE) : TO := fun σ H Q => t σ H fun x H1 => ∃ i, x = .int i ∧ Q (some i) H1

section
variable {X : Cx} {e : Expr} {te : TE} {lo hi : Option Expr} {tl th : TO} {pos p2 : Pos}

theorem po_none : PO X none tNoPart := by
  intro pins s σ H Q I h
  rw [evalPart_none]
  exact wpAny_pure ⟨none, H, I, .none, h⟩
theorem po_some (h : PE X e te) : PO X (some e) (tPart te) := by
  intro pins s σ H Q I hw
  rw [evalPart_some]
  refine thn (h pins s σ H _ I hw) fun u s1 ⟨x, H1, I1, r1, q1⟩ => ?_
  obtain ⟨i, rfl, q⟩ := q1
  obtain ⟨t, rfl⟩ := r1
  exact ⟨some i, H1, I1, .int i t, q⟩


def SlR (X : Cx) (r : V → Option Int → Option Int → Hp → VK → Prop) : Prop :=
  ∀ (pins : List (Addr × Obj)) (s : Shared) (σ : St) (H : Hp) (x : V) (v vl vu : Value) (lo hi : Option Int) (sl : Addr) (Q : VK), Inv X pins σ H s → RelV x v → s.heap.IsSliceOf sl vl vu .none → IsPart vl lo → IsPart vu hi → r x lo hi H Q →
    ∃ T id, typeLookup (.type T) "__getitem__" = pure (some (.builtin id)) ∧ s.TypeIs v T ∧ wpAny (model X.prog X.w) X.A (getItem v (.ref sl)) (EP X pins σ Q) X.xe s
def tSl (r : V → Option Int → Option Int → Hp → VK → Prop) (te : TE) (tl th : TO) : TE := fun σ H Q => te σ H fun x H1 => tl σ H1 fun l H2 => th σ H2 fun u H3 => r x l u H3 Q

theorem pe_slice {r : V → Option Int → Option Int → Hp → VK → Prop} (hr : SlR X r) (he : PE X e te) (hl : PO X lo tl) (hu : PO X hi th) : PE X (.Subscript e (.Slice lo hi none p2) pos) (tSl r te tl th) := by
  intro pins s σ H Q I h
  refine Subscript_ (thn (he pins s σ H _ I h) fun v s1 ⟨x, H1, I1, r1, q1⟩ => ?_)
  refine wpAny_Slice (thn (hl pins s1 σ H1 _ I1 q1) fun vl s2 ⟨l, H2, I2, pl, q2⟩ => thn (hu pins s2 σ H2 _ I2 q2) fun vu s3 ⟨u, H3, I3, pu, q3⟩ => ?_)
  rw [evalPart_none]
  refine wpAny_pure ?_
  have I4 : Inv X pins σ H3 { s3 with heap := s3.heap.push { cls := .type "slice", data := .fields #[vl, vu, .none] } } := I3.kept (t' := s3.toks) fun b ob q => Heap.get?_push_of_some _ q
  obtain ⟨T, id, hT, ht, hg⟩ := hr pins { s3 with heap := s3.heap.push { cls := .type "slice", data := .fields #[vl, vu, .none] } } σ H3 x v vl vu l u s3.heap.objs.size Q I4 r1 (Heap.IsSliceOf.new ..) pl pu q3
  show wpAny (model X.prog X.w) X.A (subscriptTail e (.Slice lo hi none p2) v (.ref s3.heap.objs.size)) (EP X pins σ Q) X.xe { s3 with heap := s3.heap.push { cls := .type "slice", data := .fields #[vl, vu, .none] } }
  exact tail_any (ops := [.ref s3.heap.objs.size, v]) ht hT hg (by with_unfolding_all rfl)


def cutV (xs : List V) (lo hi : Option Int) : List V := (xs.drop (HT.sIx xs.length 0 lo)).take (HT.sIx xs.length xs.length hi - HT.sIx xs.length 0 lo)
theorem cutV_length (xs : List V) (lo hi : Option Int) : (cutV xs lo hi).length ≤ xs.length := by
  unfold cutV
  rw [List.length_take, List.length_drop]
  omega

end
end L2

namespace L2
open PySem PySem.Spec PyProof.Rows



def ixN (n : Nat) (i : Int) : Option Nat := if 0 ≤ i then (if i < n then some i.toNat else none) else if -(n : Int) ≤ i then some (i + n).toNat else none
def atI {α : Type} (xs : List α) (i : Int) : Option α := (ixN xs.length i).bind fun j => xs[j]?
theorem ixN_seq {n : Nat} {i : Int} {j : Nat} (h : ixN n i = some j) : seqIndex? i n = some j ∧ j < n ∧ -(n : Int) ≤ i ∧ i < n := by
  unfold ixN at h
  by_cases h0 : 0 ≤ i
  · rw [if_pos h0] at h
    by_cases h1 : i < n
    · rw [if_pos h1] at h
      have e : i.toNat = j := Option.some.inj h
      exact ⟨by rw [seqIndex_of h0 h1, e], by omega, by omega, h1⟩
    · rw [if_neg h1] at h; cases h
  · rw [if_neg h0] at h
    by_cases h1 : -(n : Int) ≤ i
    · rw [if_pos h1] at h
      have e : (i + n).toNat = j := Option.some.inj h
      exact ⟨by rw [seqIndex_neg (by omega) h1, e], by omega, h1, by omega⟩
    · rw [if_neg h1] at h; cases h
theorem atI_get {α : Type} {xs : List α} {i : Int} {v : α} (h : atI xs i = some v) : ∃ j, seqIndex? i xs.length = some j ∧ xs[j]? = some v ∧ j < xs.length ∧ -(xs.length : Int) ≤ i ∧ i < xs.length := by
  unfold atI at h
  cases e : ixN xs.length i with
  | none => rw [e] at h; cases h
  | some j =>
    rw [e] at h
    obtain ⟨h1, h2, h3, h4⟩ := ixN_seq e
    exact ⟨j, h1, h, h2, h3, h4⟩
theorem atI_nat {α : Type} {xs : List α} {j : Nat} {v : α} (h : xs[j]? = some v) : atI xs (j : Int) = some v := by
  have hj : j < xs.length := (List.getElem?_eq_some_iff.mp h).1
  have e : ixN xs.length (j : Int) = some j := by
    unfold ixN
    rw [if_pos (by omega), if_pos (by omega)]; simp
  unfold atI; rw [e]; exact h
def PlainIx (b : Expr) : Prop := ∀ o i, subscripted b false o i = operate [o, i] (getItem o i)

def IxR (X : Cx) (r : R2) : Prop :=
  ∀ (value slice : Expr) (pins : List (Addr × Obj)) (s : Shared) (σ : St) (H : Hp) (x y : V) (v u : Value) (Q : VK), Inv X pins σ H s → RelV x v → RelV y u → r x y H Q →
    subscripted slice false v u = operate [v, u] (getItem v u) → wpAny (model X.prog X.w) X.A (subscriptTail value slice v u) (EP X pins σ Q) X.xe s

def MtR (X : Cx) (id : String) (r : V → List V → Hp → VK → Prop) : Prop :=
  ∀ (pins : List (Addr × Obj)) (s : Shared) (σ : St) (H : Hp) (x : V) (xs : List V) (v : Value) (us : List Value) (Q : VK), Inv X pins σ H s → RelV x v → Vals xs us → r x xs H Q →
    wpAny (model X.prog X.w) X.A (call (.builtin id) (v :: us)) (EP X pins σ Q) X.xe s
section
variable {X : Cx} {a b : Expr} {ta tb : TE} {pos : Pos}
theorem pe_ix {r : R2} (hr : IxR X r) (ha : PE X a ta) (hb : PE X b tb) (hs : PlainIx b) : PE X (.Subscript a b pos) (tOp r ta tb) := by
  intro pins s σ H Q I h
  exact Subscript_ (binT ha hb I h fun v u s2 x y H2 I2 rx ry q => hr a b pins s2 σ H2 x y v u Q I2 rx ry q (hs _ _))

def rIxL (K : PySem.W.Frag) : R2 := fun x y H Q => ∃ p xs i v, x = .ref p ∧ y = .int i ∧ SqL K H p xs ∧ atI xs i = some v ∧ Q v H
def rIxT (K : PySem.W.Frag) : R2 := fun x y H Q => ∃ p xs i v, x = .ref p ∧ y = .int i ∧ SqT K H p xs ∧ atI xs i = some v ∧ Q v H
def rIxS : R2 := fun x y H Q => ∃ z i c, x = .str z ∧ y = .int i ∧ z.length ≤ sizeLine ∧ atI z.cps.toList i = some c ∧ Q (.str ⟨#[c]⟩) H
theorem ix_list : IxR X (rIxL X.K) := by
  intro value slice pins s σ H x y v u Q I rx ry h hs
  obtain ⟨p, xs, i, z, rfl, rfl, hq, he, q⟩ := h
  cases rx
  obtain ⟨t, rfl⟩ := ry
  obtain ⟨its, r, pl, hz⟩ := I.list hq
  obtain ⟨j, h1, h2, h3, h4, h5⟩ := atI_get he
  obtain ⟨w, ew, rw'⟩ := r.get h2
  have hl := r.length
  have hn := line63
  have fin : EP X pins σ Q w s := ⟨z, H, I, rw', q⟩
  by_cases h0 : 0 ≤ i
  · have hj : i.toNat = j := by
      rw [seqIndex_of h0 h5] at h1
      exact Option.some.inj h1
    exact item_listR pl.isList h0 (by omega) (by rw [hj]; simpa using ew) fin hs
  · have hj : (i + (its.toArray.size : Int)).toNat = j := by
      rw [seqIndex_neg (by omega) h4] at h1
      rw [List.size_toArray, ← hl]
      exact Option.some.inj h1
    exact subscriptTail_builtinR (x := w) pl.isList.typeIs slot_list_getitem.lookup
      (wpAny_getItem_list_neg (Q := fun r s' => r = w ∧ EP X pins σ Q r s') pl.isList (by omega) (by rw [List.size_toArray] <;> omega) (by omega) (by rw [hj]; simpa using ew) ⟨rfl, fin⟩) hs
theorem ix_tup : IxR X (rIxT X.K) := by
  intro value slice pins s σ H x y v u Q I rx ry h hs
  obtain ⟨p, xs, i, z, rfl, rfl, hq, he, q⟩ := h
  cases rx
  obtain ⟨t, rfl⟩ := ry
  obtain ⟨its, r, pl, hz⟩ := I.tuple hq
  obtain ⟨j, h1, h2, h3, h4, h5⟩ := atI_get he
  obtain ⟨w, ew, rw'⟩ := r.get h2
  have hl := r.length
  have hn := line63
  have fin : EP X pins σ Q w s := ⟨z, H, I, rw', q⟩
  exact subscriptTail_builtinR (x := w) pl.typeIs slot_tuple_getitem.lookup
    (getItem_tuple (j := j) (Q := fun r s' => r = w ∧ EP X pins σ Q r s') pl (by omega) (by omega) (by rw [List.size_toArray, ← hl]; exact h1) (by simpa using ew) ⟨rfl, fin⟩) hs
theorem ix_str : IxR X rIxS := by
  intro value slice pins s σ H x y v u Q I rx ry h hs
  obtain ⟨z, i, c, rfl, rfl, hz, he, q⟩ := h
  obtain ⟨t, rfl⟩ := rx
  obtain ⟨t', rfl⟩ := ry
  obtain ⟨j, h1, h2, h3, h4, h5⟩ := atI_get he
  have hl : z.cps.toList.length = z.length := by simp [Str.length]
  rw [hl] at h1 h4 h5
  have hn := line63
  exact tail_any (typeIs_str s z t) slot_str_getitem.lookup (getItem_str (c := c) (by
    have e1 : decide (i < -(2 ^ 63 : Int)) = false := decide_eq_false (by omega)
    have e2 : decide (i ≥ 2 ^ 63) = false := decide_eq_false (by omega)
    rw [e1, e2, Bool.or_false]) (by rw [h1]; simpa using h2) ⟨.str ⟨#[c]⟩, H, I.tok _, ⟨_, rfl⟩, q⟩) hs

theorem mapSeq_set (its : List Value) (n j : Nat) (u : Value) : Obj.mapSeq (·.setIfInBounds j u) { cls := .type "list", data := .seq its.toArray n } = { cls := .type "list", data := .seq (its.set j u).toArray n } := by
  simp [Obj.mapSeq]
theorem Inv.lst {pins : List (Addr × Obj)} {σ : St} {H : Hp} {s : Shared} {p : Addr} {xs : List V} (I : Inv X pins σ H s) (h : H p = some (.lst xs)) :
    ∃ (its : List Value) (n : Nat), Vals xs its ∧ s.heap.get? p = some { cls := .type "list", data := .seq its.toArray n } ∧ xs.length ≤ sizeLine := by
  obtain ⟨z, its, n, r, e⟩ := I.hok p _ h
  exact ⟨its, n, r, e, z⟩

theorem Inv.lstUpd {pins : List (Addr × Obj)} {σ : St} {H : Hp} {s : Shared} {p : Addr} {xs ys : List V} {its its' : List Value} {n n' : Nat} {f : Obj → Obj} (I : Inv X pins σ H s) (h : H p = some (.lst xs))
    (ho : s.heap.get? p = some { cls := .type "list", data := .seq its.toArray n }) (hf : f { cls := .type "list", data := .seq its.toArray n } = { cls := .type "list", data := .seq its'.toArray n' }) (r : Vals ys its') (hz : ys.length ≤ sizeLine) (t : Nat) :
    Inv X pins σ (upd H p (.lst ys)) { s with heap := s.heap.update p f, toks := t } := by
  have e : (s.heap.update p f).get? p = some { cls := .type "list", data := .seq its'.toArray n' } := by
    rw [Heap.get?_update_self f ho (by rw [hf] <;> rfl), hf]
  refine I.write (x := p) (e := p) (by rw [h]; trivial) (.inl rfl) (fun b u hb q => (Heap.get?_update_other _ _ (Ne.symm hb)).trans q) ⟨_, e⟩ ?_
  exact ⟨hz, its', n', r, e⟩
def rSetL : V → V → V → Hp → (Hp → Prop) → Prop := fun o i v H Q => ∃ p xs k j, o = .ref p ∧ i = .int k ∧ H p = some (.lst xs) ∧ ixN xs.length k = some j ∧ Q (upd H p (.lst (xs.set j v)))
theorem set_list : PSet X rSetL := by
  intro pins s σ H o i v ov iv u Q I ro ri rv h
  obtain ⟨p, xs, k, j, rfl, rfl, hp, hj, q⟩ := h
  cases ro
  obtain ⟨t, rfl⟩ := ri
  obtain ⟨its, n, r, ho, hz⟩ := I.lst hp
  obtain ⟨h1, h2, h3, h4⟩ := ixN_seq hj
  have hl := r.length
  have hn := line63
  have I' : Inv X pins σ (upd H p (.lst (xs.set j v))) { s with heap := s.heap.update p (Obj.mapSeq (·.setIfInBounds j u)) } :=
    I.lstUpd hp ho (mapSeq_set its n j u) (r.set rv j) (by rw [List.length_set]; exact hz) s.toks
  by_cases h0 : 0 ≤ k
  · have hk : k.toNat = j := by
      rw [seqIndex_of h0 h4] at h1
      exact Option.some.inj h1
    exact PySem.W.ki_setAt ho h0 (by omega) (by rw [List.size_toArray, ← hl]; exact h4) (by rw [hk]; exact ⟨_, I', q⟩)
  · have hk : (k + (its.toArray.size : Int)).toNat = j := by
      rw [seqIndex_neg (by omega) h3] at h1
      rw [List.size_toArray, ← hl]
      exact Option.some.inj h1
    exact PySem.W.ki_setBack ho (by omega) (by rw [List.size_toArray, ← hl]; exact h3) (by omega) (by rw [hk]; exact ⟨_, I', q⟩)


theorem slice_bounds (lo hi : Option Int) (n : Nat) : (sliceBounds lo hi none n).1 = ((HT.sIx n 0 lo : Nat) : Int) ∧ (sliceBounds lo hi none n).2.1 = ((HT.sIx n n hi : Nat) : Int) ∧ (sliceBounds lo hi none n).2.2 = 1 := by
  refine ⟨?_, ?_, rfl⟩
  · cases lo with
    | none => simp [sliceBounds, HT.sIx]
    | some i =>
      simp only [sliceBounds, HT.sIx, Option.getD_none, show (1 : Int) > 0 by decide, if_true]
      by_cases h : i < 0
      · simp only [h, if_true] <;> omega
      · simp only [h, if_false] <;> omega
  · cases hi with
    | none => simp [sliceBounds, HT.sIx]
    | some i =>
      simp only [sliceBounds, HT.sIx, Option.getD_none, show (1 : Int) > 0 by decide, if_true]
      by_cases h : i < 0
      · simp only [h, if_true] <;> omega
      · simp only [h, if_false] <;> omega
theorem slicePick_cut (its : List Value) (lo hi : Option Int) : slicePick its.toArray lo hi none = ((its.drop (HT.sIx its.length 0 lo)).take (HT.sIx its.length its.length hi - HT.sIx its.length 0 lo)).toArray := by
  obtain ⟨h1, h2, h3⟩ := slice_bounds lo hi its.toArray.size
  unfold slicePick
  rw [h1, h2, h3]
  simp only [sliceRange_one, pick_run, List.size_toArray] <;> rfl

def rSlL (K : PySem.W.Frag) : V → Option Int → Option Int → Hp → VK → Prop := fun x lo hi H Q => ∃ a xs, x = .ref a ∧ SqL K H a xs ∧ ∀ p, H p = none → Q (.ref p) (upd H p (.lst (cutV xs lo hi)))
theorem sl_list : SlR X (rSlL X.K) := by
  intro pins s σ H x v vl vu lo hi sl Q I rx hs pl pu h
  obtain ⟨a, xs, rfl, hx, q⟩ := h
  cases rx
  obtain ⟨its, r, ht, hz⟩ := I.list hx
  have hlen := r.length
  refine ⟨"list", _, slot_list_getitem.lookup, ht.isList.typeIs, ?_⟩
  refine wpAny_getItem_list_slice ht.isList hs pl pu .none (by simp) ?_ (by rw [List.size_toArray] <;> omega)
  rw [slicePick_cut, ← hlen]
  refine ⟨.ref s.heap.objs.size, _, I.laid (t' := s.toks) (o := .lst (cutV xs lo hi)) (fun b ob q => Heap.get?_push_of_some _ q) (Nat.le_refl _) ?_, rfl, q _ (I.hok.fresh (Nat.le_refl _))⟩
  exact ⟨Nat.le_trans (cutV_length xs lo hi) hz, _, 0, (r.drop (HT.sIx xs.length 0 lo)).take (HT.sIx xs.length xs.length hi - HT.sIx xs.length 0 lo), Heap.get?_push_size _ rfl⟩


def flatV : V → Bool
  | .non => true
  | .bl _ => true
  | .int _ => true
  | .str _ => true
  | _ => false

def eqV : V → V → Bool
  | .non, .non => true
  | .bl a, .bl b => a == b
  | .bl a, .int b => (if a then 1 else 0) == b
  | .int a, .bl b => a == (if b then 1 else 0)
  | .int a, .int b => a == b
  | .str a, .str b => a == b
  | _, _ => false
theorem eqAt_V {A : Around} {s : Shared} {y x : V} {u v : Value} (ry : RelV y u) (rx : RelV x v) (fy : flatV y = true) (fx : flatV x = true) : SeqAt.EqAt A s u v (eqV y x) := by
  cases y with
  | non =>
    cases ry
    cases x with
    | non => cases rx; exact SeqAt.EqAt.same _
    | bl b => cases rx; exact SeqAt.EqAt.none_bool b
    | int b => obtain ⟨t, rfl⟩ := rx; exact SeqAt.EqAt.none_int b t
    | str b => obtain ⟨t, rfl⟩ := rx; exact SeqAt.EqAt.none_str b t
    | _ => exact absurd (show false = true from fx) Bool.false_ne_true
  | bl a =>
    cases ry
    cases x with
    | non => cases rx; exact SeqAt.EqAt.bool_none a
    | bl b => cases rx; exact SeqAt.EqAt.bool_bool a b
    | int b => obtain ⟨t, rfl⟩ := rx; exact SeqAt.EqAt.bool_int a b t
    | str b => obtain ⟨t, rfl⟩ := rx; exact SeqAt.EqAt.bool_str a b t
    | _ => exact absurd (show false = true from fx) Bool.false_ne_true
  | int a =>
    obtain ⟨t', rfl⟩ := ry
    cases x with
    | non => cases rx; exact SeqAt.EqAt.int_none a t'
    | bl b => cases rx; exact SeqAt.EqAt.int_bool a t' b
    | int b => obtain ⟨t, rfl⟩ := rx; exact SeqAt.EqAt.int_int a t' b t
    | str b => obtain ⟨t, rfl⟩ := rx; exact SeqAt.EqAt.int_str a t' b t
    | _ => exact absurd (show false = true from fx) Bool.false_ne_true
  | str a =>
    obtain ⟨t', rfl⟩ := ry
    cases x with
    | non => cases rx; exact SeqAt.EqAt.str_none a t'
    | bl b => cases rx; exact SeqAt.EqAt.str_bool a t' b
    | int b => obtain ⟨t, rfl⟩ := rx; exact SeqAt.EqAt.str_int a t' b t
    | str b => obtain ⟨t, rfl⟩ := rx; exact SeqAt.EqAt.str_str a t' b t
    | _ => exact absurd (show false = true from fx) Bool.false_ne_true
  | _ => exact absurd (show false = true from fy) Bool.false_ne_true

theorem op_notIn_str : OpR X (compareOp .NotIn) (fun x y H Q => ∃ i j, x = .str i ∧ y = .str j ∧ Q (.bl (!(!(Builtin.Str.occurrences j i 0 j.length 1).isEmpty))) H) := by
  intro pins s σ H x y v u Q I rx ry h
  obtain ⟨i, j, rfl, rfl, q⟩ := h
  obtain ⟨t, rfl⟩ := rx
  obtain ⟨t', rfl⟩ := ry
  exact notIn_str ⟨.bl _, H, I, rfl, q⟩


theorem call_len_seq : CallR X (.builtin "len") (fun xs H Q => ∃ p ys, xs = [.ref p] ∧ (SqL X.K H p ys ∨ SqT X.K H p ys) ∧ Q (.int ys.length) H) := by
  intro pins s σ H xs us Q I r h
  obtain ⟨p, ys, rfl, hq, q⟩ := h
  obtain ⟨u, rfl, rx⟩ := vals1 r
  cases rx
  have hn := line63
  rcases hq with hq | hq
  · obtain ⟨its, r', pl, hz⟩ := I.list hq
    have hlen := r'.length
    exact Calls.call_len_list pl.isList (by simp only [List.size_toArray] <;> omega) ⟨.int ys.length, H, I.tok _, ⟨s.toks + 1, by rw [List.size_toArray, hlen]⟩, q⟩
  · obtain ⟨its, r', pl, hz⟩ := I.tuple hq
    have hlen := r'.length
    exact len_tuple pl (by simp only [List.size_toArray] <;> omega) ⟨.int ys.length, H, I.tok _, ⟨s.toks + 1, by rw [List.size_toArray, hlen]⟩, q⟩
theorem call_len_str : CallR X (.builtin "len") (fun xs H Q => ∃ z, xs = [.str z] ∧ z.length ≤ sizeLine ∧ Q (.int z.length) H) := by
  intro pins s σ H xs us Q I r h
  obtain ⟨z, rfl, hz, q⟩ := h
  obtain ⟨u, rfl, t, rfl⟩ := vals1 r
  have hn := line63
  exact len_str (by omega) ⟨.int z.length, H, I.tok _, ⟨_, rfl⟩, q⟩
theorem call_list_of : CallR X (.type "list") (fun xs H Q => ∃ p ys, xs = [.ref p] ∧ (SqL X.K H p ys ∨ SqT X.K H p ys) ∧ ∀ l, H l = none → Q (.ref l) (upd H l (.lst ys))) := by
  intro pins s σ H xs us Q I r h
  obtain ⟨p, ys, rfl, hq, q⟩ := h
  obtain ⟨u, rfl, rx⟩ := vals1 r
  cases rx
  have fin : ∀ (its : List Value), Vals ys its → ys.length ≤ sizeLine → ∀ (h' : Heap) (c' : Nat), (∀ b o', s.heap.get? b = some o' → h'.get? b = some o') →
      h'.get? s.heap.objs.size = some { cls := .type "list", dict := none, data := .seq its.toArray c', slots := #[] } → EP X pins σ Q (.ref s.heap.objs.size) { s with heap := h' } := fun its r' hz h' c' kp e =>
    ⟨.ref s.heap.objs.size, _, I.laid (t' := s.toks) kp (Nat.le_refl _) (show ObjOk X.prog X.w _ h' _ (.lst ys) from ⟨hz, its, c', r', e⟩), rfl, q _ (I.hok.fresh (Nat.le_refl _))⟩
  rcases hq with hq | hq
  · obtain ⟨its, r', pl, hz⟩ := I.list hq
    have hlen := r'.length
    obtain ⟨o, ho, hc, n, hd⟩ := pl.isList
    exact call_list_seq p (.inl rfl) ho hc hd (fun h' c' kp e => fin its r' hz h' c' kp e) (by simp only [List.size_toArray] <;> omega)
  · obtain ⟨its, r', pl, hz⟩ := I.tuple hq
    have hlen := r'.length
    obtain ⟨o, ho, hc, n, hd⟩ := pl
    exact call_list_seq p (.inr rfl) ho hc hd (fun h' c' kp e => fin its r' hz h' c' kp e) (by simp only [List.size_toArray] <;> omega)
theorem call_tuple_of : CallR X (.type "tuple") (fun xs H Q => ∃ p ys, xs = [.ref p] ∧ ((SqL X.K H p ys ∧ ∀ l, H l = none → Q (.ref l) (upd H l (.tup ys))) ∨ (SqT X.K H p ys ∧ Q (.ref p) H))) := by
  intro pins s σ H xs us Q I r h
  obtain ⟨p, ys, rfl, h⟩ := h
  obtain ⟨u, rfl, rx⟩ := vals1 r
  cases rx
  rcases h with ⟨hq, q⟩ | ⟨hq, q⟩
  · obtain ⟨its, r', pl, hz⟩ := I.list hq
    have hlen := r'.length
    refine call_tuple_list pl.isList (fun h' kp => ?_) (by simp only [List.size_toArray] <;> omega)
    have I1 : Inv X pins σ H { s with heap := h' } := I.kept (t' := s.toks) kp
    have I2 : Inv X pins σ (upd H h'.objs.size (.tup ys)) { s with heap := h'.push { cls := .type "tuple", data := .seq its.toArray } } :=
      I1.laid (t' := s.toks) (fun b o e => Heap.get?_push_of_some _ e) (Nat.le_refl _) (show ObjOk X.prog X.w _ _ _ (.tup ys) from ⟨hz, its, r', IsTup.new _ _⟩)
    exact ⟨.ref h'.objs.size, _, I2, rfl, q _ (I1.hok.fresh (Nat.le_refl _))⟩
  · obtain ⟨its, r', pl, hz⟩ := I.tuple hq
    exact call_tuple_same pl ⟨.ref p, H, I, rfl, q⟩



def tyV (K : PySem.W.Frag) (T : String) (x : V) (H : Hp) : Prop := match x with
  | .str _ => T = "str"
  | .int _ => T = "int"
  | .ref p => (T = "list" ∧ ∃ xs, SqL K H p xs) ∨ (T = "tuple" ∧ ∃ o, K.lookup p = some o ∧ o.cls = .type "tuple" ∧ o.dict = none) ∨
      (T = "dict" ∧ ((∃ kvs, H p = some (.dK kvs)) ∨ ∃ kvs, H p = some (.dT kvs))) ∨ (T = "set" ∧ ∃ S n, H p = some (.set S n))
  | _ => False
theorem tyV_is {pins : List (Addr × Obj)} {σ : St} {H : Hp} {s : Shared} {T : String} {x : V} {v : Value} (I : Inv X pins σ H s) (r : RelV x v) (ty : tyV X.K T x H) :
    s.TypeIs v T ∧ ∀ a, v = .ref a → ∃ ob, s.heap.get? a = some ob ∧ ob.dict = none := by
  cases x with
  | str z =>
    obtain ⟨t, rfl⟩ := r
    cases (show T = "str" from ty)
    exact ⟨typeIs_str s z t, fun _ e => nomatch e⟩
  | int i =>
    obtain ⟨t, rfl⟩ := r
    cases (show T = "int" from ty)
    exact ⟨typeIs_int s i t, fun _ e => nomatch e⟩
  | ref p =>
    cases r
    rcases ty with ⟨rfl, xs, hq⟩ | ⟨rfl, o, hk, hc, hd⟩ | ⟨rfl, hk⟩ | ⟨rfl, S, n, hk⟩
    · obtain ⟨its, _, pl, _⟩ := I.list hq
      refine ⟨pl.isList.typeIs, fun a e => ?_⟩
      cases e
      obtain ⟨o, n, e, c, hd, _⟩ := pl
      exact ⟨o, e, hd⟩
    · refine ⟨⟨o, I.kIn p o hk, hc⟩, fun a e => ?_⟩
      cases e
      exact ⟨o, I.kIn _ o hk, hd⟩
    · have z : ∃ o, s.heap.get? p = some o ∧ o.ExactDict := by
        rcases hk with ⟨kvs, hk⟩ | ⟨kvs, hk⟩
        · obtain ⟨_, _, _, _, o, _, _, e, ex, _⟩ := I.hok p _ hk
          exact ⟨o, e, ex⟩
        · obtain ⟨_, _, _, _, o, _, _, e, ex, _⟩ := I.hok p _ hk
          exact ⟨o, e, ex⟩
      obtain ⟨o, e, ex⟩ := z
      refine ⟨⟨o, e, ex.1⟩, fun a e2 => ?_⟩
      cases e2
      exact ⟨o, e, ex.2.1⟩
    · obtain ⟨o, _, _, _, e, ex, _⟩ := I.hok p _ hk
      refine ⟨⟨o, e, ex.1⟩, fun a e2 => ?_⟩
      cases e2
      exact ⟨o, e, ex.2.1⟩
  | _ => exact False.elim ty
def tBM0 (K : PySem.W.Frag) (T : String) (r : V → List V → Hp → VK → Prop) (to : TE) : TE := fun σ H Q => to σ H fun x H1 => tyV K T x H1 ∧ r x [] H1 Q
def tBM (K : PySem.W.Frag) (T : String) (r : V → List V → Hp → VK → Prop) (to : TE) (t : TA) : TE := fun σ H Q => to σ H fun x H1 => tyV K T x H1 ∧ t σ H1 fun xs H2 => r x xs H2 Q
variable {o e : Expr} {es : List Expr} {to : TE} {t : TA} {name : Str} {apos cpos : Pos} {T id : String} {r : V → List V → Hp → VK → Prop}
theorem pe_bm0 (pa : PlainAttrs T) (slot : Slot T name id) (hty : typeOf (.builtin id) = pure (.type "method_descriptor")) (hm : MtR X id r) (ho : PE X o to)
    (hbase : attributeBase o name X.env (eval o X.env) = eval o X.env := by rfl) (hline : (apos.endLine == cpos.line) = true := by rfl) : PE X (.Call (.Attribute o name apos) [] [] cpos) (tBM0 X.K T r to) := by
  intro pins s σ H Q I h
  refine wpAny_Call_method0_late hbase hline (thn (ho pins s σ H _ I h) fun v s1 ⟨x, H1, I1, r1, ty, q1⟩ => ?_)
  obtain ⟨h1, h2⟩ := tyV_is I1 r1 ty
  exact ⟨T, id, pa, slot, hty, h1, h2, Calls.callWith_builtin rfl (PySem.evalArgs_none (hm pins s1 σ H1 x [] v [] Q I1 r1 .nil q1))⟩
theorem pe_bm (pa : PlainAttrs T) (slot : Slot T name id) (hty : typeOf (.builtin id) = pure (.type "method_descriptor")) (hm : MtR X id r) (ho : PE X o to) (ha : PA X (e :: es) t)
    (hbase : attributeBase o name X.env (eval o X.env) = eval o X.env := by rfl)
    (hfew : ((backTo cpos (starEach (e :: es) X.env)).all (fun x => !x.1) && (backToKw cpos (keywordEach [] X.env)).all (fun x => x.1.isSome)
      && decide ((e :: es).length + ([] : List Keyword).length + (if ([] : List Keyword).isEmpty then 0 else 1) < 30)) = true := by rfl)
    (hline : (apos.endLine == cpos.line) = true := by rfl) (hs : starEach (e :: es) X.env = (false, eval e X.env) :: starEach es X.env := by rfl) (hplain : (backTo cpos (starEach es X.env)).any (·.1) = false := by rfl) :
    PE X (.Call (.Attribute o name apos) (e :: es) [] cpos) (tBM X.K T r to t) := by
  intro pins s σ H Q I h
  refine wpAny_Call_method_late hbase hfew hline rfl (thn (ho pins s σ H _ I h) fun v s1 ⟨x, H1, I1, r1, ty, q1⟩ => ?_)
  obtain ⟨h1, h2⟩ := tyV_is I1 r1 ty
  refine ⟨T, id, pa, slot, hty, h1, h2, ?_⟩
  have hA := ha cpos pins s1 σ H1 _ I1 q1
  rw [hs] at hA ⊢
  refine Calls.callWith_builtin (by show (false || (backTo cpos (starEach es X.env)).any (·.1)) = false; rw [hplain] <;> rfl) (Calls.evalArgs_plain ?_)
  exact thn hA fun us s2 ⟨vs, H2, I2, r2, q2⟩ => hm pins s2 σ H2 x vs v us Q I2 r1 r2 q2

end
end L2

namespace L2
open PySem PySem.Spec PyProof.Rows

def MtM (X : Cx) (id : String) (r : V → List V → Hp → VK → Prop) : Prop :=
  ∀ (pins : List (Addr × Obj)) (s : Shared) (σ : St) (H : Hp) (x : V) (xs : List V) (v : Value) (us : List Value) (Q : VK), Inv X pins σ H s → RelV x v → Vals xs us → r x xs H Q →
    wpAny (model X.prog X.w) X.A (call (.builtin id) (v :: us)) (EP X pins σ Q) X.xe s


theorem Vals.one : ∀ {x : V} {us : List Value}, Vals [x] us → ∃ u, us = [u] ∧ RelV x u
  | _, _, .cons r .nil => ⟨_, rfl, r⟩
theorem Vals.two : ∀ {x y : V} {us : List Value}, Vals [x, y] us → ∃ u v, us = [u, v] ∧ RelV x u ∧ RelV y v
  | _, _, _, .cons r (.cons q .nil) => ⟨_, _, rfl, r, q⟩
theorem Vals.rep {xs : List V} {us : List Value} (h : Vals xs us) : ∀ k : Nat, Vals (List.replicate k xs).flatten (List.replicate k us).flatten
  | 0 => .nil
  | k + 1 => by
    rw [List.replicate_succ, List.replicate_succ, List.flatten_cons, List.flatten_cons]
    exact Vals.append h (Vals.rep h k)
theorem foldl_rep (its : List Value) : ∀ (k : Nat) (acc : List Value),
    List.foldl (fun x1 x2 => x1 ++ x2) acc.toArray (List.replicate k its.toArray) = (acc ++ (List.replicate k its).flatten).toArray
  | 0, acc => by simp
  | k + 1, acc => by
    have e : acc.toArray ++ its.toArray = (acc ++ its).toArray := by simp
    have e2 : (acc ++ its) ++ (List.replicate k its).flatten = acc ++ (List.replicate (k + 1) its).flatten := by
      rw [List.replicate_succ, List.flatten_cons, List.append_assoc]
    rw [← e2, ← foldl_rep its k (acc ++ its), ← e, List.replicate_succ, List.foldl_cons]

section
variable {X : Cx} {pins : List (Addr × Obj)} {σ : St} {H : Hp} {s : Shared} {l b : Addr} {xs ys zs : List V}


theorem Inv.lset {its its' : List Value} {n : Nat} {f : Array Value → Array Value} {t' : Nat} (I : Inv X pins σ H s) (hH : H l = some (.lst xs))
    (e : s.heap.get? l = some { cls := .type "list", data := .seq its.toArray n }) (hf : f its.toArray = its'.toArray) (hv : Vals ys its') (hz : ys.length ≤ sizeLine) :
    Inv X pins σ (upd H l (.lst ys)) { s with heap := s.heap.update l (Obj.mapSeq f), toks := t' } := by
  have q := PySem.IsL.update e f
  rw [hf] at q
  refine I.write (x := l) (e := l) (by rw [hH]; exact trivial) (.inl rfl) (fun b' u hb hu => (Heap.get?_update_other s.heap (Obj.mapSeq f) (Ne.symm hb)).trans hu) ⟨_, q⟩ ?_
  exact ⟨hz, its', _, hv, q⟩
theorem Inv.lnew {its : List Value} {t' : Nat} (I : Inv X pins σ H s) (hv : Vals ys its) (hz : ys.length ≤ sizeLine) :
    Inv X pins σ (upd H s.heap.objs.size (.lst ys)) { s with heap := s.heap.push { cls := .type "list", data := .seq its.toArray }, toks := t' } :=
  I.laid (fun _ _ q => Heap.get?_push_of_some _ q) (Nat.le_refl _) ⟨hz, its, 0, hv, Heap.get?_push_size _ rfl⟩
theorem Inv.fresh (I : Inv X pins σ H s) : H s.heap.objs.size = none := I.hok.fresh (Nat.le_refl _)
theorem Inv.lstM (I : Inv X pins σ H s) (hH : H l = some (.lst xs)) : xs.length ≤ sizeLine ∧ ∃ (its : List Value) (n : Nat), Vals xs its ∧ xs.length = its.length ∧ s.heap.get? l = some { cls := .type "list", data := .seq its.toArray n } := by
  obtain ⟨z, its, n, r, e⟩ := I.hok l _ hH
  exact ⟨z, its, n, r, r.length, e⟩

theorem notLongL {n : Nat} (h : n ≤ sizeLine) : Builtin.List.listTooLong n = false := by
  unfold Builtin.List.listTooLong
  exact decide_eq_false (by omega)
end

section
variable {X : Cx}


def rAppend : V → List V → Hp → VK → Prop := fun x vs H Q => ∃ l xs y, x = .ref l ∧ vs = [y] ∧ H l = some (.lst xs) ∧ xs.length < sizeLine ∧ Q .non (upd H l (.lst (xs ++ [y])))
theorem mt_append : MtM X "list.append" rAppend := by
  intro pins s σ H x vs v us Q I rx rv h
  obtain ⟨l, xs, y, rfl, rfl, hH, hz, q⟩ := h
  cases rx
  obtain ⟨u, rfl, ru⟩ := rv.one
  obtain ⟨z, its, n, r, hl, e⟩ := I.lstM hH
  refine call_meets F.slot_list_append ⟨_, e, rfl⟩ F.entry_list_append (F.args_list_append_2 _ _) (PySem.list_append l its.toArray n u (by rw [List.size_toArray]; omega)) ⟨e, ?_⟩
  refine ⟨.non, _, I.lset (its' := its ++ [u]) hH e (by simp) (r.append (.cons ru .nil)) ?_, rfl, q⟩
  rw [List.length_append, List.length_singleton]
  omega

def rExtend : V → List V → Hp → VK → Prop := fun x vs H Q => ∃ l b xs zs, x = .ref l ∧ vs = [.ref b] ∧ H l = some (.lst xs) ∧ H b = some (.lst zs) ∧ xs.length + zs.length ≤ sizeLine ∧ Q .non (upd H l (.lst (xs ++ zs)))
theorem mt_extend : MtM X "list.extend" rExtend := by
  intro pins s σ H x vs v us Q I rx rv h
  obtain ⟨l, b, xs, zs, rfl, rfl, hH, hB, hz, q⟩ := h
  cases rx
  obtain ⟨u, rfl, ru⟩ := rv.one
  cases ru
  obtain ⟨z, its, n, r, hl, e⟩ := I.lstM hH
  obtain ⟨z2, its2, n2, r2, hl2, e2⟩ := I.lstM hB
  have hsz : its.toArray.size + its2.toArray.size ≤ sizeLine := by rw [List.size_toArray, List.size_toArray]; omega
  have hlong : ¬ (!its.toArray.isEmpty && Builtin.List.listTooLong (its.toArray.size + its2.toArray.size)) = true := by
    rw [notLongL hsz, Bool.and_false]
    exact Bool.false_ne_true
  refine call_meets F.slot_list_extend ⟨_, e, rfl⟩ F.entry_list_extend (F.args_list_extend_2 _ _)
    (AutoSeq1.list_extend_list_list_0 l its.toArray n b its2.toArray n2 hlong (by rw [List.size_toArray]; omega) (by omega)) ⟨e, e2, ?_⟩
  refine ⟨.non, _, I.lset (its' := its ++ its2) hH e (by simp) (r.append r2) ?_, rfl, q⟩
  rw [List.length_append]
  omega

def rRep : R2 := fun x y H Q => ∃ l k xs, x = .ref l ∧ y = .int k ∧ H l = some (.lst xs) ∧ -(2 ^ 63) ≤ k ∧ k < 2 ^ 63 ∧ xs.length * k.toNat ≤ sizeLine ∧
  ∀ p, H p = none → Q (.ref p) (upd H p (.lst (List.replicate k.toNat xs).flatten))
theorem len_rep {α : Type} (xs : List α) (k : Nat) : (List.replicate k xs).flatten.length = k * xs.length := by
  induction k with
  | zero => simp
  | succ k ih => rw [List.replicate_succ, List.flatten_cons, List.length_append, ih, Nat.succ_mul, Nat.add_comm]
theorem op_rep : OpR X (binaryOp .Mult) rRep := by
  intro pins s σ H x y v u Q I rx ry h
  obtain ⟨l, k, xs, rfl, rfl, hH, h1, h2, hz, q⟩ := h
  cases rx
  obtain ⟨t, rfl⟩ := ry
  obtain ⟨z, its, n, r, hl, e⟩ := I.lstM hH
  have hlen : its.toArray.size * k.toNat ≤ sizeLine := by rw [List.size_toArray, ← hl]; exact hz
  have hcap : ¬ its.toArray.size * k.toNat > (2 ^ 63 - 1) / 8 := by
    have : (sizeLine : Nat) ≤ (2 ^ 63 - 1) / 8 := by decide
    omega
  have hfit : ¬ (!Builtin.List.listFitsIndex k) = true := by
    rw [fitsIndex_both h1 h2]
    exact Bool.false_ne_true
  have hlong : ¬ Builtin.List.listTooLong (its.toArray.size * k.toNat) = true := by
    rw [notLongL hlen]
    exact Bool.false_ne_true
  have hnew : List.foldl (fun x1 x2 => x1 ++ x2) #[] (List.replicate (if its.toArray.isEmpty = true then 0 else k.toNat) its.toArray) = (List.replicate k.toNat its).flatten.toArray := by
    have f0 : ∀ m : Nat, List.foldl (fun x1 x2 => x1 ++ x2) #[] (List.replicate m its.toArray) = (List.replicate m its).flatten.toArray := fun m => by
      have := foldl_rep its m []
      rw [List.nil_append] at this
      exact this
    rw [f0]
    cases its with
    | nil => simp
    | cons a r' => rw [if_neg (by simp)]
  refine wpAny_binaryOp_repeat_ref (T := "list") (U := "int") (by decide) ⟨_, e, rfl⟩ (fun s' => typeIs_int s' k t) noFill_list_mul F.fills_int_mul F.slot_int_rmul repeat_list F.slot_int_index.lookup
    (call_meets F.slot_int_rmul (typeIs_int s k t) F.entry_int_rmul (F.args_int_rmul_2 _ _) (int___rmul___int_list k t l its.toArray n)
      ⟨e, rfl, ⟨_, e, rfl⟩, call_meets F.slot_list_mul ⟨_, e, rfl⟩ F.entry_list_mul (F.args_list_mul_2 _ _) (AutoListH.list___mul___list_int_3 l its.toArray n k t hfit hcap hlong) ⟨e, ?_⟩⟩)
  rw [hnew]
  exact ⟨.ref _, _, I.lnew (t' := s.toks) (r.rep k.toNat) (by rw [len_rep, Nat.mul_comm]; exact hz), rfl, q _ I.fresh⟩


end


section
variable {prog : Program} {w : World} {A : Around} {E : Value → Shared → Prop} {s : Shared}
end

section
variable {X : Cx}

end
end L2

namespace Att
open PySem PySem.W PySem.Calls PyProof.Rows


theorem ints_of_wellAll {P : Params} {h : Heap} : ∀ (ns : List Int) (vs : List Value), WellAll P h vs (ns.map WData.int) → IntsAre vs ns := by
  intro ns
  induction ns with
  | nil =>
    intro vs w
    rw [List.map_nil] at w
    cases w
    exact .nil
  | cons n ns ih =>
    intro vs w
    rw [List.map_cons] at w
    cases w with
    | cons a b =>
      cases a
      exact .cons _ _ (ih _ b)

theorem script_of {l : OpenLaw} {n : Nat} (hn : l.most = some n) {P : Params} {h : Heap} {args : List WData} {vals : List Value}
    (hpre : l.row.toRowW.claim.pre args = true) (hwl : WellAll P h vals args) :
    ∃ a vs ns, vals = [Value.ref a] ∧ args = [WData.list (ns.map WData.int)] ∧ h.get? a = some { cls := .type "list", data := .seq vs.toArray } ∧ IntsAre vs ns ∧ ns.length ≤ n := by
  have hsh : WShape.hasAll [] args [.list .int] = true := (pre_splitW hpre).1
  have hc : l.pre.holds [] { args := args } = true := (pre_splitW hpre).2
  obtain ⟨d, r, rfl, h1, h2⟩ := hasAllW_cons hsh
  obtain rfl := hasAllW_nil h2
  obtain ⟨xs, rfl, h3⟩ := hasW_list h1
  obtain ⟨ns, rfl⟩ := items_int h3
  have hlen : ns.length ≤ n := by
    unfold OpenLaw.pre at hc
    have h4 : (WTm.not (.lt (.lit (.int (n : Int))) (.len (.arg 0)))).holds [] { args := [.list (ns.map .int)] } = true := by
      have h4 := (holds_andW hc).1
      rw [hn] at h4
      exact h4
    have h5 := condW_of h4 (w_not (w_lt w_lit (w_len_list (w_arg rfl))))
    rw [List.length_map] at h5
    refine Nat.le_of_not_lt fun q => ?_
    have q' : (n : Int) < ((ns.length : Nat) : Int) := by omega
    first
      | (rw [decide_eq_true q'] at h5; exact absurd h5 (by decide))
      | (simp at h5; omega)
  cases hwl with
  | cons w1 w2 =>
    cases w2
    cases w1 with
    | list ho hall => exact ⟨_, _, ns, rfl, rfl, ho, ints_of_wellAll ns _ hall, hlen⟩

theorem post_true (l : OpenLaw) (args : List WData) : l.row.toRowW.claim.post args (.bool true) args = true :=
  postW_of (r := l.row.toRowW) (X := (true == true))
    (show WShape.has [] (.bool true) .bool = true by first | rfl | decide | simp [WShape.has, WShape.arms, WShape.armsAll])
    (show (WTm.eq .res (.lit (.bool true))).value [] { args := args, res := some (.bool true), after := args } = some (.bool (true == true)) from w_eq_bool (w_res rfl) w_lit) rfl


theorem attach_call {l : OpenLaw} {n : Nat} {q : Program} {loose : List Str} {XP : (Str → Option Value) → Heap → Prop} {YP : World → Heap → Prop} {d : DefRec}
    (hn : l.most = some n) (hdf : d.params.defaults = [])
    (call : ∀ (w : World) (s₀ s₁ : Shared) (mg mb : Str → Option Value) (fa : Addr) (o : Obj) (pm cd doc : Value) (a : Addr) (vs : List Value) (ns : List Int),
      Ground q loose [] XP w s₀ mg mb s₁.heap → YP w s₁.heap →
      s₁.heap.get? fa = some o → o.data = .func (docDef d.name d.params d.body d.scope pm cd doc) → s₁.heap.CodeRec cd d.name → mg d.name = some (.ref fa) →
      s₁.heap.get? a = some { cls := .type "list", data := .seq vs.toArray } → IntsAre vs ns → ns.length ≤ n → s₁.gens = #[] →
      codeAny (model l.prog w) callerA (.call (.ref fa) ⟨[.ref a], []⟩) (fun r s' => r = .ok (.ret (.bool true)) ∧ OldK s₁.heap s'.heap ∧ s'.os = s₁.os ∧ AllBare s'.gens) s₁) :
    WalkO q loose XP YP l.row.toRowW d [] (fun f vs => PySem.call f vs) := by
  intro w s₀ s₁ mg mb G Y fa o pm cd doc dV kV ho hd hcd hD hmg hg args vals as hpre hlay hrd hwl hlo
  obtain rfl : dV = .none := Dflts.none hD hdf
  obtain rfl : kV = .none := Dflts.noKw hD
  obtain ⟨a, vs, ns, rfl, rfl, hobj, hints, hlen⟩ := script_of hn hpre hwl
  refine enter_call (codeAny_mono (call w s₀ s₁ mg mb fa o pm cd doc a vs ns G Y ho (fd_plain hd) hcd hmg hobj hints hlen hg) fun r s' hq => ?_)
  obtain ⟨rfl, h2, h3, h4⟩ := hq
  exact ⟨.inl ⟨.bool true, .bool true, [], rfl, fun _ => rfl, .bool true, post_true l _, fun _ => ⟨List.Pairwise.nil, fun _ hm => (nomatch hm)⟩⟩, h2, h3, h4⟩


section
variable {prog : Program} {w : World} {A : Around} {E : Value → Shared → Prop} {s : Shared} {K : Frag}


end
end Att

namespace L2
open PySem PySem.Spec PyProof.Rows

theorem vals_ints : ∀ {vs : List Value} {ns : List Int}, IntsAre vs ns → Vals (ns.map V.int) vs
  | _, _, .nil => .nil
  | _, _, .cons n t h => .cons ⟨t, rfl⟩ (vals_ints h)


def Only (H : Hp) : Prop := ∀ b, H b = none ∨ ∃ o xs, H b = some (.frz o (.lst xs))


theorem law_call {P : Program} {w : World} {K : PySem.W.Frag} {mg mb : Str → Option Value} {CX : CXT} {k : Nat} {fa a : Addr} {fd : FuncData} {x : Str} {sp : Sp} {s₁ : Shared} {vs : List Value} {ns : List Int}
    (KX : K.In s₁.heap) (hns : s₁.heap.Ns mainGlobals mg) (hb : s₁.heap.Ns builtinsNs mb) (hbb : ∀ x : Str, x ≠ "__name__" → mb x = bootBuiltins x) (hlim : s₁.heap.NoLimit) (hg : s₁.gens = #[])
    (ha : s₁.heap.get? a = some { cls := .type "list", data := .seq vs.toArray }) (hi : IntsAre vs ns) (hl : ns.length ≤ sizeLine) (hr : Room k callerA)
    (F : ∀ base : Heap, K.In base → base.Ns mainGlobals mg → FnOk P w K mg base CX k fa fd [x] sp) (hbind : ∀ (s : Shared) (u : Value), BindsTo s fd ⟨[u], []⟩ [(x, u)])
    (hsp : ∀ H : Hp, Only H → SqL K H a (ns.map V.int) → sp [.ref a] H (fun v _ => v = .bl true) fun _ _ _ => False)
    (hCX : ∀ H e s', CX [] H s₁ (fun _ _ _ => False) e s' → False) :
    codeAny (model P w) callerA (.call (.ref fa) ⟨[.ref a], []⟩) (fun r s' => r = .ok (.ret (.bool true)) ∧ OldK s₁.heap s'.heap ∧ s'.os = s₁.os ∧ AllBare s'.gens) s₁ := by
  have rv := vals_ints hi
  have lenV := hi.length
  -- from an abstract heap in which nothing but the script may be tracked
  have core : ∀ H : Hp, Only H → SqL K H a (ns.map V.int) → HOk P w H s₁.heap → (∀ b, H b ≠ none → b = a) → (H a ≠ none → K.lookup a = none) →
      codeAny (model P w) callerA (.call (.ref fa) ⟨[.ref a], []⟩) (fun r s' => r = .ok (.ret (.bool true)) ∧ OldK s₁.heap s'.heap ∧ s'.os = s₁.os ∧ AllBare s'.gens) s₁ := by
    intro H hO hS hok hA hK
    have base_of : ∀ {b : Addr} {o : Obj}, s₁.heap.get? b = some o → H b = none → (hidT s₁.heap H).get? b = some o := fun e n => hidT_get e n
    have noA : ∀ {b : Addr} {o : Obj} {es : Array DictEntry} {ep : Nat}, s₁.heap.get? b = some o → o.data = .dict es ep → H b = none := fun {b o es ep} e d => by
      cases q : H b with
      | none => rfl
      | some u =>
        have e' : b = a := hA b (by rw [q]; simp)
        subst e'
        rw [ha] at e; cases e
        have d' : Data.seq vs.toArray _ = Data.dict es ep := d
        cases d'
    have nsK : ∀ {b : Addr} {m : Str → Option Value}, s₁.heap.Ns b m → (hidT s₁.heap H).Ns b m := fun {b m} ⟨o, es, ep, e, d, r⟩ => ⟨o, es, ep, base_of e (noA e d), d, r⟩
    have hKb : K.In (hidT s₁.heap H) := fun b o e => base_of (KX b o e) (by
      cases q : H b with
      | none => rfl
      | some u =>
        have e' : b = a := hA b (by rw [q]; simp)
        subst e'
        rw [hK (by rw [q]; simp)] at e; cases e)
    have hM : Mod K mg (hidT s₁.heap H) := ⟨hKb, nsK hns, ⟨mb, nsK hb, hbb⟩, let ⟨mc, h1, h2⟩ := hlim; ⟨mc, nsK h1, h2⟩⟩
    have e0 : Env0 P w K mg (hidT s₁.heap H) callerA [] s₁ H := ⟨rfl, hM, fun b o e => of_hidT e, Nat.le_of_eq (hidT_size _ _), trivial, fun b hb => absurd (show b ∈ ([] : List Addr) from hb) (by simp), hok, .of_eq hg⟩
    refine codeAny_mono ((F _ hKb (nsK hns)).run callerA [] s₁ H ⟨[.ref a], []⟩ [.ref a] [.ref a] _ _ hr e0 (hbind s₁ (.ref a)) (.cons rfl .nil) (hsp H hO hS)) fun r s' h => ?_
    cases r with
    | error e => exact (hCX H e s' h).elim
    | ok fl =>
      cases fl with
      | next => exact False.elim h
      | brk => exact False.elim h
      | cont => exact False.elim h
      | ret u =>
        obtain ⟨v, H', os, bare, un, hok', r', q⟩ := h
        have q' : v = .bl true := q
        subst q'
        obtain rfl : u = Value.bool true := r'
        refine ⟨rfl, OldK.of_keep fun b o e => ?_, os, bare⟩
        cases q : H b with
        | none => exact un.keep b o e q (by intro z; exact absurd (show b ∈ ([] : List Addr) from z) (by simp)) (by simp)
        | some u =>
          rcases hO b with z | ⟨ob, xs, z⟩
          · rw [q] at z; cases z
          · have z2 := un.frzs b ob _ z
            obtain ⟨e1, _⟩ := hok b _ z
            obtain ⟨e2, _⟩ := hok' b _ z2
            rw [e] at e1; cases e1
            exact e2
  cases hk : K.lookup a with
  | some o =>
    -- the script is one of the module's own objects
    have e := KX a o hk
    rw [ha] at e
    cases e
    refine core (fun _ => none) (fun _ => .inl rfl) (.inr ⟨_, vs.toArray, _, hk, rfl, rfl, rfl, by rw [List.size_toArray, lenV]; exact hl, by simpa using rv⟩) (fun b u z => by have z' : (none : Option HO) = some u := z; cases z') (fun b z => absurd rfl z) fun z => absurd rfl z
  | none =>
    refine core (fun b => if b = a then some (.frz { cls := .type "list", data := .seq vs.toArray } (.lst (ns.map V.int))) else none) (fun b => ?_) (.inl (.inr ⟨{ cls := .type "list", data := .seq vs.toArray }, if_pos rfl⟩)) (fun b u z => ?_) (fun b z => ?_) fun _ => hk
    · by_cases hb : b = a
      · exact .inr ⟨_, _, if_pos hb⟩
      · exact .inl (if_neg hb)
    · by_cases hb : b = a
      · have z' := (if_pos hb).symm.trans z
        cases z'
        subst hb
        exact ⟨ha, by rw [List.length_map]; exact hl, vs, _, rv, ha⟩
      · have z' := (if_neg hb).symm.trans z
        cases z'
    · by_cases hb : b = a
      · exact hb
      · exact absurd (if_neg hb) z
end L2

namespace L2
open PySem PySem.Spec PyProof.Rows

theorem walk_of {l : PySem.W.OpenLaw} {n k : Nat} {q : Program} {loose : List Str} {XP : (Str → Option Value) → Heap → Prop} {YP : World → Heap → Prop} {d : DefRec} {K : Params → PySem.W.Frag} {CX : World → CXT} {sp : World → Sp} {x : Str}
    (hn : l.most = some n) (hn2 : n ≤ sizeLine) (hdf : d.params.defaults = []) (hr : Room k callerA)
    (hY : ∀ (w : World) (h : Heap), YP w h → (K w.params).In h)
    (F : ∀ (w : World) (mg : Str → Option Value) (fa : Addr) (h : Heap), (K w.params).In h → h.Ns mainGlobals mg → mg d.name = some (.ref fa) →
      ∃ fd : FuncData, (∀ (s : Shared) (u : Value), BindsTo s fd ⟨[u], []⟩ [(x, u)]) ∧
        ∀ base : Heap, (K w.params).In base → base.Ns mainGlobals mg → FnOk l.prog w (K w.params) mg base (CX w) k fa fd [x] (sp w))
    (hsp : ∀ (w : World) (H : Hp) (a : Addr) (ns : List Int), ns.length ≤ n → Only H → SqL (K w.params) H a (ns.map V.int) → sp w [.ref a] H (fun v _ => v = .bl true) fun _ _ _ => False)
    (hCX : ∀ (w : World) (H : Hp) (s : Shared) (e : Value) (s' : Shared), CX w [] H s (fun _ _ _ => False) e s' → False) :
    PySem.W.WalkO q loose XP YP l.row.toRowW d [] (fun f vs => PySem.call f vs) := by
  refine Att.attach_call hn hdf fun w s₀ s₁ mg mb fa o pm cd doc a vs ns G Y ho hd hcd hmg hobj hints hlen hg => ?_
  have KX := hY w _ Y
  obtain ⟨fd, hb, hF⟩ := F w mg fa _ KX G.T.g hmg
  exact law_call KX G.T.g G.T.b G.T.builtins G.T.nolimit hg hobj hints (Nat.le_trans hlen hn2) hr hF hb (fun H hO hS => hsp w H a ns hlen hO hS) fun H e s' => hCX w H s₁ e s'

end L2




namespace L2
open PySem PySem.Spec PyProof.Rows





abbrev CX0 : CXT := fun _ _ _ _ _ _ => False
abbrev E0 : XK := fun _ _ _ => False
theorem pass0 {X : Cx} : Passes CX0 X E0 := fun _ _ _ _ _ _ _ h => h.elim


structure Fun (K : PySem.W.Frag) (x qual : Str) (st : Stmt) (f : Addr) (fd : FuncData) : Prop where
  ex : ∃ (oc : Value) (od : Option Addr) (kV doc pm : Value) (an : Option Addr) (cdv ct : Value) (osl : Array (Option Value)),
    fd = PySem.W.fnOf x qual (defArgs st) (defBody st) (defScope st) .none kV doc pm an cdv ct ∧ K.lookup f = some ⟨oc, od, .func fd, osl⟩ ∧ PySem.W.codeIn K cdv qual = true
  kp : PySem.W.keepIn K (.ref f) = true
section
variable {P : Program} {w : World} {K : PySem.W.Frag} {mg : Str → Option Value} {base : Heap}

theorem Fun.ok {x qual : Str} {st : Stmt} {f : Addr} {fd : FuncData} {N ps : List Str} {k : Nat} {sp : Sp} (F : Fun K x qual st f fd) (S : FnScope N ps (defScope st)) (len : ∀ vs H Q E, sp vs H Q E → vs.length = ps.length)
    (hbody : ∀ (cdv : Value) (A : Around) (outer : List Env) (s : Shared) (H : Hp) (vs : List V) (Q : VK) (E : XK), Room k (A.deeper (envOfC qual (defScope st) s.heap.objs.size f cdv)) → sp vs H Q E →
      ∃ t, PSs (cxOf CX0 P w K mg base N qual (defScope st) f cdv A outer s H E).nox (defBody st) t ∧ t { nx := fun _ H' => Q .non H', rt := Q } (start N vs) H) : FnOk P w K mg base CX0 (k + 1) f fd ps sp := by
  obtain ⟨oc, od, kV, doc, pm, an, cdv, ct, osl, rfl, lk, hcd⟩ := F.ex
  refine fn_of lk hcd S len fun A outer s H vs Q E hr hsp => ?_
  obtain ⟨t, h, q⟩ := hbody cdv A outer s H vs Q E hr hsp
  exact ⟨t, h.nox, q⟩

theorem Fun.binds {x qual : Str} {st : Stmt} {f : Addr} {fd : FuncData} {ps : List Str} (F : Fun K x qual st f fd)
    (h : ∀ (kV doc pm : Value) (an : Option Addr) (cdv ct : Value) (us : List Value), us.length = ps.length → bindArgs (PySem.W.fnOf x qual (defArgs st) (defBody st) (defScope st) .none kV doc pm an cdv ct) ⟨us, []⟩ = pure (ps.zip us)) : Binds K fd ps [] := by
  obtain ⟨oc, od, kV, doc, pm, an, cdv, ct, osl, rfl, lk, hcd⟩ := F.ex
  exact .all (h kV doc pm an cdv ct)
theorem fun_mk {x qual : Str} {st : Stmt} {f : Addr} {oc : Value} {od an : Option Addr} {osl : Array (Option Value)} {kV doc pm cdv ct : Value} (l : K.lookup f = some ⟨oc, od, .func (PySem.W.fnOf x qual (defArgs st) (defBody st) (defScope st) .none kV doc pm an cdv ct), osl⟩)
    (c : PySem.W.codeIn K cdv qual = true) (k : PySem.W.keepIn K (.ref f) = true) : Fun K x qual st f (PySem.W.fnOf x qual (defArgs st) (defBody st) (defScope st) .none kV doc pm an cdv ct) := ⟨⟨oc, od, kV, doc, pm, an, cdv, ct, osl, rfl, l, c⟩, k⟩
end
theorem small1000 {n : Nat} (h : n ≤ 1000) : n < sizeLine := Nat.lt_of_le_of_lt h (by decide)


section
variable {X : Cx}
theorem pv (i : Nat) {x : Str} {pos : Pos} (hN : X.N[i]? = some x := by rfl) (hv : Vis X.env.scope x := by first | exact Or.inl rfl | exact Or.inr (Or.inl rfl) | exact Or.inr (Or.inr rfl)) (hd : (x == ("__debug__" : Str)) = false := by decide)
    (hcd : (x == ("__classdict__" : Str)) = false := by decide) : PE X (.Name x pos) (tVar i) := pe_var hN hv hd hcd
end


theorem iteF {A B : Prop} (h : B) : if false = true then A else B := by
  rw [if_neg Bool.false_ne_true]
  exact h
theorem iteT {A B : Prop} (h : A) : if true = true then A else B := by
  rw [if_pos rfl]
  exact h
theorem ite2 {c A B : Prop} [Decidable c] (h1 : c → A) (h2 : ¬ c → B) : if c then A else B := by
  by_cases h : c
  · rw [if_pos h]
    exact h1 h
  · rw [if_neg h]
    exact h2 h
def Same (H H' : Hp) : Prop := ∀ b o, H b = some o → H' b = some o
theorem Same.refl (H : Hp) : Same H H := fun _ _ h => h
theorem Same.trans {H H1 H2 : Hp} (a : Same H H1) (b : Same H1 H2) : Same H H2 := fun c o h => b c o (a c o h)
theorem Same.seq {K : PySem.W.Frag} {H H' : Hp} {a : Addr} {xs : List V} (e : Same H H') (h : SqL K H a xs) : SqL K H' a xs := by
  rcases h with (h | ⟨o, h⟩) | h
  · exact .inl (.inl (e _ _ h))
  · exact .inl (.inr ⟨o, e _ _ h⟩)
  · exact .inr h

end L2
set_option maxHeartbeats 4000000
namespace L2
open PySem PySem.Spec PyProof.Rows


section
variable {prog : Program} {w : World} {A : Around} {R : Result → Shared → Prop} {s : Shared}
theorem comp_loop {elt target iter : Expr} {ifs : List Expr} {scope : Scope} {pos : Pos} {it acc : Value} {env : Env} (I : Nat → Shared → Prop)
    (turn : ∀ n s, I n s → wpAny (model prog w) A (pyNext it) (fun r s1 => match r with
      | none => R (.ok .next) s1
      | some v => wpAny (model prog w) A (letOwnedTupleGo target it v) (fun _ s1' => wpAny (model prog w) A (assign target env v) (fun _ s2 =>
          wpAny (model prog w) A (forIn ifs true fun c r => if r = true then do let ok ← isTrue c env (eval c env); pure (ForInStep.yield ok) else pure (ForInStep.yield r)) (fun ok s3 =>
            if ok = true then wpAny (model prog w) A (eval elt env) (fun x s4 =>
              wpAny (model prog w) A (call (.builtin "list.append") [acc, x]) (fun _ s5 => ∃ m, m < n ∧ I m s5) (fun _ _ => False) s4) (fun _ _ => False) s3
            else ∃ m, m < n ∧ I m s3) (fun _ _ => False) s2) (fun _ _ => False) s1') (fun _ _ => False) s1) (fun _ _ => False) s)
    (n : Nat) (h : I n s) :
    codeAny (model prog w) A (.compLoop (.ListComp elt [⟨target, iter, ifs, 0⟩] scope pos) 0 it acc env) R s := by
  refine codeAny_loop rfl I (fun n s hI => ?_) n h
  show wpAny _ A ((compTurn (.ListComp elt [⟨target, iter, ifs, 0⟩] scope pos) 0 it acc env).onRaise (fun x => do noteFrame x env; theTreesLotGoes x)) _ _ s
  refine wpAny_noted ?_
  rw [compTurn_list]
  refine wpAny_bind (wpAny_standAt (wpAny_bind (wpAny_mono (turn n s hI) (fun r s1 h1 => ?_) fun _ _ f => f.elim)))
  cases r with
  | none => exact wpAny_pure h1
  | some v =>
    refine wpAny_bind (wpAny_mono h1 (fun _ s1' h1' => ?_) fun _ _ f => f.elim)
    refine wpAny_bind (wpAny_mono h1' (fun _ s2 h2 => wpAny_bind (wpAny_mono h2 (fun ok s3 h3 => ?_) fun _ _ f => f.elim)) fun _ _ f => f.elim)
    cases ok with
    | false => exact wpAny_pure ⟨rfl, h3⟩
    | true =>
      exact wpAny_bind (wpAny_bind (wpAny_mono h3 (fun x s4 h4 => wpAny_bind (wpAny_mono h4 (fun _ s5 h5 => wpAny_pure (wpAny_pure ⟨rfl, h5⟩)) fun _ _ f => f.elim)) fun _ _ f => f.elim))
end


def clOf (env : Env) : List (Str × NameKind) → List (Str × Addr) → List (Str × Addr)
  | [], cs => cs
  | (n, k) :: r, cs => clOf env r (if (k == NameKind.free) = true then (match env.cells.lookup n with | some a => (n, a) :: cs | none => cs) else cs)
theorem closure_loop {env : Env} {f : Str × NameKind → List (Str × Addr) → Sem (ForInStep (List (Str × Addr)))}
    (hf : ∀ n k cs, f (n, k) cs = if (k == NameKind.free) = true then (do let a ← cellOf env n; pure (.yield ((n, a) :: cs))) else pure (.yield cs)) :
    ∀ (l : List (Str × NameKind)) (cs : List (Str × Addr)), (∀ y ∈ l, y.2 = .free → ∃ c, env.cells.lookup y.1 = some c) → forIn l cs f = pure (clOf env l cs)
  | [], cs, _ => by rw [List.forIn_nil]; rfl
  | (n, k) :: r, cs, h => by
    have hr : ∀ y ∈ r, y.2 = .free → ∃ c, env.cells.lookup y.1 = some c := fun y hy => h y (List.mem_cons_of_mem _ hy)
    rw [List.forIn_cons, hf]
    unfold clOf
    by_cases hk : (k == NameKind.free) = true
    · obtain ⟨c, hc⟩ := h (n, k) List.mem_cons_self (by simpa using hk)
      have hc' : env.cells.lookup n = some c := hc
      rw [if_pos hk, if_pos hk]
      simp only [cellOf, hc', pure_bind]
      exact closure_loop hf r _ hr
    · rw [if_neg hk, if_neg hk, pure_bind]
      exact closure_loop hf r _ hr
theorem closure_eq {env : Env} {scope : Scope} (h : ∀ y ∈ scope.names, y.2 = .free → ∃ c, env.cells.lookup y.1 = some c) : closureFor scope env = pure (clOf env scope.names []) := by
  simp only [closureFor]
  rw [closure_loop (env := env) (fun n k cs => by cases hk : k == NameKind.free <;> simp [hk]) scope.names [] h]
  rfl
theorem clOf_mem {env : Env} {x : Str} {c : Addr} : ∀ {l : List (Str × NameKind)} {cs : List (Str × Addr)}, (∀ z d, cs.lookup z = some d → env.cells.lookup z = some d) → (clOf env l cs).lookup x = some c → env.cells.lookup x = some c
  | [], _, hc, h => hc _ _ h
  | (n, k) :: r, cs, hc, h => by
    unfold clOf at h
    refine clOf_mem (l := r) ?_ h
    intro z d hz
    split at hz
    · split at hz
      · rename_i a ha
        rw [List.lookup_cons] at hz
        split at hz
        · rename_i e
          have e' : z = n := by simpa using e
          subst e'
          rw [ha]
          exact hz
        · exact hc z d hz
      · exact hc z d hz
    · exact hc z d hz
theorem clOf_get {env : Env} {x : Str} {c : Addr} (e : env.cells.lookup x = some c) : ∀ {l : List (Str × NameKind)} {cs : List (Str × Addr)}, (∀ z d, cs.lookup z = some d → env.cells.lookup z = some d) →
    ((x, NameKind.free) ∈ l ∨ ∃ d, cs.lookup x = some d) → (clOf env l cs).lookup x = some c
  | [], cs, hc, h => by
    rcases h with h | ⟨d, h⟩
    · simp at h
    · have := hc x d h
      rw [e] at this
      cases this
      exact h
  | (n, k) :: r, cs, hc, h => by
    unfold clOf
    have hc2 : ∀ z d, (if (k == NameKind.free) = true then (match env.cells.lookup n with | some a => (n, a) :: cs | none => cs) else cs).lookup z = some d → env.cells.lookup z = some d := by
      intro z d hz
      split at hz
      · split at hz
        · rename_i a ha
          rw [List.lookup_cons] at hz
          split at hz
          · rename_i e
            have e' : z = n := by simpa using e
            subst e'
            rw [ha]
            exact hz
          · exact hc z d hz
        · exact hc z d hz
      · exact hc z d hz
    refine clOf_get e (l := r) hc2 ?_
    have keep : ∀ d, cs.lookup x = some d → ∃ d, (if (k == NameKind.free) = true then (match env.cells.lookup n with | some a => (n, a) :: cs | none => cs) else cs).lookup x = some d := by
      intro d hd
      split
      · split
        · rename_i a ha
          rw [List.lookup_cons]
          split
          · exact ⟨_, rfl⟩
          · exact ⟨d, hd⟩
        · exact ⟨d, hd⟩
      · exact ⟨d, hd⟩
    rcases h with h | ⟨d, h⟩
    · rcases List.mem_cons.mp h with h | h
      · have e1 : x = n := congrArg Prod.fst h
        have e2 : k = NameKind.free := (congrArg Prod.snd h).symm
        subst e1 e2
        refine .inr ⟨c, ?_⟩
        rw [if_pos (by decide), e]
        simp [List.lookup_cons]
      · exact .inl h
    · exact .inr (keep d h)

theorem relabel_free {env : Env} : ∀ {names : List (Str × NameKind)} {x : Str} {k : NameKind},
    (names.map fun (n, k) => if (k == NameKind.free && env.scope.kind == .function && env.kindOf n == some .cell) then (n, NameKind.cell) else (n, k)).lookup x = some k → (k = .cell ∨ k = .free) → (∀ y ∈ names, y.2 ≠ .cell) → names.lookup x = some .free
  | [], _, _, h, _, _ => by simp at h
  | (n, k0) :: r, x, k, h, hk, hn => by
    have ih := @relabel_free env r x k
    have h' : List.lookup x ((if (k0 == NameKind.free && env.scope.kind == .function && env.kindOf n == some .cell) = true then (n, NameKind.cell) else (n, k0)) :: (r.map fun (n, k) => if (k == NameKind.free && env.scope.kind == .function && env.kindOf n == some .cell) then (n, NameKind.cell) else (n, k))) = some k := h
    cases hx : x == n with
    | true =>
      have go : List.lookup x ((n, k0) :: r) = some k0 := by simp [List.lookup_cons, hx]
      rw [go]
      by_cases hc : (k0 == NameKind.free && env.scope.kind == .function && env.kindOf n == some .cell) = true
      · have : k0 = NameKind.free := by
          simp only [Bool.and_eq_true] at hc
          simpa using hc.1.1
        rw [this]
      · rw [if_neg hc] at h'
        simp only [List.lookup_cons, hx] at h'
        cases h'
        rcases hk with hk | hk
        · exact absurd hk (hn _ List.mem_cons_self)
        · rw [hk]
    | false =>
      have go : List.lookup x ((n, k0) :: r) = List.lookup x r := by simp [List.lookup_cons, hx]
      rw [go]
      refine ih ?_ hk (fun y hy => hn y (List.mem_cons_of_mem _ hy))
      by_cases hc : (k0 == NameKind.free && env.scope.kind == .function && env.kindOf n == some .cell) = true
      · rw [if_pos hc] at h'
        simp only [List.lookup_cons, hx] at h'
        exact h'
      · rw [if_neg hc] at h'
        simp only [List.lookup_cons, hx] at h'
        exact h'
theorem relabel_of_free {env : Env} : ∀ {names : List (Str × NameKind)} {x : Str}, names.lookup x = some .free →
    (names.map fun (n, k) => if (k == NameKind.free && env.scope.kind == .function && env.kindOf n == some .cell) then (n, NameKind.cell) else (n, k)).lookup x = some .cell ∨
    (names.map fun (n, k) => if (k == NameKind.free && env.scope.kind == .function && env.kindOf n == some .cell) then (n, NameKind.cell) else (n, k)).lookup x = some .free
  | [], _, h => by simp at h
  | (n, k0) :: r, x, h => by
    have ih := @relabel_of_free env r x
    show List.lookup x ((if (k0 == NameKind.free && env.scope.kind == .function && env.kindOf n == some .cell) = true then (n, NameKind.cell) else (n, k0)) :: _) = _ ∨ List.lookup x ((if (k0 == NameKind.free && env.scope.kind == .function && env.kindOf n == some .cell) = true then (n, NameKind.cell) else (n, k0)) :: _) = _
    cases hx : x == n with
    | true =>
      simp only [List.lookup_cons, hx] at h
      by_cases hc : (k0 == NameKind.free && env.scope.kind == .function && env.kindOf n == some .cell) = true
      · rw [if_pos hc]
        left
        simp only [List.lookup_cons, hx]
      · rw [if_neg hc]
        right
        simp only [List.lookup_cons, hx]
        exact h
    | false =>
      simp only [List.lookup_cons, hx] at h
      by_cases hc : (k0 == NameKind.free && env.scope.kind == .function && env.kindOf n == some .cell) = true
      · rw [if_pos hc]
        simp only [List.lookup_cons, hx]
        exact ih h
      · rw [if_neg hc]
        simp only [List.lookup_cons, hx]
        exact ih h



def blk (X : Cx) (N : List Str) (scope : Scope) (C : Addr) (s : Shared) (H : Hp) (ex : List Addr) : Cx where
  prog := X.prog
  w := X.w
  K := X.K
  mg := X.mg
  base := X.base
  A := X.A
  N := N
  s₀ := s
  H₀ := H
  env := compEnvC scope (clOf X.env scope.names []) C X.env
  outer := X.stack
  stack := X.stack
  ex := ex
  fn := fun _ => false
  calm := X.calm
  pn := []
  xe := fun _ _ => False

structure BlkScope (sc : Scope) (N own cn : List Str) (ci : List Nat) (scope : Scope) : Prop where
  kind : scope.kind = .function
  nocell : ∀ y ∈ scope.names, y.2 ≠ .cell
  names : ∀ y ∈ scope.names, y.2 = .local → scope.names.lookup y.1 = some .local
  free : ∀ y ∈ scope.names, y.2 = .free → sc.names.lookup y.1 = some .cell ∨ sc.names.lookup y.1 = some .free
  cap : (cn.map fun x => (some x : Option Str)) = ci.map fun i => N[i]?
  capk : ∀ x ∈ cn, scope.names.lookup x = some .free
  nd : (own ++ cn).Nodup
def blkS (own : List Str) (ci : List Nat) (σ : St) : St := own.map (fun _ => none) ++ ci.map fun i => (σ[i]?).join

section
variable {X : Cx} {pins : List (Addr × Obj)} {σ : St} {H H2 : Hp} {s s2 : Shared} {sc : Scope} {N own cn : List Str} {ci : List Nat} {scope : Scope} {fp : List Addr}
theorem blk_cells (S : BlkScope sc N own cn ci scope) (hsc : X.env.scope = sc) (I : Inv X pins σ H s) : ∀ y ∈ scope.names, y.2 = .free → ∃ c, X.env.cells.lookup y.1 = some c := fun y hy hf => by
  refine I.ok.has y.1 ?_
  have := S.free y hy hf
  rw [← hsc] at this
  exact this
theorem blk_inv (S : BlkScope sc N own cn ci scope) (hsc : X.env.scope = sc) (hN : X.N = N) (I : Inv X pins σ H s) (hfp : ∀ b ∈ fp, FpOk X pins H b) (hlt : ∀ b ∈ fp, b < s.heap.objs.size) {h1 : Heap} {tk : Nat} {m : Str → Option Value}
    (hns : h1.Ns s.heap.objs.size m) (keep : ∀ b o, s.heap.get? b = some o → h1.get? b = some o) :
    Inv (blk X (own ++ cn) scope s.heap.objs.size s H fp) [] (blkS own ci σ) H { s with heap := h1, toks := tk } := by
  have ccl : ∀ x c, (clOf X.env scope.names []).lookup x = some c → X.env.cells.lookup x = some c := fun x c e => clOf_mem (fun z d h => by simp at h) e
  have cnl : cn.length = ci.length := by have := congrArg List.length S.cap; simpa using this
  refine ⟨⟨I.ok.mod, ?_, I.ok.glob, I.ok.blt, Nat.le_refl _, fun x y c e1 e2 => I.ok.inj x y c (ccl x c e1) (ccl y c e2), fun x hx => ?_, fun x c hf _ => ?_, I.ok.hd, I.ok.frames, .inl rfl, fun b hb => ⟨Nat.ne_of_lt (hlt b hb), fun x c e => (hfp b hb).2.2.2.2.1 x c (ccl x c e)⟩, I.bs, Nat.le_trans I.ok.bsz I.sz, fun b o e hb => ?_, fun b hb hb2 => ?_, I.stack, I.stkFree⟩,
    rfl, I.bare, Un.kept keep, ⟨m, hns, fun i x v e1 e2 e3 => ?_⟩, fun x c e => ?_, I.hok.fresh (Nat.le_refl _), fun x c e => I.freeC x c (ccl x c e), fun p hp => absurd (show p ∈ ([] : List (Addr × Obj)) from hp) (by simp), I.hok.kept keep, ?_⟩
  · exact S.kind
  · have hx' : (relabel scope X.env).names.lookup x = some .cell ∨ (relabel scope X.env).names.lookup x = some .free := hx
    have hfree : scope.names.lookup x = some .free := by
      rcases hx' with q | q
      · exact relabel_free q (.inl rfl) S.nocell
      · exact relabel_free q (.inr rfl) S.nocell
    have hm := PySem.mem_of_lookup hfree
    obtain ⟨c, hc⟩ := blk_cells S hsc I _ hm rfl
    exact ⟨c, clOf_get hc (fun z d h => by simp at h) (.inl hm)⟩
  · exact absurd hf (by show ¬ (false = true); decide)
  · rcases (hfp b hb).2.2.2.1 with z | z
    · exact I.ok.noex b o e z
    · exact absurd (Nat.lt_of_lt_of_le (Heap.lt_size (I.ok.bs b o e).1) z) (Nat.lt_irrefl _)
  · rcases List.mem_cons.mp (I.stkSub b hb2) with z | z
    · exact (hfp b hb).2.1 z
    · exact (hfp b hb).2.2.1 z
  · have e1' : (own ++ cn)[i]? = some x := e1
    unfold blkS at e2
    by_cases hi : i < own.length
    · rw [List.getElem?_append_left (by simpa using hi), List.getElem?_map] at e2
      cases q : own[i]? with
      | none => rw [q] at e2; cases e2
      | some z => rw [q] at e2; cases e2
    · rw [List.getElem?_append_right (by simpa using hi)] at e2
      rw [List.getElem?_append_right (by omega)] at e1'
      rw [List.length_map, List.getElem?_map] at e2
      cases q : ci[i - own.length]? with
      | none => rw [q] at e2; cases e2
      | some j =>
        rw [q] at e2
        have e2' : (σ[j]?).join = some v := Option.some.inj e2
        have e3' : σ[j]? = some (some v) := by
          cases z : σ[j]? with
          | none => rw [z] at e2'; cases e2'
          | some o => rw [z] at e2'; exact congrArg some e2'
        have hNj : X.N[j]? = some x := by
          have c1 := congrArg (fun l => l[i - own.length]?) S.cap
          simp only [List.getElem?_map, e1', q, Option.map_some] at c1
          rw [hN]
          exact (Option.some.inj c1).symm
        have hfree := S.capk x (List.mem_of_getElem? e1')
        have hm := PySem.mem_of_lookup hfree
        have hk := S.free _ hm rfl
        rw [← hsc] at hk
        have hvis : Vis X.env.scope x := .inr hk
        obtain ⟨m0, _, hl⟩ := I.loc
        obtain ⟨u, r, l⟩ := hl j x v hNj e3' hvis
        refine ⟨u, r, .inr ⟨relabel_of_free hfree, ?_⟩⟩
        rcases l with ⟨l, _⟩ | ⟨_, c, ec, z⟩
        · have l' : X.env.scope.names.lookup x = some .local := l
          rcases hk with hk | hk <;> (rw [hk] at l'; cases l')
        · refine ⟨c, clOf_get ec (fun z d h => by simp at h) (.inl hm), ?_⟩
          obtain ⟨o, ho, hd⟩ := z
          exact ⟨o, keep c o ho, hd⟩
  · obtain ⟨v, o, ho, hd⟩ := I.cell x c (ccl x c e)
    exact ⟨v, o, keep c o ho, hd⟩
  · show (blkS own ci σ).length = (own ++ cn).length
    unfold blkS
    rw [List.length_append, List.length_append, List.length_map, List.length_map, cnl]
end


def PTs (X : Cx) (ifs : List Expr) (t : TT) : Prop :=
  ∀ (pins : List (Addr × Obj)) (s : Shared) (σ : St) (H : Hp) (Q : Bool → Hp → Prop), Inv X pins σ H s → t σ H Q →
    wpAny (model X.prog X.w) X.A (forIn ifs true fun c r => if r = true then do let ok ← isTrue c X.env (eval c X.env); pure (ForInStep.yield ok) else pure (ForInStep.yield r)) (TP X pins σ Q) X.xe s
def tTrue : TT := fun _ H Q => Q true H
theorem pts_nil {X : Cx} : PTs X [] tTrue := fun _ _ _ H _ I h => wpAny_tests_nil ⟨H, I, h⟩
theorem pts_one {X : Cx} {c : Expr} {t : TT} (h : PT X c t) : PTs X [c] t := fun pins s σ H Q I q => wpAny_tests_one (h pins s σ H Q I q)


def LcW (J : It) (g : TG) (tt : TT) (te : TE) (D : Addr) (Q : Hp → Prop) (W : Nat → Nat → St → Hp → Prop) : Prop := ∀ i m σ H, W i m σ H →
  (J.stop i H ∧ Q H) ∨ (J.go i H ∧ ∀ x H1, J.yld i H x H1 → g x σ H1 fun σ2 H2 => tt σ2 H2 fun ok H3 => if ok = true then te σ2 H3 fun y H4 => ∃ ys, H4 D = some (.lst ys) ∧ ys.length < sizeLine ∧
    ∃ m', m' < m ∧ W (i + 1) m' σ2 (upd H4 D (.lst (ys ++ [y]))) else ∃ m', m' < m ∧ W (i + 1) m' σ2 H3)
def tLC (own : List Str) (ci : List Nat) (wi : TI) (g : TG) (tt : TT) (te : TE) : TE := fun σ H Q => wi σ H fun J H1 => ∀ D, H1 D = none →
  ∃ W : Nat → Nat → St → Hp → Prop, (∃ m, W 0 m (blkS own ci σ) (upd H1 D (.lst []))) ∧ LcW J g tt te D (Q (.ref D)) W

section
variable {X : Cx} {pins : List (Addr × Obj)} {σ : St} {H H2 : Hp} {s s2 : Shared} {sc : Scope} {N own cn : List Str} {ci : List Nat} {scope : Scope} {fp : List Addr}
  {elt tg iter : Expr} {ifs : List Expr} {pos : Pos} {g : TG} {tt : TT} {te : TE} {wi : TI}
theorem lc_block {it : Addr} {tn : Nat → Heap → Prop} {J : It} {Q : VK} {E : Value → Shared → Prop} {RR : Value → Addr → Result → Shared → Prop} (S : BlkScope sc N own cn ci scope) (hsc : X.env.scope = sc) (hN : X.N = N) (hc : X.calm = true)
    (I2 : Inv X pins σ H2 s2) (T : Turn X.prog X.w X.K tg J fp it tn) (st2 : tn 0 s2.heap) (f2 : ∀ b ∈ fp, FpOk X pins H2 b)
    (hg : ∀ C s H, PG (blk X (own ++ cn) scope C s H fp) tg g) (ht : ∀ C s H, PTs (blk X (own ++ cn) scope C s H fp) ifs tt) (he : ∀ C s H, PE (blk X (own ++ cn) scope C s H fp) elt te)
    (q : ∀ D, H2 D = none → ∃ W : Nat → Nat → St → Hp → Prop, (∃ m, W 0 m (blkS own ci σ) (upd H2 D (.lst []))) ∧ LcW J g tt te D (Q (.ref D)) W)
    (hRR : ∀ D C H' s', Inv X pins σ H' s' → Q (.ref D) H' → (∃ m, s'.heap.Ns C m) → FpOk X pins H' C → RR (.ref D) C (.ok .next) s') :
    wpAny (model X.prog X.w) X.A (newList []) (fun acc s3 => wpAny (model X.prog X.w) X.A (newFunctionEnv scope X.env.globals (clOf X.env scope.names []) [] X.env.qual none .none (some X.env)) (fun cenv s4 =>
      codeAny (model X.prog X.w) X.A (.compStart (.ListComp elt [⟨tg, iter, ifs, 0⟩] scope pos) 0 (.ref it) acc { cenv with scope := relabel scope X.env }) (RR acc cenv.locals) s4) E s3) E s2 := by
  refine wpAny_newObj_type (wpAny_newFunctionEnv S.nocell (by intro y hy; simp at hy) (fun h1 hns1 hsb1 => ?_) S.kind)
  dsimp only at hns1 hsb1 ⊢
  have I3 : Inv X pins σ (upd H2 s2.heap.objs.size (.lst [])) { s2 with heap := s2.heap.push { cls := .type "list", data := .seq ([] : List Value).toArray }, toks := s2.toks } := I2.lnew (its := []) (t' := s2.toks) .nil (Nat.zero_le _)
  have hD : H2 s2.heap.objs.size = none := I2.hok.fresh (Nat.le_refl _)
  have fpe : ∀ b ∈ fp, b < s2.heap.objs.size := fun b hb => by
    obtain ⟨o, e, _⟩ := T.obj _ _ st2 b hb
    exact Heap.lt_size e
  have f3 : ∀ b ∈ fp, FpOk X pins (upd H2 s2.heap.objs.size (.lst [])) b := fun b hb => ⟨by rw [upd_ne (Nat.ne_of_lt (fpe b hb))]; exact (f2 b hb).1, (f2 b hb).2⟩
  obtain ⟨W, ⟨m0, w0⟩, turn⟩ := q s2.heap.objs.size hD
  generalize hs3 : ({ s2 with heap := s2.heap.push { cls := .type "list", data := .seq ([] : List Value).toArray }, toks := s2.toks } : Shared) = s3 at I3
  have e3 : s3.heap = s2.heap.push { cls := .type "list", data := .seq ([] : List Value).toArray } := by rw [← hs3]
  have hsz3 : s3.heap.objs.size = s2.heap.objs.size + 1 := by rw [e3, Heap.size_push]
  have keep3 : ∀ b o, s2.heap.get? b = some o → s3.heap.get? b = some o := fun b o e => by rw [e3]; exact Heap.get?_push_of_some _ e
  have keep : ∀ b o, s3.heap.get? b = some o → h1.get? b = some o := fun b o e => by
    refine hsb1.extBut b o ?_ (Heap.get?_push_of_some _ (by rw [← e3]; exact e))
    have := Heap.lt_size e
    rw [e3] at this
    exact Nat.ne_of_lt this
  have hns : h1.Ns s3.heap.objs.size (fun x => ([] : List (Str × Value)).reverse.lookup x) := by rw [e3]; exact hns1
  have I4 := blk_inv (fp := fp) (tk := s2.toks + ([] : List (Str × Value)).length) S hsc hN I3 f3 (fun b hb => by rw [hsz3]; exact Nat.lt_succ_of_lt (fpe b hb)) hns keep
  have st4 : tn 0 h1 := T.keep _ _ _ st2 fun b hb o e => keep b o (keep3 b o e)
  have hC : (s2.heap.push { cls := .type "list", data := .seq ([] : List Value).toArray }).objs.size = s3.heap.objs.size := by rw [e3]
  have stat : ∀ {H' : Hp}, (∀ b ∈ fp, H' b = none) → ∀ b ∈ fp, FpOk (blk X (own ++ cn) scope s3.heap.objs.size s3 (upd H2 s2.heap.objs.size (.lst [])) fp) [] H' b := fun hn b hb =>
    ⟨hn b hb, Nat.ne_of_lt (by rw [hsz3]; exact Nat.lt_succ_of_lt (fpe b hb)), fun z => I4.ok.exfs b hb z, .inl hb, (I4.ok.exf b hb).2, fun p hp => absurd (show p ∈ ([] : List (Addr × Obj)) from hp) (by simp)⟩
  have loop : ∀ s4 : Shared, s4 = { s3 with heap := h1, toks := s2.toks + ([] : List (Str × Value)).length } →
      codeAny (model X.prog X.w) X.A (.compLoop (.ListComp elt [⟨tg, iter, ifs, 0⟩] scope pos) 0 (.ref it) (.ref s2.heap.objs.size) (compEnvC scope (clOf X.env scope.names []) s3.heap.objs.size X.env)) (RR (.ref s2.heap.objs.size) s3.heap.objs.size) s4 := by
    rintro s4 rfl
    refine comp_loop (fun n s' => ∃ i σ' H', Inv (blk X (own ++ cn) scope s3.heap.objs.size s3 (upd H2 s2.heap.objs.size (.lst [])) fp) [] σ' H' s' ∧ tn i s'.heap ∧ (∀ b ∈ fp, H' b = none) ∧ W i n σ' H') ?_ m0
      ⟨0, _, _, I4, st4, fun b hb => (f3 b hb).1, w0⟩
    rintro n s5 ⟨i, σ5, H5, I5, st5, fr5, w5⟩
    rcases turn i n σ5 H5 w5 with ⟨stop, qn⟩ | ⟨go, step⟩
    · refine thn (T.done (blk X (own ++ cn) scope s3.heap.objs.size s3 (upd H2 s2.heap.objs.size (.lst [])) fp) rfl rfl rfl hc i [] s5 σ5 H5 (fun _ _ => False) I5 (stat fr5) st5 stop) fun r s6 ⟨hr, I6⟩ => ?_
      subst hr
      refine hRR _ _ H5 s6 (I3.call' I6.os I6.base I6.hok I6.bare fun b hb => ⟨(f3 b hb).2.2.2.1, (f3 b hb).2.1, (f3 b hb).2.2.2.2.1, (f3 b hb).2.2.2.2.2⟩) qn (let ⟨m, hn, _⟩ := I6.loc; ⟨m, hn⟩) (I3.fpOk (Nat.le_refl _) I6.free)
    · refine thn (T.item (blk X (own ++ cn) scope s3.heap.objs.size s3 (upd H2 s2.heap.objs.size (.lst [])) fp) rfl rfl rfl hc i [] s5 σ5 H5 (fun _ _ => False) I5 (stat fr5) st5 go) fun r s6 ⟨u, hr, h6⟩ => ?_
      subst hr
      refine thn h6 fun _ s7 ⟨x, H7, I7, r7, y7, st7, fr7⟩ => ?_
      have I7' := I7.pinned (stat fr7) (T.obj _ _ st7)
      refine thn (hg _ _ _ _ s7 σ5 H7 x u _ I7' r7 (step x H7 y7)) fun _ s8 ⟨σ8, H8, I8, q8⟩ => ?_
      refine thn (ht _ _ _ _ s8 σ8 H8 _ I8 q8) fun ok s9 ⟨H9, I9, q9⟩ => ?_
      have again : ∀ {H' : Hp} {s' : Shared} {m' : Nat}, Inv (blk X (own ++ cn) scope s3.heap.objs.size s3 (upd H2 s2.heap.objs.size (.lst [])) fp) ([] ++ pinsAt fp s7.heap) σ8 H' s' → W (i + 1) m' σ8 H' →
          ∃ i σ' H', Inv (blk X (own ++ cn) scope s3.heap.objs.size s3 (upd H2 s2.heap.objs.size (.lst [])) fp) [] σ' H' s' ∧ tn i s'.heap ∧ (∀ b ∈ fp, H' b = none) ∧ W i m' σ' H' := fun {H' s' m'} I' w' => by
        refine ⟨i + 1, σ8, H', I'.unpinned, T.keep _ _ _ st7 fun b hb o e => (I'.pin (b, o) (List.mem_append_right _ (List.mem_append_right _ (mem_pinsAt hb e)))).1, fun b hb => ?_, w'⟩
        obtain ⟨o, e, _⟩ := T.obj _ _ st7 b hb
        exact (I'.pin (b, o) (List.mem_append_right _ (List.mem_append_right _ (mem_pinsAt hb e)))).2.1
      cases ok with
      | false =>
        obtain ⟨m', hm, w'⟩ := q9
        exact ⟨m', hm, again I9 w'⟩
      | true =>
        refine thn (he _ _ _ _ s9 σ8 H9 _ I9 q9) fun v s10 ⟨y, H10, I10, r10, ys, hDl, hz, m', hm, w'⟩ => ?_
        refine thn (mt_append _ s10 σ8 H10 (.ref s2.heap.objs.size) [y] (.ref s2.heap.objs.size) [v] (fun _ H11 => H11 = upd H10 s2.heap.objs.size (.lst (ys ++ [y]))) I10 rfl (.cons r10 .nil) ⟨_, ys, y, rfl, rfl, hDl, hz, rfl⟩) fun _ s11 ⟨_, H11, I11, _, e11⟩ => ?_
        subst e11
        exact ⟨m', hm, again I11 w'⟩
  have es : ({ s2 with heap := h1, toks := s2.toks + ([] : List (Str × Value)).length } : Shared) = { s3 with heap := h1, toks := s2.toks + ([] : List (Str × Value)).length } := by rw [← hs3]
  rw [hC]
  exact codeAny_compStart_list (loop _ es) (T.self _ 0 _ _ _ st4 (loop _ es))

theorem pe_lc (S : BlkScope sc N own cn ci scope) (hsc : X.env.scope = sc) (hN : X.N = N) (hc : X.calm = true) (hi : PI X tg iter wi)
    (hg : ∀ fp C s H, PG (blk X (own ++ cn) scope C s H fp) tg g) (ht : ∀ fp C s H, PTs (blk X (own ++ cn) scope C s H fp) ifs tt) (he : ∀ fp C s H, PE (blk X (own ++ cn) scope C s H fp) elt te)
    (hs : ∀ x, foldedSetIterable iter X.env x = pure x := by intro _; rfl) : PE X (.ListComp elt [⟨tg, iter, ifs, 0⟩] scope pos) (tLC own ci wi g tt te) := by
  intro pins s σ H Q I h
  rw [eval_ListComp]
  refine wpAny_comprehension_free (use := none) rfl hs (closure_eq (blk_cells S hsc I)) S.kind S.names (thn (hi pins s σ H _ I h) fun xv s1 h1 => thn h1 fun itv s2 h2 => ?_)
  obtain ⟨it, fp, tn, J, H2, e, I2, T, st2, f2, q⟩ := h2
  subst e
  refine lc_block (RR := fun acc C => compPost (model X.prog X.w) X.A X.xe none (EP X pins σ Q) acc C) S hsc hN hc I2 T st2 f2 (hg fp) (ht fp) (he fp) q ?_
  intro D C H' s' I' q' ⟨m, hn⟩ fC
  exact ⟨m, hn, fun h' hs' => ⟨.ref D, H', I'.turned (t' := s'.toks) (fun b o hb e => (hs'.2 b hb).trans e) fC.1 (Ne.symm (Ne.symm fC.2.1)) fC.2.2.2.1 fC.2.2.2.2.1 fC.2.2.2.2.2, rfl, q'⟩⟩


def tSetLC (i : Nat) (t : TE) : TS := fun D σ H => t σ H fun v H1 => D.nx (σ.set i (some v)) H1
theorem ps_setlc {i : Nat} {y : Str} {py spos : Pos} (S : BlkScope sc N own cn ci scope) (hsc : X.env.scope = sc) (hN : X.N = N) (hc : X.calm = true) (hi : PI X tg iter wi)
    (hg : ∀ fp C s H, PG (blk X (own ++ cn) scope C s H fp) tg g) (ht : ∀ fp C s H, PTs (blk X (own ++ cn) scope C s H fp) ifs tt) (he : ∀ fp C s H, PE (blk X (own ++ cn) scope C s H fp) elt te)
    (hnd : X.N.Nodup) (hiy : X.N[i]? = some y) (hy : X.env.scope.names.lookup y = some .local)
    (hsw : swapsWith (.ListComp elt [⟨tg, iter, ifs, 0⟩] scope pos) (some (.Name y py)) spos.line X.env = pure true)
    (hs : ∀ x, foldedSetIterable iter X.env x = pure x := by intro _; rfl) : PS X (.Assign [.Name y py] (.ListComp elt [⟨tg, iter, ifs, 0⟩] scope pos) spos) (tSetLC i (tLC own ci wi g tt te)) := by
  intro pins s σ H D I h
  rw [exec_Assign_Name_used _ _ _ _ hsw]
  refine wpAny_bind (wpAny_standAt (wpAny_bind ?_))
  show wpAny _ X.A (do let _ ← comprehension (.ListComp elt [⟨tg, iter, ifs, 0⟩] scope pos) scope X.env _ (newList []) false (eval iter X.env) (some (assign (.Name y py) X.env))) _ _ s
  refine wpAny_bind (wpAny_mono (wpAny_comprehension_free (use := some (assign (.Name y py) X.env)) (Q := fun _ s' => SP X pins D .next s') rfl hs (closure_eq (blk_cells S hsc I)) S.kind S.names
    (thn (hi pins s σ H _ I h) fun xv s1 h1 => thn h1 fun itv s2 h2 => ?_)) (fun _ s' hq => wpAny_pure (wpAny_pure hq)) fun _ _ e => e)
  obtain ⟨it, fp, tn, J, H2, e, I2, T, st2, f2, q⟩ := h2
  subst e
  refine lc_block (RR := fun acc C => compPost (model X.prog X.w) X.A X.xe (some (assign (.Name y py) X.env)) (fun _ s' => SP X pins D .next s') acc C) (Q := fun v H1 => D.nx (σ.set i (some v)) H1) S hsc hN hc I2 T st2 f2 (hg fp) (ht fp) (he fp) q ?_
  intro D' C H' s' I' q' ⟨m, hn⟩ fC
  refine wpAny_assign_Name (store_ok2 (v := .ref D') I' hnd hiy (.inl hy) rfl (fun s'' I'' ⟨a, hsb, ha⟩ => ?_) (.inr hy))
  have hCa : C ≠ a := by
    rcases ha with ha | ha
    · rw [ha]; exact fC.2.1
    · exact Ne.symm (fC.2.2.2.2.1 _ _ ha)
  exact ⟨m, hn.sameBut hsb hCa, fun h' hs' => ⟨_, H', I''.turned (t' := s''.toks) (fun b o hb e => (hs'.2 b hb).trans e) fC.1 fC.2.1 fC.2.2.2.1 fC.2.2.2.2.1 fC.2.2.2.2.2, q'⟩⟩
end


theorem lc_range {lo : Int} {n : Nat} {caps : St} {tt : TT} {te : TE} {D : Addr} {Q : Hp → Prop} {H1 : Hp} (Pv : Nat → List V → Hp → Prop) (hz : n ≤ sizeLine) (h0 : Pv 0 [] (upd H1 D (.lst []))) (hl : ∀ i ys H, Pv i ys H → ys.length ≤ i)
    (hs : ∀ i ys H (N : VK) (M : Hp → Prop), i < n → Pv i ys H → (∀ y H4, H4 D = some (.lst ys) → Pv (i + 1) (ys ++ [y]) (upd H4 D (.lst (ys ++ [y]))) → N y H4) → (∀ H3, Pv (i + 1) ys H3 → M H3) →
      tt (some (.int (lo + i)) :: caps) H fun ok H3 => if ok = true then te (some (.int (lo + i)) :: caps) H3 N else M H3)
    (hd : ∀ ys H, Pv n ys H → Q H) : ∃ W : Nat → Nat → St → Hp → Prop, (∃ m, W 0 m (none :: caps) (upd H1 D (.lst []))) ∧ LcW (Itr lo n) (gName 0) tt te D Q W := by
  refine ⟨fun i m σ H => m = n - i ∧ i ≤ n ∧ (∃ v, σ = v :: caps) ∧ ∃ ys, Pv i ys H, ⟨n, by simp, Nat.zero_le _, ⟨none, rfl⟩, [], h0⟩, ?_⟩
  rintro i m σ H ⟨rfl, hi, ⟨v, rfl⟩, ys, p⟩
  have hy := hl i ys H p
  by_cases hlt : i < n
  · refine .inr ⟨hlt, fun x H1 y => ?_⟩
    obtain ⟨e, y⟩ := y
    subst e y
    refine hs i ys _ _ _ hlt p (fun y H4 a c => ⟨ys, a, by omega, n - (i + 1), by omega, rfl, hlt, ⟨_, rfl⟩, _, c⟩) (fun H3 c => ⟨n - (i + 1), by omega, rfl, hlt, ⟨_, rfl⟩, ys, c⟩)
  · have e : i = n := by omega
    subst e
    exact .inl ⟨Nat.le_refl _, hd ys H p⟩
theorem lc_list {K : PySem.W.Frag} {a : Addr} {xs : List V} {caps : St} {tt : TT} {te : TE} {D : Addr} {Q : Hp → Prop} {H1 : Hp} (Pv : Nat → List V → Hp → Prop) (hz : xs.length ≤ sizeLine) (h0 : Pv 0 [] (upd H1 D (.lst []))) (hl : ∀ i ys H, Pv i ys H → ys.length ≤ i) (hq : ∀ i ys H, Pv i ys H → SqL K H a xs)
    (hs : ∀ i ys H (x : V) (N : VK) (M : Hp → Prop), xs[i]? = some x → Pv i ys H → (∀ y H4, H4 D = some (.lst ys) → Pv (i + 1) (ys ++ [y]) (upd H4 D (.lst (ys ++ [y]))) → N y H4) → (∀ H3, Pv (i + 1) ys H3 → M H3) →
      tt (some x :: caps) H fun ok H3 => if ok = true then te (some x :: caps) H3 N else M H3)
    (hd : ∀ ys H, Pv xs.length ys H → Q H) : ∃ W : Nat → Nat → St → Hp → Prop, (∃ m, W 0 m (none :: caps) (upd H1 D (.lst []))) ∧ LcW (Itl K a) (gName 0) tt te D Q W := by
  refine ⟨fun i m σ H => m = xs.length - i ∧ i ≤ xs.length ∧ (∃ v, σ = v :: caps) ∧ ∃ ys, Pv i ys H, ⟨xs.length, by simp, Nat.zero_le _, ⟨none, rfl⟩, [], h0⟩, ?_⟩
  rintro i m σ H ⟨rfl, hi, ⟨v, rfl⟩, ys, p⟩
  have hy := hl i ys H p
  by_cases hlt : i < xs.length
  · refine .inr ⟨⟨xs, xs[i], hq i ys H p, by simp [hlt]⟩, fun x H1 y => ?_⟩
    obtain ⟨e, y⟩ := y
    subst e
    have hx := y xs (hq i ys _ p)
    refine hs i ys _ x _ _ hx p (fun y H4 a c => ⟨ys, a, by omega, xs.length - (i + 1), by omega, rfl, hlt, ⟨_, rfl⟩, _, c⟩) (fun H3 c => ⟨xs.length - (i + 1), by omega, rfl, hlt, ⟨_, rfl⟩, ys, c⟩)
  · have e : i = xs.length := by omega
    subst e
    exact .inl ⟨⟨xs, hq _ ys H p, Nat.le_refl _⟩, hd ys H p⟩
end L2
namespace L2
open PySem PySem.Spec PyProof.Rows

section
variable {X : Cx}
theorem call_isinst : CallR X (.builtin "isinstance") (fun xs H Q => ∃ x n t b, xs = [x, .ty n] ∧ TyOf X.K H x t ∧ PySem.W.kitOne X.K t (.type n) = some b ∧ Q (.bl b) H) := by
  intro pins s σ H xs us Q I r h
  obtain ⟨x, n, t, b, rfl, ty, e, q⟩ := h
  obtain ⟨u, v, rfl, rx, ry⟩ := r.two
  cases (show v = Value.type n from ry)
  exact isinst_ok I rx ty e fun tk => ⟨.bl b, H, I.tok tk, rfl, q⟩

def eqsV : List V → List V → Bool
  | [], [] => true
  | x :: xs, y :: ys => eqV x y && eqsV xs ys
  | _, _ => false
theorem eqsV_range : ∀ (xs ys : List V), xs.length = ys.length → ((List.range xs.length).all fun i => eqV (xs.getD i .non) (ys.getD i .non)) = eqsV xs ys
  | [], [], _ => rfl
  | x :: xs, y :: ys, h => by
    have h' : xs.length = ys.length := by simpa using h
    rw [List.length_cons, List.range_succ_eq_map, List.all_cons, List.all_map]
    have e := eqsV_range xs ys h'
    show (eqV x y && (List.range xs.length).all fun i => eqV (xs.getD i .non) (ys.getD i .non)) = (eqV x y && eqsV xs ys)
    rw [e]
theorem eqsV_len : ∀ (xs ys : List V), xs.length ≠ ys.length → eqsV xs ys = false
  | [], [], h => absurd rfl h
  | [], _ :: _, _ => rfl
  | _ :: _, [], _ => rfl
  | x :: xs, y :: ys, h => by
    have e := eqsV_len xs ys (by simpa using h)
    show (eqV x y && eqsV xs ys) = false
    rw [e, Bool.and_false]
theorem items_eqAt {A : Around} {s : Shared} {xs ys : List V} {us ws : List Value} (rx : Vals xs us) (ry : Vals ys ws) (fx : xs.all flatV = true) (fy : ys.all flatV = true) :
    ∀ j (h1 : j < us.toArray.size) (h2 : j < ws.toArray.size), SeqAt.EqAt A.in1 s us.toArray[j] ws.toArray[j] (eqV (xs.getD j .non) (ys.getD j .non)) := by
  intro j h1 h2
  have l1 := rx.length
  have l2 := ry.length
  have h1' : j < xs.length := by rw [l1]; simpa using h1
  have h2' : j < ys.length := by rw [l2]; simpa using h2
  obtain ⟨u, eu, ru⟩ := rx.get (i := j) (x := xs[j]) (by simp [h1'])
  obtain ⟨v, ev, rv⟩ := ry.get (i := j) (x := ys[j]) (by simp [h2'])
  have e1 : us.toArray[j] = u := by
    have := List.getElem?_eq_some_iff.mp eu
    obtain ⟨_, q⟩ := this
    simpa using q
  have e2 : ws.toArray[j] = v := by
    have := List.getElem?_eq_some_iff.mp ev
    obtain ⟨_, q⟩ := this
    simpa using q
  have d1 : xs.getD j .non = xs[j] := by simp [List.getD, h1']
  have d2 : ys.getD j .non = ys[j] := by simp [List.getD, h2']
  rw [e1, e2, d1, d2]
  exact eqAt_V ru rv (List.all_eq_true.mp fx _ (List.getElem_mem h1')) (List.all_eq_true.mp fy _ (List.getElem_mem h2'))
def rEqL (K : PySem.W.Frag) : R2 := fun x y H Q => ∃ a b xs ys, x = .ref a ∧ y = .ref b ∧ SqL K H a xs ∧ SqL K H b ys ∧ xs.all flatV = true ∧ ys.all flatV = true ∧ Q (.bl (eqsV xs ys)) H
theorem op_eqL (hu : X.A.units < cLine) : OpR X (compareOp .Eq) (rEqL X.K) := by
  intro pins s σ H x y v u Q I rx ry h
  obtain ⟨a, b, xs, ys, rfl, rfl, ha, hb, fx, fy, q⟩ := h
  cases rx
  cases ry
  obtain ⟨us, ru, pu, _⟩ := I.list ha
  obtain ⟨ws, rw', pw, _⟩ := I.list hb
  have l1 := ru.length
  have l2 := rw'.length
  by_cases hl : xs.length = ys.length
  · refine SeqAt.eq_listAt pu.isList pw.isList (by simp; omega) hu (items_eqAt ru rw' fx fy) ?_
    refine fin_bl I q ?_
    rw [List.size_toArray, ← l1]
    exact (eqsV_range xs ys hl).symm
  · refine SeqAt.eq_list_lengthsAt pu.isList pw.isList (by simp; omega) hu ?_
    exact fin_bl I q (eqsV_len xs ys hl)
theorem Same.upd_free {H H' : Hp} {a : Addr} {o : HO} (s : Same H H') (n : H a = none) : Same H (upd H' a o) := fun b u e => by
  rw [upd_ne (ne_of_none e n)]
  exact s b u e

def tCut (t : TS) : TS := fun D σ H => ∃ M : St → Hp → Prop, t { D with nx := M } σ H ∧ ∀ σ' H', M σ' H' → D.nx σ' H'
theorem ps_cut {st : Stmt} {t : TS} (h : PS X st t) : PS X st (tCut t) := by
  intro pins s σ H D I ⟨M, h1, h2⟩
  refine thn (h pins s σ H _ I h1) fun f s' q => ?_
  cases f with
  | next =>
    obtain ⟨σ', H', I', m⟩ := q
    exact ⟨σ', H', I', h2 _ _ m⟩
  | brk => exact q
  | cont => exact q
  | ret u => exact q
end
end L2
namespace L2
open PySem PySem.Spec PyProof.Rows


section
variable {κ : Type} [DecidableEq κ]
end



section
variable {P : Program} {w : World} {H : Hp} {h : Heap} {a : Addr}
end


section
variable {X : Cx} {pins : List (Addr × Obj)} {σ : St} {H : Hp} {s : Shared} {a : Addr} {y v : V} {u r : Value} {o : Option V} {A : Around} {E : Value → Shared → Prop}

end

section
variable {X : Cx} {pins : List (Addr × Obj)} {σ : St} {H : Hp} {s : Shared} {a : Addr} {kvs : List (Key × V)} {k : Key} {u : Value} {A : Around} {E : Value → Shared → Prop}

end




section
variable {X : Cx} {o i e value : Expr} {pos pos' tpos : Pos} {td ty tv : TE}
end



section
variable {X : Cx} {pos : Pos}
end


structure M1 (X : Cx) (o : Expr) (m : Str) (apos : Pos) (e : Expr) (cpos : Pos) : Prop where
  base : attributeBase o m X.env (eval o X.env) = eval o X.env
  few : ((backTo cpos (starEach [e] X.env)).all (fun x => !x.1) && (backToKw cpos (keywordEach [] X.env)).all (fun x => x.1.isSome)
    && decide (([e] : List Expr).length + ([] : List Keyword).length + (if ([] : List Keyword).isEmpty then 0 else 1) < 30)) = true
  line : (apos.endLine == cpos.line) = true
  trees : backTo cpos (starEach [e] X.env) = [(false, eval e X.env)]
structure M2 (X : Cx) (o : Expr) (m : Str) (apos : Pos) (e f : Expr) (cpos : Pos) : Prop where
  base : attributeBase o m X.env (eval o X.env) = eval o X.env
  few : ((backTo cpos (starEach [e, f] X.env)).all (fun x => !x.1) && (backToKw cpos (keywordEach [] X.env)).all (fun x => x.1.isSome)
    && decide (([e, f] : List Expr).length + ([] : List Keyword).length + (if ([] : List Keyword).isEmpty then 0 else 1) < 30)) = true
  line : (apos.endLine == cpos.line) = true
  trees : backTo cpos (starEach [e, f] X.env) = [(false, eval e X.env), (false, eval f X.env)]


section
variable {X : Cx} {pins : List (Addr × Obj)} {σ : St} {H : Hp} {s : Shared} {a : Addr} {y d : V} {u r : Value} {o : Option V} {A : Around} {E : Value → Shared → Prop}

end

section
variable {X : Cx} {o e f : Expr} {apos cpos : Pos} {td ty tx : TE}
end


section
variable {X : Cx} {pins : List (Addr × Obj)} {σ : St} {H : Hp} {s : Shared} {a : Addr} {kvs : List (Key × V)} {A : Around} {E : Value → Shared → Prop}
end


section
variable {X : Cx} {pins : List (Addr × Obj)} {σ : St} {H : Hp} {s : Shared} {a : Addr} {y : V} {u : Value} {A : Around} {E : Value → Shared → Prop}

end
end L2
namespace L2
open PySem PySem.Spec PyProof.Rows

mutual
inductive DAt (K : PySem.W.Frag) (H : Hp) : V → PyData → Prop
  | non : DAt K H .non .none
  | bl (b : Bool) : DAt K H (.bl b) (.bool b)
  | int (i : Int) : DAt K H (.int i) (.int i)
  | str (x : Str) : DAt K H (.str x) (.str x)
  | lst {a : Addr} {xs : List V} {ds : List PyData} : SqL K H a xs → DsAt K H xs ds → DAt K H (.ref a) (.list ds)
  | tup {a : Addr} {xs : List V} {ds : List PyData} : SqT K H a xs → DsAt K H xs ds → DAt K H (.ref a) (.tuple ds)
inductive DsAt (K : PySem.W.Frag) (H : Hp) : List V → List PyData → Prop
  | nil : DsAt K H [] []
  | cons {x : V} {d : PyData} {xs : List V} {ds : List PyData} : DAt K H x d → DsAt K H xs ds → DsAt K H (x :: xs) (d :: ds)
end
section
variable {X : Cx} {pins : List (Addr × Obj)} {σ : St} {H : Hp} {s : Shared}
mutual
theorem DAt.reads (I : Inv X pins σ H s) : ∀ {x : V} {d : PyData} {u : Value}, DAt X.K H x d → RelV x u → ∃ as, Reads s.heap u d as
  | _, _, _, .non, r => by
    cases r
    exact ⟨_, .none⟩
  | _, _, _, .bl b, r => by
    cases r
    exact ⟨_, .bool b⟩
  | _, _, _, .int i, r => by
    obtain ⟨t, rfl⟩ := r
    exact ⟨_, .int i t⟩
  | _, _, _, .str x, r => by
    obtain ⟨t, rfl⟩ := r
    exact ⟨_, .str x t⟩
  | _, _, _, .lst hq ds, r => by
    cases r
    obtain ⟨its, rv, p, _⟩ := I.list hq
    obtain ⟨as, ra⟩ := DsAt.reads I ds rv
    obtain ⟨o, h1, h2, n, h3⟩ := p.isList
    exact ⟨_, .list h1 h2 h3 (by simpa using ra)⟩
  | _, _, _, .tup hq ds, r => by
    cases r
    obtain ⟨its, rv, p, _⟩ := I.tuple hq
    obtain ⟨as, ra⟩ := DsAt.reads I ds rv
    obtain ⟨o, h1, h2, n, h3⟩ := p
    exact ⟨_, .tuple h1 h2 h3 (by simpa using ra)⟩
theorem DsAt.reads (I : Inv X pins σ H s) : ∀ {xs : List V} {ds : List PyData} {us : List Value}, DsAt X.K H xs ds → Vals xs us → ∃ as, ReadsAll s.heap us ds as
  | _, _, _, .nil, r => by
    cases r
    exact ⟨_, .nil⟩
  | _, _, _, .cons d ds, r => by
    cases r with
    | cons r rs =>
      obtain ⟨as, ra⟩ := DAt.reads I d r
      obtain ⟨bs, rb⟩ := DsAt.reads I ds rs
      exact ⟨_, .cons ra rb⟩
end

def DOk (d : PyData) : Prop := d.canLay0 = true ∧ d.depth ≤ 40
def rEqD (K : PySem.W.Frag) (neg : Bool) : R2 := fun x y H Q => ∃ dx dy, DAt K H x dx ∧ DAt K H y dy ∧ DOk dx ∧ DOk dy ∧ Q (.bl (if neg then !PyData.eqv dx dy else PyData.eqv dx dy)) H
theorem op_neD (hu : X.A.units + 64 < cLine) : OpR X (compareOp .NotEq) (rEqD X.K true) := by
  intro pins s σ H x y v u Q I rx ry h
  obtain ⟨dx, dy, ax, ay, okx, oky, q⟩ := h
  obtain ⟨as, r1⟩ := ax.reads I rx
  obtain ⟨bs, r2⟩ := ay.reads I ry
  refine SeqAt.compareNe_reads r1 r2 okx.1 oky.1 ?_ (fin_bl I q rfl)
  have h1 := okx.2
  have h2 : min dx.depth dy.depth ≤ dx.depth := Nat.min_le_left _ _
  omega
end
end L2
namespace L2
open PySem PySem.Spec PyProof.Rows
open AutoSeq1 (wpAny_loadPart')

section
variable {prog : Program} {w : World} {A : Around} {E : Value → Shared → Prop} {s : Shared}
end
section
variable {X : Cx} {pins : List (Addr × Obj)} {σ : St} {H : Hp} {s : Shared}

end

end L2
namespace L2
open PySem PySem.Spec PyProof.Rows
end L2
namespace L2
open PySem PySem.Spec PyProof.Rows

section
variable {X : Cx}
end
end L2
namespace L2
open PySem PySem.Spec PyProof.Rows


def Tx (n : Nat) (z : Str) : Prop := z.length ≤ n ∧ ∀ c ∈ z.cps.toList, c < 128
theorem Tx.mono {n m : Nat} {z : Str} (h : Tx n z) (k : n ≤ m) : Tx m z := ⟨Nat.le_trans h.1 k, h.2⟩
theorem Tx.app {n m : Nat} {y z : Str} (h : Tx n y) (k : Tx m z) : Tx (n + m) (y ++ z) := by
  refine ⟨by rw [Str.length_append]; exact Nat.add_le_add h.1 k.1, fun c hc => ?_⟩
  have e : (y ++ z).cps = y.cps ++ z.cps := rfl
  rw [e, Array.toList_append] at hc
  rcases List.mem_append.mp hc with q | q
  · exact h.2 c q
  · exact k.2 c q
theorem Tx.one {c : Nat} (h : c < 128) : Tx 1 (⟨#[c]⟩ : Str) := ⟨Nat.le_refl _, fun d hd => by
  have : d = c := by simpa using hd
  omega⟩
theorem Tx.slice {n : Nat} {z : Str} (h : Tx n z) (lo hi : Option Int) : Tx n (Txt.slice z lo hi) := by
  refine ⟨Nat.le_trans (Txt.slice_le z lo hi) h.1, fun c hc => ?_⟩
  unfold Txt.slice at hc
  split at hc
  · exact h.2 c hc
  · have hc' : c ∈ ((Builtin.Str.strSliceIndices lo hi 1 z.length).filterMap (z.cps[·]?)) := by simpa using hc
    obtain ⟨j, _, e⟩ := List.mem_filterMap.mp hc'
    exact h.2 c (by
      have := Array.mem_of_getElem? e
      simpa using this)
theorem Tx.num {m : Int} (h0 : 0 ≤ m) (h1 : m < 10 ^ 10) : Tx 10 (Str.ofString (toString m)) := by
  refine ⟨PySem.W.KT.len_num h0 h1, fun c hc => ?_⟩
  obtain ⟨k, rfl⟩ := Int.eq_ofNat_of_zero_le h0
  rw [PySem.W.KIN.signs_num] at hc
  obtain ⟨ch, hch, e⟩ := List.mem_map.mp hc
  have r := Nat.isDigit_of_mem_toDigits (by decide) (by decide) hch
  have r2 : ch.toNat ≤ 57 := by
    unfold Char.isDigit at r
    simp only [Bool.and_eq_true, decide_eq_true_eq] at r
    have := r.2
    exact this
  omega
section
variable {X : Cx}

def Its (z : Str) : It := ⟨fun i _ => i < z.length, fun i H x H' => H' = H ∧ ∃ c, z.cps[i]? = some c ∧ x = .str ⟨#[c]⟩, fun i _ => z.length ≤ i⟩
theorem turn_strA {P : Program} {w : World} {K : PySem.W.Frag} {tg : Expr} (z : Str) (t : Tok) (it : Addr) : Turn P w K tg (Its z) [it] it (fun i h => h.IsStrIter it "str_ascii_iterator" z t i) where
  mem := by simp
  obj := fun i h st b hb => by
    have e : b = it := by simpa using hb
    subst e
    obtain ⟨o, e, c, d⟩ := st
    exact ⟨o, e, fun v q => by rw [d] at q; cases q⟩
  keep := fun i h h' st k => let ⟨o, ho, r⟩ := st; ⟨o, k it (by simp) o ho, r⟩
  item := by
    intro Y hP hw hK hc i pins s σ H E I hf st hg
    subst hP hw hK
    have hlt : i < z.cps.size := hg
    obtain ⟨f0, f1, f2, f3, f4, f5⟩ := hf it (by simp)
    have hx : z.cps[i]? = some z.cps[i] := by simp [hlt]
    refine wpAny_pyNext_ascii_item st hx fun h' st' sb => ?_
    have I1 : Inv Y pins σ H { s with heap := h', toks := s.toks + 1 } := I.turned (fun b o hb e => (sb.2 b hb).trans e) f0 f1 f3 f4 f5
    obtain ⟨o, e, c, d⟩ := id st'
    exact ⟨_, rfl, go_of (s := { s with heap := h', toks := s.toks + 1 }) e c d (by decide) ⟨.str ⟨#[z.cps[i]]⟩, H, I1, ⟨_, rfl⟩, ⟨rfl, _, hx, rfl⟩, st', fun b hb => (hf b hb).1⟩⟩
  done := by
    intro Y hP hw hK hc i pins s σ H E I hf st hg
    subst hP hw hK
    obtain ⟨f0, f1, f2, f3, f4, f5⟩ := hf it (by simp)
    have hle : z.cps.size ≤ i := hg
    exact wpAny_pyNext_ascii_end (I.ok.hd hc) st (by simp; omega) fun h' eb => ⟨rfl, I.turned (t' := s.toks) (fun b o hb e => eb b o hb e) f0 f1 f3 f4 f5⟩
  self := fun A i s Q E st h => by
    refine wpAny_pyIter_slot st.typeIs F.slot_str_ascii_iterator_iter (wpAny_call_entry F.slot_str_ascii_iterator_iter st.typeIs F.entry_str_ascii_iterator_iter ?_ (F.args_str_ascii_iterator_iter_1 _))
    show wpAny _ _ (ret (.ref it)) _ _ s
    exact wpAny_pure ⟨_, rfl, "str_ascii_iterator", _, st.typeIs, F.slot_str_ascii_iterator_next.lookup, h⟩
def iStr (tl : TE) : TI := fun σ H R => tl σ H fun x H1 => ∃ z n, x = .str z ∧ Tx n z ∧ R (Its z) H1
theorem Tx.ascii {n : Nat} {z : Str} (h : Tx n z) : z.cps.all (· < 128) = true := by
  rw [Array.all_eq_true_iff_forall_mem]
  intro c hc
  exact decide_eq_true (h.2 c (by simpa using hc))
theorem pi_str {tg l : Expr} {tl : TE} (hl : PE X l tl) : PI X tg l (iStr tl) := by
  intro pins s σ H R I h
  refine thn (hl pins s σ H _ I h) fun v s1 ⟨x, H1, I1, r1, q1⟩ => ?_
  obtain ⟨z, n, e, tx, q⟩ := q1
  subst e
  obtain ⟨t, rfl⟩ := r1
  refine wpAny_pyIter_ascii tx.ascii ?_
  refine ⟨s1.heap.objs.size, [s1.heap.objs.size], _, _, H1, rfl, I1.kept (t' := s1.toks) fun b o e => Heap.get?_push_of_some _ e, turn_strA z t _, ⟨_, Heap.get?_push_size _ rfl, rfl, rfl⟩, fun b hb => ?_, q⟩
  have e : b = s1.heap.objs.size := by simpa using hb
  subst e
  exact I1.fpOk (Nat.le_refl _) (I1.hok.fresh (Nat.le_refl _))
theorem strsAre_of {ys : List Str} : ∀ {us : List Value}, Vals (ys.map V.str) us → StrsAre us ys := by
  induction ys with
  | nil => intro us r; rw [List.map_nil] at r; cases r; exact .nil
  | cons y ys ih =>
    intro us r
    rw [List.map_cons] at r
    cases r with
    | cons r1 r2 =>
      obtain ⟨t, e⟩ := r1
      subst e
      exact .cons y t (ih r2)

def rJoin (K : PySem.W.Frag) : V → List V → Hp → VK → Prop := fun x xs H Q => ∃ sep l ys, x = .str sep ∧ xs = [.ref l] ∧ SqL K H l (ys.map V.str) ∧ (ys.map (·.length)).sum + ys.length * sep.length ≤ 16777216 ∧ Q (.str (Str.join sep ys)) H
theorem mt_join : MtR X "str.join" (rJoin X.K) := by
  intro pins s σ H x xs v us Q I rx rs h
  obtain ⟨sep, l, ys, rfl, rfl, hl, hz, q⟩ := h
  obtain ⟨t, rfl⟩ := rx
  obtain ⟨u, rfl, ru⟩ := rs.one
  cases ru
  obtain ⟨its, rv, p, _⟩ := I.list hl
  refine join_list p.isList (strsAre_of (by simpa using rv)) hz fun t' k => ?_
  have e : Txt.join sep ys = Str.join sep ys := StrLaws.glued_eq_join sep ys
  rw [e]
  exact ⟨.str _, H, I.tok k, ⟨_, rfl⟩, q⟩
def rSlS : V → Option Int → Option Int → Hp → VK → Prop := fun x lo hi H Q => ∃ z, x = .str z ∧ z.length ≤ sizeLine ∧ Q (.str (Txt.slice z lo hi)) H
theorem part_tok {v : Value} {o : Option Int} (p : IsPart v o) : ∃ l : Option (Int × Tok), v = partValue l ∧ l.map (·.1) = o := by
  cases p with
  | none => exact ⟨none, rfl, rfl⟩
  | int i t => exact ⟨some (i, t), rfl, rfl⟩
theorem sl_str : SlR X rSlS := by
  intro pins s σ H x v vl vu lo hi sl Q I rx hs pl pu h
  obtain ⟨z, rfl, hz, q⟩ := h
  obtain ⟨t, rfl⟩ := rx
  obtain ⟨l, rfl, rfl⟩ := part_tok pl
  obtain ⟨u, rfl, rfl⟩ := part_tok pu
  refine ⟨"str", _, F.slot_str_getitem.lookup, typeIs_str _ _ _, wpAny_getItem_str_slice (l := l) (u := u) (st := none) hs rfl ?_⟩
  refine post_val_or_str ⟨Nat.le_trans (Txt.slice_le z _ _) hz, fun t' k => ?_⟩
  exact ⟨.str _, H, I.tok k, ⟨_, rfl⟩, q⟩

def rCatL (K : PySem.W.Frag) : R2 := fun x y H Q => ∃ l b xs zs, x = .ref l ∧ y = .ref b ∧ SqL K H l xs ∧ SqL K H b zs ∧ xs.length + zs.length ≤ sizeLine ∧ ∀ p, H p = none → Q (.ref p) (upd H p (.lst (xs ++ zs)))
theorem op_catL : OpR X (binaryOp .Add) (rCatL X.K) := by
  intro pins s σ H x y v u Q I rx ry h
  obtain ⟨l, b, xs, zs, rfl, rfl, ha, hb, hz, q⟩ := h
  cases rx
  cases ry
  obtain ⟨us, ru, pu, _⟩ := I.list ha
  obtain ⟨ws, rw', pw, _⟩ := I.list hb
  have l1 := ru.length
  have l2 := rw'.length
  obtain ⟨⟨cls, dd, data, sl⟩, n, ho, hc, hdd, hd⟩ := id pu
  obtain ⟨⟨cls2, dd2, data2, sl2⟩, n2, ho2, hc2, hdd2, hd2⟩ := id pw
  simp only at hc hd hc2 hd2
  subst hc hd hc2 hd2
  have st := list_addW l b us.toArray ws.toArray n n2 dd dd2 sl sl2 (by rw [List.size_toArray, List.size_toArray]; omega)
  refine concat_meets ⟨_, ho, rfl⟩ ⟨_, ho2, rfl⟩ noFill_list_add seq_list_add PySem.F.slot_list_add PySem.F.entry_list_add (PySem.F.args_list_add_2 _ _) st ⟨ho, ho2, ?_⟩
  have ea : us.toArray ++ ws.toArray = (us ++ ws).toArray := by simp
  rw [ea]
  exact ⟨.ref _, _, I.lnew (t' := s.toks) (ru.append rw') (by rw [List.length_append]; omega), rfl, q _ I.fresh⟩
end

theorem lc_str {z : Str} {caps : St} {tt : TT} {te : TE} {D : Addr} {Q : Hp → Prop} {H1 : Hp} (Pv : Nat → List V → Hp → Prop) (hz : z.length ≤ sizeLine) (h0 : Pv 0 [] (upd H1 D (.lst []))) (hl : ∀ i ys H, Pv i ys H → ys.length ≤ i)
    (hs : ∀ i ys H (c : Nat) (N : VK) (M : Hp → Prop), z.cps[i]? = some c → Pv i ys H → (∀ y H4, H4 D = some (.lst ys) → Pv (i + 1) (ys ++ [y]) (upd H4 D (.lst (ys ++ [y]))) → N y H4) → (∀ H3, Pv (i + 1) ys H3 → M H3) →
      tt (some (.str ⟨#[c]⟩) :: caps) H fun ok H3 => if ok = true then te (some (.str ⟨#[c]⟩) :: caps) H3 N else M H3)
    (hd : ∀ ys H, Pv z.length ys H → Q H) : ∃ W : Nat → Nat → St → Hp → Prop, (∃ m, W 0 m (none :: caps) (upd H1 D (.lst []))) ∧ LcW (Its z) (gName 0) tt te D Q W := by
  refine ⟨fun i m σ H => m = z.length - i ∧ i ≤ z.length ∧ (∃ v, σ = v :: caps) ∧ ∃ ys, Pv i ys H, ⟨z.length, by simp, Nat.zero_le _, ⟨none, rfl⟩, [], h0⟩, ?_⟩
  rintro i m σ H ⟨rfl, hi, ⟨v, rfl⟩, ys, p⟩
  have hy := hl i ys H p
  by_cases hlt : i < z.length
  · refine .inr ⟨hlt, fun x H1 y => ?_⟩
    obtain ⟨e, c, hc, y⟩ := y
    subst e y
    exact hs i ys _ c _ _ hc p (fun y H4 a c => ⟨ys, a, by omega, z.length - (i + 1), by omega, rfl, hlt, ⟨_, rfl⟩, _, c⟩) (fun H3 c => ⟨z.length - (i + 1), by omega, rfl, hlt, ⟨_, rfl⟩, ys, c⟩)
  · have e : i = z.length := by omega
    subst e
    exact .inl ⟨Nat.le_refl _, hd ys H p⟩
end L2
namespace L2
open PySem PySem.Spec PyProof.Rows PySem.Builtin.Str
section
variable {X : Cx}

def rSplit : V → List V → Hp → VK → Prop := fun x xs H Q => ∃ z y : Str, x = .str z ∧ xs = [.str y] ∧ (y.length == 0) = false ∧ z.length ≤ sizeLine ∧ (partsBetween z (occurrences z y 0 z.length (z.length + 1)) y.length).length ≤ sizeLine ∧
  (Txt.split z y).length ≤ sizeLine ∧ ∀ p, H p = none → Q (.ref p) (upd H p (.lst ((Txt.split z y).map V.str)))
theorem strs_vals : ∀ l : List (Str × Tok), Vals ((l.map (·.1)).map V.str) (strValues l)
  | [] => .nil
  | (x, t) :: l => .cons ⟨t, rfl⟩ (strs_vals l)
theorem mt_split : MtR X "str.split" rSplit := by
  intro pins s σ H x xs v us Q I rx rs h
  obtain ⟨z, y, rfl, rfl, hy, hz, hz2, hz3, q⟩ := h
  obtain ⟨t, rfl⟩ := rx
  obtain ⟨u0, rfl, ru⟩ := rs.one
  obtain ⟨u, rfl⟩ := ru
  have fin : ∀ (l : List (Str × Tok)) (tk : Nat), l.map (·.1) = Txt.split z y → EP X pins σ Q (.ref s.heap.objs.size) { s with heap := s.heap.push { cls := .type "list", data := .seq (strValues l).toArray }, toks := tk } := fun l tk e => by
    have hv := strs_vals l
    rw [e] at hv
    exact ⟨.ref _, _, I.lnew (t' := tk) hv (by rw [List.length_map]; exact hz3), rfl, q _ I.fresh⟩
  cases h1 : (decide (z.length < y.length) || decide (strKind z < strKind y))
  · cases hf : (occurrences z y 0 z.length (z.length + 1)).isEmpty
    · refine call_meets F.slot_str_split (typeIs_str _ _ _) F.entry_str_split (F.args_str_split_2 _ _) (meets_str_split_sep z y t u h1 hy hf hz hz2) ?_
      show wants _ _ _ { s with toks := _, heap := s.heap.push { cls := .type "list", data := .seq (strsFrom s.toks (partsBetween z (occurrences z y 0 z.length (z.length + 1)) y.length)).toArray } }
      rw [strsFrom_eq]
      exact fin (numbered s.toks _) _ ((numbered_texts _ _).trans ((if_neg (ne_true_of_eq_false h1)).trans (if_neg (ne_true_of_eq_false hf))).symm)
    · exact call_meets F.slot_str_split (typeIs_str _ _ _) F.entry_str_split (F.args_str_split_2 _ _) (meets_str_split_not_found z y t u h1 hy hf) (fin [(z, t)] s.toks ((if_neg (ne_true_of_eq_false h1)).trans (if_pos hf)).symm)
  · exact call_meets F.slot_str_split (typeIs_str _ _ _) F.entry_str_split (F.args_str_split_2 _ _) (meets_str_split_cannot_occur z y t u h1) (fin [(z, t)] s.toks (if_pos h1).symm)
def rStarts : V → List V → Hp → VK → Prop := fun x xs H Q => ∃ z y : Str, x = .str z ∧ xs = [.str y] ∧ Q (.bl (Txt.startswith z y)) H
theorem mt_starts : MtR X "str.startswith" rStarts := by
  intro pins s σ H x xs v us Q I rx rs h
  obtain ⟨z, y, rfl, rfl, q⟩ := h
  obtain ⟨t, rfl⟩ := rx
  obtain ⟨u0, rfl, ru⟩ := rs.one
  obtain ⟨u, rfl⟩ := ru
  exact SC.startswith ⟨.bl _, H, I, rfl, q⟩
def rEnds : V → List V → Hp → VK → Prop := fun x xs H Q => ∃ z y : Str, x = .str z ∧ xs = [.str y] ∧ Q (.bl (Txt.endswith z y)) H
theorem mt_ends : MtR X "str.endswith" rEnds := by
  intro pins s σ H x xs v us Q I rx rs h
  obtain ⟨z, y, rfl, rfl, q⟩ := h
  obtain ⟨t, rfl⟩ := rx
  obtain ⟨u0, rfl, ru⟩ := rs.one
  obtain ⟨u, rfl⟩ := ru
  exact SC.endswith ⟨.bl _, H, I, rfl, q⟩

theorem split_len (z y : Str) : (Txt.split z y).length ≤ z.length + 2 := by
  unfold Txt.split
  split
  · show 1 ≤ _
    omega
  · split
    · show 1 ≤ _
      omega
    · rw [length_partsBetween]
      have e1 := StrLaws.occ_length_le z y 0 z.length (z.length + 1)
      omega
theorem parts_len (z y : Str) : (partsBetween z (occurrences z y 0 z.length (z.length + 1)) y.length).length ≤ z.length + 2 := by
  rw [length_partsBetween]
  have e1 := StrLaws.occ_length_le z y 0 z.length (z.length + 1)
  omega
end
end L2
namespace SL
open PySem PySem.Builtin.Str L2

def spStep (c : Nat) (s : List Str × Str) (x : Nat) : List Str × Str := if x = c then (s.1 ++ [s.2], Str.empty) else (s.1, s.2 ++ ⟨#[x]⟩)
def spWalk (c : Nat) (l : List Nat) : List Str × Str := l.foldl (spStep c) ([], Str.empty)
def spl (c : Nat) (l : List Nat) : List Str := (spWalk c l).1 ++ [(spWalk c l).2]
theorem spWalk_snoc (c : Nat) (l : List Nat) (x : Nat) : spWalk c (l ++ [x]) = spStep c (spWalk c l) x := by
  unfold spWalk
  rw [List.foldl_append]
  rfl
theorem occ_one (z : Str) (c : Nat) (hi limit : Nat) : ∀ (k i : Nat) (st : Array Nat × Nat), st.2 ≤ i → st.1.size + k ≤ limit →
    (forIn (List.range' i k) st (StrLaws.occBody z ⟨#[c]⟩ hi limit)).run.fst.toList = st.1.toList ++ (List.range' i k).filter fun j => decide (j + (⟨#[c]⟩ : Str).length ≤ hi ∧ subAt z ⟨#[c]⟩ j = true)
  | 0, i, st, _, _ => by
    rw [show List.range' i 0 = [] from rfl, List.filter_nil, List.append_nil]
    rfl
  | k + 1, i, st, h1, h2 => by
    rw [List.range'_succ, List.forIn_cons, List.filter_cons]
    unfold StrLaws.occBody
    by_cases hc : i + (⟨#[c]⟩ : Str).length ≤ hi ∧ subAt z ⟨#[c]⟩ i = true
    · rw [if_pos ⟨⟨⟨by omega, h1⟩, hc.1⟩, hc.2⟩, if_pos (decide_eq_true hc)]
      refine (occ_one z c hi limit k (i + 1) (st.1.push i, i + 1) (Nat.le_refl _) (by rw [Array.size_push]; omega)).trans ?_
      rw [Array.toList_push, List.append_assoc]
      rfl
    · rw [if_neg (fun y => hc ⟨y.1.2, y.2⟩), if_neg (by rw [decide_eq_false hc]; nofun)]
      exact occ_one z c hi limit k (i + 1) st (by omega) (by omega)
def cutsTo (z : Str) (c k : Nat) : List Nat := (List.range' 0 k).filter fun j => decide (z.cps.toList[j]? = some c)
theorem occ_cuts (z : Str) (c : Nat) : occurrences z ⟨#[c]⟩ 0 z.length (z.length + 1) = cutsTo z c z.length := by
  rw [StrLaws.occ_eq, occ_one z c _ _ _ 0 (#[], 0) (Nat.le_refl _) (by show 0 + (z.length + 1 - 0) ≤ _; omega)]
  show [] ++ _ = _
  rw [List.nil_append, show z.length + 1 - 0 = z.length + 1 from rfl, List.range'_concat, List.filter_append]
  unfold cutsTo
  have e : ∀ j, decide (j + (⟨#[c]⟩ : Str).length ≤ z.length ∧ subAt z ⟨#[c]⟩ j = true) = decide (z.cps.toList[j]? = some c) := fun j => decide_eq_decide.mpr (StrLaws.subAt_one z c j)
  have e2 : z.cps.toList[z.length]? = none := List.getElem?_eq_none (by rw [Array.length_toList]; exact Nat.le_refl _)
  rw [show (fun j => decide (j + (⟨#[c]⟩ : Str).length ≤ z.length ∧ subAt z ⟨#[c]⟩ j = true)) = (fun j => decide (z.cps.toList[j]? = some c)) from funext e]
  rw [show 0 + 1 * z.length = z.length by omega, List.filter_cons, if_neg (by rw [e2]; nofun), List.filter_nil, List.append_nil]
inductive Cut (z : Str) : List Nat → List Str → Nat → Prop where
  | nil : Cut z [] [] 0
  | snoc {cuts done b} (i : Nat) : Cut z cuts done b → Cut z (cuts ++ [i]) (done ++ [strSub z b i]) (i + 1)
def partsTo (z : Str) (cuts : List Nat) (last : Nat) : List Str := ((0 :: cuts.map (· + 1)).zip (cuts ++ [last])).map fun p => strSub z p.1 p.2
theorem Cut.parts {z : Str} {cuts : List Nat} {done : List Str} {b : Nat} (h : Cut z cuts done b) : ∀ last, partsTo z cuts last = done ++ [strSub z b last] := by
  induction h with
  | nil => exact fun last => rfl
  | snoc i h ih =>
    intro last
    unfold partsTo
    rw [List.map_append, ← List.cons_append, List.zip_append (by rw [List.length_cons, List.length_map, List.length_append]; rfl), List.map_append]
    have q := ih i
    unfold partsTo at q
    rw [q]
    rfl
theorem sub_nil (z : Str) (i : Nat) : strSub z i i = Str.empty := Str.ext' (by
  show z.cps.extract i i = #[]
  exact Array.eq_empty_of_size_eq_zero (by rw [Array.size_extract]; omega))
theorem walk_cuts (z : Str) (c : Nat) : ∀ k, k ≤ z.length → ∃ b, b ≤ k ∧ Cut z (cutsTo z c k) (spWalk c (z.cps.toList.take k)).1 b ∧ (spWalk c (z.cps.toList.take k)).2 = strSub z b k
  | 0, _ => ⟨0, Nat.le_refl _, .nil, (sub_nil z 0).symm⟩
  | k + 1, h => by
    obtain ⟨b, h1, h2, h3⟩ := walk_cuts z c k (by omega)
    have hk : k < z.cps.toList.length := by rw [Array.length_toList]; exact h
    have e : z.cps.toList.take (k + 1) = z.cps.toList.take k ++ [z.cps.toList[k]] := by
      rw [List.take_add_one, List.getElem?_eq_getElem hk]
      rfl
    have e1 : z.cps.toList[k]? = some z.cps.toList[k] := List.getElem?_eq_getElem hk
    have ec : cutsTo z c (k + 1) = cutsTo z c k ++ (if z.cps.toList[k] = c then [k] else []) := by
      unfold cutsTo
      rw [List.range'_concat, List.filter_append, show 0 + 1 * k = k by omega, List.filter_cons, List.filter_nil, e1]
      by_cases hc : z.cps.toList[k] = c
      · rw [if_pos (decide_eq_true (by rw [hc])), if_pos hc]
      · rw [if_neg (by rw [decide_eq_false (fun y => hc (by injection y))]; nofun), if_neg hc]
    rw [e, spWalk_snoc, ec]
    unfold spStep
    by_cases hc : z.cps.toList[k] = c
    · rw [if_pos hc, if_pos hc, h3]
      exact ⟨k + 1, Nat.le_refl _, .snoc k h2, (sub_nil z _).symm⟩
    · rw [if_neg hc, if_neg hc, List.append_nil, h3]
      refine ⟨b, by omega, h2, ?_⟩
      have hs : k < z.cps.size := h
      have eg : z.cps.getD k 0 = z.cps.toList[k] := by simp [Array.getD, hs]
      show _ = strSub z b (k + 1)
      rw [← eg]
      exact (KWd.sub_snoc z h1 h).symm
theorem split_spl (z : Str) {c : Nat} (hc : c < 256) : Txt.split z ⟨#[c]⟩ = spl c z.cps.toList := by
  have whole : partsTo z (cutsTo z c z.length) z.length = spl c z.cps.toList := by
    obtain ⟨b, _, h2, h3⟩ := walk_cuts z c z.length (Nat.le_refl _)
    have e : z.cps.toList.take z.length = z.cps.toList := by
      rw [List.take_of_length_le (by rw [Array.length_toList]; exact Nat.le_refl _)]
    rw [e] at h2 h3
    rw [h2.parts]
    unfold spl
    rw [h3]
  have none : cutsTo z c z.length = [] → [z] = spl c z.cps.toList := fun h => by
    rw [← whole, h]
    show [z] = [strSub z 0 z.length]
    rw [show strSub z 0 z.length = z from Str.ext' (by show z.cps.extract 0 z.cps.size = z.cps; exact Array.extract_size)]
  unfold Txt.split
  rw [occ_cuts]
  split
  · rename_i h
    refine none ?_
    rcases Bool.or_eq_true_iff.mp h with h | h
    · have h := of_decide_eq_true h
      have : z.length = 0 := Nat.lt_one_iff.mp h
      rw [this]
      rfl
    · have h := of_decide_eq_true h
      have e : Builtin.Str.strKind ⟨#[c]⟩ = 1 := by
        unfold Builtin.Str.strKind
        rw [if_pos (by simp [hc])]
      rw [e] at h
      unfold Builtin.Str.strKind at h
      split at h
      · omega
      · split at h <;> omega
  · split
    · rename_i h
      exact none (List.isEmpty_iff.mp h)
    · exact whole
end SL
namespace SL
open PySem L2

def FIG : Str := Str.ofString "0123456789"
def SMA : Str := Str.ofString "abcdefghijklmnopqrstuvwxyz"
def NAM : Str := Str.ofString "abcdefghijklmnopqrstuvwxyz0123456789"
def MAR : Str := Str.ofString "abcdefghijklmnopqrstuvwxyzABCDEFGHIJKLMNOPQRSTUVWXYZ0123456789.:-_/="
def hasC (S : Str) (c : Nat) : Bool := decide (c ∈ S.cps.toList)
def madeM (S z : Str) : Bool := z.cps.toList.all (hasC S)

def hd (z : Str) : Nat := z.cps.toList.headD 0
def isNum (z : Str) : Bool := decide (1 ≤ z.length ∧ z.length ≤ 9) && (madeM FIG z && (decide (z = Str.ofString "0") || !decide ((⟨#[hd z]⟩ : Str) = Str.ofString "0")))
def isName (z : Str) : Bool := decide (1 ≤ z.length ∧ z.length ≤ 12) && (hasC SMA (hd z) && madeM NAM z)
def isItem (z : Str) : Bool := isNum z || isName z
def isList (z : Str) : Bool := (Txt.startswith z (Str.ofString "[") && Txt.endswith z (Str.ofString "]")) && (decide (z = Str.ofString "[]") || (decide ((Txt.split (Txt.slice z (some 1) (some (-1))) (Str.ofString ",")).length ≤ 4) && (Txt.split (Txt.slice z (some 1) (some (-1))) (Str.ofString ",")).all isItem))
def isMark (z : Str) : Bool := decide (1 ≤ z.length ∧ z.length ≤ 12) && (madeM MAR z && !isItem z)
inductive So where
  | num | nam | lis | mar
  deriving DecidableEq
def So.str : So → Str
  | .num => Str.ofString "number" | .nam => Str.ofString "name" | .lis => Str.ofString "list" | .mar => Str.ofString "mark"
def sortM (z : Str) : Option So := if isNum z then some .num else if isName z then some .nam else if isList z then some .lis else if isMark z then some .mar else none
def vS : Option So → V
  | none => .non
  | some k => .str k.str
end SL
namespace L2
open PySem PySem.Spec PyProof.Rows

section
variable {X : Cx}
theorem range_all (bs : List Bool) (i : Nat) (h : i ≤ bs.length) : ((List.range bs.length).drop i).all (fun j => bs.getD j false) = (bs.drop i).all id := by
  induction k : bs.length - i generalizing i with
  | zero =>
    have e : i = bs.length := by omega
    subst e
    rw [List.drop_of_length_le (by simp), List.drop_of_length_le (Nat.le_refl _)]
    rfl
  | succ k ih =>
    have hlt : i < bs.length := by omega
    have hd : (List.range bs.length).drop i = i :: (List.range bs.length).drop (i + 1) := by
      rw [List.drop_eq_getElem_cons (by simpa using hlt)]; simp
    rw [hd, List.drop_eq_getElem_cons hlt, List.all_cons, List.all_cons, ih (i + 1) hlt (by omega)]
    simp [List.getD, hlt]
theorem truth_bs {prog : Program} {w : World} {A : Around} {bs : List Bool} {us : List Value} (rv : Vals (bs.map V.bl) us) : TruthOf prog w A (fun i v => us.toArray[i]? = some v) (fun i => bs.getD i false) := by
  intro i v s Q E hv q
  have hv' : us[i]? = some v := by simpa using hv
  have hlt : i < bs.length := by
    have := (List.getElem?_eq_some_iff.mp hv').1
    have := rv.length
    rw [List.length_map] at this
    omega
  obtain ⟨u, hu, ru⟩ := rv.get (i := i) (x := V.bl bs[i]) (by simp [hlt])
  rw [hv'] at hu
  cases hu
  cases ru
  refine wpAny_truthy_bool ?_
  have e : bs.getD i false = bs[i] := by simp [List.getD, hlt]
  have q' : Q (bs.getD i false) s := q
  rw [e] at q'
  exact q'
theorem call_allB (hc : X.calm = true) : CallR X (.builtin "all") (fun xs H Q => ∃ (p : Addr) (bs : List Bool), xs = [.ref p] ∧ SqL X.K H p (bs.map V.bl) ∧ Q (.bl (bs.all id)) H) := by
  intro pins s σ H xs us Q I r h
  obtain ⟨p, bs, rfl, hq, q⟩ := h
  obtain ⟨u, rfl, rx⟩ := vals1 r
  cases rx
  obtain ⟨its, rv, pl, hz⟩ := I.list hq
  have hl : its.length = bs.length := by
    have := rv.length
    rw [List.length_map] at this
    exact this.symm
  obtain ⟨o, ho, _⟩ := id pl.isList
  have hp : p < s.heap.objs.size := Heap.lt_size ho
  refine call_all_walk (wpAny_pyIter_list pl.isList ?_)
  refine ⟨s.heap.objs.size, [s.heap.objs.size, p], [s.heap.objs.size], its.toArray.size, _, _, fun i => bs.getD i false, rfl, Walks.list (A := X.A.in1) (by exact I.ok.hd hc) _ p (Nat.ne_of_lt hp) its.toArray, ⟨⟨_, Heap.get?_push_size _ rfl, rfl, rfl⟩, pl.isList.at fun o e => Heap.get?_push_of_some _ e⟩, truth_bs rv, fun h' tk kk => ?_⟩
  have e := range_all bs 0 (Nat.zero_le _)
  rw [List.drop_zero, List.drop_zero] at e
  rw [List.size_toArray, hl, e]
  exact ⟨.bl _, H, I.kept (t' := tk) fun b o eo => kk b o (by simpa using Nat.ne_of_lt (Heap.lt_size eo)) (Heap.get?_push_of_some _ eo), rfl, q⟩
theorem boot_all : bootBuiltins "all" = some (.builtin "all") := by decide +kernel
structure MkN (K : PySem.W.Frag) (C : Addr) : Prop where
  makes : PySem.W.makesIn K C = true
  init : PySem.W.findIn K (.ref C) "__init__" = some (some (.builtin "object.__init__"))
  kp : PySem.W.keepIn K (.ref C) = true

def tMakeN (C : Addr) : TE := fun _ H Q => ∀ x dx, H x = none → H dx = none → dx ≠ x → Q (.ref x) (upd (upd H dx (.own x)) x (.ins C dx []))
theorem pe_makeN {x : Str} {p pos : Pos} {C : Addr} (M : MkN X.K C) (hg : Gl X x) (hm : X.mg x = some (.ref C)) (hdb : (x == ("__debug__" : Str)) = false := by decide) : PE X (.Call (.Name x p) [] [] pos) (tMakeN C) := by
  intro pins s σ H Q I h
  refine wpAny_Call_Name_kw (ld_glob I hg hm ?_ hdb)
  refine PySem.W.callWith_K0 (first := []) I.kIn M.kp (wpAny_call ?_)
  have I2 := Inv.made (C := C) I
  have hq := h (s.heap.objs.size + 1) s.heap.objs.size (I.hok.fresh (Nat.le_succ _)) (I.hok.fresh (Nat.le_refl _)) (Nat.ne_of_lt (Nat.lt_succ_self _))
  have Y := PySem.W.makes_of (M := model X.prog X.w) I.kIn M.makes
  obtain ⟨hh, g, d, t, os⟩ := s
  refine make_map0 I.kIn M.makes M.init (fun self => PySem.W.Looks.of_pure (PySem.W.oi_bind self)) ?_
  have e2 : ((hh.push PySem.W.emptyDict).push (PySem.W.instObj C hh.objs.size)).get? (hh.objs.size + 1) = some (PySem.W.instObj C hh.objs.size) := by
    have := Heap.get?_push_size (hh.push PySem.W.emptyDict) (o := PySem.W.instObj C hh.objs.size) rfl
    rwa [Heap.size_push] at this
  have t1 : PySem.W.Looks (model X.prog X.w) ((hh.push PySem.W.emptyDict).push (PySem.W.instObj C hh.objs.size)) (typeOf (.ref (hh.objs.size + 1))) (.ref C) := (PySem.W.Looks.ld e2).andThen .now
  have t2 : PySem.W.Looks (model X.prog X.w) ((hh.push PySem.W.emptyDict).push (PySem.W.instObj C hh.objs.size)) (isInstance (.ref (hh.objs.size + 1)) (.type "object")) true := t1.andThen (Y.top.keeps fun b o e => Heap.get?_push_of_some _ (Heap.get?_push_of_some _ e))
  refine codeAny_call_builtin PySem.W.oi_plain PySem.W.entry_oi (@PySem.W.check_slot (model X.prog X.w) _ _ _ "object.__init__" "object" "__init__" (.ref (hh.objs.size + 1)) [] [] _ PySem.W.oi_kind PySem.W.oi_split t2 (PySem.W.oi_args (.ref (hh.objs.size + 1))) ?_)
  rw [PySem.W.oi_run]
  exact wpAny_pure (And.intro rfl ⟨V.ref (hh.objs.size + 1), _, I2, rfl, hq⟩)

def tMethD (P : Program) (w : World) (K : PySem.W.Frag) (mg : Str → Option Value) (base : Heap) (CX : CXT) (k : Nat) (m : Str) (E : XK) (ta : TE) (t : TA) : TE := fun σ H Q => ta σ H fun x H1 => ∃ a C dx fs f fd ps sp, x = .ref a ∧ H1 a = some (.ins C dx fs) ∧ fs.lookup m = none ∧
  Cls K C ∧ Meth K C m f ∧ FnOk P w K mg base CX k f fd ps sp ∧ Binds K fd ps [] ∧ t σ H1 fun vs H2 => sp (x :: vs) H2 Q E
theorem pe_methD {CX : CXT} {k : Nat} {m : Str} {E : XK} {pos apos : Pos} {o e : Expr} {es : List Expr} {ta : TE} {t : TA} {pl : Sem Bool} (he : PE X o ta) (hr : Room k X.A) (hx : Passes CX X E) (ha : PA X (e :: es) t)
    (hst : starEach (e :: es) X.env = (false, eval e X.env) :: starEach es X.env := by rfl) (hpl : (backTo pos (starEach es X.env)).any (·.1) = false := by rfl)
    (ht : eval (.Call (.Attribute o m apos) (e :: es) [] pos) X.env = (do
      let ov ← eval o X.env
      standAt apos.atName
      let (f, first) ← holding [ov] (getMethod ov m pl)
      callWith pos f first (backTo pos (starEach (e :: es) X.env)) (backToKw pos (keywordEach [] X.env))) := by rfl) :
    PE X (.Call (.Attribute o m apos) (e :: es) [] pos) (tMethD X.prog X.w X.K X.mg X.base CX k m E ta t) := by
  intro pins s σ H Q I h
  refine PySem.W.methodCall_KW (pl := pl) (thn (he pins s σ H _ I h) fun u s1 ⟨x, H1, I1, rx, a, C, dx, fs, f, fd, ps, sp, ex, ea, l, c, hm, F, hb, q⟩ => ?_) ht
  subst ex
  obtain rfl : u = Value.ref a := rx
  refine getmeth_ok I1 ea c hm l ?_
  refine PySem.W.callWith_K (first := [.ref a]) (h₀ := X.base) I.ok.mod.kin hm.kp (thn (ha pos pins s1 σ H1 _ I1 q) fun us s2 ⟨vs, H2, I2, r, q2⟩ => ⟨I2.kIn, ?_⟩) hst hpl
  exact run_fn (us := .ref a :: us) (vs := .ref a :: vs) (dvs := []) (ds := []) F hr hb .nil hx I2 (.cons rfl r) (by rw [List.append_nil]; exact q2)

theorem pe_methD0 {CX : CXT} {k : Nat} {m : Str} {E : XK} {pos apos : Pos} {o : Expr} {ta : TE} {pl : Sem Bool} (he : PE X o ta) (hr : Room k X.A) (hx : Passes CX X E)
    (ht : eval (.Call (.Attribute o m apos) [] [] pos) X.env = (do
      let ov ← eval o X.env
      standAt apos.atName
      let (f, first) ← holding [ov] (getMethod ov m pl)
      callWith pos f first (backTo pos (starEach [] X.env)) (backToKw pos (keywordEach [] X.env))) := by rfl) :
    PE X (.Call (.Attribute o m apos) [] [] pos) (tMethD X.prog X.w X.K X.mg X.base CX k m E ta tNil) := by
  intro pins s σ H Q I h
  refine PySem.W.methodCall_KW (pl := pl) (thn (he pins s σ H _ I h) fun u s1 ⟨x, H1, I1, rx, a, C, dx, fs, f, fd, ps, sp, ex, ea, l, c, hm, F, hb, q⟩ => ?_) ht
  subst ex
  obtain rfl : u = Value.ref a := rx
  refine getmeth_ok I1 ea c hm l ?_
  exact PySem.W.callWith_K0 (first := [.ref a]) I1.kIn hm.kp (run_fn (us := [.ref a]) (vs := [.ref a]) (dvs := []) (ds := []) F hr hb .nil hx I1 (.cons rfl .nil) q)
end
end L2
namespace L2
open PySem PySem.Spec PyProof.Rows


end L2
namespace L2
open PySem PySem.Spec PyProof.Rows


structure Src (prog : Program) (w : World) (it l : Addr) (J : Nat → Heap → Prop) (C : Array Value → Heap → Prop) : Prop where
  item : ∀ (A : Around) (E : Value → Shared → Prop) (s : Shared) (k : Nat) (xs : Array Value) (x : Value) (Q : Value → Shared → Prop), J k s.heap → C xs s.heap → xs[k]? = some x → (∀ h', J (k + 1) h' → Heap.SameBut it s.heap h' → Q x { s with heap := h' }) → wpAny (model prog w) A (Builtin.SmallTypes.nextOf (.ref it)) Q E s
  stop : ∀ (A : Around) (E : Value → Shared → Prop) (s : Shared) (k : Nat) (xs : Array Value) (Q : Value → Shared → Prop), A.handled = none → J k s.heap → C xs s.heap → xs[k]? = none → (∀ h' e, Heap.ExtBut it s.heap h' → (∃ o, h'.get? e = some o ∧ o.cls = .type "StopIteration") → E (.ref e) { s with heap := h' }) → wpAny (model prog w) A (Builtin.SmallTypes.nextOf (.ref it)) Q E s
  keep : ∀ k h h', J k h → (∀ o, h.get? it = some o → h'.get? it = some o) → J k h'
  seq : ∀ xs h h', C xs h → (∀ o, h.get? l = some o → h'.get? l = some o) → C xs h'
  obj : ∀ k h, J k h → ∃ o vs, h.get? it = some o ∧ o.data = .fields vs
section
variable {prog : Program} {w : World} {A : Around} {E : Value → Shared → Prop} {s : Shared}
end
end L2
namespace L2
open PySem PySem.Spec PyProof.Rows
section
variable {prog : Program} {w : World} {A : Around} {E : Value → Shared → Prop} {s : Shared}
variable {z TI TO i1 i2 l1 l2 : Addr} {J1 J2 : Nat → Heap → Prop} {C1 C2 : Array Value → Heap → Prop} {k1 k2 : Nat} {xs ys : Array Value} {x y a b : Value}
end
section
variable {prog : Program} {w : World} {A : Around} {E : Value → Shared → Prop} {s : Shared}
end
end L2
namespace L2
open PySem PySem.Spec PyProof.Rows

section
variable {X : Cx} {pins : List (Addr × Obj)} {σ : St} {H : Hp} {s : Shared} {a : Addr} {xs ys : List V} {t : Bool}
end

end L2
namespace L2
open PySem PySem.Spec PyProof.Rows

end L2
namespace L2
open PySem PySem.Spec PyProof.Rows

end L2
namespace L2
open PySem PySem.Spec PyProof.Rows

section
variable {X : Cx} {tg : Expr}
end
end L2
namespace L2
open PySem PySem.Spec PyProof.Rows

def Itst (lo c : Int) (n : Nat) : It := ⟨fun i _ => i < n, fun i H x H' => H' = H ∧ x = .int (lo + i * c), fun i _ => n ≤ i⟩
theorem turn_step {P : Program} {w : World} {K : PySem.W.Frag} {tg : Expr} (it : Addr) (lo c : Int) (n : Nat) : Turn P w K tg (Itst lo c n) [it] it (fun i h => IsRangeIter h it (lo + (i : Nat) * c) ((n : Int) - (i : Nat)) c) where
  mem := by simp
  obj := fun i h st b hb => by
    have e : b = it := by simpa using hb
    subst e
    exact ⟨_, st, fun v z => by
      have z' : Data.fields _ = Data.cell v := z
      cases z'⟩
  keep := fun i h h' st k => k it (by simp) _ st
  item := by
    intro X hP hw hK hc i pins s σ H E I hf st hg
    subst hP hw hK
    obtain ⟨f0, f1, f2, f3, f4, f5⟩ := hf it (by simp)
    have W := Walks.range (prog := X.prog) (w := X.w) (I.ok.hd hc) it lo c n
    refine W.item i s _ _ hg st fun v h' tk hv st' kk => ?_
    obtain ⟨t, rfl⟩ := hv
    have I1 : Inv X pins σ H { s with heap := h', toks := tk } := I.turned (fun b o hb e => kk b o (by simpa using hb) e) f0 f1 f3 f4 f5
    exact ⟨_, rfl, go_of (s := { s with heap := h', toks := tk }) (n := "range_iterator") st' rfl rfl (by decide) ⟨.int (lo + i * c), H, I1, ⟨t, rfl⟩, ⟨rfl, rfl⟩, st', fun b hb => (hf b hb).1⟩⟩
  done := by
    intro X hP hw hK hc i pins s σ H E I hf st hg
    subst hP hw hK
    obtain ⟨f0, f1, f2, f3, f4, f5⟩ := hf it (by simp)
    exact wpAny_pyNext_range_end (I.ok.hd hc) st (by have : n ≤ i := hg; omega) fun h' eb => ⟨rfl, I.turned (t' := s.toks) (fun b o hb e => eb b o hb e) f0 f1 f3 f4 f5⟩
  self := fun _ _ _ _ _ st h => wpAny_pyIter_rangeiter st h

def stepN (a b c : Int) : Nat := if a < b then ((b - a - 1) / c + 1).toNat else 0
theorem rangeSize_step {a b c : Int} (hc : 0 < c) : Builtin.Range.rangeSize a b c = (stepN a b c : Int) := by
  unfold Builtin.Range.rangeSize stepN
  rw [if_pos hc]
  split
  · have := Int.ediv_nonneg (show (0 : Int) ≤ b - a - 1 by omega) (Int.le_of_lt hc)
    omega
  · rfl
theorem small_step {a b c : Int} (hc : 0 < c) (hc' : c < 1000) (ha : -(2 ^ 60) ≤ a) (ha' : a < 2 ^ 60) (hb : -(2 ^ 60) ≤ b) (hb' : b < 2 ^ 60) : Builtin.Range.small a b c = true := by
  unfold Builtin.Range.small
  rw [rangeSize_step hc]
  have h1 : ((stepN a b c : Nat) : Int) < 2 ^ 62 := by
    unfold stepN
    split
    · have h2 := Int.ediv_le_self (c) (show (0 : Int) ≤ b - a - 1 by omega)
      have h3 := Int.ediv_nonneg (show (0 : Int) ≤ b - a - 1 by omega) (Int.le_of_lt hc)
      omega
    · decide
  simp only [Builtin.Range.rangeFitsLong, Bool.and_eq_true, Bool.or_eq_true, decide_eq_true_eq, beq_iff_eq, hc, gt_iff_lt, if_true]
  omega
section
variable {X : Cx} {tg : Expr}
def iRngS (ta : TA) : TI := fun σ H R => ta σ H fun vs H1 => ∃ i j c : Int, vs = [.int i, .int j, .int c] ∧ 0 < c ∧ c < 1000 ∧ (-(2 ^ 60) ≤ i ∧ i < 2 ^ 60 ∧ -(2 ^ 60) ≤ j ∧ j < 2 ^ 60) ∧ R (Itst i c (stepN i j c)) H1
theorem pi_rangeS {a b c : Expr} {ta : TA} {p pos : Pos} (hg : Gl X "range") (hm : X.mg "range" = none) (ha : PA X [a, b, c] ta) (hs : starEach [a, b, c] X.env = [(false, eval a X.env), (false, eval b X.env), (false, eval c X.env)] := by rfl)
    (hs2 : starEach [b, c] X.env = [(false, eval b X.env), (false, eval c X.env)] := by rfl) :
    PI X tg (.Call (.Name "range" p) [a, b, c] [] pos) (iRngS ta) := by
  intro pins s σ H R I h
  refine Call_ (ld_blt I hg hm boot_range (PyProof.Rows.callWith_type1 (thn (ha pos pins s σ H _ I h) fun us s1 ⟨vs, H1, I1, r1, q1⟩ => ?_) (by rw [hs, hs2]) (by rw [hs2]; rfl)))
  obtain ⟨i, j, c, e, h0, h9, ⟨q1, q2, q3, q4⟩, q⟩ := q1
  subst e
  cases r1 with
  | cons r rr =>
    cases rr with
    | cons r' rr =>
      cases rr with
      | cons r'' rr =>
        cases rr
        obtain ⟨t, rfl⟩ := r
        obtain ⟨u, rfl⟩ := r'
        obtain ⟨v, rfl⟩ := r''
        refine call_range_3 (by simp only [bne_iff_ne, ne_eq, beq_iff_eq] <;> omega) ?_ (Or.inl (PyProof.noPylong_small (by first | decide | omega)))
        refine wpAny_pyIter_range (IsRange.new ..) (small_step h0 h9 q1 q2 q3 q4) ?_
        have I2 : Inv X pins σ H1 { s1 with heap := s1.heap.push { cls := .type "range", data := .fields #[.int i t, .int j u, .int c v] }, toks := s1.toks } := I1.kept fun b o e => Heap.get?_push_of_some _ e
        refine ⟨(s1.heap.push { cls := .type "range", data := .fields #[.int i t, .int j u, .int c v] }).objs.size, [(s1.heap.push { cls := .type "range", data := .fields #[.int i t, .int j u, .int c v] }).objs.size], _, _, H1, rfl,
          I2.kept (t' := s1.toks) fun b o e => Heap.get?_push_of_some _ e, turn_step _ i c (stepN i j c), ?_, fun b hb => ?_, q⟩
        · have e1 : i + ((0 : Nat) : Int) * c = i := by simp
          have e2 : ((stepN i j c : Nat) : Int) - ((0 : Nat) : Int) = Builtin.Range.rangeSize i j c := by rw [rangeSize_step h0]; omega
          show IsRangeIter _ _ (i + ((0 : Nat) : Int) * c) (((stepN i j c : Nat) : Int) - ((0 : Nat) : Int)) c
          rw [e1, e2]
          exact Heap.get?_push_size _ rfl
        · have e : b = (s1.heap.push { cls := .type "range", data := .fields #[.int i t, .int j u, .int c v] }).objs.size := by simpa using hb
          subst e
          exact I2.fpOk (Nat.le_refl _) (I2.hok.fresh (Nat.le_refl _))
end
theorem for_step {lo c : Int} {n : Nat} {g : TG} {tb : TS} {D : Ends} {σ : St} {H : Hp} (Pv : Nat → St → Hp → Prop) (h0 : Pv 0 σ H)
    (hs : ∀ i σ H, i < n → Pv i σ H → g (.int (lo + i * c)) σ H fun σ2 H2 => tb { D with nx := Pv (i + 1), ct := Pv (i + 1), bk := D.nx } σ2 H2) (hd : ∀ σ H, Pv n σ H → D.nx σ H) :
    ∃ W : Nat → Nat → St → Hp → Prop, (∃ m, W 0 m σ H) ∧ ∀ i m σ H, W i m σ H →
      ((Itst lo c n).stop i H ∧ D.nx σ H) ∨ ((Itst lo c n).go i H ∧ ∃ N : St → Hp → Prop, (∀ σ' H', N σ' H' → ∃ m', m' < m ∧ W (i + 1) m' σ' H') ∧ ∀ x H', (Itst lo c n).yld i H x H' → g x σ H' fun σ2 H2 => tb { D with nx := N, ct := N, bk := D.nx } σ2 H2) := by
  refine ⟨fun i m σ H => m = n - i ∧ i ≤ n ∧ Pv i σ H, ⟨n, by simp, Nat.zero_le _, h0⟩, ?_⟩
  rintro i m σ H ⟨rfl, hi, p⟩
  by_cases hlt : i < n
  · refine .inr ⟨hlt, Pv (i + 1), fun σ' H' p' => ⟨n - (i + 1), by omega, rfl, hlt, p'⟩, fun x H' y => ?_⟩
    obtain ⟨e1, e2⟩ := y
    subst e1 e2
    exact hs i σ _ hlt p
  · have e : i = n := by omega
    subst e
    exact .inl ⟨Nat.le_refl _, hd σ H p⟩

end L2
namespace HT
open PySem PySem.Spec PyProof.Rows
section
variable {prog : Program} {w : World} {A : Around} {E : Value → Shared → Prop} {s : Shared}
end
end HT
namespace L2
open PySem PySem.Spec PyProof.Rows

end L2
namespace L2
open PySem PySem.Spec PyProof.Rows

section
variable {M : Model} {A : Around} {E : Value → Shared → Prop} {s : Shared}

structure LeftBy (fs : List Addr) (e T : Addr) (h h' : Heap) : Prop where
  keep : ∀ b o, b ≠ e → b ∉ fs → h.get? b = some o → h'.get? b = some o
  slot : ∀ b o, b ≠ e → h.get? b = some o → ∃ sl, h'.get? b = some { o with slots := sl }
  exc : ∀ oe vs, h.get? e = some oe → oe.data = .fields vs → ∃ oe', h'.get? e = some oe' ∧ oe'.cls = oe.cls ∧ oe'.dict = oe.dict ∧ oe'.data = .fields (vs.setIfInBounds 1 (.ref T))
  new : h.get? T = none
  tr : ∃ oT ts, h'.get? T = some oT ∧ oT.data = .fields ts ∧ ts[3]? = some .none
theorem note_new {base : Heap} {env : Env} {outer : List Env} {L e : Addr} {oe : Obj} {vs : Array Value} {hd : Value} {nx : Bool} {Q : Unit → Shared → Prop} (fr : A.frames = some (env :: outer)) (ff : s.heap.FunFrames base (env :: outer)) (ef : env.frame = some L)
    (ge : s.heap.get? e = some oe) (de : oe.data = .fields vs) (sz : 1 < vs.size) (q : ∀ h' T, LeftBy ((env :: outer).filterMap (·.frame)) e T s.heap h' → Q () { s with heap := h' }) :
    wpAny M A (do let a ← frameOf env; let pl ← entryPlaceOf L nx; let b ← EntryCells.newEntry hd a .none (rawInt L) .none pl; setField (.ref e) 1 b) (fun _ s' => wpAny M A (setFlight (.ref e) none) Q E s') E s := by
  have nf : e ∉ (env :: outer).filterMap (·.frame) := fun m => by
    obtain ⟨_, o, ho, hn⟩ := ff.mem m
    rw [ge] at ho
    cases ho
    exact hn vs de
  refine wpAny_bind (wpAny_frameOf_fun fr ff ef fun k1 ks => ?_)
  refine wpAny_bind (wpAny_entryPlaceOf fun pl hpl => ?_)
  unfold EntryCells.newEntry newFields
  refine wpAny_bind (wpAny_newObj_type ?_ (hpl.sizeOk5 _ _ _ _ _))
  have g1 : k1.get? e = some oe := (ks.2.1 e nf).trans ge
  generalize hob : ({ cls := .type "traceback", dict := none, data := .fields ([hd, .ref L, .none, rawInt L, .none] ++ (if pl.isEmpty then List.replicate 6 Value.none else pl)).toArray } : Obj) = ob
  have g2 := Heap.get?_push_of_some (h := k1) ob g1
  refine wpAny_setField g2 de sz ?_
  have ne : k1.objs.size ≠ e := Nat.ne_of_gt (Heap.lt_size g1)
  have d3 := Obj.data_mapFields de (·.setIfInBounds 1 (Value.ref k1.objs.size))
  have g3 := Heap.get?_update_self (Obj.mapFields (·.setIfInBounds 1 (Value.ref k1.objs.size))) g2 (Obj.isFreed_of_fields d3)
  have t3 := (Heap.get?_update_other (k1.push ob) (Obj.mapFields (·.setIfInBounds 1 (Value.ref k1.objs.size))) (Ne.symm ne)).trans (Heap.get?_push_size k1 (o := ob) (by rw [← hob]; rfl))
  unfold setFlight
  refine wpAny_bind (wpAny_field g3 d3 (x := .ref k1.objs.size) (by simp [sz]) ?_)
  rw [if_pos (show (Value.ref k1.objs.size != Value.none) = true from by simp)]
  have dT : ob.data = .fields ([hd, .ref L, .none, rawInt L, .none] ++ (if pl.isEmpty then List.replicate 6 Value.none else pl)).toArray := by rw [← hob]
  refine wpAny_setField t3 dT (by simp only [List.size_toArray, List.length_append, List.length_cons, List.length_nil] <;> omega) (q _ k1.objs.size ?_)
  have up : ∀ b o, b ≠ e → k1.get? b = some o → (((k1.push ob).update e (Obj.mapFields (·.setIfInBounds 1 (Value.ref k1.objs.size)))).update k1.objs.size (Obj.mapFields (·.setIfInBounds 3 ((none : Option Addr).elim Value.none fun f => rawInt f)))).get? b = some o := fun b o be hb => by
    rw [Heap.get?_update_other _ _ (show k1.objs.size ≠ b from Nat.ne_of_gt (Heap.lt_size hb)), Heap.get?_update_other _ _ (Ne.symm be)]
    exact Heap.get?_push_of_some _ hb
  refine ⟨fun b o be bf hb => up b o be ((ks.2.1 b bf).trans hb), fun b o be hb => ?_, fun oe2 vs2 h1 h2 => ?_, ?_, ?_⟩
  · obtain ⟨sl, hs⟩ := ks.2.2 b o hb
    exact ⟨sl, up b _ be hs⟩
  · rw [ge] at h1
    cases h1
    rw [de] at h2
    cases h2
    refine ⟨_, (Heap.get?_update_other _ _ ne).trans g3, Obj.cls_mapFields _ _, ?_, d3⟩
    obtain ⟨c, dd, dt, sl⟩ := oe
    cases de
    rfl
  · have : s.heap.objs.size = k1.objs.size := ks.1.symm
    rw [← this]
    exact Heap.get?_none_of_le (Nat.le_refl _)
  · refine ⟨_, _, Heap.get?_update_self _ t3 (Obj.isFreed_of_fields (Obj.data_mapFields dT _)), Obj.data_mapFields dT _, ?_⟩
    first | (simp; done) | (rcases hpl with rfl | ⟨_, _, _, _, _, _, _, rfl⟩ <;> simp)
end
end L2
namespace L2
open PySem PySem.Spec PyProof.Rows
section
variable {M : Model} {A : Around} {E : Value → Shared → Prop} {s : Shared}

theorem leave_first {base : Heap} {env : Env} {outer : List Env} {L e : Addr} {oe : Obj} {vs : Array Value} {Q : Unit → Shared → Prop} (fr : A.frames = some (env :: outer)) (ff : s.heap.FunFrames base (env :: outer)) (ef : env.frame = some L)
    (ge : s.heap.get? e = some oe) (de : oe.data = .fields vs) (v1 : vs[1]? = some .none) (q : ∀ h' T, LeftBy ((env :: outer).filterMap (·.frame)) e T s.heap h' → Q () { s with heap := h' }) : wpAny M A (leaving env (.ref e)) Q E s := by
  unfold leaving noteFrame
  simp only [ef]
  refine wpAny_bind (wpAny_bind (wpAny_field ge de v1 ?_))
  rw [if_neg (by decide)]
  exact note_new fr ff ef ge de (Array.getElem?_eq_some_iff.mp v1).1 q
end

theorem own_K {K : PySem.W.Frag} {h : Heap} {mg : Str → Option Value} {x : Str} {C : Addr} {bmB : List Value} {newId : String} (X : K.In h) (gm : mg x = some (.ref C)) (hq : PySem.W.excIn K C bmB newId = true) : OwnCls x C bmB newId mg h := by
  refine ⟨gm, ?_⟩
  unfold PySem.W.excIn at hq
  split at hq
  · rename_i dd cd sl ho
    split at hq
    · rename_i C' bm k0 k1 k2 k3 n k5 hm hs
      simp only [Bool.and_eq_true, beq_iff_eq, Bool.not_eq_true'] at hq
      obtain ⟨⟨⟨⟨⟨e1, e2⟩, hdel⟩, ht⟩, hok⟩, hni⟩ := hq
      subst e1 e2
      obtain ⟨nm, bs, mro, ns, qn, hd, sn, sub, ab, col, del⟩ := cd
      dsimp only at hm hdel hok hni
      subst hm hdel
      have hsl : sl = #[k0, k1, k2, k3, some (.builtin n), k5] := Array.toList_inj.mp hs
      subst hsl
      exact ⟨bm, ns, nm, qn, bs, hd, sn, sub, ab, col, dd, k0, k1, k2, k3, k5, _, X _ _ ho, .of_isNs (PySem.W.isNs_of_in X hok), PySem.W.nsMap_none_of_in X hok hni, PySem.W.tail_of_in X ht⟩
    · cases hq
  · cases hq

def Throws (X : Cx) (C : Addr) (EX : Hp → Prop) : Prop := ∀ (pins : List (Addr × Obj)) (σ : St) (H : Hp) (s : Shared) (h' : Heap) (e : Addr) (vs : List Value), Inv X pins σ H s → Heap.MadeExcOf s.heap h' e (.ref C) vs → EX H → X.xe (.ref e) { s with heap := h' }

theorem ps_raise0 {X : Cx} {x : Str} {C : Addr} {B : String} {newId initId : String} {bmB : List Value} {np cpos pos : Pos} {EX : Hp → Prop} (hg : Gl X x) (gm : X.mg x = some (.ref C)) (hx : PySem.W.excIn X.K C bmB newId = true) (FB : ExcBaseFacts B newId initId bmB) (hc : X.calm = true) (ht : Throws X C EX)
    (hdb : (x == ("__debug__" : Str)) = false := by decide) : PS X (.Raise (some (.Call (.Name x np) [] [] cpos)) none pos) (fun _ _ H => EX H) := by
  intro pins s σ H D I h
  have O := own_K (mg := X.mg) (x := x) I.kIn gm hx
  obtain ⟨tl, N, nm, q, bs, hdct, sn, sub, ab, col, dd, k0, k1, k2, k3, k5, mN, hC, hN, hni, T⟩ := O.obj
  refine wpAny_Raise_call_subT (C := C) (nm := nm) (q := q) (N := N) (bs := bs) (bm := tl) (hdct := hdct) (sn := sn) (sub := sub) (ab := ab) (col := col) (dd := dd) (k0 := k0) (k1 := k1) (k2 := k2) (k3 := k3) (k5 := k5)
    FB (mN := mN) (T.hasType FB.hasBase) (I.ok.hd hc) rfl hni (ld_glob I hg gm ⟨rfl, ?_⟩ hdb)
  exact evalArgs_empty ⟨rfl, Nat.zero_le _, hC, hN, T, fun h' e mk => ht pins σ H s h' e [] I mk h⟩

theorem ObjOk.there {P : Program} {w : World} {H : Hp} {h : Heap} {a : Addr} {o : HO} (x : ObjOk P w H h a o) : ∃ ob, h.get? a = some ob := by
  cases o with
  | lst xs => obtain ⟨_, _, _, _, e⟩ := x; exact ⟨_, e⟩
  | tup xs => obtain ⟨_, _, _, ob, e, _⟩ := x; exact ⟨ob, e⟩
  | dK kvs => obtain ⟨_, _, _, _, o, _, _, e, _⟩ := x; exact ⟨_, e⟩
  | dT kvs => obtain ⟨_, _, _, _, o, _, _, e, _⟩ := x; exact ⟨_, e⟩
  | set S n => obtain ⟨o, _, _, _, e, _⟩ := x; exact ⟨_, e⟩
  | ins C dx fs => obtain ⟨_, _, _, e, _⟩ := x; exact ⟨_, e⟩
  | own y => obtain ⟨_, e⟩ := x; exact ⟨_, e⟩
  | xd fs => obtain ⟨_, ⟨_, _, _, e, _⟩, _⟩ := x; exact ⟨_, e⟩
  | rng lo hi => obtain ⟨_, _, _, e⟩ := x; exact ⟨_, e⟩
  | frz ob u => exact ⟨ob, x.1⟩
  | tbl ps => exact ⟨_, x⟩
  | met f y => exact ⟨_, x⟩
  | ext φ => obtain ⟨_, ⟨ob, e⟩, _⟩ := x; exact ⟨ob, e⟩

def Fly (h h' : Heap) (H' : Hp) (a C : Addr) (dd : Option Addr) : Prop := h.get? a = none ∧ H' a = none ∧ ∃ oe vs T oT ts, h'.get? a = some oe ∧ oe.cls = .ref C ∧ oe.dict = dd ∧ oe.data = .fields vs ∧ vs[1]? = some (.ref T) ∧ T ≠ a ∧ h.get? T = none ∧ H' T = none ∧ h'.get? T = some oT ∧ oT.data = .fields ts ∧ ts[3]? = some .none
def CX1 (P : Program) (w : World) : CXT := fun outer H s E e s' => ∃ (a C : Addr) (dd : Option Addr) (H' : Hp), e = .ref a ∧ s'.os = s.os ∧ AllBare s'.gens ∧ Un (frs outer) [] H H' s.heap s'.heap ∧ HOk P w H' s'.heap ∧ Fly s.heap s'.heap H' a C dd ∧ E (.ref C) dd H'

theorem throws_cx {P : Program} {w : World} {K : PySem.W.Frag} {mg : Str → Option Value} {base : Heap} {N : List Str} {qual : Str} {scope : Scope} {f C : Addr} {cd : Value} {A : Around} {outer : List Env} {s : Shared} {H : Hp} {E : XK} :
    Throws (cxOf (CX1 P w) P w K mg base N qual scope f cd A outer s H E) C (fun H' => E (.ref C) none H') := by
  intro pins σ H1 s1 h' e vs I mk hE
  obtain ⟨t, g1, g2, g3⟩ := mk.there
  have fr : (A.deeper (envOfC qual scope s.heap.objs.size f cd)).frames = some (envOfC qual scope s.heap.objs.size f cd :: outer) := I.ok.frames
  have ff := I.stack
  have ff' : h'.FunFrames base (envOfC qual scope s.heap.objs.size f cd :: outer) := ff.of_keeps fun b o hb _ => ⟨o, mk.keeps b o hb, rfl⟩
  have fE : ∀ b ∈ (envOfC qual scope s.heap.objs.size f cd :: outer).filterMap (·.frame), H1 b = none := I.stkFree
  have new1 : ∀ b, s1.heap.get? b = none → s.heap.get? b = none := fun b hb => by
    cases q : s.heap.get? b with
    | none => rfl
    | some o =>
      obtain ⟨o', z⟩ := I.base.there b o q (by show b ∉ ([] : List Addr); simp)
      rw [hb] at z
      cases z
  have unt : ∀ b, s1.heap.get? b = none → H1 b = none := fun b hb => by
    cases q : H1 b with
    | none => rfl
    | some o =>
      obtain ⟨ob, z⟩ := (I.hok b o q).there
      rw [hb] at z
      cases z
  refine leave_first (s := { s1 with heap := h' }) fr ff' rfl g1 rfl rfl fun h'' T lb => ?_
  have ne : ∀ b o, s1.heap.get? b = some o → b ≠ e := fun b o hb z => by
    rw [z, mk.new] at hb
    cases hb
  have nL : ∀ b o, s.heap.get? b = some o → b ∉ frs outer → b ∉ (envOfC qual scope s.heap.objs.size f cd :: outer).filterMap (·.frame) := fun b o hb hf hm => by
    rcases List.mem_cons.mp (show b ∈ s.heap.objs.size :: frs outer from hm) with z | z
    · exact absurd (Heap.lt_size hb) (by rw [z]; exact Nat.lt_irrefl _)
    · exact hf z
  have slot : ∀ b o, s1.heap.get? b = some o → ∃ sl, h''.get? b = some { o with slots := sl } := fun b o hb => lb.slot b o (ne b o hb) (mk.keeps b o hb)
  have hT1 : s1.heap.get? T = none := by
    cases q : s1.heap.get? T with
    | none => rfl
    | some o =>
      have := mk.keeps T o q
      rw [lb.new] at this
      cases this
  refine ⟨e, C, none, H1, rfl, I.os, I.bare, ⟨fun b o hb hn hf hx => ?_, fun b o hb hn hf hx => ?_, fun b o hb hn hx => I.base.free b o hb hn hx, fun b o hb hx => ?_, I.base.tups, I.base.frzs, I.base.tbls⟩, fun b o hb => ?_, ⟨new1 e mk.new, unt e mk.new, ?_⟩, hE⟩
  · have q := I.base.keep b o hb hn hf hx
    exact lb.keep b o (ne b o q) (nL b o hb hf) (mk.keeps b o q)
  · obtain ⟨sl, q⟩ := I.base.slot b o hb hn hf hx
    obtain ⟨sl2, q2⟩ := slot b _ q
    exact ⟨sl2, q2⟩
  · obtain ⟨o', q⟩ := I.base.there b o hb hx
    obtain ⟨sl, q2⟩ := slot b o' q
    exact ⟨_, q2⟩
  · refine (I.hok b o hb).stay (fun c u z hc => ?_) (fun c z => z) fun c xs z => z
    refine lb.keep c u (ne c u hc) (fun hm => ?_) (mk.keeps c u hc)
    have := fE c hm
    rcases z with z | z
    · rw [z, hb] at this
      cases this
    · rw [z] at this
      cases this
  · obtain ⟨oe', q1, q2, q3, q4⟩ := lb.exc _ _ g1 rfl
    obtain ⟨oT, ts, t1, t2, t3⟩ := lb.tr
    refine ⟨oe', _, T, oT, ts, q1, q2, q3, q4, rfl, fun z => ?_, new1 T hT1, unt T hT1, t1, t2, t3⟩
    have := lb.new
    rw [z] at this
    have g1' : h'.get? e = some _ := g1
    rw [this] at g1'
    cases g1'
end L2
namespace L2
open PySem PySem.Spec PyProof.Rows
section
variable {M : Model} {A : Around} {E : Value → Shared → Prop} {s : Shared}

theorem leave_next {base : Heap} {env : Env} {outer : List Env} {L e T0 : Addr} {oe oT : Obj} {vs ts : Array Value} {Q : Unit → Shared → Prop} (fr : A.frames = some (env :: outer)) (ff : s.heap.FunFrames base (env :: outer)) (ef : env.frame = some L)
    (ge : s.heap.get? e = some oe) (de : oe.data = .fields vs) (v1 : vs[1]? = some (.ref T0)) (gT : s.heap.get? T0 = some oT) (dT : oT.data = .fields ts) (t3 : ts[3]? = some .none) (ne : T0 ≠ e)
    (q : ∀ h1 h' T, (∀ b, b ≠ T0 → h1.get? b = s.heap.get? b) → (∃ o, h1.get? T0 = some o) → LeftBy ((env :: outer).filterMap (·.frame)) e T h1 h' → Q () { s with heap := h' }) : wpAny M A (leaving env (.ref e)) Q E s := by
  unfold leaving noteFrame
  simp only [ef]
  refine wpAny_bind (wpAny_bind (wpAny_field ge de v1 ?_))
  rw [if_pos (show (Value.ref T0 != Value.none) = true from by simp)]
  refine wpAny_bind (wpAny_field gT dT t3 ?_)
  rw [if_neg (show ¬ ((Value.none == rawInt L) = true) from by simp [rawInt])]
  refine wpAny_bind (wpAny_setField gT dT (Array.getElem?_eq_some_iff.mp t3).1 ?_)
  have oth : ∀ b, b ≠ T0 → (s.heap.update T0 (Obj.mapFields (·.setIfInBounds 3 Value.none))).get? b = s.heap.get? b := fun b hb => Heap.get?_update_other _ _ (Ne.symm hb)
  have there := Heap.get?_update_self (Obj.mapFields (·.setIfInBounds 3 Value.none)) gT (Obj.isFreed_of_fields (Obj.data_mapFields dT _))
  have nr : ∀ b o, s.heap.get? b = some o → (∀ us, o.data ≠ .fields us) → b ≠ T0 := fun b o hb hn z => by
    rw [z, gT] at hb
    cases hb
    exact hn ts dT
  exact note_new (s := { s with heap := s.heap.update T0 (Obj.mapFields (·.setIfInBounds 3 Value.none)) }) fr (ff.of_keeps fun b o hb hn => ⟨o, (oth b (nr b o hb hn)).trans hb, rfl⟩) ef ((oth e (Ne.symm ne)).trans ge) de (Array.getElem?_eq_some_iff.mp v1).1 fun h' T lb => q _ h' T oth ⟨_, there⟩ lb
end

theorem Fun.okX {P : Program} {w : World} {K : PySem.W.Frag} {mg : Str → Option Value} {base : Heap} {x qual : Str} {st : Stmt} {f : Addr} {fd : FuncData} {N ps : List Str} {k : Nat} {sp : Sp} (F : Fun K x qual st f fd) (S : FnScope N ps (defScope st)) (len : ∀ vs H Q E, sp vs H Q E → vs.length = ps.length)
    (hbody : ∀ (cdv : Value) (A : Around) (outer : List Env) (s : Shared) (H : Hp) (vs : List V) (Q : VK) (E : XK), Room k (A.deeper (envOfC qual (defScope st) s.heap.objs.size f cdv)) → sp vs H Q E →
      ∃ t, PSs (cxOf (CX1 P w) P w K mg base N qual (defScope st) f cdv A outer s H E) (defBody st) t ∧ t { nx := fun _ H' => Q .non H', rt := Q } (start N vs) H) : FnOk P w K mg base (CX1 P w) (k + 1) f fd ps sp := by
  obtain ⟨oc, od, kV, doc, pm, an, cdv, ct, osl, rfl, lk, hcd⟩ := F.ex
  exact fn_of lk hcd S len fun A outer s H vs Q E hr hsp => hbody cdv A outer s H vs Q E hr hsp

theorem pass1 {P : Program} {w : World} {K : PySem.W.Frag} {mg : Str → Option Value} {base : Heap} {N : List Str} {qual : Str} {scope : Scope} {f : Addr} {cd : Value} {A : Around} {outer : List Env} {s : Shared} {H : Hp} {E : XK} :
    Passes (CX1 P w) (cxOf (CX1 P w) P w K mg base N qual scope f cd A outer s H E) E := by
  intro pins σ H1 s1 e s' I hx
  obtain ⟨a, C, dd, H2, rfl, hos, hgen, un, hok, ⟨n1, n2, oe, vs, T0, oT, ts, g1, g2, gd, g3, g4, g5, g6, g7, g8, g9, g10⟩, hE⟩ := hx
  obtain ⟨hh, g, d, t, os'⟩ := s'
  obtain rfl : os' = s1.os := hos
  have I2 : Inv (cxOf (CX1 P w) P w K mg base N qual scope f cd A outer s H E) pins σ H2 ⟨hh, g, d, t, s1.os⟩ := I.call (h' := hh) (g' := g) (d' := d) (t' := t) (ch := []) un hok hgen (fun b z => absurd z (by simp))
  have fr : (A.deeper (envOfC qual scope s.heap.objs.size f cd)).frames = some (envOfC qual scope s.heap.objs.size f cd :: outer) := I.ok.frames
  have fE : ∀ b ∈ (envOfC qual scope s.heap.objs.size f cd :: outer).filterMap (·.frame), H2 b = none := I2.stkFree
  have old1 : ∀ b, s1.heap.get? b = none → s.heap.get? b = none := fun b hb => by
    cases q : s.heap.get? b with
    | none => rfl
    | some o =>
      obtain ⟨o', z⟩ := I.base.there b o q (by show b ∉ ([] : List Addr); simp)
      rw [hb] at z
      cases z
  have old2 : ∀ b, hh.get? b = none → s.heap.get? b = none := fun b hb => by
    cases q : s.heap.get? b with
    | none => rfl
    | some o =>
      obtain ⟨o', z⟩ := I2.base.there b o q (by show b ∉ ([] : List Addr); simp)
      have z' : hh.get? b = some o' := z
      rw [hb] at z'
      cases z'
  have unt : ∀ b, hh.get? b = none → H2 b = none := fun b hb => by
    cases q : H2 b with
    | none => rfl
    | some o =>
      obtain ⟨ob, z⟩ := (I2.hok b o q).there
      have z' : hh.get? b = some ob := z
      rw [hb] at z'
      cases z'
  refine leave_next (s := ⟨hh, g, d, t, s1.os⟩) fr I2.stack rfl g1 g3 g4 g8 g9 g10 g5 fun h1 h' T o1 o2 lb => ?_
  have na : ∀ b o, s.heap.get? b = some o → b ≠ a ∧ b ≠ T0 := fun b o hb => by
    refine ⟨fun z => ?_, fun z => ?_⟩
    · rw [z, old1 a n1] at hb
      cases hb
    · rw [z, old1 T0 g6] at hb
      cases hb
  have nL : ∀ b o, s.heap.get? b = some o → b ∉ frs outer → b ∉ (envOfC qual scope s.heap.objs.size f cd :: outer).filterMap (·.frame) := fun b o hb hf hm => by
    rcases List.mem_cons.mp (show b ∈ s.heap.objs.size :: frs outer from hm) with z | z
    · exact absurd (Heap.lt_size hb) (by rw [z]; exact Nat.lt_irrefl _)
    · exact hf z
  have hTT : T ≠ T0 := fun z => by
    obtain ⟨o, q⟩ := o2
    rw [← z, lb.new] at q
    cases q
  have hT : hh.get? T = none := (o1 T hTT).symm.trans lb.new
  refine ⟨a, C, dd, H2, rfl, I2.os, I2.bare, ⟨fun b o hb hn hf hx => ?_, fun b o hb hn hf hx => ?_, fun b o hb hn hx => I2.base.free b o hb hn hx, fun b o hb hx => ?_, I2.base.tups, I2.base.frzs, I2.base.tbls⟩, fun b o hb => ?_, ⟨old1 a n1, n2, ?_⟩, hE⟩
  · have q : hh.get? b = some o := I2.base.keep b o hb hn hf hx
    exact lb.keep b o (na b o hb).1 (nL b o hb hf) ((o1 b (na b o hb).2).trans q)
  · obtain ⟨sl, q⟩ := I2.base.slot b o hb hn hf hx
    have q' : hh.get? b = some { o with slots := sl } := q
    obtain ⟨sl2, q2⟩ := lb.slot b _ (na b o hb).1 ((o1 b (na b o hb).2).trans q')
    exact ⟨sl2, q2⟩
  · obtain ⟨o', q⟩ := I2.base.there b o hb hx
    have q' : hh.get? b = some o' := q
    obtain ⟨sl, q2⟩ := lb.slot b o' (na b o hb).1 ((o1 b (na b o hb).2).trans q')
    exact ⟨_, q2⟩
  · refine (I2.hok b o hb).stay (fun c u z hc => ?_) (fun c z => z) fun c xs z => z
    have hc2 : H2 c ≠ none := fun q => by
      rcases z with z | z
      · rw [z, hb] at q
        cases q
      · rw [z] at q
        cases q
    exact lb.keep c u (fun z => hc2 (by rw [z]; exact n2)) (fun hm => hc2 (fE c hm)) ((o1 c (fun z => hc2 (by rw [z]; exact g7))).trans hc)
  · obtain ⟨oe', q1, q2, q3, q4⟩ := lb.exc oe vs ((o1 a (Ne.symm g5)).trans g1) g3
    obtain ⟨oT', ts', t1, t2, t3⟩ := lb.tr
    refine ⟨oe', _, T, oT', ts', q1, q2.trans g2, q3.trans gd, q4, ?_, fun z => ?_, old2 T hT, unt T hT, t1, t2, t3⟩
    · have := (Array.getElem?_eq_some_iff.mp g4).1
      simp [this]
    · have g1' : hh.get? a = some oe := g1
      rw [← z, hT] at g1'
      cases g1'
end L2
namespace L2
open PySem PySem.Spec PyProof.Rows
section
variable {M : Model} {A : Around} {E : Value → Shared → Prop} {s : Shared}

theorem look_next {base : Heap} {env : Env} {outer : List Env} {L e T0 : Addr} {oe oT : Obj} {vs ts : Array Value} {Q : Unit → Shared → Prop} (fr : A.frames = some (env :: outer)) (ff : s.heap.FunFrames base (env :: outer)) (ef : env.frame = some L)
    (ge : s.heap.get? e = some oe) (de : oe.data = .fields vs) (v1 : vs[1]? = some (.ref T0)) (gT : s.heap.get? T0 = some oT) (dT : oT.data = .fields ts) (t3 : ts[3]? = some .none) (ne : T0 ≠ e)
    (q : ∀ h1 h' T, (∀ b, b ≠ T0 → h1.get? b = s.heap.get? b) → (∃ o, h1.get? T0 = some o) → LeftBy ((env :: outer).filterMap (·.frame)) e T h1 h' → Q () { s with heap := h' }) :
    wpAny M A (noteFrame (.ref e) env) (fun _ s2 => wpAny M A (setFlight (.ref e) none) Q E s2) E s := by
  unfold noteFrame
  simp only [ef]
  refine wpAny_bind (wpAny_field ge de v1 ?_)
  rw [if_pos (show (Value.ref T0 != Value.none) = true from by simp)]
  refine wpAny_bind (wpAny_field gT dT t3 ?_)
  rw [if_neg (show ¬ ((Value.none == rawInt L) = true) from by simp [rawInt])]
  refine wpAny_bind (wpAny_setField gT dT (Array.getElem?_eq_some_iff.mp t3).1 ?_)
  have oth : ∀ b, b ≠ T0 → (s.heap.update T0 (Obj.mapFields (·.setIfInBounds 3 Value.none))).get? b = s.heap.get? b := fun b hb => Heap.get?_update_other _ _ (Ne.symm hb)
  have there := Heap.get?_update_self (Obj.mapFields (·.setIfInBounds 3 Value.none)) gT (Obj.isFreed_of_fields (Obj.data_mapFields dT _))
  have nr : ∀ b o, s.heap.get? b = some o → (∀ us, o.data ≠ .fields us) → b ≠ T0 := fun b o hb hn z => by
    rw [z, gT] at hb
    cases hb
    exact hn ts dT
  exact note_new (s := { s with heap := s.heap.update T0 (Obj.mapFields (·.setIfInBounds 3 Value.none)) }) fr (ff.of_keeps fun b o hb hn => ⟨o, (oth b (nr b o hb hn)).trans hb, rfl⟩) ef ((oth e (Ne.symm ne)).trans ge) de (Array.getElem?_eq_some_iff.mp v1).1 fun h' T lb => q _ h' T oth ⟨_, there⟩ lb

theorem flight {e T : Addr} {oe oT : Obj} {vs ts : Array Value} {Q : Unit → Shared → Prop} (ge : s.heap.get? e = some oe) (de : oe.data = .fields vs) (v1 : vs[1]? = some (.ref T)) (gT : s.heap.get? T = some oT) (dT : oT.data = .fields ts) (t3 : ts[3]? = some .none)
    (q : ∀ h', (∀ b, b ≠ T → h'.get? b = s.heap.get? b) → (∃ oT' ts', h'.get? T = some oT' ∧ oT'.data = .fields ts' ∧ ts'[3]? = some .none) → Q () { s with heap := h' }) : wpAny M A (setFlight (.ref e) none) Q E s := by
  unfold setFlight
  refine wpAny_bind (wpAny_field ge de v1 ?_)
  rw [if_pos (show (Value.ref T != Value.none) = true from by simp)]
  have sz := (Array.getElem?_eq_some_iff.mp t3).1
  refine wpAny_setField gT dT sz (q _ (fun b hb => Heap.get?_update_other _ _ (Ne.symm hb)) ⟨_, _, Heap.get?_update_self _ gT (Obj.isFreed_of_fields (Obj.data_mapFields dT _)), Obj.data_mapFields dT _, ?_⟩)
  simp [sz]
end
end L2
namespace L2
open PySem PySem.Spec PyProof.Rows

abbrev ExK := St → Addr → Option Addr → Hp → Prop

def Fr0 (X : Cx) (pins : List (Addr × Obj)) (h0 : Heap) : Prop := (∀ b, h0.get? b = none → X.s₀.heap.get? b = none ∨ b ∈ X.ex) ∧ ∀ p ∈ X.pn ++ pins, h0.get? p.1 = some p.2
theorem Inv.fr0 {X : Cx} {pins : List (Addr × Obj)} {σ : St} {H : Hp} {s : Shared} (I : Inv X pins σ H s) : Fr0 X pins s.heap := by
  refine ⟨fun b hb => ?_, fun p hp => (I.pin p hp).1⟩
  by_cases hx : b ∈ X.ex
  · exact .inr hx
  · refine .inl ?_
    cases q : X.s₀.heap.get? b with
    | none => rfl
    | some o =>
      obtain ⟨o', z⟩ := I.base.there b o q hx
      rw [hb] at z
      cases z

def XF (X : Cx) (pins : List (Addr × Obj)) (Ex : ExK) (e : Value) (s' : Shared) : Prop := ∃ (h0 : Heap) (a C : Addr) (dd : Option Addr) (σ' : St) (H' : Hp), e = .ref a ∧ Inv X pins σ' H' s' ∧ Fly h0 s'.heap H' a C dd ∧ Fr0 X pins h0 ∧ Ex σ' C dd H'
abbrev TX := St → Hp → VK → ExK → Prop

def PEX (X : Cx) (e : Expr) (t : TX) : Prop := ∀ (pins : List (Addr × Obj)) (s : Shared) (σ : St) (H : Hp) (Q : VK) (Ex : ExK), Inv X pins σ H s → t σ H Q Ex → wpAny (model X.prog X.w) X.A (eval e X.env) (EP X pins σ Q) (XF X pins Ex) s
section
variable {X : Cx} {k : Nat} {f C : Addr} {fd : FuncData} {ps : List Str} {sp : Sp} {dvs : List V} {ds : List Value} {x m : Str} {p pos apos : Pos} {e o : Expr} {es : List Expr} {ta : TE} {t : TA}
theorem run_fnX {pins : List (Addr × Obj)} {σ : St} {H : Hp} {s : Shared} {Q : VK} {Ex : ExK} {us : List Value} {vs : List V} (F : FnOk X.prog X.w X.K X.mg X.base (CX1 X.prog X.w) k f fd ps sp) (hr : Room k X.A) (hb : Binds X.K fd ps ds) (hd : Vals dvs ds)
    (I : Inv X pins σ H s) (r : Vals vs us) (h : sp (vs ++ dvs) H Q (fun cls dd H' => ∃ C, cls = .ref C ∧ Ex σ C dd H')) : wpAny (model X.prog X.w) X.A (call (.ref f) us) (EP X pins σ Q) (XF X pins Ex) s := by
  have r2 : Vals (vs ++ dvs) (us ++ ds) := r.append hd
  have hl : (us ++ ds).length = ps.length := by rw [← r2.length]; exact F.len _ _ _ _ h
  refine wpAny_call (codeAny_mono (F.run X.A X.stack s H ⟨us, []⟩ (us ++ ds) (vs ++ dvs) Q _ hr I.env0 (hb s us I.kIn hl) r2 h) fun r s' hq => ?_)
  cases r with
  | error e =>
    obtain ⟨a, C, dd, H2, rfl, hos, hgen, un, hok, fl, C', hC, hE⟩ := hq
    cases hC
    obtain ⟨hh, g, d, t, os'⟩ := s'
    obtain rfl : os' = s.os := hos
    exact ⟨s.heap, a, C, dd, σ, H2, rfl, I.call (h' := hh) (g' := g) (d' := d) (t' := t) (ch := []) un hok hgen (fun b z => absurd z (by simp)), fl, I.fr0, hE⟩
  | ok fl =>
    cases fl with
    | ret u => exact I.after hq
    | next => exact False.elim hq
    | brk => exact False.elim hq
    | cont => exact False.elim hq

theorem pex_call (F : FnOk X.prog X.w X.K X.mg X.base (CX1 X.prog X.w) k f fd ps sp) (hr : Room k X.A) (hg : Gl X x) (hm : X.mg x = some (.ref f)) (hk : PySem.W.keepIn X.K (.ref f) = true) (hb : Binds X.K fd ps ds) (hd : Vals dvs ds)
    (ha : PA X.nox (e :: es) t) (hdb : (x == ("__debug__" : Str)) = false := by decide) (he : starEach (e :: es) X.env = (false, eval e X.env) :: starEach es X.env := by rfl) (hpl : (backTo pos (starEach es X.env)).any (·.1) = false := by rfl) :
    PEX X (.Call (.Name x p) (e :: es) [] pos) (fun σ H Q Ex => t σ H fun vs H1 => sp (vs ++ dvs) H1 Q fun cls dd H' => ∃ C, cls = .ref C ∧ Ex σ C dd H') := by
  intro pins s σ H Q Ex I h
  refine wpAny_Call_Name_kw (ld_glob I hg hm ?_ hdb)
  refine PySem.W.callWith_K (h₀ := X.base) I.ok.mod.kin hk (wpAny_mono (ha pos pins s σ H _ (I.wish _) h) (fun us s1 ⟨vs, H1, I1, r, q⟩ => ⟨I1.kIn, ?_⟩) fun _ _ z => z.elim) he hpl
  exact run_fnX F hr hb hd I1.unwish r q

abbrev TSX := Ends → St → Hp → ExK → Prop
def PSX (X : Cx) (st : Stmt) (t : TSX) : Prop := ∀ (pins : List (Addr × Obj)) (s : Shared) (σ : St) (H : Hp) (D : Ends) (Ex : ExK), Inv X pins σ H s → t D σ H Ex → wpAny (model X.prog X.w) X.A (exec st X.env) (SP X pins D) (XF X pins Ex) s
def PSsX (X : Cx) (st : List Stmt) (t : TSX) : Prop := ∀ (pins : List (Addr × Obj)) (s : Shared) (σ : St) (H : Hp) (D : Ends) (Ex : ExK), Inv X pins σ H s → t D σ H Ex → wpAny (model X.prog X.w) X.A (execs st X.env) (SP X pins D) (XF X pins Ex) s
def tSetX (i : Nat) (t : TX) : TSX := fun D σ H Ex => t σ H (fun v H1 => D.nx (σ.set i (some v)) H1) Ex
theorem psx_set {i : Nat} {te : TX} {pos' : Pos} (hN : X.N.Nodup) (hi : X.N[i]? = some x) (hx : Loc X.env.scope x) (he : PEX X e te) (hs : swapsWith e (some (.Name x pos')) pos.line X.env = pure false := by rfl) (hf : X.fn x = true ∨ X.env.scope.names.lookup x = some .local := by first | exact .inl rfl | exact .inr rfl | assumption) :
    PSX X (.Assign [.Name x pos'] e pos) (tSetX i te) := by
  intro pins s σ H D Ex I h
  refine wpAny_Assign_Name (thn (he pins s σ H _ Ex I h) fun v s1 ⟨y, H1, I1, r1, q1⟩ => ?_) hs
  exact store_ok I1 hN hi hx r1 (fun s' I' => ⟨_, _, I', q1⟩) hf
theorem pssx_one {st : Stmt} {t : TSX} (h : PSX X st t) : PSsX X [st] t := by
  intro pins s σ H D Ex I hw
  refine wpAny_execs_cons (thn (h pins s σ H D Ex I hw) fun f s1 q => ?_)
  cases f with
  | next => exact wpAny_execs_nil q
  | brk => exact q
  | cont => exact q
  | ret u => exact q
end
end L2
namespace L2
open PySem PySem.Spec PyProof.Rows
section
variable {X : Cx} {pins : List (Addr × Obj)} {σ : St} {H H' : Hp} {s : Shared} {h0 h' : Heap} {ch : List Addr}

theorem Inv.flown {t' : Nat} (I : Inv X pins σ H s) (f : Fr0 X pins h0) (hc : ∀ b ∈ ch, h0.get? b = none ∧ ∃ o vs, s.heap.get? b = some o ∧ o.data = .fields vs)
    (keep : ∀ b o, b ∉ ch → b ∉ frs X.stack → s.heap.get? b = some o → h'.get? b = some o) (slot : ∀ b o, b ∉ ch → s.heap.get? b = some o → ∃ sl, h'.get? b = some { o with slots := sl })
    (free : ∀ b o, b ∉ ch → s.heap.get? b = some o → H b = none → H' b = none) (tups : ∀ b xs, H b = some (.tup xs) → H' b = some (.tup xs)) (frzs : ∀ b o u, H b = some (.frz o u) → H' b = some (.frz o u))
    (tbls : ∀ b ps, H b = some (.tbl ps) → ∃ more, H' b = some (.tbl (ps ++ more))) (hok : HOk X.prog X.w H' h') : Inv X pins σ H' { s with heap := h', toks := t' } := by
  have nL : ∀ b ∈ ch, b ≠ X.env.locals := fun b hb z => by
    obtain ⟨_, o, vs, ho, hd⟩ := hc b hb
    obtain ⟨m, ⟨o', es, ep, ho', hd', _⟩, _⟩ := I.loc
    rw [z, ho'] at ho
    cases ho
    rw [hd'] at hd
    cases hd
  have nC : ∀ b ∈ ch, ∀ x c, X.env.cells.lookup x = some c → c ≠ b := fun b hb x c e z => by
    obtain ⟨_, o, vs, ho, hd⟩ := hc b hb
    obtain ⟨v, o', ho', hd'⟩ := I.cell x c e
    rw [z, ho] at ho'
    cases ho'
    rw [hd] at hd'
    cases hd'
  have nF : ∀ b ∈ ch, b ∉ X.fs := fun b hb z => by
    obtain ⟨_, o, vs, ho, hd⟩ := hc b hb
    obtain ⟨_, o', ho', hn⟩ := I.funs.mem z
    rw [ho] at ho'
    cases ho'
    exact hn vs hd
  have n0 : ∀ b ∈ ch, X.s₀.heap.get? b = none ∨ b ∈ X.ex := fun b hb => f.1 b (hc b hb).1
  have nP : ∀ b ∈ ch, ∀ p ∈ X.pn ++ pins, p.1 ≠ b := fun b hb p hp z => by
    have e := f.2 p hp
    rw [z, (hc b hb).1] at e
    cases e
  have old : ∀ b o, X.s₀.heap.get? b = some o → b ∉ X.ex → b ∉ ch ++ X.ex := fun b o e hx hm => by
    rcases List.mem_append.mp hm with z | z
    · rcases n0 b z with q | q
      · rw [e] at q
        cases q
      · exact hx q
    · exact hx z
  have ok' : Cx.Ok { X with ex := ch ++ X.ex } := ⟨I.ok.mod, I.ok.kind, I.ok.glob, I.ok.blt, I.ok.above, I.ok.inj, I.ok.has, I.ok.cab, I.ok.hd, I.ok.frames, I.ok.stk,
    fun b hb => (List.mem_append.mp hb).elim (fun z => ⟨nL b z, nC b z⟩) (I.ok.exf b), I.ok.bs, I.ok.bsz, fun b o e => old b o (I.ok.bs b o e).1 (I.ok.noex b o e), fun b hb => (List.mem_append.mp hb).elim (nF b) (I.ok.exfs b), I.ok.funs, I.ok.frf⟩
  have I' : Inv { X with ex := ch ++ X.ex } pins σ H s := ⟨ok', I.os, I.bare, ⟨fun b o e n hb hx => I.base.keep b o e n hb fun z => hx (List.mem_append_right _ z), fun b o e n hb hx => I.base.slot b o e n hb fun z => hx (List.mem_append_right _ z),
    fun b o e n hx => I.base.free b o e n fun z => hx (List.mem_append_right _ z), fun b o e hx => I.base.there b o e fun z => hx (List.mem_append_right _ z), I.base.tups, I.base.frzs, I.base.tbls⟩, I.loc, I.cell, I.free, I.freeC, I.pin, I.hok, I.len⟩
  obtain ⟨m, ⟨o, es, ep, ho, r⟩, _⟩ := id I.loc
  obtain ⟨sl, hL⟩ := slot X.env.locals o (fun z => nL _ z rfl) ho
  have J := I'.step (g' := s.gens) (d' := s.drawn) (t' := t') (h' := h') (H' := H') (ch := ch) (fun b hb => ⟨.inl (List.mem_append_left _ hb), nL b hb, nC b hb, nP b hb⟩)
    (fun b o hL hb hc e n => keep b o hc (fun z => (List.mem_cons.mp (I.stkSub b z)).elim hL hb) e) (fun b o _ _ hc e n => slot b o hc e) free (fun b o hc e => (slot b o hc e).elim fun sl z => ⟨_, z⟩) tups frzs tbls (fun m' hm => by
      obtain ⟨o', es', ep', ho', r'⟩ := hm
      rw [ho] at ho'
      cases ho'
      exact ⟨_, es', ep', hL, r'⟩) hok I.bare
  exact ⟨I.ok, J.os, J.bare, ⟨fun b o e n hb hx => J.base.keep b o e n hb (old b o e hx), fun b o e n hb hx => J.base.slot b o e n hb (old b o e hx), fun b o e n hx => J.base.free b o e n (old b o e hx), fun b o e hx => J.base.there b o e (old b o e hx),
    J.base.tups, J.base.frzs, J.base.tbls⟩, J.loc, J.cell, J.free, J.freeC, J.pin, J.hok, J.len⟩

theorem goes_ok {M : Model} {A : Around} {E : Value → Shared → Prop} {i : Nat} {x : Str} {pos : Pos} {Q : Unit → Shared → Prop} (I : Inv X pins σ H s) (hN : X.N.Nodup) (hi : X.N[i]? = some x) (hk : X.env.scope.names.lookup x = some .local)
    (h : ∀ s', Inv X pins (σ.set i none) H s' → Q () s') : wpAny M A (do bindName X.env x .none; unbindBehindTheSuite X.env x pos) Q E s := by
  obtain ⟨m, hn, hl⟩ := id I.loc
  have hcls : (X.env.scope.kind == .class || (X.env.scope.kind == .module && X.env.locals != X.env.globals)) = false := by rw [I.ok.kind]; rfl
  have hiσ : i < σ.length := by rw [I.len]; exact (List.getElem?_eq_some_iff.mp hi).1
  have ne0 : ∀ b o, X.s₀.heap.get? b = some o → b ≠ X.env.locals := fun b o e => Nat.ne_of_lt (Nat.lt_of_lt_of_le (Heap.lt_size e) I.ok.above)
  refine wpAny_nameGoes_keeps hk hn hcls fun h' v hn' hs => ?_
  refine h _ ⟨I.ok, I.os, I.bare, ⟨fun b o e n hb hx => (hs.2 b (ne0 b o e)).trans (I.base.keep b o e n hb hx), fun b o e n hb hx => ?_, I.base.free, fun b o e hx => ?_, I.base.tups, I.base.frzs, I.base.tbls⟩, ⟨_, hn', fun j y w e1 e2 e3 => ?_⟩, fun y c e => ?_, I.free, I.freeC, fun p hp => ?_, fun b u e => ?_, by simpa using I.len⟩
  · obtain ⟨sl, e1⟩ := I.base.slot b o e n hb hx
    exact ⟨sl, (hs.2 b (ne0 b o e)).trans e1⟩
  · obtain ⟨o', e1⟩ := I.base.there b o e hx
    exact ⟨o', (hs.2 b (ne0 b o e)).trans e1⟩
  · by_cases hj : j = i
    · subst hj
      rw [List.getElem?_set_self hiσ] at e2
      cases e2
    · rw [List.getElem?_set_ne (Ne.symm hj)] at e2
      obtain ⟨u', r', q⟩ := hl j y w e1 e2 e3
      refine ⟨u', r', ?_⟩
      rcases q with ⟨k, e⟩ | ⟨k, c, e, z⟩
      · refine .inl ⟨k, ?_⟩
        have : y ≠ x := fun e => hj (nodup_ix hN e1 (e ▸ hi))
        simp [this, e]
      · exact .inr ⟨k, c, e, z.sameBut hs (I.cne y c e)⟩
  · obtain ⟨w', z⟩ := I.cell y c e
    exact ⟨w', z.sameBut hs (I.cne y c e)⟩
  · obtain ⟨e, n, ne, nf, d⟩ := I.pin p hp
    exact ⟨(hs.2 p.1 ne).trans e, n, ne, nf, d⟩
  · refine (I.hok b u e).stay (fun c w' hc q => (hs.2 c ?_).trans q) (fun _ q => q) fun _ _ q => q
    rintro rfl
    rcases hc with rfl | hc
    · rw [I.free] at e
      cases e
    · rw [I.free] at hc
      cases hc
end

def ExcAt (a C : Addr) (dd : Option Addr) (h : Heap) : Prop := ∃ oe vs, h.get? a = some oe ∧ oe.cls = .ref C ∧ oe.dict = dd ∧ oe.data = .fields vs

abbrev Cx.hand (X : Cx) (a : Addr) : Cx := { X with A := X.A.mark (some (.ref a)), calm := false, xe := fun _ _ => False }
section
variable {X : Cx} {pins : List (Addr × Obj)} {σ : St} {H : Hp} {s : Shared} {a : Addr}
theorem Inv.hand (I : Inv X pins σ H s) (a : Addr) : Inv (X.hand a) pins σ H s :=
  ⟨⟨I.ok.mod, I.ok.kind, I.ok.glob, I.ok.blt, I.ok.above, I.ok.inj, I.ok.has, I.ok.cab, fun z => Bool.noConfusion z, I.ok.frames, I.ok.stk, I.ok.exf, I.ok.bs, I.ok.bsz, I.ok.noex, I.ok.exfs, I.ok.funs, I.ok.frf⟩, I.os, I.bare, I.base, I.loc, I.cell, I.free, I.freeC, I.pin, I.hok, I.len⟩
theorem Inv.unhand (ok : X.Ok) (I : Inv (X.hand a) pins σ H s) : Inv X pins σ H s := ⟨ok, I.os, I.bare, I.base, I.loc, I.cell, I.free, I.freeC, I.pin, I.hok, I.len⟩

def takesX (K : PySem.W.Frag) (C : Addr) (D : Value) : Bool := PySem.W.kitCls K (.ref C) D == some true && PySem.W.subIn K D (.type "BaseException") == some true
theorem takes_ok {A : Around} {E : Value → Shared → Prop} {K : PySem.W.Frag} {prog : Program} {w : World} {C : Addr} {dd : Option Addr} {D : Value} {Q : Bool → Shared → Prop} (X : K.In s.heap) (x : ExcAt a C dd s.heap) (hq : takesX K C D = true) (k : Q true s) :
    wpAny (model prog w) A (excMatches (.ref a) D) Q E s := by
  obtain ⟨h, g, d, t, os⟩ := s
  obtain ⟨oe, vs, ge, ce, _, _⟩ := x
  unfold takesX at hq
  rw [Bool.and_eq_true] at hq
  obtain ⟨h1, h2⟩ := hq
  obtain ⟨L3, L5, L1⟩ := PySem.W.kit_cls (M := model prog w) X (beq_iff_eq.mp h1)
  have L2 := PySem.W.looks_subIn (M := model prog w) X (beq_iff_eq.mp h2)
  have L4 : PySem.W.Looks (model prog w) h (typeOf (.ref a)) (.ref C) := ce ▸ (PySem.W.Looks.ld ge).andThen .now
  have L0 : PySem.W.Looks (model prog w) h (isSubtype (.type "type") (.type "tuple")) false := PySem.W.Looks.of_pure tc_notTuple
  have LI : PySem.W.Looks (model prog w) h (isInstance D (.type "tuple")) false := L3.andThen L0
  have LX : PySem.W.Looks (model prog w) h (isExcClass D) true := L5.andThen (by simpa using L2)
  unfold excMatches
  refine wpAny_bind (LI.at ?_)
  simp only [Bool.false_eq_true, if_false]
  refine wpAny_bind (wpAny_pure ?_)
  simp only [List.forIn_cons, List.forIn_nil]
  refine wpAny_bind (wpAny_bind (wpAny_bind (LX.at ?_)))
  simp only [Bool.not_true, Bool.false_eq_true, if_false]
  refine wpAny_pure (wpAny_pure ?_)
  refine wpAny_bind (L4.at ?_)
  refine wpAny_bind (wpAny_bind (wpAny_bind (L1.at ?_)))
  simp only [if_true]
  refine wpAny_pure (wpAny_pure ?_)
  exact wpAny_pure k
end
end L2
namespace L2
open PySem PySem.Spec PyProof.Rows

def Means (X : Cx) (x : Str) (u : Value) : Prop := Gl X x ∧ (x == ("__debug__" : Str)) = false ∧ (X.mg x = some u ∨ X.mg x = none ∧ bootBuiltins x = some u ∧ x ≠ "__name__")
theorem ld_means {X : Cx} {E : Value → Shared → Prop} {pins : List (Addr × Obj)} {s : Shared} {σ : St} {H : Hp} {x : Str} {u : Value} {pos : Pos} {Q : Value → Shared → Prop} (I : Inv X pins σ H s) (m : Means X x u) (h : Q u s) : wpAny (model X.prog X.w) X.A (eval (.Name x pos) X.env) Q E s := by
  obtain ⟨hg, hd, hm | ⟨hm, hv, hn⟩⟩ := m
  · exact ld_glob I hg hm h hd
  · exact ld_blt I hg hm hv h hn hd

def tTry (K : PySem.W.Frag) (i : Nat) (C' : Value) (tb : TSX) (th : Addr → TS) : TS := fun D σ H => tb D σ H fun σ' C dd H' => takesX K C C' = true ∧ ∀ a, H' a = none →
  th a { nx := fun σ'' H'' => D.nx (σ''.set i none) H'', rt := D.rt, bk := fun σ'' H'' => D.bk (σ''.set i none) H'', ct := fun σ'' H'' => D.ct (σ''.set i none) H'' } (σ'.set i (some (.ref a))) (upd H' a (.ext (ExcAt a C dd)))
theorem ps_try {X : Cx} {i : Nat} {x n : Str} {C' : Value} {body suite : List Stmt} {b₀ : Stmt} {tb : TSX} {th : Addr → TS} {np hpos pos : Pos} (hst : X.stack = X.env :: X.outer ∧ X.env.frame = some X.env.locals) (hN : X.N.Nodup) (hi : X.N[i]? = some n)
    (hk : X.env.scope.names.lookup n = some .local) (hm : Means X x C') (hb : PSsX X body tb) (hs : ∀ a, PSs (X.hand a) (b₀ :: suite) (th a)) :
    PS X (.Try body [.ExceptHandler (some (.Name x np)) (some n) (b₀ :: suite) hpos] [] [] pos) (tTry X.K i C' tb th) := by
  intro pins s σ H D I h
  refine wpAny_Try_except (wpAny_mono (hb pins s σ H D _ I h) (fun f s1 q => ?_) fun e s1 q => ?_)
  · cases f with
    | next => exact wpAny_execs_nil q
    | brk => exact q
    | cont => exact q
    | ret u => exact q
  · obtain ⟨h0, a, C, dd, σ', H', rfl, J, ⟨n1, n2, oe, vs, T0, oT, ts, g1, g2, gd, g3, g4, g5, g6, g7, g8, g9, g10⟩, fr0, tk, ht⟩ := q
    refine look_next (base := X.base) (outer := X.outer) (by rw [J.ok.frames, hst.1]) (by rw [← hst.1]; exact J.stack) hst.2 g1 g3 g4 g8 g9 g10 g5 fun h1 h' T o1 o2 lb => ?_
    rw [← hst.1] at lb
    have hTT : T ≠ T0 := fun z => by
      obtain ⟨o, q⟩ := o2
      rw [← z, lb.new] at q
      cases q
    have hT : s1.heap.get? T = none := (o1 T hTT).symm.trans lb.new
    have hTa : T ≠ a := fun z => by
      rw [z, g1] at hT
      cases hT
    have uT : H' T = none := by
      cases q : H' T with
      | none => rfl
      | some o =>
        obtain ⟨ob, z⟩ := (J.hok T o q).there
        rw [hT] at z
        cases z
    obtain ⟨oe', q1, q2, q3, q4⟩ := lb.exc oe vs ((o1 a (Ne.symm g5)).trans g1) g3
    obtain ⟨oT', ts', t1, t2, t3⟩ := lb.tr
    have x2 : ExcAt a C dd h' := ⟨oe', _, q1, q2.trans g2, q3.trans gd, q4⟩
    have hne : ∀ {b : Addr} {o : HO}, H' b = some o → b ≠ a := fun {b o} e z => by
      rw [z, n2] at e
      cases e
    have hne0 : ∀ {b : Addr} {o : HO}, H' b = some o → b ≠ T0 := fun {b o} e z => by
      rw [z, g7] at e
      cases e
    have upK : ∀ b o, H' b = some o → upd H' a (.ext (ExcAt a C dd)) b = some o := fun b o e => (upd_ne (hne e)).trans e
    have J2 : Inv X pins σ' (upd H' a (.ext (ExcAt a C dd))) { s1 with heap := h' } := J.flown (t' := s1.toks) (ch := [a, T0]) fr0
      (fun b hb => by
        rcases List.mem_cons.mp hb with z | z
        · rw [z]; exact ⟨n1, oe, vs, g1, g3⟩
        · rw [List.mem_singleton.mp z]; exact ⟨g6, oT, ts, g8, g9⟩)
      (fun b o hb hf e => lb.keep b o (fun z => hb (by simp [z])) hf ((o1 b fun z => hb (by simp [z])).trans e))
      (fun b o hb e => lb.slot b o (fun z => hb (by simp [z])) ((o1 b fun z => hb (by simp [z])).trans e))
      (fun b o hb e z => (upd_ne fun z => hb (by simp [z])).trans z) (fun b xs e => upK b _ e) (fun b o u e => upK b _ e) (fun b ps e => ⟨#[], by rw [upK b _ e]; simp⟩)
      (fun b o e => by
        by_cases hb : b = a
        · subst hb
          rw [upd_same] at e
          cases e
          exact ⟨x2, ⟨_, q1⟩, fun k1 k2 ⟨o, v, e1, r⟩ k => ⟨o, v, k _ e1, r⟩⟩
        · rw [upd_ne hb] at e
          refine (J.hok b o e).stay (fun c u z hc => ?_) (fun c z => upK c _ z) fun c xs z => upK c _ z
          have hc2 : ∃ o, H' c = some o := z.elim (fun z => ⟨o, by rw [z]; exact e⟩) fun z => ⟨_, z⟩
          obtain ⟨o2, hc2⟩ := hc2
          refine lb.keep c u (hne hc2) (fun hm => ?_) ((o1 c (hne0 hc2)).trans hc)
          have := J.stkFree c hm
          rw [hc2] at this
          cases this)
    refine wpAny_handleBy_cons (codeAny_handlers_test ?_) (by intro q; cases q)
    refine ld_means (X := X.hand a) (J2.hand a) hm (takes_ok J2.kIn x2 tk (codeAny_handlers_suite_as ?_))
    refine flight (s := { s1 with heap := h' }) q1 q4 (by have := (Array.getElem?_eq_some_iff.mp g4).1; simp [this]) t1 t2 t3 fun h'' k1 k2 => ?_
    have J3 : Inv X pins σ' (upd H' a (.ext (ExcAt a C dd))) { s1 with heap := h'' } := J2.flown (t' := s1.toks) (ch := [T]) J.fr0
      (fun b hb => by rw [List.mem_singleton.mp hb]; exact ⟨hT, oT', ts', t1, t2⟩)
      (fun b o hb _ e => (k1 b fun z => hb (by simp [z])).trans e) (fun b o hb e => ⟨o.slots, (k1 b fun z => hb (by simp [z])).trans e⟩) (fun b o _ _ z => z) (fun _ _ z => z) (fun _ _ _ z => z) (fun b ps e => ⟨#[], by rw [e]; simp⟩)
      (fun b o e => by
        refine (J2.hok b o e).stay (fun c u z hc => (k1 c fun q => ?_).trans hc) (fun _ z => z) fun _ _ z => z
        subst q
        have : upd H' a (.ext (ExcAt a C dd)) c = none := (upd_ne hTa).trans uT
        rcases z with z | z
        · rw [z, e] at this
          cases this
        · rw [z] at this
          cases this)
    refine store_ok (X := X.hand a) (J3.hand a) hN hi (.inl hk) (v := .ref a) rfl (fun s4 J4 => ?_) (.inr hk)
    refine wpAny_mono (hs a pins s4 _ _ _ J4 (ht a n2)) (fun f s5 q => ?_) fun _ _ z => z.elim
    cases f with
    | next => obtain ⟨σ5, H5, J5, q5⟩ := q; exact goes_ok (J5.unhand I.ok) hN hi hk fun s6 J6 => ⟨_, _, J6, q5⟩
    | brk => obtain ⟨σ5, H5, J5, q5⟩ := q; exact goes_ok (J5.unhand I.ok) hN hi hk fun s6 J6 => ⟨_, _, J6, q5⟩
    | cont => obtain ⟨σ5, H5, J5, q5⟩ := q; exact goes_ok (J5.unhand I.ok) hN hi hk fun s6 J6 => ⟨_, _, J6, q5⟩
    | ret u => obtain ⟨v, σ5, H5, J5, r5, q5⟩ := q; exact goes_ok (J5.unhand I.ok) hN hi hk fun s6 J6 => ⟨v, _, _, J6, r5, q5⟩
end L2
namespace L2
open PySem PySem.Spec PyProof.Rows

def excGet (K : PySem.W.Frag) (C : Addr) : Bool := PySem.W.findIn K (.ref C) "__getattribute__" == some (some (.builtin "BaseException.__getattribute__")) && PySem.W.findIn K (.ref C) "__getattr__" == some none
  && PySem.W.findIn K (.ref C) "__class__" == some (some (.builtin "object.__class__")) && PySem.W.specialIn K (.builtin "object.__class__") "__get__" == some (some (.builtin "getset_descriptor.__get__"))
  && PySem.W.takesIn K (.builtin "object.__class__") == some true && PySem.W.mroIn K C (.type "object") == some true && PySem.W.mroIn K C (.type "BaseException") == some true && (PySem.W.clsIn K C).isSome
section
variable {prog : Program} {w : World} {A : Around} {E : Value → Shared → Prop} {s : Shared} {K : PySem.W.Frag} {a C : Addr} {ox : Obj} {od : Option Obj}
theorem find_cls (hq : excGet K C = true) : PySem.W.findObj K C od "__class__" = some (.bind (.builtin "getset_descriptor.__get__") (.builtin "object.__class__")) := by
  unfold excGet at hq
  simp only [Bool.and_eq_true, beq_iff_eq] at hq
  obtain ⟨⟨⟨⟨⟨⟨⟨_, _⟩, h3⟩, h4⟩, h5⟩, _⟩, _⟩, h8⟩ := hq
  obtain ⟨cd, hc⟩ := Option.isSome_iff_exists.mp h8
  unfold PySem.W.findObj
  rw [hc, Option.bind_some, h3, Option.bind_some]
  simp [h4, h5]
theorem check_ga {nameV : Value} {Q : Unit → Shared → Prop} (LI : PySem.W.Looks (model prog w) s.heap (isInstance (.ref a) (.type "BaseException")) true) (k : Q () s) : wpAny (model prog w) A (checkBuiltinCall "BaseException.__getattribute__" ⟨[.ref a, nameV], []⟩) Q E s := by
  obtain ⟨hh, g, d, t, os⟩ := s
  have hk : builtinKind "BaseException.__getattribute__" = some .slot := by decide +kernel
  have hsplit : splitId "BaseException.__getattribute__" = some ("BaseException", "__getattribute__") := by decide +kernel
  have ha := F.args_bexc_ga (.ref a) nameV
  simp only [checkBuiltinCall, hk, hsplit]
  refine wpAny_bind (LI.at ?_)
  repeat (first | assumption | wp_step)
theorem ga_body {tk : Tok} {P : Value → Shared → Prop} {g b : Value} (L0 : PySem.W.Looks (model prog w) s.heap (typeOf (.ref a)) (.ref C)) (L3 : PySem.W.Looks (model prog w) s.heap (Builtin.ObjectAttr.find (.ref a) (.ref C) "__class__") (.bind g b)) (h : wpAny (model prog w) A (call g [b, .ref a, .ref C]) P E s) :
    wpAny (model prog w) A (Builtin.«object.__getattribute__» ⟨[.ref a, .str "__class__" tk], []⟩) (fun fin s' => match fin with | .done (.ret v) => P v s' | _ => False) E s := by
  obtain ⟨hh, gg, d, t, os⟩ := s
  unfold Builtin.«object.__getattribute__»
  refine wpAny_bind (wpAny_pure (a := (Value.ref a, [Value.str "__class__" tk])) ?_)
  refine wpAny_bind (wpAny_pure (a := ("__class__" : Str)) ?_)
  refine wpAny_bind (L0.at (wpAny_bind (L3.at ?_)))
  show wpAny _ _ (holding [b] (call g [b, .ref a, .ref C]) >>= ret) _ _ _
  exact wpAny_bind (wpAny_holding (wpAny_mono h (fun v s' z => wpAny_pure z) fun _ _ z => z))
theorem exc_class {Q : Option Value → Shared → Prop} (hq : excGet K C = true) (X : K.In s.heap) (I : PySem.W.InstAt s.heap a ox C od) (h : Q (some (.ref C)) { s with toks := s.toks + 1 }) : wpAny (model prog w) A (getAttr? (.ref a) "__class__") Q E s := by
  have hf := find_cls (od := od) hq
  unfold excGet at hq
  simp only [Bool.and_eq_true, beq_iff_eq] at hq
  obtain ⟨⟨⟨⟨⟨⟨⟨h1, h2⟩, h3⟩, h4⟩, h5⟩, h6⟩, h7⟩, h8⟩ := hq
  obtain ⟨hh, g, d, t, os⟩ := s
  have L0 := I.type (M := model prog w)
  have L1 := PySem.W.looks_findIn (M := model prog w) X h1
  have L2 := PySem.W.looks_findIn (M := model prog w) X h2
  have L3 := PySem.W.looks_find (M := model prog w) X I hf
  have L4 := PySem.W.looks_mroIn (M := model prog w) X h7
  have LI : PySem.W.Looks (model prog w) hh (isInstance (.ref a) (.type "BaseException")) true := L0.andThen L4
  have f3 := F.attr_ValueError.ga.bind (.ref a)
  have hk : builtinKind "BaseException.__getattribute__" = some .slot := by decide +kernel
  have hsplit : splitId "BaseException.__getattribute__" = some ("BaseException", "__getattribute__") := by decide +kernel
  have hx2 : (Value.builtin "BaseException.__getattribute__" == Value.builtin "object.__getattribute__") = false := by decide +kernel
  unfold getAttr? getAttrBy? getAttrBy
  refine wpAny_bind (wpAny_mkText (wpAny_bind (wpAny_attempt (wpAny_holding (wpAny_bind (L0.at (wpAny_bind (L1.at ?_))))))))
  simp only [hx2, Bool.and_false, Bool.false_eq_true, if_false]
  unfold getAttrByItsOwn hookBefore
  simp only [onTheHeap, if_true]
  refine wpAny_bind (L2.at ?_)
  refine wpAny_bind (wpAny_attempt (wpAny_holding ?_))
  unfold callGetattribute boundAndCalled
  simp only [Bool.false_and, Bool.false_eq_true, if_false]
  rw [f3]
  refine wpAny_bind (wpAny_pure ?_)
  refine wpAny_call (codeAny_call_builtin F.attr_ValueError.ga.plain F.entry_bexc_ga (check_ga (s := ⟨hh, g, d, t + 1, os⟩) LI ?_))
  refine wpAny_mono (ga_body (s := ⟨hh, g, d, t + 1, os⟩) (P := fun v s' => v = .ref C ∧ s' = ⟨hh, g, d, t + 1, os⟩) (E := fun _ _ => False) L0 L3 (wpAny_call (PySem.W.class_get (s := ⟨hh, g, d, t + 1, os⟩) (ox := ox) (od := od) X I h6 ⟨rfl, rfl⟩))) (fun fin s' z => ?_) fun _ _ z => z.elim
  rcases fin with (_ | _ | _ | _) | _ <;> first | (obtain ⟨rfl, rfl⟩ := z; exact PySem.W.handed_on rfl (wpAny_pure h)) | exact z.elim

end

def clsV : V → Value
  | .ref D => .ref D
  | .ty T => .type T
  | _ => .none

end L2
namespace L2
open PySem PySem.Spec PyProof.Rows

abbrev bmV0 : List Value := [.type "ValueError", .type "Exception", .type "BaseException", .type "object"]

section
variable {prog : Program} {w : World} {A : Around} {E : Value → Shared → Prop} {s : Shared} {K : PySem.W.Frag} {a C : Addr} {f : Str} {v : Value}
end

end L2
namespace L2
open PySem PySem.Spec PyProof.Rows
section
variable {prog : Program} {w : World} {A : Around} {E : Value → Shared → Prop} {h : Heap} {g : Array GenState} {d : Drawn} {t : Nat} {os : OsState}
variable {nm q : Str} {C N : Addr} {bs bm bmB : List Value} {hdct : Bool} {sn : List Str} {sub : List Value} {ab : Bool} {col : Option Bool} {dd : Option Addr} {k0 k1 k2 k3 k5 : Option Value} {B newId initId : String}
end

def excInI (K : PySem.W.Frag) (C fI : Addr) : Bool := match K.lookup C with
  | some ⟨.type "type", _, .cls cd, sl⟩ => (match cd.mro, sl.toList with
    | .ref C' :: bm, [_, _, _, _, some (.builtin n), _] => C' == C && n == "ValueError.__new__" && !cd.hasDel && PySem.W.tailIn K bmV0 bm && PySem.W.nsOkIn K cd.ns && PySem.W.nsIn K cd.ns "__init__" == some (some (.ref fI))
    | _, _ => false)
  | _ => false
end L2
namespace L2
open PySem PySem.Spec PyProof.Rows
structure MkX (K : PySem.W.Frag) (C fI : Addr) : Prop where
  ex : excInI K C fI = true
  fn : PySem.W.typeIn K (.ref fI) = some (.type "function")
  kp : PySem.W.keepIn K (.ref C) = true
section
variable {X : Cx} {CX : CXT} {k : Nat} {f C : Addr} {fd : FuncData} {ps : List Str} {sp : Sp} {dvs : List V} {ds : List Value} {E : XK} {x : Str} {p pos : Pos} {e : Expr} {es : List Expr} {t : TA}
end
end L2
namespace L2
open PySem PySem.Spec PyProof.Rows

end L2
namespace L2
open PySem PySem.Spec PyProof.Rows

section
variable {prog : Program} {w : World} {A : Around} {E : Value → Shared → Prop} {s : Shared} {K : PySem.W.Frag} {a C : Addr} {ox od : Obj} {f : Str} {v : Value}
end

def ExcOk (a C : Addr) (dd : Option Addr) (h : Heap) : Prop := ExcAt a C dd h ∧ ∀ d, dd = some d → ∃ o, h.get? d = some o
theorem kitx_excD {K : PySem.W.Frag} {a C : Addr} {dd : Option Addr} (hq : excGet K C = true) : PySem.W.KitX K (.ref a) (.ref C) (ExcOk a C dd) where
  ty := fun _ _ _ ⟨⟨oe, vs, ge, ce, _, _⟩, _⟩ => ce ▸ (PySem.W.Looks.ld ge).andThen .now
  it := fun M h X _ => by
    unfold excGet at hq
    simp only [Bool.and_eq_true, beq_iff_eq] at hq
    have hcD := hq.2
    unfold PySem.W.clsIn at hcD
    split at hcD
    · rename_i c' d' cd' sl' ho
      intro A' Q' E' s' k q
      unfold isType loadHead
      exact wpAny_bind (wpAny_loadPart (k _ _ (X _ _ ho)) (wpAny_pure q))
    · cases hcD
  ne := fun h tp dd its n sl X htp => by
    unfold excGet at hq
    simp only [Bool.and_eq_true, beq_iff_eq] at hq
    have hcD := hq.2
    refine Bool.eq_false_iff.mpr fun q => ?_
    have e : C = tp := Value.ref.inj (beq_iff_eq.mp q)
    subst e
    unfold PySem.W.clsIn at hcD
    split at hcD
    · rename_i c' d' cd' sl' ho
      have z := (X _ _ ho).symm.trans htp
      cases z
    · cases hcD
  ca := fun {_ _ _ _ _ s} X ⟨⟨oe, vs, ge, ce, de, da⟩, hd⟩ k => by
    cases dd with
    | none => exact exc_class hq X (ox := oe) (od := none) ⟨ge, ce, by unfold PySem.W.notCls; rw [da], by rw [de]; trivial⟩ k
    | some d =>
      obtain ⟨o, ho⟩ := hd d rfl
      exact exc_class hq X (ox := oe) (od := some o) ⟨ge, ce, by unfold PySem.W.notCls; rw [da], by rw [de]; exact ho⟩ k
def rIsXD (K : PySem.W.Frag) : List V → Hp → VK → Prop := fun xs H Q => ∃ a c C dd b, xs = [.ref a, c] ∧ H a = some (.ext (ExcAt a C dd)) ∧ (∀ d, dd = some d → ∃ o, H d = some o) ∧ excGet K C = true ∧ PySem.W.kitOne K (.ref C) (clsV c) = some b ∧ Q (.bl b) H
theorem call_isinstXD {X : Cx} : CallR X (.builtin "isinstance") (rIsXD X.K) := by
  intro pins s σ H xs us Q I r h
  obtain ⟨a, c, C, dd, b, rfl, ha, hd, hq, e, q⟩ := h
  obtain ⟨u, v, rfl, rx, ry⟩ := r.two
  cases (show u = Value.ref a from rx)
  have x : ExcAt a C dd s.heap := (show ObjOk X.prog X.w H s.heap a (.ext (ExcAt a C dd)) from I.hok a _ ha).1
  have hv : PySem.W.kitOne X.K (.ref C) v = some b := by
    cases c with
    | ref D => cases (show v = Value.ref D from ry); exact e
    | ty T => cases (show v = Value.type T from ry); exact e
    | _ => simp [clsV, PySem.W.kitOne, PySem.W.kitCls] at e
  exact PySem.W.kia_one (kitx_excD (dd := dd) hq) I.kIn ⟨x, fun d z => by
    obtain ⟨o, ho⟩ := hd d z
    exact (I.hok d o ho).there⟩ hv (fun z => nomatch z) fun tk => ⟨.bl b, H, I.tok tk, rfl, q⟩
end L2
namespace L2
open PySem PySem.Spec PyProof.Rows

section
variable {X : Cx}
end
end L2
namespace L2
open PySem PySem.Spec PyProof.Rows

section
variable {X : Cx}

end
end L2
namespace L2
open PySem PySem.Spec PyProof.Rows

end L2
namespace L2
open PySem PySem.Spec PyProof.Rows

section
variable {X : Cx}
def rangeI (lo : Int) (n : Nat) : List Int := (List.range n).map fun (i : Nat) => lo + (i : Int)
theorem items_vals {lo : Int} : ∀ (n : Nat) (us : List Value), us.length = n → (∀ (i : Nat) (v : Value), us[i]? = some v → ∃ t, v = .int (lo + (i : Int)) t) → Vals ((rangeI lo n).map V.int) us := by
  intro n
  induction n generalizing lo with
  | zero =>
    intro us hl _
    have : us = [] := List.length_eq_zero_iff.mp hl
    subst this
    exact .nil
  | succ n ih =>
    intro us hl h
    cases us with
    | nil => simp at hl
    | cons u us =>
      obtain ⟨t, rfl⟩ := h 0 u rfl
      have e : rangeI lo (n + 1) = (lo + ((0 : Nat) : Int)) :: rangeI (lo + 1) n := by
        unfold rangeI
        rw [List.range_succ_eq_map, List.map_cons, List.map_map]
        congr 1
        apply List.map_congr_left
        intro i _
        show lo + ((Nat.succ i : Nat) : Int) = lo + 1 + (i : Int)
        omega
      rw [e, List.map_cons]
      refine .cons ⟨t, rfl⟩ (ih us (by simpa using hl) fun i v hv => ?_)
      obtain ⟨t', rfl⟩ := h (i + 1) v (by simpa using hv)
      exact ⟨t', by congr 1; omega⟩
theorem call_list_rng (hc : X.calm = true) : CallR X (.type "list") (fun xs H Q => ∃ (p : Addr) (lo hi : Int), xs = [.ref p] ∧ H p = some (.rng lo hi) ∧ -(2 ^ 62) ≤ lo ∧ lo < 2 ^ 62 ∧ -(2 ^ 62) ≤ hi ∧ hi < 2 ^ 62 ∧ (hi - lo).toNat ≤ 1000 ∧ ∀ l, H l = none → Q (.ref l) (upd H l (.lst ((rangeI lo (hi - lo).toNat).map V.int)))) := by
  intro pins s σ H xs us Q I r h
  obtain ⟨p, lo, hi, rfl, hp, l0, l1, h0, h1, hn, q⟩ := h
  obtain ⟨u, rfl, rx⟩ := vals1 r
  cases rx
  obtain ⟨t, u, v, ho⟩ := show ∃ t u v, s.heap.get? p = some { cls := .type "range", data := .fields #[.int lo t, .int hi u, .int 1 v] } from I.hok _ _ hp
  refine call_list_range (n := (hi - lo).toNat) (I.ok.hd hc) ho (small_one l0 l1 h0 h1) (by rw [rangeSize_one]; split <;> omega) (by omega) fun h' tk acc' c' hk hS hI => ?_
  refine ⟨.ref s.heap.objs.size, _, I.laid (t' := tk) hk (Nat.le_refl _) (show ObjOk X.prog X.w _ h' _ (.lst ((rangeI lo (hi - lo).toNat).map V.int)) from ⟨?_, acc'.toList, c', ?_, ?_⟩), rfl, q _ (I.hok.fresh (Nat.le_refl _))⟩
  · unfold rangeI
    rw [List.length_map, List.length_map, List.length_range]
    exact Nat.le_of_lt (small1000 hn)
  · refine items_vals _ _ (by rw [Array.length_toList]; exact hI.1) fun i v hv => ?_
    obtain ⟨t, rfl⟩ := hI.2 i v (by simpa using hv)
    exact ⟨t, by rw [Int.mul_one]⟩
  · rw [Array.toArray_toList]
    exact hS
end
end L2
namespace L2
open PySem PySem.Spec PyProof.Rows

section
variable {prog : Program} {w : World} {A : Around} {E : Value → Shared → Prop} {I : Addr} {fp wr : List Addr} {G : Array GenState → Array GenState → Prop} {n : Nat} {P : Nat → Value → Prop} {St : Nat → Shared → Prop}
end
section
variable {prog : Program} {w : World} {A : Around} {E : Value → Shared → Prop} {s : Shared}
end
section
variable {X : Cx}

end
end L2
namespace BT

def numI (bs : List Int) : Int := bs.foldl (fun n b => n * 2 + b) 0
def bitsI (n : Int) (w : Nat) : List Int := (List.range w).map fun k => n / 2 ^ (w - 1 - k) % 2
def padN (k : Nat) : Nat := (8 - k % 8) % 8
def pad (bs : List Int) : List Int := bs ++ List.replicate (padN bs.length) 0
def cut8 (P : List Int) (j : Nat) : List Int := (P.drop (8 * j)).take 8
def eightM (bs : List Int) : List Int := (List.range ((pad bs).length / 8)).map fun j => numI (cut8 (pad bs) j)
def readM (nums : List Int) (t w : Nat) : List Int := (List.range w).map fun i => nums.getD ((t + i) / 8) 0 / 2 ^ (7 - (t + i) % 8) % 2
def B01 (bs : List Int) : Prop := ∀ b ∈ bs, b = 0 ∨ b = 1
theorem bits_len (n : Int) (w : Nat) : (bitsI n w).length = w := by simp [bitsI]
theorem bits_01 (n : Int) (w : Nat) : B01 (bitsI n w) := fun b hb => by
  obtain ⟨k, _, rfl⟩ := List.mem_map.mp hb
  omega
theorem B01.append {xs ys : List Int} (h : B01 xs) (k : B01 ys) : B01 (xs ++ ys) := fun b hb => (List.mem_append.mp hb).elim (h b) (k b)
theorem B01.zeros (k : Nat) : B01 (List.replicate k 0) := fun b hb => .inl (List.eq_of_mem_replicate hb)
theorem foldl_from : ∀ (ys : List Int) (a : Int), ys.foldl (fun n b => n * 2 + b) a = a * 2 ^ ys.length + numI ys
  | [], a => by simp [numI]
  | y :: ys, a => by
    have h1 := foldl_from ys (a * 2 + y)
    have h2 := foldl_from ys (0 * 2 + y)
    show ys.foldl (fun n b => n * 2 + b) (a * 2 + y) = a * 2 ^ (ys.length + 1) + ys.foldl (fun n b => n * 2 + b) (0 * 2 + y)
    rw [h1, h2, Int.pow_succ]
    have e1 : (a * 2 + y) * (2 : Int) ^ ys.length = a * (2 ^ ys.length * 2) + y * 2 ^ ys.length := by rw [Int.add_mul, Int.mul_assoc, Int.mul_comm 2]
    have e2 : (0 * 2 + y) * (2 : Int) ^ ys.length = y * 2 ^ ys.length := by simp
    rw [e1, e2]
    omega
theorem num_app (xs ys : List Int) : numI (xs ++ ys) = numI xs * 2 ^ ys.length + numI ys := by
  unfold numI
  rw [List.foldl_append]
  exact foldl_from ys _
theorem num_snoc (xs : List Int) (b : Int) : numI (xs ++ [b]) = numI xs * 2 + b := by
  unfold numI
  rw [List.foldl_append]
  rfl
theorem pow_pos2 (k : Nat) : (0 : Int) < 2 ^ k := Int.pow_pos (by decide)
theorem num_range : ∀ {bs : List Int}, B01 bs → 0 ≤ numI bs ∧ numI bs < 2 ^ bs.length := by
  intro bs h
  induction hl : bs.length generalizing bs with
  | zero =>
    have : bs = [] := List.eq_nil_of_length_eq_zero hl
    subst this
    exact ⟨Int.le_refl _, by decide⟩
  | succ n ih =>
    have hne : bs ≠ [] := fun z => by rw [z] at hl; cases hl
    obtain ⟨xs, b, rfl⟩ : ∃ xs b, bs = xs ++ [b] := ⟨bs.dropLast, bs.getLast hne, (List.dropLast_concat_getLast hne).symm⟩
    rw [List.length_append, List.length_singleton] at hl
    obtain ⟨h1, h2⟩ := ih (bs := xs) (fun c hc => h c (List.mem_append_left _ hc)) (by omega)
    have hb := h b (by simp)
    rw [num_snoc, Int.pow_succ]
    omega
theorem num_bit {bs : List Int} (h : B01 bs) {i : Nat} {b : Int} (hi : bs[i]? = some b) : numI bs / 2 ^ (bs.length - 1 - i) % 2 = b := by
  obtain ⟨hlt, he⟩ := List.getElem?_eq_some_iff.mp hi
  have e : bs = (bs.take i ++ [b]) ++ bs.drop (i + 1) := by
    rw [List.append_assoc, List.singleton_append, ← he, ← List.drop_eq_getElem_cons hlt, List.take_append_drop]
  have hy : B01 (bs.drop (i + 1)) := fun c hc => h c (List.mem_of_mem_drop hc)
  obtain ⟨r1, r2⟩ := num_range hy
  have hl : bs.length - 1 - i = (bs.drop (i + 1)).length := by rw [List.length_drop]; omega
  have hb := h b (List.mem_of_getElem? hi)
  rw [hl]
  have en : numI bs = (numI (bs.take i) * 2 + b) * 2 ^ (bs.drop (i + 1)).length + numI (bs.drop (i + 1)) := by
    conv => lhs; rw [e]
    rw [num_app, num_snoc]
  have hp := pow_pos2 (bs.drop (i + 1)).length
  have ed : numI bs / 2 ^ (bs.drop (i + 1)).length = numI (bs.take i) * 2 + b := by
    rw [en, Int.add_comm, Int.add_mul_ediv_right _ _ (by omega), Int.ediv_eq_zero_of_lt r1 r2, Int.zero_add]
  rw [ed]
  omega
theorem pad_len (bs : List Int) : (pad bs).length % 8 = 0 ∧ (pad bs).length < bs.length + 8 ∧ bs.length ≤ (pad bs).length := by
  unfold pad padN
  rw [List.length_append, List.length_replicate]
  omega
theorem eight_len (bs : List Int) : 8 * (eightM bs).length = (pad bs).length := by
  have := (pad_len bs).1
  simp only [eightM, List.length_map, List.length_range]
  omega
theorem B01.pad {bs : List Int} (h : B01 bs) : B01 (pad bs) := h.append (B01.zeros _)

theorem read_eq {bs : List Int} (h : B01 bs) {t w : Nat} (hw : t + w ≤ (pad bs).length) : readM (eightM bs) t w = ((pad bs).drop t).take w := by
  refine List.ext_getElem? fun i => ?_
  by_cases hi : i < w
  · have hp : t + i < (pad bs).length := by omega
    have hpl := (pad_len bs).1
    have hj : (t + i) / 8 < (pad bs).length / 8 := by omega
    have e1 : (eightM bs).getD ((t + i) / 8) 0 = numI (cut8 (pad bs) ((t + i) / 8)) := by
      simp [eightM, List.getD, hj]
    have e2 : (cut8 (pad bs) ((t + i) / 8)).length = 8 := by
      unfold cut8
      rw [List.length_take, List.length_drop]
      omega
    have e3 : (cut8 (pad bs) ((t + i) / 8))[(t + i) % 8]? = some (pad bs)[t + i] := by
      unfold cut8
      rw [List.getElem?_take_of_lt (by omega), List.getElem?_drop]
      have : 8 * ((t + i) / 8) + (t + i) % 8 = t + i := by omega
      rw [this]
      simp [hp]
    have hc : B01 (cut8 (pad bs) ((t + i) / 8)) := fun c hc => h.pad c (List.mem_of_mem_drop (List.mem_of_mem_take hc))
    have e4 := num_bit hc e3
    rw [e2] at e4
    have e5 : (readM (eightM bs) t w)[i]? = some (pad bs)[t + i] := by
      unfold readM
      rw [List.getElem?_map, List.getElem?_range hi, Option.map_some, e1]
      congr 1
    rw [e5, List.getElem?_take_of_lt hi, List.getElem?_drop]
    simp [hp]
  · rw [List.getElem?_eq_none_iff.mpr (by simp [readM]; omega), List.getElem?_eq_none_iff.mpr (by rw [List.length_take]; omega)]
end BT
namespace L2
open PySem PySem.Spec PyProof.Rows

section
variable {X : Cx}
theorem call_intT : CallR X (.type "int") (fun xs H Q => ∃ z n, xs = [.str z] ∧ PySem.intText? z = some n ∧ z.length ≤ 640 ∧ Q (.int n) H) := by
  intro pins s σ H xs us Q I r h
  obtain ⟨z, n, rfl, hn, hl, q⟩ := h
  obtain ⟨u, rfl, rx⟩ := vals1 r
  obtain ⟨t, rfl⟩ := rx
  exact PySem.W.KIN.call_text hn hl ⟨.int n, H, I.tok _, ⟨_, rfl⟩, q⟩
theorem call_strI : CallR X (.type "str") (fun xs H Q => ∃ n : Int, xs = [.int n] ∧ n.natAbs.log2 < 1920 ∧ Q (.str (Str.ofString (toString n))) H) := by
  intro pins s σ H xs us Q I r h
  obtain ⟨n, rfl, hn, q⟩ := h
  obtain ⟨u, rfl, rx⟩ := vals1 r
  obtain ⟨t, rfl⟩ := rx
  exact PySem.P.str_of_int hn ⟨.str _, H, I.tok _, ⟨_, rfl⟩, q⟩
theorem mt_bits : MtR X "int.bit_length" (fun x xs H Q => ∃ n : Int, x = .int n ∧ xs = [] ∧ Q (.int ((Builtin.Int.intBits n : Nat) : Int)) H) := by
  intro pins s σ H x xs v us Q I rx rs h
  obtain ⟨n, rfl, rfl, q⟩ := h
  obtain ⟨t, rfl⟩ := rx
  cases rs
  exact call_int_bit_length ⟨.int _, H, I.tok _, ⟨_, rfl⟩, q⟩
end
end L2
namespace HT
open PySem PySem.Spec PyProof.Rows L2
section
open PySem.SeqAt
open PySem.AutoSeq1 (wpAny_loadPart')
open PySem.MeetsSeq PySem.MeetsSeq2 PySem.MeetsSeq3
end
end HT
namespace L2
open PySem PySem.Spec PyProof.Rows

def Two2 (K : PySem.W.Frag) (a : Addr) (z0 z1 : Str) : Prop := ∃ (t0 t1 : Tok) (n : Nat) (sl : Array (Option Value)), K.lookup a = some { cls := .type "tuple", dict := none, data := .seq #[.str z0 t0, .str z1 t1] n, slots := sl }
theorem Two2.sq {K : PySem.W.Frag} {a : Addr} {z0 z1 : Str} (h : Two2 K a z0 z1) (H : Hp) : SqT K H a [.str z0, .str z1] := by
  obtain ⟨t0, t1, n, sl, e⟩ := h
  exact .inr ⟨_, _, n, e, rfl, rfl, by show 2 ≤ sizeLine; decide, .cons ⟨_, rfl⟩ (.cons ⟨_, rfl⟩ .nil)⟩
section
variable {X : Cx}
end
end L2



namespace SL
open PySem L2
theorem iteTK {c : Bool} {A B : Prop} (h : c = true) (a : A) : if c = true then A else B := by
  rw [if_pos h]
  exact a
theorem iteFK {c : Bool} {A B : Prop} (h : c = false) (b : B) : if c = true then A else B := by
  rw [h]
  exact iteF b
theorem len_sm {n : Nat} {z : Str} (h : Tx n z) (hn : n ≤ 1000) : z.length ≤ sizeLine := Nat.le_of_lt (small1000 (Nat.le_trans h.1 hn))
theorem cps_len (z : Str) : z.cps.toList.length = z.length := by
  rw [Array.length_toList]
  rfl
theorem at0 {z : Str} (h : 1 ≤ z.length) : atI z.cps.toList 0 = some (hd z) := by
  have e := cps_len z
  unfold hd
  cases g : z.cps.toList with
  | nil =>
    rw [g] at e
    have : z.length = 0 := e.symm
    omega
  | cons c r =>
    exact atI_nat (j := 0) rfl

structure TS (mg : Str → Option Value) : Prop where
  len : mg "len" = none
  all : mg "all" = none
  fig : ∃ u, mg "FIGURES" = some u ∧ RelV (.str FIG) u
  sma : ∃ u, mg "SMALL_LETTERS" = some u ∧ RelV (.str SMA) u
  nam : ∃ u, mg "NAME_SIGNS" = some u ∧ RelV (.str NAM) u
  mar : ∃ u, mg "MARK_SIGNS" = some u ∧ RelV (.str MAR) u
  mf : ∃ u, mg "MOST_FIGURES" = some u ∧ RelV (.int 9) u
  ms : ∃ u, mg "MOST_SIGNS" = some u ∧ RelV (.int 12) u
  mi : ∃ u, mg "MOST_ITEMS" = some u ∧ RelV (.int 4) u
def spMo : Sp := fun vs H Q _ => ∃ (S z : Str), vs = [.str S, .str z] ∧ Tx 1000 z ∧ ∀ H', Same H H' → Q (.bl (madeM S z)) H'

def spTk (p : Str → Bool) : Sp := fun vs H Q _ => ∃ (v : V) (z : Str), vs = [v, .str z] ∧ Tx 1000 z ∧ ∀ H', Same H H' → Q (.bl (p z)) H'
def spWo (x : Str) : Sp := fun vs H Q _ => ∃ v : V, vs = [v] ∧ Q (.str x) H
def spIi : Sp := fun vs H Q _ => ∃ z : Str, vs = [.str z] ∧ Tx 1000 z ∧ ∀ H', Same H H' → Q (.bl (isItem z)) H'
section
variable {P : Program} {w : World} {K : PySem.W.Frag} {mg : Str → Option Value} {base : Heap}
theorem scMo : FnScope ["signs", "text"] ["signs", "text"] (defScope sMo) := ⟨rfl, rfl, rfl, by decide +kernel, rfl, by decide +kernel, by decide +kernel⟩
def scopeM : Scope := { kind := .function, names := [(".0", .local), ("sign", .local), ("signs", .free)], isGenerator := false, isCoroutine := false, more := [] }
theorem scM : BlkScope (defScope sMo) ["signs", "text"] ["sign"] ["signs"] [0] scopeM := ⟨rfl, by decide +kernel, by decide +kernel, by decide +kernel, rfl, by decide +kernel, by decide +kernel⟩
theorem ok_mo {f : Addr} {fd : FuncData} (F : Fun K "made_of" "made_of" sMo f fd) (T : TS mg) : FnOk P w K mg base CX0 1 f fd ["signs", "text"] spMo := by
  refine F.ok scMo (fun vs H Q E h => ?_) (fun cdv A outer s H vs Q E hr h => ?_)
  · obtain ⟨S, z, rfl, _⟩ := h
    rfl
  · obtain ⟨S, z, rfl, tz, k⟩ := h
    refine ⟨_, pss_one (ps_ret (pe_callB (call_allB rfl) (by rfl) T.all boot_all (pa_cons (pe_lc scM rfl rfl rfl (pi_str (pv 1)) (fun fp C s1 H1 => pg_name (i := 0) scM.nd rfl (Or.inl rfl)) (fun fp C s1 H1 => pts_nil)
      (fun fp C s1 H1 => pe_cmpR op_in_str (pv 0) (pv 1) (by with_unfolding_all rfl))) pa_nil))), ?_⟩
    refine ⟨_, rfl, z, 1000, rfl, tz, fun D hD => ?_⟩
    refine lc_str (z := z) (fun i ys H2 => ys = ((z.cps.toList.take i).map (hasC S)).map V.bl ∧ Same H H2 ∧ H2 D = some (.lst ys)) (len_sm tz (by decide)) ⟨rfl, (Same.refl H).upd_free hD, upd_same⟩
      (fun i ys H2 h => by rw [h.1, List.length_map, List.length_map, List.length_take]; exact Nat.min_le_left _ _) ?_ ?_
    · rintro i ys H2 c N M hc ⟨rfl, s2, hD2⟩ hN hM
      refine ⟨_, rfl, _, rfl, _, _, rfl, rfl, ?_⟩
      rw [StrLaws.found_one]
      refine hN _ H2 hD2 ⟨?_, s2.upd_free hD, upd_same⟩
      have hc' : z.cps.toList[i]? = some c := by simpa using hc
      rw [List.take_add_one, hc', List.map_append, List.map_append]
      rfl
    · rintro ys H2 ⟨rfl, s2, hD2⟩
      refine ⟨D, _, rfl, SqL.of hD2, ?_⟩
      rw [← cps_len, List.take_length, List.all_map]
      exact k H2 s2
theorem scNt : FnScope ["self", "text"] ["self", "text"] (defScope sNt) := ⟨rfl, rfl, rfl, by decide +kernel, rfl, by decide +kernel, by decide +kernel⟩
theorem ok_nt {f fM : Addr} {fd fdM : FuncData} (F : Fun K "takes" "Number.takes" sNt f fd) (T : TS mg) (FM : Fun K "made_of" "made_of" sMo fM fdM) (bM : Binds K fdM ["signs", "text"] []) (gM : mg "made_of" = some (.ref fM)) : FnOk P w K mg base CX0 2 f fd ["self", "text"] (spTk isNum) := by
  have GM : FnOk P w K mg base CX0 1 fM fdM ["signs", "text"] spMo := ok_mo FM T
  refine F.ok scNt (fun vs H Q E h => ?_) (fun cdv A outer s H vs Q E hr h => ?_)
  · obtain ⟨v, z, rfl, _⟩ := h
    rfl
  · obtain ⟨v, z, rfl, tz, k⟩ := h
    obtain ⟨u1, g1, r1⟩ := T.mf
    obtain ⟨u2, g2, r2⟩ := T.fig
    refine ⟨_, pss_cons (ps_if (pt_not (pt_chain op_le op_le pe_int (pe_callB call_len_str (by rfl) T.len PySem.boot_len (pa_cons (pv 1) pa_nil)) (pe_glob (v := .int 9) (by rfl) g1 r1))) (pss_one (ps_ret pe_bl)) pss_nil)
      (pss_one (ps_ret (pe_and (pe_call GM hr rfl gM FM.kp bM .nil pass0 (pa_cons (pe_glob (v := .str FIG) (by rfl) g2 r2) (pa_cons (pv 1) pa_nil))) (pe_one (pe_or (pe_cmpR op_eq (pv 1) pe_str (nomark _)) (pe_one (pe_cmpR op_ne (pe_ix ix_str (pv 1) pe_int (fun _ _ => rfl)) pe_str (nomark _)))))))), ?_⟩
    refine ⟨_, rfl, z, rfl, len_sm tz (by decide), _, _, rfl, rfl, _, rfl, ?_⟩
    have out : ∀ c : Bool, c = false → isNum z = c → Q (.bl false) H := fun c hc e => by
      have q := k H (Same.refl H)
      rw [e, hc] at q
      exact q
    by_cases h1 : 1 ≤ z.length
    · refine iteTK (decide_eq_true (by omega)) ?_
      refine ⟨_, _, rfl, rfl, _, rfl, ?_⟩
      by_cases h2 : z.length ≤ 9
      · refine iteFK (by rw [decide_eq_true (by omega)]; rfl) ?_
        refine ⟨_, rfl, FIG, z, rfl, tz, fun H1 s1 => ⟨_, rfl, ?_⟩⟩
        have ek : isNum z = (madeM FIG z && (decide (z = Str.ofString "0") || !decide ((⟨#[hd z]⟩ : Str) = Str.ofString "0"))) := by
          unfold isNum
          rw [decide_eq_true ⟨h1, h2⟩, Bool.true_and]
        have q := k H1 s1
        rw [ek] at q
        cases hm : madeM FIG z with
        | false =>
          rw [hm] at q
          exact iteF q
        | true =>
          rw [hm, Bool.true_and] at q
          refine iteT ⟨_, rfl, rfl, _, rfl, ?_⟩
          by_cases hz : z = Str.ofString "0"
          · rw [decide_eq_true hz, Bool.true_or] at q
            exact iteTK (decide_eq_true (by rw [hz])) q
          · rw [decide_eq_false hz, Bool.false_or] at q
            refine iteFK (decide_eq_false (fun y => hz (by injection y))) ?_
            refine ⟨_, rfl, _, _, hd z, rfl, rfl, len_sm tz (by decide), at0 h1, rfl, ?_⟩
            have e2 : decide (V.str (⟨#[hd z]⟩ : Str) = V.str (Str.ofString "0")) = decide ((⟨#[hd z]⟩ : Str) = Str.ofString "0") := decide_eq_decide.mpr ⟨fun y => by injection y, fun y => by rw [y]⟩
            rw [e2]
            exact q
      · refine iteTK (by rw [decide_eq_false (by omega)]; rfl) ?_
        refine out _ rfl ?_
        unfold isNum
        rw [decide_eq_false (fun y => h2 y.2)]
        rfl
    · refine iteFK (decide_eq_false (by omega)) ⟨_, rfl, iteT ?_⟩
      refine out _ rfl ?_
      unfold isNum
      rw [decide_eq_false (fun y => h1 y.1)]
      rfl
theorem scAt : FnScope ["self", "text"] ["self", "text"] (defScope sAt) := ⟨rfl, rfl, rfl, by decide +kernel, rfl, by decide +kernel, by decide +kernel⟩
theorem ok_at {f fM : Addr} {fd fdM : FuncData} (F : Fun K "takes" "Name.takes" sAt f fd) (T : TS mg) (FM : Fun K "made_of" "made_of" sMo fM fdM) (bM : Binds K fdM ["signs", "text"] []) (gM : mg "made_of" = some (.ref fM)) : FnOk P w K mg base CX0 2 f fd ["self", "text"] (spTk isName) := by
  have GM : FnOk P w K mg base CX0 1 fM fdM ["signs", "text"] spMo := ok_mo FM T
  refine F.ok scAt (fun vs H Q E h => ?_) (fun cdv A outer s H vs Q E hr h => ?_)
  · obtain ⟨v, z, rfl, _⟩ := h
    rfl
  · obtain ⟨v, z, rfl, tz, k⟩ := h
    obtain ⟨u1, g1, r1⟩ := T.ms
    obtain ⟨u2, g2, r2⟩ := T.sma
    obtain ⟨u3, g3, r3⟩ := T.nam
    refine ⟨_, pss_cons (ps_if (pt_not (pt_chain op_le op_le pe_int (pe_callB call_len_str (by rfl) T.len PySem.boot_len (pa_cons (pv 1) pa_nil)) (pe_glob (v := .int 12) (by rfl) g1 r1))) (pss_one (ps_ret pe_bl)) pss_nil)
      (pss_one (ps_ret (pe_and (pe_cmpR op_in_str (pe_ix ix_str (pv 1) pe_int (fun _ _ => rfl)) (pe_glob (v := .str SMA) (by rfl) g2 r2) (by with_unfolding_all rfl)) (pe_one (pe_call GM hr rfl gM FM.kp bM .nil pass0 (pa_cons (pe_glob (v := .str NAM) (by rfl) g3 r3) (pa_cons (pv 1) pa_nil))))))), ?_⟩
    refine ⟨_, rfl, z, rfl, len_sm tz (by decide), _, _, rfl, rfl, _, rfl, ?_⟩
    have out : ∀ c : Bool, c = false → isName z = c → Q (.bl false) H := fun c hc e => by
      have q := k H (Same.refl H)
      rw [e, hc] at q
      exact q
    by_cases h1 : 1 ≤ z.length
    · refine iteTK (decide_eq_true (by omega)) ?_
      refine ⟨_, _, rfl, rfl, _, rfl, ?_⟩
      by_cases h2 : z.length ≤ 12
      · refine iteFK (by rw [decide_eq_true (by omega)]; rfl) ?_
        refine ⟨_, rfl, _, _, hd z, rfl, rfl, len_sm tz (by decide), at0 h1, _, _, rfl, rfl, ?_⟩
        rw [StrLaws.found_one]
        have ek : isName z = (hasC SMA (hd z) && madeM NAM z) := by
          unfold isName
          rw [decide_eq_true ⟨h1, h2⟩, Bool.true_and]
        have e1 : decide (hd z ∈ SMA.cps.toList) = hasC SMA (hd z) := rfl
        rw [e1]
        refine ⟨_, rfl, ?_⟩
        cases hm : hasC SMA (hd z) with
        | false =>
          have q := k H (Same.refl H)
          rw [ek, hm] at q
          exact iteF q
        | true =>
          refine iteT ⟨_, rfl, NAM, z, rfl, tz, fun H1 s1 => ?_⟩
          have q := k H1 s1
          rw [ek, hm, Bool.true_and] at q
          exact q
      · refine iteTK (by rw [decide_eq_false (by omega)]; rfl) ?_
        refine out _ rfl ?_
        unfold isName
        rw [decide_eq_false (fun y => h2 y.2)]
        rfl
    · refine iteFK (decide_eq_false (by omega)) ⟨_, rfl, iteT ?_⟩
      refine out _ rfl ?_
      unfold isName
      rw [decide_eq_false (fun y => h1 y.1)]
      rfl
end
end SL
namespace SL
open PySem L2

structure Kd (K : PySem.W.Frag) (mg : Str → Option Value) (nm : Str) (C ft fw : Addr) (fdt fdw : FuncData) : Prop where
  mkn : MkN K C
  g : mg nm = some (.ref C)
  cls : Cls K C
  mt : Meth K C "takes" ft
  bt : Binds K fdt ["self", "text"] []
  mw : Meth K C "word" fw
  bw : Binds K fdw ["self"] []
section
variable {P : Program} {w : World} {K : PySem.W.Frag} {mg : Str → Option Value} {base : Heap}
theorem scIi : FnScope ["text"] ["text"] (defScope sIi) := ⟨rfl, rfl, rfl, by decide +kernel, rfl, by decide +kernel, by decide +kernel⟩
theorem ok_ii {f CN CA ftN fwN ftA fwA : Addr} {fd fdtN fdwN fdtA fdwA : FuncData} (F : Fun K "is_item" "is_item" sIi f fd)
    (N : Kd K mg "Number" CN ftN fwN fdtN fdwN) (A : Kd K mg "Name" CA ftA fwA fdtA fdwA)
    (GN : FnOk P w K mg base CX0 2 ftN fdtN ["self", "text"] (spTk isNum)) (GA : FnOk P w K mg base CX0 2 ftA fdtA ["self", "text"] (spTk isName)) :
    FnOk P w K mg base CX0 3 f fd ["text"] spIi := by
  refine F.ok scIi (fun vs H Q E h => ?_) (fun cdv A1 outer s H vs Q E hr h => ?_)
  · obtain ⟨z, rfl, _⟩ := h
    rfl
  · obtain ⟨z, rfl, tz, k⟩ := h
    refine ⟨_, pss_one (ps_ret (pe_or (pe_methD (CX := CX0) (pe_makeN N.mkn rfl N.g) hr pass0 (pa_cons (pv 0) pa_nil)) (pe_one (pe_methD (CX := CX0) (pe_makeN A.mkn rfl A.g) hr pass0 (pa_cons (pv 0) pa_nil))))), ?_⟩
    intro x dx h1 h2 h3
    have s0 : Same H (upd (upd H dx (.own x)) x (.ins CN dx [])) := ((Same.refl H).upd_free h2).upd_free h1
    refine ⟨x, CN, dx, [], ftN, fdtN, _, _, rfl, upd_same, rfl, N.cls, N.mt, GN, N.bt, _, rfl, .ref x, z, rfl, tz, fun H1 s1 => ⟨_, rfl, ?_⟩⟩
    cases e : isNum z with
    | true =>
      have q := k H1 (s0.trans s1)
      unfold isItem at q
      rw [e] at q
      exact iteT q
    | false =>
      refine iteF ?_
      intro x2 dx2 g1 g2 g3
      have s2 : Same H1 (upd (upd H1 dx2 (.own x2)) x2 (.ins CA dx2 [])) := ((Same.refl H1).upd_free g2).upd_free g1
      refine ⟨x2, CA, dx2, [], ftA, fdtA, _, _, rfl, upd_same, rfl, A.cls, A.mt, GA, A.bt, _, rfl, .ref x2, z, rfl, tz, fun H2 s3 => ?_⟩
      have q := k H2 (((s0.trans s1).trans s2).trans s3)
      unfold isItem at q
      rw [e, Bool.false_or] at q
      exact q
theorem scKt : FnScope ["self", "text"] ["self", "text"] (defScope sKt) := ⟨rfl, rfl, rfl, by decide +kernel, rfl, by decide +kernel, by decide +kernel⟩
theorem ok_kt {f fM fI : Addr} {fd fdM fdI : FuncData} (F : Fun K "takes" "Mark.takes" sKt f fd) (T : TS mg) (FM : Fun K "made_of" "made_of" sMo fM fdM) (bM : Binds K fdM ["signs", "text"] []) (gM : mg "made_of" = some (.ref fM))
    (FI : Fun K "is_item" "is_item" sIi fI fdI) (bI : Binds K fdI ["text"] []) (gI : mg "is_item" = some (.ref fI)) (GI : FnOk P w K mg base CX0 3 fI fdI ["text"] spIi) : FnOk P w K mg base CX0 4 f fd ["self", "text"] (spTk isMark) := by
  have GM : FnOk P w K mg base CX0 1 fM fdM ["signs", "text"] spMo := ok_mo FM T
  refine F.ok scKt (fun vs H Q E h => ?_) (fun cdv A outer s H vs Q E hr h => ?_)
  · obtain ⟨v, z, rfl, _⟩ := h
    rfl
  · obtain ⟨v, z, rfl, tz, k⟩ := h
    have hr1 : Room 1 _ := hr.mono (by decide)
    obtain ⟨u1, g1, r1⟩ := T.ms
    obtain ⟨u2, g2, r2⟩ := T.mar
    refine ⟨_, pss_cons (ps_if (pt_not (pt_chain op_le op_le pe_int (pe_callB call_len_str (by rfl) T.len PySem.boot_len (pa_cons (pv 1) pa_nil)) (pe_glob (v := .int 12) (by rfl) g1 r1))) (pss_one (ps_ret pe_bl)) pss_nil)
      (pss_one (ps_ret (pe_and (pe_call GM hr1 rfl gM FM.kp bM .nil pass0 (pa_cons (pe_glob (v := .str MAR) (by rfl) g2 r2) (pa_cons (pv 1) pa_nil))) (pe_one (pe_not (pe_call GI hr rfl gI FI.kp bI .nil pass0 (pa_cons (pv 1) pa_nil))))))), ?_⟩
    refine ⟨_, rfl, z, rfl, len_sm tz (by decide), _, _, rfl, rfl, _, rfl, ?_⟩
    have out : ∀ c : Bool, c = false → isMark z = c → Q (.bl false) H := fun c hc e => by
      have q := k H (Same.refl H)
      rw [e, hc] at q
      exact q
    by_cases h1 : 1 ≤ z.length
    · refine iteTK (decide_eq_true (by omega)) ?_
      refine ⟨_, _, rfl, rfl, _, rfl, ?_⟩
      by_cases h2 : z.length ≤ 12
      · refine iteFK (by rw [decide_eq_true (by omega)]; rfl) ?_
        refine ⟨_, rfl, MAR, z, rfl, tz, fun H1 s1 => ⟨_, rfl, ?_⟩⟩
        have ek : isMark z = (madeM MAR z && !isItem z) := by
          unfold isMark
          rw [decide_eq_true ⟨h1, h2⟩, Bool.true_and]
        cases hm : madeM MAR z with
        | false =>
          have q := k H1 s1
          rw [ek, hm] at q
          exact iteF q
        | true =>
          refine iteT ⟨_, rfl, z, rfl, tz, fun H2 s2 => ⟨_, rfl, ?_⟩⟩
          have q := k H2 (s1.trans s2)
          rw [ek, hm, Bool.true_and] at q
          exact q
      · refine iteTK (by rw [decide_eq_false (by omega)]; rfl) ?_
        refine out _ rfl ?_
        unfold isMark
        rw [decide_eq_false (fun y => h2 y.2)]
        rfl
    · refine iteFK (decide_eq_false (by omega)) ⟨_, rfl, iteT ?_⟩
      refine out _ rfl ?_
      unfold isMark
      rw [decide_eq_false (fun y => h1 y.1)]
      rfl
end
end SL
namespace SL
open PySem L2
theorem walk_tx (c : Nat) : ∀ (l : List Nat) (s : List Str × Str) (n : Nat), (∀ x ∈ l, x < 128) → (∀ p ∈ s.1, Tx n p) → Tx n s.2 → (∀ p ∈ (l.foldl (spStep c) s).1, Tx (n + l.length) p) ∧ Tx (n + l.length) (l.foldl (spStep c) s).2
  | [], s, n, _, h1, h2 => ⟨h1, h2⟩
  | x :: l, s, n, h, h1, h2 => by
    rw [List.foldl_cons, List.length_cons, show n + (l.length + 1) = (n + 1) + l.length by omega]
    refine walk_tx c l _ (n + 1) (fun y hy => h y (List.mem_cons_of_mem _ hy)) ?_ ?_
    · unfold spStep
      split
      · intro p hp
        rcases List.mem_append.mp hp with hp | hp
        · exact (h1 p hp).mono (Nat.le_succ _)
        · rw [List.mem_singleton] at hp
          subst hp
          exact h2.mono (Nat.le_succ _)
      · exact fun p hp => (h1 p hp).mono (Nat.le_succ _)
    · unfold spStep
      split
      · exact ⟨Nat.zero_le _, fun y hy => by cases hy⟩
      · exact h2.app (Tx.one (h x (List.mem_cons_self ..)))
theorem spl_tx {n : Nat} {z : Str} (c : Nat) (h : Tx n z) : ∀ p ∈ spl c z.cps.toList, Tx n p := by
  have q := walk_tx c z.cps.toList ([], Str.empty) 0 h.2 (fun p hp => by cases hp) ⟨Nat.zero_le _, fun y hy => by cases hy⟩
  have e : 0 + z.cps.toList.length ≤ n := by
    rw [cps_len]
    have := h.1
    omega
  intro p hp
  unfold spl at hp
  rcases List.mem_append.mp hp with hp | hp
  · exact (q.1 p hp).mono e
  · rw [List.mem_singleton] at hp
    subst hp
    exact q.2.mono e
section
variable {P : Program} {w : World} {K : PySem.W.Frag} {mg : Str → Option Value} {base : Heap}
theorem scIt : FnScope ["self", "text", "pieces"] ["self", "text"] (defScope sIt) := ⟨rfl, rfl, rfl, by decide +kernel, rfl, by decide +kernel, by decide +kernel⟩
def scopeI : Scope := { kind := .function, names := [(".0", .local), ("piece", .local), ("is_item", .globalImplicit)], isGenerator := false, isCoroutine := false, more := [] }
theorem scI : BlkScope (defScope sIt) ["self", "text", "pieces"] ["piece"] [] [] scopeI := ⟨rfl, by decide +kernel, by decide +kernel, by decide +kernel, rfl, by decide +kernel, by decide +kernel⟩
theorem ok_it {f fI : Addr} {fd fdI : FuncData} (F : Fun K "takes" "Items.takes" sIt f fd) (T : TS mg)
    (FI : Fun K "is_item" "is_item" sIi fI fdI) (bI : Binds K fdI ["text"] []) (gI : mg "is_item" = some (.ref fI)) (GI : FnOk P w K mg base CX0 3 fI fdI ["text"] spIi) : FnOk P w K mg base CX0 4 f fd ["self", "text"] (spTk isList) := by
  refine F.ok scIt (fun vs H Q E h => ?_) (fun cdv A outer s H vs Q E hr h => ?_)
  · obtain ⟨v, z, rfl, _⟩ := h
    rfl
  · obtain ⟨v, z, rfl, tz, k⟩ := h
    obtain ⟨u1, g1, r1⟩ := T.mi
    refine ⟨_, pss_cons (ps_if (pt_not (PW.pt (pw_and (pt_val (pe_bm PySem.F.plainAttrs_str PySem.F.slot_str_startswith PySem.F.type_str_startswith mt_starts (pv 1) (pa_cons pe_str pa_nil))) (pw_and1 (pt_val (pe_bm PySem.F.plainAttrs_str PySem.F.slot_str_endswith PySem.F.type_str_endswith mt_ends (pv 1) (pa_cons pe_str pa_nil))))))) (pss_one (ps_ret pe_bl)) pss_nil)
      (pss_cons (ps_if (pt_cmpR op_eq (pv 1) pe_str (nomark _)) (pss_one (ps_ret pe_bl)) pss_nil)
      (pss_cons (ps_set (i := 2) scIt.nd rfl (Or.inl rfl) (pe_bm PySem.F.plainAttrs_str PySem.F.slot_str_split PySem.F.type_str_split mt_split (pe_slice sl_str (pv 1) (po_some pe_int) (po_some (pe_un un_neg pe_int))) (pa_cons pe_str pa_nil)))
      (pss_one (ps_ret (pe_and (pe_cmpR op_le (pe_callB call_len_seq (by rfl) T.len PySem.boot_len (pa_cons (pv 2) pa_nil)) (pe_glob (v := .int 4) (by rfl) g1 r1) (nomark _))
        (pe_one (pe_callB (call_allB rfl) (by rfl) T.all boot_all (pa_cons (pe_lc scI rfl rfl rfl (pi_list (pv 2)) (fun fp C s1 H1 => pg_name (i := 0) scI.nd rfl (Or.inl rfl)) (fun fp C s1 H1 => pts_nil)
          (fun fp C s1 H1 => pe_call GI hr rfl gI FI.kp bI .nil pass0 (pa_cons (pv 0) pa_nil))) pa_nil)))))))), ?_⟩
    have fal : isList z = false → Q (.bl false) H := fun e => by
      have q := k H (Same.refl H)
      rw [e] at q
      exact q
    refine ⟨_, rfl, rfl, z, _, rfl, rfl, _, rfl, ?_⟩
    cases e1 : Txt.startswith z (Str.ofString "[") with
    | false =>
      refine iteF (iteT (fal ?_))
      unfold isList
      rw [e1]
      rfl
    | true =>
      refine iteT ⟨_, rfl, rfl, z, _, rfl, rfl, _, rfl, ?_⟩
      cases e2 : Txt.endswith z (Str.ofString "]") with
      | false =>
        refine iteT (fal ?_)
        unfold isList
        rw [e1, e2]
        rfl
      | true =>
        refine iteF ⟨_, rfl, rfl, _, rfl, ?_⟩
        by_cases hz : z = Str.ofString "[]"
        · refine iteTK (decide_eq_true (by rw [hz])) ?_
          have q := k H (Same.refl H)
          have e : isList z = true := by
            unfold isList
            rw [e1, e2, decide_eq_true hz]
            rfl
          rw [e] at q
          exact q
        · refine iteFK (decide_eq_false (fun y => hz (by injection y))) ?_
          have tz' : Tx 1000 (Txt.slice z (some 1) (some (-1))) := tz.slice _ _
          have l1 := split_len (Txt.slice z (some 1) (some (-1))) (Str.ofString ",")
          have l2 := parts_len (Txt.slice z (some 1) (some (-1))) (Str.ofString ",")
          have l3 := tz'.1
          have big : 1002 ≤ sizeLine := by decide
          refine ⟨_, rfl, _, rfl, _, rfl, _, rfl, z, rfl, len_sm tz (by decide), rfl, _, _, rfl, rfl, rfl, len_sm tz' (by decide), by omega, by omega, fun p hp => ?_⟩
          have tl : ∀ y ∈ Txt.split (Txt.slice z (some 1) (some (-1))) (Str.ofString ","), Tx 1000 y := fun y hy => by
            rw [show Str.ofString "," = (⟨#[44]⟩ : Str) from rfl, split_spl _ (by decide)] at hy
            exact spl_tx 44 tz' y hy
          have ek : isList z = (decide ((Txt.split (Txt.slice z (some 1) (some (-1))) (Str.ofString ",")).length ≤ 4) && (Txt.split (Txt.slice z (some 1) (some (-1))) (Str.ofString ",")).all isItem) := by
            unfold isList
            rw [e1, e2, decide_eq_false hz]
            rfl
          generalize hL : Txt.split (Txt.slice z (some 1) (some (-1))) (Str.ofString ",") = L at hp l1 tl ek ⊢
          have s0 : Same H (upd H p (.lst (L.map V.str))) := (Same.refl H).upd_free hp
          refine ⟨_, rfl, p, _, rfl, .inl (SqL.of upd_same), _, _, rfl, rfl, _, rfl, ?_⟩
          by_cases h4 : L.length ≤ 4
          · refine iteTK (decide_eq_true (by rw [List.length_map]; omega)) ?_
            refine ⟨_, rfl, p, rfl, ⟨_, SqL.of upd_same⟩, fun D hD => ?_⟩
            refine lc_list (K := K) (a := p) (xs := L.map V.str) (fun i ys H2 => ys = ((L.take i).map isItem).map V.bl ∧ Same (upd H p (.lst (L.map V.str))) H2 ∧ H2 D = some (.lst ys)) (by rw [List.length_map]; omega) ⟨rfl, (Same.refl _).upd_free hD, upd_same⟩
              (fun i ys H2 h => by rw [h.1, List.length_map, List.length_map, List.length_take]; exact Nat.min_le_left _ _) (fun i ys H2 h => SqL.of (h.2.1 _ _ upd_same)) ?_ ?_
            · rintro i ys H2 x N M hx ⟨rfl, s2, hD2⟩ hN hM
              rw [List.getElem?_map] at hx
              cases el : L[i]? with
              | none => rw [el] at hx; cases hx
              | some y =>
                rw [el] at hx
                cases hx
                refine ⟨_, rfl, y, rfl, tl y (List.mem_of_getElem? el), fun H3 s3 => hN _ H3 (s3 _ _ hD2) ⟨?_, (s2.trans s3).upd_free hD, upd_same⟩⟩
                rw [List.take_add_one, el, List.map_append, List.map_append]
                rfl
            · rintro ys H2 ⟨rfl, s2, hD2⟩
              refine ⟨D, _, rfl, SqL.of hD2, ?_⟩
              have q := k H2 (s0.trans s2)
              rw [ek, decide_eq_true h4, Bool.true_and] at q
              rw [List.length_map, List.take_length, List.all_map]
              exact q
          · refine iteFK (decide_eq_false (by rw [List.length_map]; omega)) ?_
            have q := k _ s0
            rw [ek, decide_eq_false h4] at q
            exact q
end
end SL
namespace SL
open PySem L2
def SoAt (H : Hp) (C p : Addr) : Prop := ∃ dx, H p = some (.ins C dx [])
theorem SoAt.same {H H' : Hp} {C p : Addr} (h : SoAt H C p) (s : Same H H') : SoAt H' C p := by
  obtain ⟨dx, h⟩ := h
  exact ⟨dx, s _ _ h⟩
def restM (z : Str) : Nat → Option So
  | 0 => sortM z
  | 1 => if isName z then some .nam else if isList z then some .lis else if isMark z then some .mar else none
  | 2 => if isList z then some .lis else if isMark z then some .mar else none
  | 3 => if isMark z then some .mar else none
  | _ => none
def spAl (C1 C2 C3 C4 : Addr) : Sp := fun vs H Q _ => vs = [] ∧ ∀ (a x1 x2 x3 x4 : Addr) H', Same H H' → SoAt H' C1 x1 → SoAt H' C2 x2 → SoAt H' C3 x3 → SoAt H' C4 x4 → H' a = some (.tup [.ref x1, .ref x2, .ref x3, .ref x4]) → Q (.ref a) H'
def spSo : Sp := fun vs H Q _ => ∃ z : Str, vs = [.str z] ∧ Tx 1000 z ∧ ∀ H', Same H H' → Q (vS (sortM z)) H'

structure SK (P : Program) (w : World) (K : PySem.W.Frag) (mg : Str → Option Value) (base : Heap) (C : Addr) (p : Str → Bool) (x : Str) : Prop where
  cls : Cls K C
  tk : ∃ f fd, Meth K C "takes" f ∧ Binds K fd ["self", "text"] [] ∧ FnOk P w K mg base CX0 4 f fd ["self", "text"] (spTk p)
  wd : ∃ f fd, Meth K C "word" f ∧ Binds K fd ["self"] [] ∧ FnOk P w K mg base CX0 4 f fd ["self"] (spWo x)
section
variable {P : Program} {w : World} {K : PySem.W.Frag} {mg : Str → Option Value} {base : Heap}
theorem ok_wo {n q : Str} {st : Stmt} {x : Str} {f : Addr} {fd : FuncData} {p1 p2 : Pos} {k0 : Nat} (F : Fun K n q st f fd) (sc : FnScope ["self"] ["self"] (defScope st)) (hb : defBody st = [.Return (some (.Constant (.str x) k0 p1)) p2]) : FnOk P w K mg base CX0 1 f fd ["self"] (spWo x) := by
  refine F.ok sc (fun vs H Q E h => ?_) (fun cdv A outer s H vs Q E hr h => ?_)
  · obtain ⟨v, rfl, _⟩ := h
    rfl
  · obtain ⟨v, rfl, k⟩ := h
    rw [hb]
    exact ⟨_, pss_one (ps_ret pe_str), k⟩
theorem scAl : FnScope [] [] (defScope sAl) := ⟨rfl, rfl, rfl, by decide +kernel, rfl, by decide +kernel, by decide +kernel⟩
theorem ok_al {f C1 C2 C3 C4 t1 w1 t2 w2 t3 w3 t4 w4 : Addr} {fd ft1 fw1 ft2 fw2 ft3 fw3 ft4 fw4 : FuncData} (F : Fun K "all_sorts" "all_sorts" sAl f fd)
    (N : Kd K mg "Number" C1 t1 w1 ft1 fw1) (A : Kd K mg "Name" C2 t2 w2 ft2 fw2) (I : Kd K mg "Items" C3 t3 w3 ft3 fw3) (M : Kd K mg "Mark" C4 t4 w4 ft4 fw4) : FnOk P w K mg base CX0 1 f fd [] (spAl C1 C2 C3 C4) := by
  refine F.ok scAl (fun vs H Q E h => ?_) (fun cdv A1 outer s H vs Q E hr h => ?_)
  · rw [h.1]
    rfl
  · obtain ⟨rfl, k⟩ := h
    refine ⟨_, pss_one (ps_ret (pe_tup (pa_cons (pe_makeN N.mkn rfl N.g) (pa_cons (pe_makeN A.mkn rfl A.g) (pa_cons (pe_makeN I.mkn rfl I.g) (pa_cons (pe_makeN M.mkn rfl M.g) pa_nil)))))), ?_⟩
    intro x1 d1 a1 b1 _ x2 d2 a2 b2 _ x3 d3 a3 b3 _ x4 d4 a4 b4 _
    refine ⟨(by show 4 ≤ sizeLine; decide), fun p hp => ?_⟩
    have s1 := ((Same.refl H).upd_free (o := .own x1) b1).upd_free (o := .ins C1 d1 []) a1
    have s2 := ((Same.refl _).upd_free (o := .own x2) b2).upd_free (o := .ins C2 d2 []) a2
    have s3 := ((Same.refl _).upd_free (o := .own x3) b3).upd_free (o := .ins C3 d3 []) a3
    have s4 := ((Same.refl _).upd_free (o := .own x4) b4).upd_free (o := .ins C4 d4 []) a4
    have s5 := (Same.refl _).upd_free (o := .tup [.ref x1, .ref x2, .ref x3, .ref x4]) hp
    refine k p x1 x2 x3 x4 _ ((((s1.trans s2).trans s3).trans s4).trans s5) ⟨d1, ((s2.trans s3).trans (s4.trans s5)) _ _ upd_same⟩ ⟨d2, (s3.trans (s4.trans s5)) _ _ upd_same⟩ ⟨d3, (s4.trans s5) _ _ upd_same⟩ ⟨d4, s5 _ _ upd_same⟩ upd_same
theorem scSo : FnScope ["text", "sort"] ["text"] (defScope sSo) := ⟨rfl, rfl, rfl, by decide +kernel, rfl, by decide +kernel, by decide +kernel⟩
theorem ok_so {f fA C1 C2 C3 C4 : Addr} {fd fdA : FuncData} (F : Fun K "sort_of" "sort_of" sSo f fd) (FA : Fun K "all_sorts" "all_sorts" sAl fA fdA) (bA : Binds K fdA [] []) (gA : mg "all_sorts" = some (.ref fA)) (GA : FnOk P w K mg base CX0 1 fA fdA [] (spAl C1 C2 C3 C4))
    (S1 : SK P w K mg base C1 isNum (So.str .num)) (S2 : SK P w K mg base C2 isName (So.str .nam)) (S3 : SK P w K mg base C3 isList (So.str .lis)) (S4 : SK P w K mg base C4 isMark (So.str .mar)) : FnOk P w K mg base CX0 5 f fd ["text"] spSo := by
  refine F.ok scSo (fun vs H Q E h => ?_) (fun cdv A outer s H vs Q E hr h => ?_)
  · obtain ⟨z, rfl, _⟩ := h
    rfl
  · obtain ⟨z, rfl, tz, k⟩ := h
    have hr1 : Room 1 _ := hr.mono (by decide)
    refine ⟨_, pss_cons (ps_for PassesOwn.never rfl (pi_tup (pe_call0 GA hr1 rfl gA FA.kp bA .nil pass0)) (pg_name (i := 1) scSo.nd rfl (Or.inl rfl))
        (pss_one (ps_if (pt_val (pe_methD (CX := CX0) (pv 1) hr pass0 (pa_cons (pv 0) pa_nil))) (pss_one (ps_ret (pe_methD0 (CX := CX0) (pv 1) hr pass0))) pss_nil)))
      (pss_one (ps_ret pe_non)), ?_⟩
    refine ⟨rfl, fun a x1 x2 x3 x4 H1 s1 y1 y2 y3 y4 ha => ?_⟩
    refine ⟨a, rfl, ⟨_, SqT.of ha⟩, ?_⟩
    refine for_tup (xs := [.ref x1, .ref x2, .ref x3, .ref x4]) (fun i σ H2 => (∃ v, σ = [some (.str z), v]) ∧ Same H1 H2 ∧ sortM z = restM z i) ⟨⟨none, rfl⟩, Same.refl _, rfl⟩ (fun i σ H2 _ h => SqT.of (h.2.1 _ _ ha)) ?_ ?_
    · rintro i x σ H2 hx ⟨⟨v, rfl⟩, s2, er⟩
      have row : ∃ (C y : Addr) (p : Str → Bool) (o : So), x = .ref y ∧ SoAt H2 C y ∧ SK P w K mg base C p o.str ∧ (p z = true → restM z i = some o) ∧ (p z = false → restM z i = restM z (i + 1)) := by
        rcases i with _ | _ | _ | _ | i
        · cases hx
          exact ⟨C1, x1, isNum, .num, rfl, y1.same s2, S1, fun e => if_pos e, fun e => if_neg (by rw [e]; nofun)⟩
        · cases hx
          exact ⟨C2, x2, isName, .nam, rfl, y2.same s2, S2, fun e => if_pos e, fun e => if_neg (by rw [e]; nofun)⟩
        · cases hx
          exact ⟨C3, x3, isList, .lis, rfl, y3.same s2, S3, fun e => if_pos e, fun e => if_neg (by rw [e]; nofun)⟩
        · cases hx
          exact ⟨C4, x4, isMark, .mar, rfl, y4.same s2, S4, fun e => if_pos e, fun e => if_neg (by rw [e]; nofun)⟩
        · cases hx
      obtain ⟨C, y, p, o, rfl, ⟨dx, hy⟩, S, hT, hF⟩ := row
      obtain ⟨ft, fdt, mt, bt, ot⟩ := S.tk
      obtain ⟨fw, fdw, mw, bw, ow⟩ := S.wd
      refine ⟨_, rfl, y, C, dx, [], ft, fdt, _, _, rfl, hy, rfl, S.cls, mt, ot, bt, _, rfl, .ref y, z, rfl, tz, fun H3 s3 => ⟨_, rfl, ?_⟩⟩
      cases e : p z with
      | true =>
        refine iteT ⟨_, rfl, y, C, dx, [], fw, fdw, _, _, rfl, s3 _ _ hy, rfl, S.cls, mw, ow, bw, .ref y, rfl, ?_⟩
        have q := k H3 ((s1.trans s2).trans s3)
        rw [er, hT e] at q
        exact q
      | false => exact iteF ⟨⟨_, rfl⟩, s2.trans s3, er.trans (hF e)⟩
    · rintro σ H2 ⟨⟨v, rfl⟩, s2, er⟩
      have q := k H2 (s1.trans s2)
      rw [er] at q
      exact q
end
end SL
namespace SL
open PySem L2
section
variable {P : Program} {w : World} {K : PySem.W.Frag} {mg : Str → Option Value} {base : Heap}
theorem scNw : FnScope ["self"] ["self"] (defScope sNw) := ⟨rfl, rfl, rfl, by decide +kernel, rfl, by decide +kernel, by decide +kernel⟩
theorem scAw : FnScope ["self"] ["self"] (defScope sAw) := ⟨rfl, rfl, rfl, by decide +kernel, rfl, by decide +kernel, by decide +kernel⟩
theorem scIw : FnScope ["self"] ["self"] (defScope sIw) := ⟨rfl, rfl, rfl, by decide +kernel, rfl, by decide +kernel, by decide +kernel⟩
theorem scKw : FnScope ["self"] ["self"] (defScope sKw) := ⟨rfl, rfl, rfl, by decide +kernel, rfl, by decide +kernel, by decide +kernel⟩
end
end SL
namespace SL
open PySem L2

def okMark (z : Str) : Prop := 1 ≤ z.length ∧ z.length ≤ 12 ∧ madeM MAR z = true
def lisOf (xs : List Str) : Str := Str.ofString "[" ++ Str.join (Str.ofString ",") xs ++ Str.ofString "]"
inductive Wd (z : Str) : Prop where
  | mar (h : okMark z)
  | lis (xs : List Str) (h : xs.length ≤ 4) (hi : ∀ x ∈ xs, isItem x = true) (e : z = lisOf xs)
def numS (z : Str) : Bool := madeM FIG z && (decide (z.length < 10) && (decide (z = Str.ofString "0") || !decide ((⟨#[hd z]⟩ : Str) = Str.ofString "0")))
def namS (z : Str) : Bool := hasC SMA (hd z) && (z.cps.toList.filter fun c => !hasC FIG c).all (hasC SMA)
def lawS (z : Str) : So := if (⟨#[hd z]⟩ : Str) = Str.ofString "[" then .lis else if numS z then .num else if namS z then .nam else .mar
theorem app_list (y z : Str) : (y ++ z).cps.toList = y.cps.toList ++ z.cps.toList := by
  rw [Str.cps_append, Array.toList_append]
theorem one_inj {c d : Nat} (h : (⟨#[c]⟩ : Str) = ⟨#[d]⟩) : c = d := by
  injection h with h
  injection h with h
  injection h
theorem nam_or (c : Nat) : hasC NAM c = (hasC SMA c || hasC FIG c) := by
  have e : NAM.cps.toList = SMA.cps.toList ++ FIG.cps.toList := by decide +kernel
  unfold hasC
  rw [e]
  by_cases h1 : c ∈ SMA.cps.toList
  · rw [decide_eq_true h1, decide_eq_true (List.mem_append_left _ h1)]
    rfl
  · by_cases h2 : c ∈ FIG.cps.toList
    · rw [decide_eq_true h2, decide_eq_true (List.mem_append_right _ h2), Bool.or_true]
    · rw [decide_eq_false h1, decide_eq_false h2, decide_eq_false (fun y => (List.mem_append.mp y).elim h1 h2)]
      rfl
theorem nam_all (l : List Nat) : (l.filter fun c => !hasC FIG c).all (hasC SMA) = l.all (hasC NAM) := by
  induction l with
  | nil => rfl
  | cons c l ih =>
    rw [List.filter_cons, List.all_cons, nam_or]
    cases h : hasC FIG c with
    | true =>
      rw [if_neg (by nofun), ih, Bool.or_true, Bool.true_and]
    | false =>
      rw [if_pos (show (!false) = true from rfl), List.all_cons, ih, Bool.or_false]
theorem hd_mem {z : Str} (h : 1 ≤ z.length) : hd z ∈ z.cps.toList := by
  unfold hd
  have e := cps_len z
  cases g : z.cps.toList with
  | nil =>
    rw [g] at e
    have : z.length = 0 := e.symm
    omega
  | cons c r => exact List.mem_cons_self ..
theorem made_hd {S z : Str} (h : 1 ≤ z.length) (m : madeM S z = true) : hd z ∈ S.cps.toList := of_decide_eq_true (List.all_eq_true.mp m _ (hd_mem h))
theorem starts_hd {z : Str} {c : Nat} (h : 1 ≤ z.length) (s : Txt.startswith z ⟨#[c]⟩ = true) : hd z = c := by
  unfold Txt.startswith at s
  have s2 := (Bool.and_eq_true_iff.mp s).2
  have q := (StrLaws.subAt_one z c 0).mp ⟨by show 0 + 1 ≤ _; omega, s2⟩
  unfold hd
  cases g : z.cps.toList with
  | nil => rw [g] at q; cases q
  | cons d r =>
    rw [g] at q
    cases q
    rfl
theorem sort_mark {z : Str} (h : okMark z) : sortM z = some (lawS z) := by
  obtain ⟨h1, h2, h3⟩ := h
  have hm := made_hd h1 h3
  have nb : ¬ (⟨#[hd z]⟩ : Str) = Str.ofString "[" := fun e => by
    have e2 : hd z = 91 := one_inj e
    rw [e2] at hm
    revert hm
    decide +kernel
  have en : isNum z = numS z := by
    unfold isNum numS
    by_cases h9 : z.length ≤ 9
    · rw [decide_eq_true ⟨h1, h9⟩, decide_eq_true (show z.length < 10 by omega), Bool.true_and, Bool.true_and]
    · rw [decide_eq_false (fun y => h9 y.2), decide_eq_false (show ¬ z.length < 10 by omega), Bool.false_and, Bool.false_and, Bool.and_false]
  have ea : isName z = namS z := by
    unfold isName namS
    rw [decide_eq_true ⟨h1, h2⟩, Bool.true_and, nam_all]
    rfl
  have el : isList z = false := by
    unfold isList
    cases hs : Txt.startswith z (Str.ofString "[") with
    | false => rfl
    | true =>
      have q := starts_hd (c := 91) h1 hs
      exact absurd (by rw [q]; rfl) nb
  unfold sortM lawS
  rw [if_neg nb, en, ea, el]
  cases a : numS z with
  | true => rfl
  | false =>
    cases b : namS z with
    | true => rfl
    | false =>
      have em : isMark z = true := by
        unfold isMark isItem
        rw [decide_eq_true ⟨h1, h2⟩, h3, en, ea, a, b]
        rfl
      rw [em]
      rfl

theorem item_plain {x : Str} (h : isItem x = true) : 1 ≤ x.length ∧ x.length ≤ 12 ∧ madeM NAM x = true := by
  unfold isItem at h
  rcases Bool.or_eq_true_iff.mp h with h | h
  · unfold isNum at h
    have a := of_decide_eq_true (Bool.and_eq_true_iff.mp h).1
    have b := (Bool.and_eq_true_iff.mp (Bool.and_eq_true_iff.mp h).2).1
    refine ⟨a.1, by omega, List.all_eq_true.mpr fun c hc => ?_⟩
    rw [nam_or, List.all_eq_true.mp b c hc, Bool.or_true]
  · unfold isName at h
    have a := of_decide_eq_true (Bool.and_eq_true_iff.mp h).1
    exact ⟨a.1, a.2, (Bool.and_eq_true_iff.mp (Bool.and_eq_true_iff.mp h).2).2⟩
theorem item_comma {x : Str} (h : isItem x = true) : ∀ c ∈ x.cps.toList, c ≠ 44 := fun c hc e => by
  have q : hasC NAM c = true := List.all_eq_true.mp (item_plain h).2.2 c hc
  rw [e] at q
  revert q
  decide +kernel

theorem walk_plain (c : Nat) : ∀ (l : List Nat) (s : List Str × Str), (∀ x ∈ l, x ≠ c) → l.foldl (spStep c) s = (s.1, s.2 ++ ⟨l.toArray⟩)
  | [], s, _ => by
    have e : s.2 ++ (⟨#[]⟩ : Str) = s.2 := Str.ext' (by rw [Str.cps_append]; exact Array.append_empty)
    rw [show ([] : List Nat).toArray = #[] from rfl, e]
    rfl
  | x :: l, s, h => by
    rw [List.foldl_cons, walk_plain c l _ fun y hy => h y (List.mem_cons_of_mem _ hy)]
    unfold spStep
    rw [if_neg (h x (List.mem_cons_self ..))]
    refine Prod.ext rfl (Str.ext' ?_)
    show ((s.2 ++ ⟨#[x]⟩) ++ (⟨l.toArray⟩ : Str)).cps = (s.2 ++ (⟨(x :: l).toArray⟩ : Str)).cps
    rw [Str.cps_append, Str.cps_append, Str.cps_append]
    apply Array.toList_inj.mp
    simp
theorem spl_join {c : Nat} : ∀ (xs : List Str) (d : List Str), xs ≠ [] → (∀ x ∈ xs, ∀ k ∈ x.cps.toList, k ≠ c) →
    ((Str.join ⟨#[c]⟩ xs).cps.toList.foldl (spStep c) (d, Str.empty)).1 ++ [((Str.join ⟨#[c]⟩ xs).cps.toList.foldl (spStep c) (d, Str.empty)).2] = d ++ xs
  | [], d, h, _ => absurd rfl h
  | [x], d, _, hx => by
    rw [show Str.join ⟨#[c]⟩ [x] = x from rfl, walk_plain c _ _ (hx x (List.mem_cons_self ..))]
    have e : Str.empty ++ (⟨x.cps.toList.toArray⟩ : Str) = x := Str.ext' (by rw [Str.cps_append]; exact (Array.empty_append).trans (Array.toArray_toList))
    show d ++ [Str.empty ++ (⟨x.cps.toList.toArray⟩ : Str)] = _
    rw [e]
  | x :: y :: r, d, _, hx => by
    have ej : Str.join ⟨#[c]⟩ (x :: y :: r) = x ++ ⟨#[c]⟩ ++ Str.join ⟨#[c]⟩ (y :: r) := rfl
    have e : Str.empty ++ (⟨x.cps.toList.toArray⟩ : Str) = x := Str.ext' (by rw [Str.cps_append]; exact (Array.empty_append).trans (Array.toArray_toList))
    rw [ej, app_list, app_list, List.foldl_append, List.foldl_append, walk_plain c _ _ (hx x (List.mem_cons_self ..))]
    have e2 : ([c] : List Nat).foldl (spStep c) (d, Str.empty ++ (⟨x.cps.toList.toArray⟩ : Str)) = (d ++ [x], Str.empty) := by
      rw [e]
      exact if_pos rfl
    rw [show (⟨#[c]⟩ : Str).cps.toList = [c] from rfl, e2]
    have q := spl_join (c := c) (y :: r) (d ++ [x]) (by nofun) fun z hz => hx z (List.mem_cons_of_mem _ hz)
    rw [List.append_assoc] at q
    exact q
theorem split_join {xs : List Str} (h : xs ≠ []) (hi : ∀ x ∈ xs, isItem x = true) : Txt.split (Str.join (Str.ofString ",") xs) (Str.ofString ",") = xs := by
  rw [show Str.ofString "," = (⟨#[44]⟩ : Str) from rfl, split_spl _ (by decide)]
  exact spl_join xs [] h fun x hx => item_comma (hi x hx)
theorem slice_mid (x : Str) : Txt.slice (Str.ofString "[" ++ x ++ Str.ofString "]") (some 1) (some (-1)) = x := by
  have hl : (Str.ofString "[" ++ x ++ Str.ofString "]").length = x.length + 2 := by
    rw [Str.length_append, Str.length_append, show (Str.ofString "[").length = 1 from rfl, show (Str.ofString "]").length = 1 from rfl]
    omega
  have e1 : Txt.slice (Str.ofString "[" ++ x ++ Str.ofString "]") (some 1) (some (-1)) = StrLaws.sliceText (Str.ofString "[" ++ x ++ Str.ofString "]") (some 1) (some (-1)) := rfl
  rw [e1, StrLaws.sliceText_neg_hi _ _ (by decide) (by rw [hl]; omega), StrLaws.sliceText_plain ⟨by decide, by rw [hl]; omega, by rw [cps_len, hl]; omega⟩, hl]
  refine Str.ext' (Array.toList_inj.mp ?_)
  rw [app_list, app_list]
  have e2 : (-1 + ((x.length + 2 : Nat) : Int) - 1).toNat = x.cps.toList.length := by rw [cps_len]; omega
  rw [e2]
  show ((([91] ++ x.cps.toList) ++ [93]).drop 1).take x.cps.toList.length = x.cps.toList
  rw [List.append_assoc]
  show (x.cps.toList ++ [93]).take x.cps.toList.length = _
  exact List.take_left' rfl
theorem lis_hd (xs : List Str) : hd (lisOf xs) = 91 := by
  unfold hd lisOf
  rw [app_list, app_list]
  rfl
theorem lis_len (xs : List Str) : 2 ≤ (lisOf xs).length := by
  unfold lisOf
  rw [Str.length_append, Str.length_append, show (Str.ofString "[").length = 1 from rfl, show (Str.ofString "]").length = 1 from rfl]
  omega
theorem sort_lis {xs : List Str} (h : xs.length ≤ 4) (hi : ∀ x ∈ xs, isItem x = true) : sortM (lisOf xs) = some (lawS (lisOf xs)) := by
  have l2 := lis_len xs
  have eh := lis_hd xs
  have en : isNum (lisOf xs) = false := by
    cases q : isNum (lisOf xs) with
    | false => rfl
    | true =>
      unfold isNum at q
      have b := made_hd (by omega) (Bool.and_eq_true_iff.mp (Bool.and_eq_true_iff.mp q).2).1
      rw [eh] at b
      revert b
      decide +kernel
  have ea : isName (lisOf xs) = false := by
    unfold isName
    rw [eh, show hasC SMA 91 = false by decide +kernel, Bool.false_and, Bool.and_false]
  have el : isList (lisOf xs) = true := by
    unfold isList
    have e1 : Txt.startswith (lisOf xs) (Str.ofString "[") = true := by
      unfold lisOf
      rw [PySem.W.KAf.starts_left (by rw [Str.length_append]; omega)]
      exact PySem.W.KT.starts_app _ _
    have e2 : Txt.endswith (lisOf xs) (Str.ofString "]") = true := PySem.W.KT.ends_app _ _
    rw [e1, e2]
    by_cases hx : xs = []
    · rw [hx]
      decide +kernel
    · have es : Txt.slice (lisOf xs) (some 1) (some (-1)) = Str.join (Str.ofString ",") xs := slice_mid _
      rw [es, split_join hx hi, decide_eq_true h, List.all_eq_true.mpr hi, Bool.and_self, Bool.or_true]
      rfl
  unfold sortM lawS
  rw [en, ea, el, eh]
  rfl
theorem Wd.sort {z : Str} (h : Wd z) : sortM z = some (lawS z) := by
  cases h with
  | mar h => exact sort_mark h
  | lis xs h hi e =>
    rw [e]
    exact sort_lis h hi
end SL
namespace L2
open PySem PyProof
section
variable {X : Cx}

end
end L2
namespace SL
open PySem L2

theorem atI_someW {α : Type} (l : List α) (i : Int) (h0 : 0 ≤ i) (h : i < (l.length : Int)) : ∃ x, x ∈ l ∧ atI l i = some x := by
  have hl : i.toNat < l.length := by omega
  refine ⟨l[i.toNat], List.getElem_mem hl, ?_⟩
  have z : ((i.toNat : Nat) : Int) = i := by omega
  have q : atI l ((i.toNat : Nat) : Int) = some l[i.toNat] := atI_nat (by simp [hl])
  exact (congrArg (atI l) z).symm.trans q
end SL
namespace SL
open PySem L2
structure T1 (mg : Str → Option Value) : Prop where
  len : mg "len" = none
  range : mg "range" = none
  isin : mg "isinstance" = none
  str : mg "str" = none
  bool : mg "bool" = none
  zip : mg "zip" = none
theorem decS (a b : Str) : decide (V.str a = V.str b) = decide (a = b) := decide_eq_decide.mpr ⟨fun q => by injection q, fun q => by rw [q]⟩
theorem nil_iff (z : Str) : z = Str.ofString "" ↔ z.length = 0 := by
  constructor
  · rintro rfl
    rfl
  · intro h
    obtain ⟨a⟩ := z
    have : a = #[] := Array.size_eq_zero_iff.mp h
    subst this
    rfl
theorem all_nilV (S : Str) (l : List Nat) : eqsV (((l.filter fun c => !hasC S c).map fun c => V.str ⟨#[c]⟩)) [] = l.all (hasC S) := by
  induction l with
  | nil => rfl
  | cons c l ih =>
    rw [List.all_cons]
    cases h : hasC S c with
    | true =>
      rw [List.filter_cons_of_neg (by rw [h]; nofun), ih]
      rfl
    | false =>
      rw [List.filter_cons_of_pos (by rw [h]; rfl)]
      rfl
def spOf : Sp := fun vs H Q _ => ∃ (z S : Str), vs = [.str z, .str S] ∧ Tx 1000 z ∧ ∀ H', Same H H' → Q (.bl (madeM S z)) H'
def spBo (p : Str → Bool) : Sp := fun vs H Q _ => ∃ z : Str, vs = [.str z] ∧ Tx 1000 z ∧ ∀ H', Same H H' → Q (.bl (p z)) H'
section
variable {P : Program} {w : World} {K : PySem.W.Frag} {mg : Str → Option Value} {base : Heap}
theorem scOf : FnScope ["_law_text", "_law_signs_here"] ["_law_text", "_law_signs_here"] (defScope sOf) := ⟨rfl, rfl, rfl, by decide +kernel, rfl, by decide +kernel, by decide +kernel⟩
def scopeOf : Scope := { kind := .function, names := [(".0", .local), ("_law_sign", .local), ("_law_signs_here", .free)], isGenerator := false, isCoroutine := false, more := [] }
theorem scOf1 : BlkScope (defScope sOf) ["_law_text", "_law_signs_here"] ["_law_sign"] ["_law_signs_here"] [1] scopeOf := ⟨rfl, by decide +kernel, by decide +kernel, by decide +kernel, rfl, by decide +kernel, by decide +kernel⟩
theorem ok_of {f : Addr} {fd : FuncData} (F : Fun K "_law_of" "_law_of" sOf f fd) : FnOk P w K mg base CX0 1 f fd ["_law_text", "_law_signs_here"] spOf := by
  refine F.ok scOf (fun vs H Q E h => ?_) (fun cdv A outer s H vs Q E hr h => ?_)
  · obtain ⟨z, S, rfl, _⟩ := h
    rfl
  · obtain ⟨z, S, rfl, tz, k⟩ := h
    have hu : _ < cLine := Nat.lt_of_le_of_lt (Nat.le_add_right _ 64) hr.units
    have hzl := len_sm tz (by decide)
    refine ⟨_, pss_one (ps_ret (pe_cmpR (op_eqL hu) (pe_lc scOf1 rfl rfl rfl (pi_str (pv 0)) (fun fp C s1 H1 => pg_name (i := 0) scOf1.nd rfl (Or.inl rfl)) (fun fp C s1 H1 => pts_one (pt_cmpR op_notIn_str (pv 0) (pv 1) (by with_unfolding_all rfl))) (fun fp C s1 H1 => pv 0)) (pe_lst pa_nil) (nomark _))), ?_⟩
    refine ⟨_, rfl, z, 1000, rfl, tz, fun D hD => ?_⟩
    refine lc_str (z := z) (fun j ys H3 => Same H H3 ∧ H3 D = some (.lst ys) ∧ ys = ((z.cps.toList.take j).filter fun c => !hasC S c).map fun c => V.str ⟨#[c]⟩) hzl ⟨(Same.refl H).upd_free hD, upd_same, by simp⟩ (fun j ys H3 h => ?_) ?_ ?_
    · rw [h.2.2, List.length_map]
      refine Nat.le_trans (List.length_filter_le _ _) ?_
      rw [List.length_take]
      exact Nat.min_le_left _ _
    · rintro j ys H3 c N M hc ⟨u1, u2, rfl⟩ hN hM
      have hc' : z.cps.toList[j]? = some c := by simpa using hc
      refine ⟨_, rfl, _, rfl, _, _, rfl, rfl, !hasC S c, by rw [StrLaws.found_one]; rfl, ?_⟩
      cases hf : hasC S c with
      | false =>
        refine iteT ⟨_, rfl, hN _ H3 u2 ⟨u1.upd_free hD, upd_same, ?_⟩⟩
        rw [List.take_add_one, hc', List.filter_append, List.map_append]
        simp [hf]
      | true =>
        refine iteF (hM H3 ⟨u1, u2, ?_⟩)
        rw [List.take_add_one, hc', List.filter_append, List.map_append]
        simp [hf]
    · rintro ys H3 ⟨u1, u2, rfl⟩
      rw [← cps_len, List.take_length] at u2
      refine ⟨(by show 0 ≤ sizeLine; decide), fun l hl => ?_⟩
      have s4 := (Same.refl H3).upd_free (o := .lst []) hl
      refine ⟨D, l, _, _, rfl, rfl, SqL.of (s4 _ _ u2), SqL.of upd_same, ?_, rfl, ?_⟩
      · rw [List.all_map]
        exact List.all_eq_true.mpr fun _ _ => rfl
      · rw [all_nilV]
        exact k _ (u1.trans s4)
theorem scIn : FnScope ["_law_text"] ["_law_text"] (defScope sIn) := ⟨rfl, rfl, rfl, by decide +kernel, rfl, by decide +kernel, by decide +kernel⟩
theorem ok_in {f fO : Addr} {fd fdO : FuncData} (F : Fun K "_law_is_number" "_law_is_number" sIn f fd) (T : T1 mg) (FO : Fun K "_law_of" "_law_of" sOf fO fdO) (bO : Binds K fdO ["_law_text", "_law_signs_here"] []) (gO : mg "_law_of" = some (.ref fO)) : FnOk P w K mg base CX0 2 f fd ["_law_text"] (spBo isNum) := by
  have GO : FnOk P w K mg base CX0 1 fO fdO ["_law_text", "_law_signs_here"] spOf := ok_of FO
  refine F.ok scIn (fun vs H Q E h => ?_) (fun cdv A outer s H vs Q E hr h => ?_)
  · obtain ⟨z, rfl, _⟩ := h
    rfl
  · obtain ⟨z, rfl, tz, k⟩ := h
    have hzl := len_sm tz (by decide)
    refine ⟨_, pss_cons (ps_if (PW.pt (pw_or (pt_cmpR op_eq (pv 0) pe_str (nomark _)) (pw_or (pt_cmpR op_gt (pe_callB call_len_str (by rfl) T.len PySem.boot_len (pa_cons (pv 0) pa_nil)) pe_int (nomark _)) (pw_or1 (pt_not (pt_val (pe_call GO hr rfl gO FO.kp bO .nil pass0 (pa_cons (pv 0) (pa_cons pe_str pa_nil))))))))) (pss_one (ps_ret pe_bl)) pss_nil)
      (pss_one (ps_ret (pe_or (pe_cmpR op_eq (pv 0) pe_str (nomark _)) (pe_one (pe_cmpR op_ne (pe_ix ix_str (pv 0) pe_int (fun _ _ => rfl)) pe_str (nomark _)))))), ?_⟩
    have out : ∀ H', Same H H' → isNum z = false → Q (.bl false) H' := fun H' s' e => by
      have q := k H' s'
      rw [e] at q
      exact q
    refine ⟨_, rfl, rfl, decide (z = Str.ofString ""), by rw [decS], ?_⟩
    by_cases h0 : z.length = 0
    · rw [decide_eq_true ((nil_iff z).mpr h0)]
      refine iteT (iteT (out H (Same.refl H) ?_))
      unfold isNum
      rw [decide_eq_false (by omega)]
      rfl
    rw [decide_eq_false (fun q => h0 ((nil_iff z).mp q))]
    refine iteF ⟨_, rfl, z, rfl, hzl, _, _, rfl, rfl, _, rfl, ?_⟩
    by_cases h9 : 9 < z.length
    · rw [decide_eq_true (by omega)]
      refine iteT (iteT (out H (Same.refl H) ?_))
      unfold isNum
      rw [decide_eq_false (by omega)]
      rfl
    rw [decide_eq_false (by omega)]
    refine iteF ⟨_, rfl, z, FIG, rfl, tz, fun H1 s1 => ⟨_, rfl, ?_⟩⟩
    have ek : isNum z = (madeM FIG z && (decide (z = Str.ofString "0") || !decide ((⟨#[hd z]⟩ : Str) = Str.ofString "0"))) := by
      unfold isNum
      rw [decide_eq_true ⟨by omega, by omega⟩, Bool.true_and]
    have q := k H1 s1
    rw [ek] at q
    cases hm : madeM FIG z with
    | false => exact iteT (out H1 s1 (by rw [ek, hm]; rfl))
    | true =>
      rw [hm, Bool.true_and] at q
      refine iteF ⟨_, rfl, rfl, _, rfl, ?_⟩
      by_cases hz : z = Str.ofString "0"
      · rw [decide_eq_true hz, Bool.true_or] at q
        exact iteTK (decide_eq_true (by rw [hz])) q
      · rw [decide_eq_false hz, Bool.false_or] at q
        refine iteFK (decide_eq_false (fun y => hz (by injection y))) ?_
        refine ⟨_, rfl, _, _, hd z, rfl, rfl, hzl, at0 (by omega), rfl, ?_⟩
        rw [decS]
        exact q
theorem scIm : FnScope ["_law_text", "_law_small"] ["_law_text"] (defScope sIm) := ⟨rfl, rfl, rfl, by decide +kernel, rfl, by decide +kernel, by decide +kernel⟩
theorem ok_im {f fO : Addr} {fd fdO : FuncData} (F : Fun K "_law_is_name" "_law_is_name" sIm f fd) (T : T1 mg) (FO : Fun K "_law_of" "_law_of" sOf fO fdO) (bO : Binds K fdO ["_law_text", "_law_signs_here"] []) (gO : mg "_law_of" = some (.ref fO)) : FnOk P w K mg base CX0 2 f fd ["_law_text"] (spBo isName) := by
  have GO : FnOk P w K mg base CX0 1 fO fdO ["_law_text", "_law_signs_here"] spOf := ok_of FO
  refine F.ok scIm (fun vs H Q E h => ?_) (fun cdv A outer s H vs Q E hr h => ?_)
  · obtain ⟨z, rfl, _⟩ := h
    rfl
  · obtain ⟨z, rfl, tz, k⟩ := h
    have hzl := len_sm tz (by decide)
    refine ⟨_, pss_cons (ps_set (i := 1) scIm.nd rfl (Or.inl rfl) pe_str)
      (pss_cons (ps_if (PW.pt (pw_or (pt_cmpR op_eq (pv 0) pe_str (nomark _)) (pw_or (pt_cmpR op_gt (pe_callB call_len_str (by rfl) T.len PySem.boot_len (pa_cons (pv 0) pa_nil)) pe_int (nomark _)) (pw_or1 (pt_cmpR op_notIn_str (pe_ix ix_str (pv 0) pe_int (fun _ _ => rfl)) (pv 1) (by with_unfolding_all rfl)))))) (pss_one (ps_ret pe_bl)) pss_nil)
      (pss_one (ps_ret (pe_call GO hr rfl gO FO.kp bO .nil pass0 (pa_cons (pv 0) (pa_cons (pe_op op_add_str (pv 1) pe_str) pa_nil)))))), ?_⟩
    have out : ∀ H', Same H H' → isName z = false → Q (.bl false) H' := fun H' s' e => by
      have q := k H' s'
      rw [e] at q
      exact q
    refine ⟨_, rfl, rfl, decide (z = Str.ofString ""), by rw [decS], ?_⟩
    by_cases h0 : z.length = 0
    · rw [decide_eq_true ((nil_iff z).mpr h0)]
      refine iteT (iteT (out H (Same.refl H) ?_))
      unfold isName
      rw [decide_eq_false (by omega)]
      rfl
    rw [decide_eq_false (fun q => h0 ((nil_iff z).mp q))]
    refine iteF ⟨_, rfl, z, rfl, hzl, _, _, rfl, rfl, _, rfl, ?_⟩
    by_cases h9 : 12 < z.length
    · rw [decide_eq_true (by omega)]
      refine iteT (iteT (out H (Same.refl H) ?_))
      unfold isName
      rw [decide_eq_false (by omega)]
      rfl
    rw [decide_eq_false (by omega)]
    refine iteF ⟨_, rfl, _, _, hd z, rfl, rfl, hzl, at0 (by omega), _, rfl, _, _, rfl, rfl, !hasC SMA (hd z), by rw [StrLaws.found_one]; rfl, ?_⟩
    have ek : isName z = (hasC SMA (hd z) && madeM NAM z) := by
      unfold isName
      rw [decide_eq_true ⟨by omega, by omega⟩, Bool.true_and]
    cases hm : hasC SMA (hd z) with
    | false => exact iteT (out H (Same.refl H) (by rw [ek, hm]; rfl))
    | true =>
      rw [ek, hm, Bool.true_and] at k
      have en : (Str.ofString "abcdefghijklmnopqrstuvwxyz" ++ Str.ofString "0123456789" : Str) = NAM := by decide +kernel
      refine iteF ⟨_, rfl, _, rfl, _, _, rfl, rfl, by decide +kernel, z, _, rfl, tz, fun H1 s1 => ?_⟩
      rw [en]
      exact k H1 s1
end
end SL
namespace L2
open PySem PySem.Spec PyProof.Rows
theorem for_str {z : Str} {g : TG} {tb : TS} {D : Ends} {σ : St} {H : Hp} (Pv : Nat → St → Hp → Prop) (h0 : Pv 0 σ H)
    (hs : ∀ i c σ H, z.cps[i]? = some c → Pv i σ H → g (.str ⟨#[c]⟩) σ H fun σ2 H2 => tb { D with nx := Pv (i + 1), ct := Pv (i + 1), bk := D.nx } σ2 H2) (hd : ∀ σ H, Pv z.length σ H → D.nx σ H) :
    ∃ W : Nat → Nat → St → Hp → Prop, (∃ m, W 0 m σ H) ∧ ∀ i m σ H, W i m σ H →
      ((Its z).stop i H ∧ D.nx σ H) ∨ ((Its z).go i H ∧ ∃ N : St → Hp → Prop, (∀ σ' H', N σ' H' → ∃ m', m' < m ∧ W (i + 1) m' σ' H') ∧ ∀ x H', (Its z).yld i H x H' → g x σ H' fun σ2 H2 => tb { D with nx := N, ct := N, bk := D.nx } σ2 H2) := by
  refine ⟨fun i m σ H => m = z.length - i ∧ i ≤ z.length ∧ Pv i σ H, ⟨z.length, by simp, Nat.zero_le _, h0⟩, ?_⟩
  rintro i m σ H ⟨rfl, hi, p⟩
  by_cases hlt : i < z.length
  · refine .inr ⟨hlt, Pv (i + 1), fun σ' H' p' => ⟨z.length - (i + 1), by omega, rfl, hlt, p'⟩, fun x H' y => ?_⟩
    obtain ⟨e, c, hc, y⟩ := y
    subst e y
    exact hs i c σ _ hc p
  · have e : i = z.length := by omega
    subst e
    exact .inl ⟨Nat.le_refl _, hd σ H p⟩
end L2
namespace SL
open PySem L2

def la (z : Str) : Nat := z.cps.toList.getD (z.length - 1) 0
theorem cps_at (z : Str) (i : Nat) (h : i < z.length) : z.cps.toList[i]? = some (z.cps.toList.getD i 0) := by
  have h' : i < z.cps.toList.length := by rw [cps_len]; exact h
  rw [List.getD, List.getElem?_eq_getElem h']
  rfl
theorem hd_getD (z : Str) : hd z = z.cps.toList.getD 0 0 := by
  unfold hd
  cases z.cps.toList <;> rfl
theorem at_last {z : Str} (h : 1 ≤ z.length) : atI z.cps.toList (-1) = some (la z) := by
  have e := cps_len z
  unfold atI ixN
  rw [if_neg (by omega), if_pos (by omega), e]
  show z.cps.toList[(-1 + (z.length : Int)).toNat]? = some (la z)
  have : (-1 + (z.length : Int)).toNat = z.length - 1 := by omega
  rw [this]
  exact cps_at z _ (by omega)
theorem starts_iff (z : Str) (c : Nat) (h : 1 ≤ z.length) : Txt.startswith z ⟨#[c]⟩ = decide (hd z = c) := by
  have q := StrLaws.subAt_one z c 0
  rw [cps_at z 0 (by omega), ← hd_getD] at q
  rw [Bool.eq_iff_iff, decide_eq_true_iff]
  unfold Txt.startswith
  rw [Bool.and_eq_true_iff, decide_eq_true_iff]
  exact ⟨fun y => by
    have := q.mp y
    injection this, fun y => q.mpr (by rw [y])⟩
theorem ends_iff (z : Str) (c : Nat) (h : 1 ≤ z.length) : Txt.endswith z ⟨#[c]⟩ = decide (la z = c) := by
  have q := StrLaws.subAt_one z c (z.length - 1)
  rw [cps_at z _ (by omega)] at q
  rw [Bool.eq_iff_iff, decide_eq_true_iff]
  unfold Txt.endswith
  rw [Bool.and_eq_true_iff, decide_eq_true_iff]
  have e1 : (⟨#[c]⟩ : Str).length = 1 := rfl
  rw [e1] at q ⊢
  exact ⟨fun y => by
    have := q.mp ⟨by omega, y.2⟩
    injection this, fun y => by
    obtain ⟨y1, y2⟩ := q.mpr (congrArg some y)
    exact ⟨by omega, y2⟩⟩

def inn (z : Str) : Str := Txt.slice z (some 1) (some (-1))
theorem isList_law (z : Str) : isList z = (decide (2 ≤ z.length) && (decide (hd z = 91) && (decide (la z = 93) && (decide (z = Str.ofString "[]") || (decide ((spl 44 (inn z).cps.toList).length ≤ 4) && (spl 44 (inn z).cps.toList).all isItem))))) := by
  have e1 : Str.ofString "," = (⟨#[44]⟩ : Str) := rfl
  have e2 : Str.ofString "[" = (⟨#[91]⟩ : Str) := rfl
  have e3 : Str.ofString "]" = (⟨#[93]⟩ : Str) := rfl
  unfold isList
  rw [e1, e2, e3, split_spl _ (by decide)]
  by_cases h0 : z.length = 0
  · have : Txt.startswith z ⟨#[91]⟩ = false := by
      unfold Txt.startswith
      rw [decide_eq_false (by rw [h0]; show ¬ (0 + 1 ≤ 0); omega)]
      rfl
    rw [this, decide_eq_false (show ¬ 2 ≤ z.length by omega)]
    rfl
  · rw [starts_iff z 91 (by omega), ends_iff z 93 (by omega)]
    by_cases h2 : 2 ≤ z.length
    · rw [decide_eq_true h2, Bool.true_and, ← Bool.and_assoc]
      rfl
    · have e : la z = hd z := by
        unfold la
        rw [hd_getD]
        have : z.length - 1 = 0 := by omega
        rw [this]
      rw [decide_eq_false h2, Bool.false_and, e]
      by_cases h : hd z = 91
      · rw [decide_eq_false (show ¬ hd z = 93 by omega), Bool.and_false, Bool.false_and]
      · rw [decide_eq_false h, Bool.false_and, Bool.false_and]
theorem walk_count (c : Nat) : ∀ (l : List Nat) (s : List Str × Str), (l.foldl (spStep c) s).1.length ≤ s.1.length + l.length
  | [], s => Nat.le_refl _
  | x :: l, s => by
    rw [List.foldl_cons]
    have q := walk_count c l (spStep c s x)
    have r : (spStep c s x).1.length ≤ s.1.length + 1 := by
      unfold spStep
      split
      · rw [List.length_append]
        exact Nat.le_refl _
      · exact Nat.le_succ _
    rw [List.length_cons]
    omega
theorem spl_len (c : Nat) (l : List Nat) : (spl c l).length ≤ l.length + 1 := by
  unfold spl
  rw [List.length_append]
  have q := walk_count c l ([], Str.empty)
  have q' : (spWalk c l).1.length ≤ 0 + l.length := q
  have : ([(spWalk c l).2] : List Str).length = 1 := rfl
  omega
theorem one_eq (c d : Nat) : (V.str ⟨#[c]⟩ = V.str ⟨#[d]⟩) ↔ c = d := ⟨fun q => by
  injection q with q
  injection q with q
  simpa using q, fun q => by rw [q]⟩
theorem at_end {α : Type} (xs : List α) (x : α) : atI (xs ++ [x]) (-1) = some x := by
  unfold atI ixN
  rw [if_neg (by omega), if_pos (by rw [List.length_append, List.length_singleton]; omega)]
  show (xs ++ [x])[(-1 + ((xs ++ [x]).length : Int)).toNat]? = some x
  have : (-1 + ((xs ++ [x]).length : Int)).toNat = xs.length := by rw [List.length_append, List.length_singleton]; omega
  rw [this]
  simp
theorem ix_end {α : Type} (xs : List α) (x : α) : ixN (xs ++ [x]).length (-1) = some xs.length := by
  unfold ixN
  rw [if_neg (by omega), if_pos (by rw [List.length_append, List.length_singleton]; omega)]
  have : (-1 + ((xs ++ [x]).length : Int)).toNat = xs.length := by rw [List.length_append, List.length_singleton]; omega
  rw [this]
section
variable {P : Program} {w : World} {K : PySem.W.Frag} {mg : Str → Option Value} {base : Heap}
theorem scIl : FnScope ["_law_text", "_law_items", "_law_sign", "_law_good"] ["_law_text"] (defScope sIl) := ⟨rfl, rfl, rfl, by decide +kernel, rfl, by decide +kernel, by decide +kernel⟩
def scopeIl : Scope := { kind := .function, names := [(".0", .local), ("_law_item", .local), ("_law_is_number", .globalImplicit), ("_law_is_name", .globalImplicit)], isGenerator := false, isCoroutine := false, more := [] }
theorem scIl1 : BlkScope (defScope sIl) ["_law_text", "_law_items", "_law_sign", "_law_good"] ["_law_item"] [] [] scopeIl := ⟨rfl, by decide +kernel, by decide +kernel, by decide +kernel, rfl, by decide +kernel, by decide +kernel⟩
theorem ok_il {f fN fM : Addr} {fd fdN fdM : FuncData} (F : Fun K "_law_is_list" "_law_is_list" sIl f fd) (T : T1 mg)
    (FN : Fun K "_law_is_number" "_law_is_number" sIn fN fdN) (bN : Binds K fdN ["_law_text"] []) (gN : mg "_law_is_number" = some (.ref fN)) (GN : FnOk P w K mg base CX0 2 fN fdN ["_law_text"] (spBo isNum))
    (FM : Fun K "_law_is_name" "_law_is_name" sIm fM fdM) (bM : Binds K fdM ["_law_text"] []) (gM : mg "_law_is_name" = some (.ref fM)) (GM : FnOk P w K mg base CX0 2 fM fdM ["_law_text"] (spBo isName)) : FnOk P w K mg base CX0 3 f fd ["_law_text"] (spBo isList) := by
  refine F.ok scIl (fun vs H Q E h => ?_) (fun cdv A outer s H vs Q E hr h => ?_)
  · obtain ⟨z, rfl, _⟩ := h
    rfl
  · obtain ⟨z, rfl, tz, k⟩ := h
    have hzl := len_sm tz (by decide)
    refine ⟨_, pss_cons (ps_if (PW.pt (pw_or (pt_cmpR op_lt (pe_callB call_len_str (by rfl) T.len PySem.boot_len (pa_cons (pv 0) pa_nil)) pe_int (nomark _)) (pw_or (pt_cmpR op_ne (pe_ix ix_str (pv 0) pe_int (fun _ _ => rfl)) pe_str (nomark _)) (pw_or1 (pt_cmpR op_ne (pe_ix ix_str (pv 0) (pe_un un_neg pe_int) (fun _ _ => rfl)) pe_str (nomark _)))))) (pss_one (ps_ret pe_bl)) pss_nil)
      (pss_cons (ps_if (pt_cmpR op_eq (pv 0) pe_str (nomark _)) (pss_one (ps_ret pe_bl)) pss_nil)
      (pss_cons (ps_set (i := 1) scIl.nd rfl (Or.inl rfl) (pe_lst (pa_cons pe_str pa_nil)))
      (pss_cons (ps_for PassesOwn.never rfl (pi_str (pe_slice sl_str (pv 0) (po_some pe_int) (po_some (pe_un un_neg pe_int)))) (pg_name (i := 2) scIl.nd rfl (Or.inl rfl))
        (pss_one (ps_if (pt_cmpR op_eq (pv 2) pe_str (nomark _)) (pss_one (ps_expr (pe_bm PySem.F.plainAttrs_list PySem.F.slot_list_append PySem.F.type_list_append mt_append (pv 1) (pa_cons pe_str pa_nil))))
          (pss_one (ps_asg (pe_op op_add_str (pe_ix ix_list (pv 1) (pe_un un_neg pe_int) (fun _ _ => rfl)) (pv 2)) (pg_sub (pv 1) (pe_un un_neg pe_int) set_list))))))
      (pss_cons (ps_setlc (i := 3) scIl1 rfl rfl rfl (pi_list (pv 1)) (fun fp C s1 H1 => pg_name (i := 0) scIl1.nd rfl (Or.inl rfl)) (fun fp C s1 H1 => pts_one (PW.pt (pw_or (pt_val (pe_call GN hr rfl gN FN.kp bN .nil pass0 (pa_cons (pv 0) pa_nil))) (pw_or1 (pt_val (pe_call GM hr rfl gM FM.kp bM .nil pass0 (pa_cons (pv 0) pa_nil))))))) (fun fp C s1 H1 => pv 0) scIl.nd rfl rfl rfl)
      (pss_one (ps_ret (pe_and (pe_cmpR op_le (pe_callB call_len_seq (by rfl) T.len PySem.boot_len (pa_cons (pv 1) pa_nil)) pe_int (nomark _)) (pe_one (pe_cmpR op_eq (pe_callB call_len_seq (by rfl) T.len PySem.boot_len (pa_cons (pv 3) pa_nil)) (pe_callB call_len_seq (by rfl) T.len PySem.boot_len (pa_cons (pv 1) pa_nil)) (nomark _)))))))))), ?_⟩
    have ek := isList_law z
    have out : isList z = false → Q (.bl false) H := fun e => by
      have q := k H (Same.refl H)
      rw [e] at q
      exact q
    refine ⟨_, rfl, z, rfl, hzl, _, _, rfl, rfl, _, rfl, ?_⟩
    by_cases h2 : 2 ≤ z.length
    · rw [decide_eq_true h2, Bool.true_and] at ek
      rw [decide_eq_false (by omega)]
      refine iteF ⟨_, rfl, _, _, hd z, rfl, rfl, hzl, at0 (by omega), rfl, !decide (hd z = 91), by rw [show decide (V.str ⟨#[hd z]⟩ = V.str (Str.ofString "[")) = decide (hd z = 91) from decide_eq_decide.mpr (one_eq (hd z) 91)], ?_⟩
      by_cases h91 : hd z = 91
      · rw [decide_eq_true h91, Bool.true_and] at ek
        rw [decide_eq_true h91]
        refine iteF ⟨_, rfl, _, rfl, _, _, la z, rfl, rfl, hzl, at_last (by omega), rfl, !decide (la z = 93), by rw [show decide (V.str ⟨#[la z]⟩ = V.str (Str.ofString "]")) = decide (la z = 93) from decide_eq_decide.mpr (one_eq (la z) 93)], ?_⟩
        by_cases h93 : la z = 93
        · rw [decide_eq_true h93, Bool.true_and] at ek
          rw [decide_eq_true h93]
          refine iteF ⟨_, rfl, rfl, decide (z = Str.ofString "[]"), by rw [decS], ?_⟩
          by_cases hz : z = Str.ofString "[]"
          · rw [decide_eq_true hz] at ek ⊢
            have q := k H (Same.refl H)
            rw [ek] at q
            exact iteT q
          rw [decide_eq_false hz, Bool.false_or] at ek
          rw [decide_eq_false hz]
          have tI : Tx 1000 (inn z) := tz.slice _ _
          refine iteF ⟨(by show 1 ≤ sizeLine; decide), fun l hl => ?_⟩
          refine ⟨_, rfl, _, rfl, _, rfl, _, rfl, z, rfl, hzl, inn z, 1000, rfl, tI, ?_⟩
          have hil : (inn z).cps.toList.length ≤ 1000 := by rw [cps_len]; exact tI.1
          have tx_of : ∀ i, ∀ p ∈ spl 44 ((inn z).cps.toList.take i), Tx 1000 p := fun i p hp => by
            have q := walk_tx 44 ((inn z).cps.toList.take i) ([], Str.empty) 0 (fun x hx => tI.2 x (List.mem_of_mem_take hx)) (fun p hp => by cases hp) ⟨Nat.zero_le _, fun y hy => by cases hy⟩
            have e : 0 + ((inn z).cps.toList.take i).length ≤ 1000 := by
              rw [List.length_take]
              omega
            unfold spl at hp
            rcases List.mem_append.mp hp with hp | hp
            · exact (q.1 p hp).mono e
            · rw [List.mem_singleton] at hp
              subst hp
              exact q.2.mono e
          refine for_str (z := inn z) (fun i σ H2 => (∃ v, σ = [some (.str z), some (.ref l), v, none]) ∧ Same H H2 ∧ H2 l = some (.lst ((spl 44 ((inn z).cps.toList.take i)).map V.str))) ⟨⟨none, rfl⟩, (Same.refl H).upd_free hl, upd_same⟩ ?_ ?_
          · rintro i c σ H2 hc ⟨⟨v, rfl⟩, s2, hL⟩
            have hc' : (inn z).cps.toList[i]? = some c := by simpa using hc
            have tk : (inn z).cps.toList.take (i + 1) = (inn z).cps.toList.take i ++ [c] := by rw [List.take_add_one, hc']; rfl
            have eS := spWalk_snoc 44 ((inn z).cps.toList.take i) c
            have hn := spl_len 44 ((inn z).cps.toList.take i)
            have hn2 : ((inn z).cps.toList.take i).length ≤ 1000 := by rw [List.length_take]; omega
            refine ⟨_, rfl, rfl, decide (c = 44), by rw [show decide (V.str ⟨#[c]⟩ = V.str (Str.ofString ",")) = decide (c = 44) from decide_eq_decide.mpr (one_eq c 44)], ?_⟩
            by_cases h44 : c = 44
            · rw [decide_eq_true h44]
              refine iteT ⟨_, rfl, .inl ⟨rfl, _, SqL.of hL⟩, l, _, _, rfl, rfl, hL, Nat.lt_of_le_of_lt (by rw [List.length_map]; omega) (show 1001 < sizeLine by decide), ⟨_, rfl⟩, s2.upd_free hl, ?_⟩
              rw [upd_same, tk]
              unfold spl at hL ⊢
              rw [eS]
              unfold spStep
              rw [if_pos h44, show Str.ofString "" = Str.empty from rfl]
              simp only [List.map_append, List.map_cons, List.map_nil]
            · rw [decide_eq_false h44]
              have eL : (spl 44 ((inn z).cps.toList.take i)).map V.str = (spWalk 44 ((inn z).cps.toList.take i)).1.map V.str ++ [.str (spWalk 44 ((inn z).cps.toList.take i)).2] := by
                unfold spl
                rw [List.map_append]
                rfl
              have t2 := tx_of i (spWalk 44 ((inn z).cps.toList.take i)).2 (by unfold spl; simp)
              rw [eL] at hL
              refine iteF ⟨_, rfl, _, rfl, l, _, _, _, rfl, rfl, SqL.of hL, at_end _ _, _, rfl, _, _, rfl, rfl, Nat.le_trans (Nat.add_le_add_right t2.1 _) (show 1000 + 1 ≤ sizeLine by decide), _, rfl, _, rfl, l, _, _, _, rfl, rfl, hL, ix_end _ _, ⟨_, rfl⟩, s2.upd_free hl, ?_⟩
              rw [upd_same, tk]
              unfold spl
              rw [eS]
              unfold spStep
              rw [if_neg h44, List.map_append]
              simp
          · rintro σ H2 ⟨⟨v, rfl⟩, s2, hL⟩
            rw [← cps_len, List.take_length] at hL
            have txA := tx_of ((inn z).cps.toList.length)
            rw [List.take_length] at txA
            have hn := spl_len 44 (inn z).cps.toList
            generalize hSp : spl 44 (inn z).cps.toList = L at hL txA ek hn
            refine ⟨_, rfl, l, rfl, ⟨_, SqL.of hL⟩, fun D hD => ?_⟩
            refine lc_list (K := K) (a := l) (xs := L.map V.str) (fun i ys H3 => ys = ((L.take i).filter isItem).map V.str ∧ Same H2 H3 ∧ H3 D = some (.lst ys)) (Nat.le_trans (by rw [List.length_map]; omega) (show 1001 ≤ sizeLine by decide)) ⟨rfl, (Same.refl H2).upd_free hD, upd_same⟩ (fun i ys H3 h => ?_) (fun i ys H3 h => SqL.of (h.2.1 _ _ hL)) ?_ ?_
            · rw [h.1, List.length_map]
              refine Nat.le_trans (List.length_filter_le _ _) ?_
              rw [List.length_take]
              exact Nat.min_le_left _ _
            · rintro i ys H3 x N M hx ⟨rfl, s3, hD3⟩ hN hM
              rw [List.getElem?_map] at hx
              cases el : L[i]? with
              | none => rw [el] at hx; cases hx
              | some y =>
                rw [el] at hx
                cases hx
                have ty := txA y (List.mem_of_getElem? el)
                have yes : isItem y = true → ∀ H4, Same H3 H4 → N (V.str y) H4 := fun hi H4 s4 => hN _ H4 (s4 _ _ hD3) ⟨by rw [List.take_add_one, el, List.filter_append, List.map_append]; simp [hi], (s3.trans s4).upd_free hD, upd_same⟩
                refine ⟨_, rfl, y, rfl, ty, fun H4 s4 => ⟨_, rfl, ?_⟩⟩
                cases h1 : isNum y with
                | true => exact iteT (iteT ⟨_, rfl, yes (by unfold isItem; rw [h1]; rfl) H4 s4⟩)
                | false =>
                  refine iteF ⟨_, rfl, y, rfl, ty, fun H5 s5 => ⟨_, rfl, ?_⟩⟩
                  cases h3 : isName y with
                  | true => exact iteT ⟨_, rfl, yes (by unfold isItem; rw [h1, h3]; rfl) H5 (s4.trans s5)⟩
                  | false =>
                    refine iteF (hM H5 ⟨?_, s3.trans (s4.trans s5), (s4.trans s5) _ _ hD3⟩)
                    have hi : isItem y = false := by unfold isItem; rw [h1, h3]; rfl
                    rw [List.take_add_one, el, List.filter_append, List.map_append]
                    simp [hi]
            · rintro ys H3 ⟨rfl, s3, hD3⟩
              rw [List.length_map, List.take_length] at hD3
              have q := k H3 (s2.trans s3)
              rw [ek] at q
              refine ⟨_, rfl, l, _, rfl, .inl (SqL.of (s3 _ _ hL)), _, _, rfl, rfl, decide (L.length ≤ 4), by (show V.bl (decide (((L.map V.str).length : Int) ≤ 4)) = _); rw [List.length_map, show decide ((L.length : Int) ≤ 4) = decide (L.length ≤ 4) from decide_eq_decide.mpr (by omega)], ?_⟩
              by_cases h4 : L.length ≤ 4
              · rw [decide_eq_true h4, Bool.true_and] at q
                rw [decide_eq_true h4]
                refine iteT ⟨_, rfl, D, _, rfl, .inl (SqL.of hD3), _, rfl, l, _, rfl, .inl (SqL.of (s3 _ _ hL)), rfl, ?_⟩
                have e : decide (V.int ((((L.filter isItem).map V.str).length : Nat) : Int) = V.int (((L.map V.str).length : Nat) : Int)) = L.all isItem := by
                  rw [Bool.eq_iff_iff, decide_eq_true_iff, List.length_map, List.length_map, List.all_eq_true, ← List.length_filter_eq_length_iff]
                  exact ⟨fun y => by injection y with y; omega, fun y => by rw [y]⟩
                rw [e]
                exact q
              · rw [decide_eq_false h4, Bool.false_and] at q
                rw [decide_eq_false h4]
                exact iteF q
        · rw [decide_eq_false h93, Bool.false_and] at ek
          rw [decide_eq_false h93]
          exact iteT (out ek)
      · rw [decide_eq_false h91, Bool.false_and] at ek
        rw [decide_eq_false h91]
        exact iteT (iteT (out ek))
    · rw [decide_eq_false h2, Bool.false_and] at ek
      rw [decide_eq_true (by omega)]
      exact iteT (iteT (out ek))
end
end SL
namespace SL
open PySem L2
def MAS : Str := Str.ofString "abcdefghijklmnopqrstuvwxyz0123456789" ++ Str.ofString "ABCDEFGHIJKLMNOPQRSTUVWXYZ.:-_/="
theorem mas_mem (c : Nat) : hasC MAS c = hasC MAR c := by
  have h1 : MAS.cps.toList.all (fun c => decide (c ∈ MAR.cps.toList)) = true := by decide +kernel
  have h2 : MAR.cps.toList.all (fun c => decide (c ∈ MAS.cps.toList)) = true := by decide +kernel
  rw [List.all_eq_true] at h1 h2
  exact decide_eq_decide.mpr ⟨fun h => of_decide_eq_true (h1 c h), fun h => of_decide_eq_true (h2 c h)⟩
theorem mas_made (z : Str) : madeM MAS z = madeM MAR z := by
  unfold madeM
  congr 1
  funext c
  exact mas_mem c
section
variable {P : Program} {w : World} {K : PySem.W.Frag} {mg : Str → Option Value} {base : Heap}
theorem scLs : FnScope ["_law_text", "_law_small"] ["_law_text"] (defScope sLs) := ⟨rfl, rfl, rfl, by decide +kernel, rfl, by decide +kernel, by decide +kernel⟩
theorem ok_ls {f fO fN fM fL : Addr} {fd fdO fdN fdM fdL : FuncData} (F : Fun K "_law_sort" "_law_sort" sLs f fd) (T : T1 mg) (FO : Fun K "_law_of" "_law_of" sOf fO fdO) (bO : Binds K fdO ["_law_text", "_law_signs_here"] []) (gO : mg "_law_of" = some (.ref fO))
    (FN : Fun K "_law_is_number" "_law_is_number" sIn fN fdN) (bN : Binds K fdN ["_law_text"] []) (gN : mg "_law_is_number" = some (.ref fN))
    (FM : Fun K "_law_is_name" "_law_is_name" sIm fM fdM) (bM : Binds K fdM ["_law_text"] []) (gM : mg "_law_is_name" = some (.ref fM))
    (FL : Fun K "_law_is_list" "_law_is_list" sIl fL fdL) (bL : Binds K fdL ["_law_text"] []) (gL : mg "_law_is_list" = some (.ref fL)) : FnOk P w K mg base CX0 4 f fd ["_law_text"] spSo := by
  have GO : FnOk P w K mg base CX0 1 fO fdO ["_law_text", "_law_signs_here"] spOf := ok_of FO
  have GN : FnOk P w K mg base CX0 2 fN fdN ["_law_text"] (spBo isNum) := ok_in FN T FO bO gO
  have GM : FnOk P w K mg base CX0 2 fM fdM ["_law_text"] (spBo isName) := ok_im FM T FO bO gO
  have GL : FnOk P w K mg base CX0 3 fL fdL ["_law_text"] (spBo isList) := ok_il FL T FN bN gN GN FM bM gM GM
  refine F.ok scLs (fun vs H Q E h => ?_) (fun cdv A outer s H vs Q E hr h => ?_)
  · obtain ⟨z, rfl, _⟩ := h
    rfl
  · obtain ⟨z, rfl, tz, k⟩ := h
    have hzl := len_sm tz (by decide)
    have hr1 : Room 1 _ := hr.mono (by decide)
    have hr2 : Room 2 _ := hr.mono (by decide)
    refine ⟨_, pss_cons (ps_if (pt_val (pe_call GN hr2 rfl gN FN.kp bN .nil pass0 (pa_cons (pv 0) pa_nil))) (pss_one (ps_ret pe_str)) pss_nil)
      (pss_cons (ps_if (pt_val (pe_call GM hr2 rfl gM FM.kp bM .nil pass0 (pa_cons (pv 0) pa_nil))) (pss_one (ps_ret pe_str)) pss_nil)
      (pss_cons (ps_if (pt_val (pe_call GL hr rfl gL FL.kp bL .nil pass0 (pa_cons (pv 0) pa_nil))) (pss_one (ps_ret pe_str)) pss_nil)
      (pss_cons (ps_set (i := 1) scLs.nd rfl (Or.inl rfl) pe_str)
      (pss_cons (ps_if (PW.pt (pw_and (pt_cmpR op_ne (pv 0) pe_str (nomark _)) (pw_and (pt_cmpR op_le (pe_callB call_len_str (by rfl) T.len PySem.boot_len (pa_cons (pv 0) pa_nil)) pe_int (nomark _)) (pw_and1 (pt_val (pe_call GO hr1 rfl gO FO.kp bO .nil pass0 (pa_cons (pv 0) (pa_cons (pe_op op_add_str (pv 1) pe_str) pa_nil)))))))) (pss_one (ps_ret pe_str)) pss_nil)
      (pss_one (ps_ret pe_non)))))), ?_⟩
    unfold sortM at k
    refine ⟨_, rfl, z, rfl, tz, fun H1 s1 => ⟨_, rfl, ?_⟩⟩
    cases h1 : isNum z with
    | true =>
      have q := k H1 s1
      rw [if_pos h1] at q
      exact iteT q
    | false =>
      rw [if_neg (by rw [h1]; nofun)] at k
      refine iteF ⟨_, rfl, z, rfl, tz, fun H2 s2 => ⟨_, rfl, ?_⟩⟩
      cases h2 : isName z with
      | true =>
        have q := k H2 (s1.trans s2)
        rw [if_pos h2] at q
        exact iteT q
      | false =>
        rw [if_neg (by rw [h2]; nofun)] at k
        refine iteF ⟨_, rfl, z, rfl, tz, fun H3 s3 => ⟨_, rfl, ?_⟩⟩
        have t3 := s1.trans (s2.trans s3)
        cases h3 : isList z with
        | true =>
          have q := k H3 t3
          rw [if_pos h3] at q
          exact iteT q
        | false =>
          rw [if_neg (by rw [h3]; nofun)] at k
          have em : isMark z = (decide (1 ≤ z.length ∧ z.length ≤ 12) && madeM MAR z) := by
            unfold isMark isItem
            rw [h1, h2]
            cases madeM MAR z <;> rfl
          have out : ∀ H', Same H H' → isMark z = false → Q .non H' := fun H' s' e => by
            have q := k H' s'
            rw [if_neg (by rw [e]; nofun)] at q
            exact q
          refine iteF ⟨_, rfl, rfl, !decide (z = Str.ofString ""), by rw [decS], ?_⟩
          by_cases h0 : z.length = 0
          · rw [decide_eq_true ((nil_iff z).mpr h0)]
            exact iteF (iteF (out H3 t3 (by rw [em, decide_eq_false (by omega)]; rfl)))
          rw [decide_eq_false (fun q => h0 ((nil_iff z).mp q))]
          refine iteT ⟨_, rfl, z, rfl, hzl, _, _, rfl, rfl, _, rfl, ?_⟩
          by_cases h12 : z.length ≤ 12
          · rw [decide_eq_true (by omega)]
            refine iteT ⟨_, rfl, _, rfl, _, _, rfl, rfl, by decide +kernel, z, MAS, rfl, tz, fun H4 s4 => ⟨_, rfl, ?_⟩⟩
            rw [mas_made]
            rw [decide_eq_true ⟨by omega, h12⟩, Bool.true_and] at em
            cases hm : madeM MAR z with
            | true =>
              have q := k H4 (t3.trans s4)
              rw [if_pos (by rw [em, hm])] at q
              exact iteT q
            | false => exact iteF (out H4 (t3.trans s4) (by rw [em, hm]))
          · rw [decide_eq_false (by omega)]
            exact iteF (iteF (out H3 t3 (by rw [em, decide_eq_false (by omega)]; rfl)))
end
end SL
namespace SL
open PySem L2

def Tn (n : Nat) (z : Str) : Prop := z.length ≤ n ∧ ∀ c ∈ z.cps.toList, c < 128 ∧ c ≠ 32
theorem Tn.mono {n m : Nat} {z : Str} (h : Tn n z) (k : n ≤ m) : Tn m z := ⟨Nat.le_trans h.1 k, h.2⟩
theorem Tn.app {n m : Nat} {y z : Str} (h : Tn n y) (k : Tn m z) : Tn (n + m) (y ++ z) := by
  refine ⟨by rw [Str.length_append]; exact Nat.add_le_add h.1 k.1, fun c hc => ?_⟩
  have e : (y ++ z).cps = y.cps ++ z.cps := rfl
  rw [e, Array.toList_append] at hc
  rcases List.mem_append.mp hc with q | q
  · exact h.2 c q
  · exact k.2 c q
theorem Tn.one {c : Nat} (h : c < 128 ∧ c ≠ 32) : Tn 1 (⟨#[c]⟩ : Str) := ⟨Nat.le_refl _, fun d hd => by
  have : d = c := by simpa using hd
  omega⟩
theorem Tn.slice {n : Nat} {z : Str} (h : Tn n z) (lo hi : Option Int) : Tn n (Txt.slice z lo hi) := by
  refine ⟨Nat.le_trans (Txt.slice_le z lo hi) h.1, fun c hc => ?_⟩
  unfold Txt.slice at hc
  split at hc
  · exact h.2 c hc
  · have hc' : c ∈ ((Builtin.Str.strSliceIndices lo hi 1 z.length).filterMap (z.cps[·]?)) := by simpa using hc
    obtain ⟨j, _, e⟩ := List.mem_filterMap.mp hc'
    exact h.2 c (by
      have := Array.mem_of_getElem? e
      simpa using this)
theorem join_tn (sep : Str) {n m : Nat} (hs : Tn m sep) : ∀ {ys : List Str}, (∀ y ∈ ys, Tn n y) → Tn (ys.length * (n + m)) (Str.join sep ys)
  | [], _ => ⟨Nat.zero_le _, fun c hc => by
    have : c ∈ ([] : List Nat) := hc
    simp at this⟩
  | [x], h => by
    have q : Tn n (Str.join sep [x]) := h x List.mem_cons_self
    exact q.mono (by rw [List.length_singleton]; omega)
  | x :: y :: r, h => by
    have q := join_tn sep hs (ys := y :: r) fun z hz => h z (List.mem_cons_of_mem _ hz)
    have e : Str.join sep (x :: y :: r) = x ++ sep ++ Str.join sep (y :: r) := rfl
    rw [e]
    refine (((h x List.mem_cons_self).app hs).app q).mono ?_
    simp only [List.length_cons, Nat.succ_mul]
    omega
theorem Tn.tx {n : Nat} {z : Str} (h : Tn n z) : Tx n z := ⟨h.1, fun c hc => (h.2 c hc).1⟩
end SL
namespace SL
open PySem L2
def txB (n : Nat) (z : Str) : Bool := decide (z.length ≤ n) && z.cps.toList.all fun c => decide (c < 128 ∧ c ≠ 32)
theorem txK {n : Nat} {z : Str} (h : txB n z = true) : Tn n z := by
  unfold txB at h
  rw [Bool.and_eq_true] at h
  exact ⟨of_decide_eq_true h.1, fun c hc => of_decide_eq_true (List.all_eq_true.mp h.2 c hc)⟩
theorem ifb {c : Bool} {A B : Prop} (h1 : A) (h2 : B) : if c = true then A else B := by
  cases c with
  | true => exact iteT h1
  | false => exact iteF h2
theorem len2 {n m : Nat} {y z : Str} (h : Tn n y) (k : Tn m z) (hn : n + m ≤ 1000) : y.length + z.length ≤ sizeLine := Nat.le_of_lt (small1000 (Nat.le_trans (Nat.add_le_add h.1 k.1) hn))
theorem sum_len {n : Nat} : ∀ {ys : List Str}, (∀ y ∈ ys, Tn n y) → (ys.map (·.length)).sum ≤ ys.length * n
  | [], _ => Nat.zero_le _
  | y :: ys, h => by
    have q := sum_len (ys := ys) fun z hz => h z (List.mem_cons_of_mem _ hz)
    have r := (h y List.mem_cons_self).1
    rw [List.map_cons, List.sum_cons, List.length_cons, Nat.succ_mul]
    omega
theorem len_smN {n : Nat} {z : Str} (h : Tn n z) (hn : n ≤ 1000) : z.length ≤ sizeLine := len_sm h.tx hn
section
variable {P : Program} {w : World} {K : PySem.W.Frag} {mg : Str → Option Value} {base : Heap}
theorem scSi : FnScope ["_law_cell", "_law_many", "_law_signs_here", "_law_found", "_law_number", "_law_k"] ["_law_cell", "_law_many", "_law_signs_here"] (defScope sSi) := ⟨rfl, rfl, rfl, by decide +kernel, rfl, by decide +kernel, by decide +kernel⟩
theorem scNu : FnScope ["_law_cell", "_law_many"] ["_law_cell"] (defScope sNu) := ⟨rfl, rfl, rfl, by decide +kernel, rfl, by decide +kernel, by decide +kernel⟩
theorem scNa : FnScope ["_law_cell", "_law_small"] ["_law_cell"] (defScope sNa) := ⟨rfl, rfl, rfl, by decide +kernel, rfl, by decide +kernel, by decide +kernel⟩
end
end SL
namespace SL
open PySem L2
section
variable {P : Program} {w : World} {K : PySem.W.Frag} {mg : Str → Option Value} {base : Heap}
theorem scMk : FnScope ["_law_cell", "_law_signs_here", "_law_many", "_law_word_here", "_law_at", "_law_great"] ["_law_cell"] (defScope sMk) := ⟨rfl, rfl, rfl, by decide +kernel, rfl, by decide +kernel, by decide +kernel⟩
theorem scLi : FnScope ["_law_cell", "_law_items", "_law_k", "_law_part"] ["_law_cell"] (defScope sLi) := ⟨rfl, rfl, rfl, by decide +kernel, rfl, by decide +kernel, by decide +kernel⟩
theorem scWo : FnScope ["_law_cell"] ["_law_cell"] (defScope sWo) := ⟨rfl, rfl, rfl, by decide +kernel, rfl, by decide +kernel, by decide +kernel⟩
end
end SL
namespace SL
open PySem L2

theorem made_mem {S z : Str} (h : madeM S z = true) : ∀ c ∈ z.cps.toList, c ∈ S.cps.toList := fun c hc => of_decide_eq_true (List.all_eq_true.mp h c hc)
theorem made_of_mem {S z : Str} (h : ∀ c ∈ z.cps.toList, c ∈ S.cps.toList) : madeM S z = true := List.all_eq_true.mpr fun c hc => decide_eq_true (h c hc)
theorem made_app {S y z : Str} (h : madeM S y = true) (k : madeM S z = true) : madeM S (y ++ z) = true := made_of_mem fun c hc => by
  rw [app_list] at hc
  exact (List.mem_append.mp hc).elim (made_mem h c) (made_mem k c)
theorem made_one {S : Str} {c : Nat} (h : c ∈ S.cps.toList) : madeM S (⟨#[c]⟩ : Str) = true := made_of_mem fun d hd => by
  have : d = c := by simpa using hd
  rw [this]
  exact h
theorem made_sub {A S z : Str} (hA : madeM S A = true) (h : madeM A z = true) : madeM S z = true := made_of_mem fun c hc => made_mem hA c (made_mem h c hc)
theorem mar_plain : ∀ c ∈ MAR.cps.toList, c < 128 ∧ c ≠ 32 := by
  have e : MAR.cps.toList.all (fun c => decide (c < 128 ∧ c ≠ 32)) = true := by decide +kernel
  exact fun c hc => of_decide_eq_true (List.all_eq_true.mp e c hc)
theorem okMark.tn {z : Str} (h : okMark z) : Tn 12 z := ⟨h.2.1, fun c hc => mar_plain c (made_mem h.2.2 c hc)⟩
theorem nam_mar : madeM MAR NAM = true := by decide +kernel
theorem item_mark {x : Str} (h : isItem x = true) : okMark x := by
  have q := item_plain h
  exact ⟨q.1, q.2.1, made_sub nam_mar q.2.2⟩
theorem Wd.tn {z : Str} (h : Wd z) : Tn 60 z := by
  cases h with
  | mar h => exact h.tn.mono (by decide)
  | lis xs h hi e =>
    subst e
    have tc : Tn 1 (Str.ofString ",") := txK (by decide +kernel)
    have tl : Tn 1 (Str.ofString "[") := txK (by decide +kernel)
    have tr : Tn 1 (Str.ofString "]") := txK (by decide +kernel)
    have tj := (join_tn (Str.ofString ",") tc (fun x hx => (item_mark (hi x hx)).tn)).mono (m := 52) (by omega)
    exact ((tl.app tj).app tr).mono (by decide)
theorem Wd.item {z : Str} (h : isItem z = true) : Wd z := .mar (item_mark h)
theorem sl_mem {z : Str} {lo hi : Option Int} : ∀ c ∈ (Txt.slice z lo hi).cps.toList, c ∈ z.cps.toList := by
  intro c hc
  unfold Txt.slice at hc
  split at hc
  · exact hc
  · have hc' : c ∈ ((Builtin.Str.strSliceIndices lo hi 1 z.length).filterMap (z.cps[·]?)) := by simpa using hc
    obtain ⟨j, _, e⟩ := List.mem_filterMap.mp hc'
    have := Array.mem_of_getElem? e
    simpa using this
theorem sl_to_len {z : Str} {a : Int} (h0 : 0 ≤ a) (h1 : a ≤ (z.length : Int)) : (Txt.slice z none (some a)).length = a.toNat := by
  have hl : z.cps.toList.length = z.length := by simp [Str.length]
  have e1 : Txt.slice z none (some a) = ⟨((z.cps.toList.drop 0).take (a - 0).toNat).toArray⟩ := StrLaws.sliceText_to ⟨h0, by rw [hl]; exact h1⟩
  rw [e1]
  show ((z.cps.toList.drop 0).take (a - 0).toNat).toArray.size = _
  rw [List.size_toArray, List.length_take, List.length_drop, hl]
  omega
theorem sl_from_len {z : Str} {a : Int} (h0 : 0 ≤ a) (h1 : a ≤ (z.length : Int)) : (Txt.slice z (some a) none).length = z.length - a.toNat := by
  have hl : z.cps.toList.length = z.length := by simp [Str.length]
  have e2 : Txt.slice z (some a) none = ⟨((z.cps.toList.drop a.toNat).take ((z.cps.toList.length : Int) - a).toNat).toArray⟩ := StrLaws.sliceText_from ⟨h0, by rw [hl]; exact h1⟩
  rw [e2]
  show ((z.cps.toList.drop a.toNat).take ((z.cps.toList.length : Int) - a).toNat).toArray.size = _
  rw [List.size_toArray, List.length_take, List.length_drop, hl]
  omega
theorem sign_atM {S : Str} {i : Int} (h0 : 0 ≤ i) (h1 : i < (S.length : Int)) : ∃ c, c ∈ S.cps.toList ∧ atI S.cps.toList i = some c := by
  have hl : S.cps.toList.length = S.length := by simp [Str.length]
  exact atI_someW S.cps.toList i h0 (by rw [hl]; exact h1)
def spSgM : Sp := fun vs H Q _ => ∃ (c m : Int) (S : Str), vs = [.int c, .int m, .str S] ∧ 0 ≤ m ∧ m ≤ 20 ∧ Tn 100 S ∧ 1 ≤ S.length ∧ ∀ (y : Str) (H' : Hp), y.length = m.toNat → madeM S y = true → Same H H' → Q (.str y) H'
def spWx (p : Str → Prop) : Sp := fun vs H Q _ => ∃ c : Int, vs = [.int c] ∧ ∀ (y : Str) (H' : Hp), p y → Same H H' → Q (.str y) H'
theorem made_tn {S y : Str} {n m : Nat} (t : Tn n S) (h : madeM S y = true) (l : y.length ≤ m) : Tn m y := ⟨l, fun c hc => t.2 c (made_mem h c hc)⟩
theorem num_of {d : Nat} {y : Str} (hd9 : d ∈ (Str.ofString "123456789").cps.toList) (hy : madeM FIG y = true) (l : y.length ≤ 8) : isNum ((⟨#[d]⟩ : Str) ++ y) = true := by
  have hF : madeM FIG (Str.ofString "123456789") = true := by decide +kernel
  have el : ((⟨#[d]⟩ : Str) ++ y).length = 1 + y.length := by rw [Str.length_append]; rfl
  have eh : hd ((⟨#[d]⟩ : Str) ++ y) = d := by
    unfold hd
    rw [app_list]
    rfl
  unfold isNum
  rw [decide_eq_true ⟨by omega, by omega⟩, made_app (made_one (made_mem hF d hd9)) hy, eh]
  have ne : ¬ (⟨#[d]⟩ : Str) = Str.ofString "0" := fun e => by
    have e' : d = 48 := by
      have q : (#[d] : Array Nat) = #[48] := congrArg Str.cps e
      simpa using q
    subst e'
    revert hd9
    decide +kernel
  rw [decide_eq_false ne]
  simp
theorem num_one {d : Nat} (h : d ∈ FIG.cps.toList) : isNum (⟨#[d]⟩ : Str) = true := by
  have e : FIG.cps.toList.all (fun d => isNum (⟨#[d]⟩ : Str)) = true := by decide +kernel
  exact List.all_eq_true.mp e d h
theorem name_of {d : Nat} {y : Str} (hd : d ∈ SMA.cps.toList) (hy : madeM NAM y = true) (l : y.length ≤ 11) : isName ((⟨#[d]⟩ : Str) ++ y) = true := by
  have hF : madeM NAM SMA = true := by decide +kernel
  have el : ((⟨#[d]⟩ : Str) ++ y).length = 1 + y.length := by rw [Str.length_append]; rfl
  have eh : SL.hd ((⟨#[d]⟩ : Str) ++ y) = d := by
    unfold SL.hd
    rw [app_list]
    rfl
  unfold isName
  rw [decide_eq_true ⟨by omega, by omega⟩, made_app (made_one (made_mem hF d hd)) hy, eh, show hasC SMA d = true from decide_eq_true hd]
  rfl
section
variable {P : Program} {w : World} {K : PySem.W.Frag} {mg : Str → Option Value} {base : Heap}
theorem ok_siM {f : Addr} {fd : FuncData} (F : Fun K "_law_signs" "_law_signs" sSi f fd) (T : T1 mg) : FnOk P w K mg base CX0 1 f fd ["_law_cell", "_law_many", "_law_signs_here"] spSgM := by
  refine F.ok scSi (fun vs H Q E h => ?_) (fun cdv A outer s H vs Q E hr h => ?_)
  · obtain ⟨c, m, S, rfl, _⟩ := h
    rfl
  · obtain ⟨c, m, S, rfl, m0, m1, tS, pS, k⟩ := h
    refine ⟨_, pss_cons (ps_set (i := 3) scSi.nd rfl (Or.inl rfl) pe_str)
      (pss_cons (ps_set (i := 4) scSi.nd rfl (Or.inl rfl) (pv 0))
      (pss_cons (ps_for PassesOwn.never rfl (pi_range1 rfl T.range (pa_cons (pv 1) pa_nil)) (pg_name (i := 5) scSi.nd rfl (Or.inl rfl))
        (pss_cons (ps_set (i := 4) scSi.nd rfl (Or.inl rfl) (pe_op op_mod (pe_op op_mul (pe_op op_add (pe_op op_add (pe_op op_mod (pv 4) pe_int) (pv 5)) pe_int) pe_int) pe_int))
        (pss_one (ps_set (i := 3) scSi.nd rfl (Or.inl rfl) (pe_op op_add_str (pv 3) (pe_ix ix_str (pv 2) (pe_op op_mod (pv 4) (pe_callB call_len_str (by rfl) T.len PySem.boot_len (pa_cons (pv 2) pa_nil))) (fun _ _ => rfl)))))))
      (pss_one (ps_ret (pv 3))))), ?_⟩
    refine ⟨_, rfl, _, rfl, _, rfl, by omega, by omega, ?_⟩
    refine for_range (n := m.toNat) (fun i σ H2 => H2 = H ∧ ∃ (y : Str) (n : Int) (v : Option V), σ = [some (.int c), some (.int m), some (.str S), some (.str y), some (.int n), v] ∧ y.length = i ∧ madeM S y = true) ⟨rfl, Str.ofString "", c, none, rfl, rfl, rfl⟩ ?_ ?_
    · rintro i σ H2 hi ⟨rfl, y, n, v, rfl, ly, my⟩
      refine ⟨_, rfl, _, _, rfl, rfl, (by show (0 : Int) < 2147483647; decide), _, rfl, _, _, rfl, rfl, _, _, rfl, rfl, _, _, rfl, rfl, .inr ⟨by decide, by decide⟩, _, _, rfl, rfl, (by show (0 : Int) < 2147483647; decide), ?_⟩
      refine ⟨_, rfl, _, rfl, _, rfl, _, rfl, S, rfl, len_smN tS (by decide), _, _, rfl, rfl, (by show (0 : Int) < (S.length : Int); omega), ?_⟩
      obtain ⟨d, hdS, hd⟩ := sign_atM (S := S) (i := (n % 2147483647 + (0 + (i : Int)) + 1) * 48271 % 2147483647 % (S.length : Int)) (Int.emod_nonneg _ (by omega)) (Int.emod_lt_of_pos _ (by omega))
      have l2 : y.length + (⟨#[d]⟩ : Str).length ≤ sizeLine := Nat.le_of_lt (small1000 (by show y.length + 1 ≤ 1000; omega))
      refine ⟨S, _, d, rfl, rfl, len_smN tS (by decide), hd, _, _, rfl, rfl, l2, rfl, _, _, _, rfl, by rw [Str.length_append, ly]; rfl, made_app my (made_one hdS)⟩
    · rintro σ H2 ⟨rfl, y, n, v, rfl, ly, my⟩
      exact ⟨_, rfl, k y H2 ly my (Same.refl H2)⟩
theorem ok_nuM {f fS : Addr} {fd fdS : FuncData} (F : Fun K "_law_number_word" "_law_number_word" sNu f fd) (T : T1 mg) (FS : Fun K "_law_signs" "_law_signs" sSi fS fdS) (bS : Binds K fdS ["_law_cell", "_law_many", "_law_signs_here"] []) (gS : mg "_law_signs" = some (.ref fS)) : FnOk P w K mg base CX0 2 f fd ["_law_cell"] (spWx fun y => isNum y = true) := by
  have GS : FnOk P w K mg base CX0 1 fS fdS ["_law_cell", "_law_many", "_law_signs_here"] spSgM := ok_siM FS T
  refine F.ok scNu (fun vs H Q E h => ?_) (fun cdv A outer s H vs Q E hr h => ?_)
  · obtain ⟨c, rfl, _⟩ := h
    rfl
  · obtain ⟨c, rfl, k⟩ := h
    refine ⟨_, pss_cons (ps_set (i := 1) scNu.nd rfl (Or.inl rfl) (pe_op op_mod (pv 0) pe_int))
      (pss_cons (ps_if (pt_cmpR op_eq (pv 1) pe_int (nomark _)) (pss_one (ps_ret (pe_ix ix_str pe_str (pe_op op_mod (pe_op op_fdiv (pv 0) pe_int) pe_int) (fun _ _ => rfl)))) pss_nil)
      (pss_one (ps_ret (pe_op op_add_str (pe_ix ix_str pe_str (pe_op op_mod (pe_op op_fdiv (pv 0) pe_int) pe_int) (fun _ _ => rfl)) (pe_call GS hr rfl gS FS.kp bS .nil pass0 (pa_cons (pe_op op_fdiv (pv 0) pe_int) (pa_cons (pv 1) (pa_cons pe_str pa_nil)))))))), ?_⟩
    have t10 : Tn 10 (Str.ofString "0123456789") := txK (by decide +kernel)
    have t9 : Tn 9 (Str.ofString "123456789") := txK (by decide +kernel)
    refine ⟨_, rfl, _, _, rfl, rfl, (by show (0 : Int) < 9; decide), ?_⟩
    refine ⟨_, rfl, rfl, _, rfl, ?_⟩
    refine ifb ?_ ?_
    · obtain ⟨d, hdS, hd⟩ := sign_atM (S := Str.ofString "0123456789") (i := c / 9 % 10) (by omega) (by show c / 9 % 10 < 10; omega)
      exact ⟨_, rfl, _, _, rfl, rfl, ⟨by decide, by decide⟩, _, _, rfl, rfl, (by show (0 : Int) < 10; decide), _, _, d, rfl, rfl, len_smN t10 (by decide), hd, k _ H (num_one hdS) (Same.refl H)⟩
    · obtain ⟨d, hdS, hd⟩ := sign_atM (S := Str.ofString "123456789") (i := c / 9 % 9) (by omega) (by show c / 9 % 9 < 9; omega)
      refine ⟨_, rfl, _, _, rfl, rfl, ⟨by decide, by decide⟩, _, _, rfl, rfl, (by show (0 : Int) < 9; decide), _, _, d, rfl, rfl, len_smN t9 (by decide), hd, _, rfl, _, _, rfl, rfl, ⟨by decide, by decide⟩, _, rfl, _, _, _, rfl, by omega, by omega, t10.mono (by decide), by decide +kernel, fun y H1 ly my s1 => ?_⟩
      have l2 : (⟨#[d]⟩ : Str).length + y.length ≤ sizeLine := Nat.le_of_lt (small1000 (by show 1 + y.length ≤ 1000; omega))
      exact ⟨_, _, rfl, rfl, l2, k _ H1 (num_of hdS my (by omega)) s1⟩
theorem ok_naM {f fS : Addr} {fd fdS : FuncData} (F : Fun K "_law_name_word" "_law_name_word" sNa f fd) (T : T1 mg) (FS : Fun K "_law_signs" "_law_signs" sSi fS fdS) (bS : Binds K fdS ["_law_cell", "_law_many", "_law_signs_here"] []) (gS : mg "_law_signs" = some (.ref fS)) : FnOk P w K mg base CX0 2 f fd ["_law_cell"] (spWx fun y => isName y = true) := by
  have GS : FnOk P w K mg base CX0 1 fS fdS ["_law_cell", "_law_many", "_law_signs_here"] spSgM := ok_siM FS T
  refine F.ok scNa (fun vs H Q E h => ?_) (fun cdv A outer s H vs Q E hr h => ?_)
  · obtain ⟨c, rfl, _⟩ := h
    rfl
  · obtain ⟨c, rfl, k⟩ := h
    refine ⟨_, pss_cons (ps_set (i := 1) scNa.nd rfl (Or.inl rfl) pe_str)
      (pss_one (ps_ret (pe_op op_add_str (pe_ix ix_str (pv 1) (pe_op op_mod (pe_op op_fdiv (pv 0) pe_int) pe_int) (fun _ _ => rfl)) (pe_call GS hr rfl gS FS.kp bS .nil pass0 (pa_cons (pe_op op_fdiv (pv 0) pe_int) (pa_cons (pe_op op_mod (pv 0) pe_int) (pa_cons (pe_op op_add_str (pv 1) pe_str) pa_nil))))))), ?_⟩
    have t26 : Tn 26 (Str.ofString "abcdefghijklmnopqrstuvwxyz") := txK (by decide +kernel)
    have t10 : Tn 10 (Str.ofString "0123456789") := txK (by decide +kernel)
    have mN : madeM NAM (Str.ofString "abcdefghijklmnopqrstuvwxyz" ++ Str.ofString "0123456789") = true := by decide +kernel
    obtain ⟨d, hdS, hd⟩ := sign_atM (S := Str.ofString "abcdefghijklmnopqrstuvwxyz") (i := c / 12 % 26) (by omega) (by show c / 12 % 26 < 26; omega)
    refine ⟨_, rfl, _, rfl, _, _, rfl, rfl, ⟨by decide, by decide⟩, _, _, rfl, rfl, (by show (0 : Int) < 26; decide), _, _, d, rfl, rfl, len_smN t26 (by decide), hd, _, rfl, _, _, rfl, rfl, ⟨by decide, by decide⟩, _, rfl, _, _, rfl, rfl, (by show (0 : Int) < 12; decide), _, rfl, _, _, rfl, rfl, len2 t26 t10 (by decide), _, _, _, rfl, by omega, by omega, (t26.app t10).mono (by decide), by decide +kernel, fun y H1 ly my s1 => ?_⟩
    have l2 : (⟨#[d]⟩ : Str).length + y.length ≤ sizeLine := Nat.le_of_lt (small1000 (by show 1 + y.length ≤ 1000; omega))
    exact ⟨_, _, rfl, rfl, l2, k _ H1 (name_of hdS (made_sub mN my) (by omega)) s1⟩
theorem ok_mkM {f fS : Addr} {fd fdS : FuncData} (F : Fun K "_law_mark_word" "_law_mark_word" sMk f fd) (T : T1 mg) (FS : Fun K "_law_signs" "_law_signs" sSi fS fdS) (bS : Binds K fdS ["_law_cell", "_law_many", "_law_signs_here"] []) (gS : mg "_law_signs" = some (.ref fS)) : FnOk P w K mg base CX0 2 f fd ["_law_cell"] (spWx okMark) := by
  have GS : FnOk P w K mg base CX0 1 fS fdS ["_law_cell", "_law_many", "_law_signs_here"] spSgM := ok_siM FS T
  refine F.ok scMk (fun vs H Q E h => ?_) (fun cdv A outer s H vs Q E hr h => ?_)
  · obtain ⟨c, rfl, _⟩ := h
    rfl
  · obtain ⟨c, rfl, k⟩ := h
    refine ⟨_, pss_cons (ps_set (i := 1) scMk.nd rfl (Or.inl rfl) pe_str)
      (pss_cons (ps_set (i := 2) scMk.nd rfl (Or.inl rfl) (pe_op op_add (pe_op op_mod (pe_op op_fdiv (pv 0) pe_int) pe_int) pe_int))
      (pss_cons (ps_set (i := 3) scMk.nd rfl (Or.inl rfl) (pe_call GS hr rfl gS FS.kp bS .nil pass0 (pa_cons (pe_op op_fdiv (pv 0) pe_int) (pa_cons (pv 2) (pa_cons (pv 1) pa_nil)))))
      (pss_cons (ps_if (PW.pt (pw_and (pt_cmpR op_eq (pe_op op_mod (pv 0) pe_int) pe_int (nomark _)) (pw_and1 (pt_cmpR op_gt (pv 2) pe_int (nomark _))))) (pss_one (ps_ret (pe_op op_add_str pe_str (pe_call GS hr rfl gS FS.kp bS .nil pass0 (pa_cons (pe_op op_fdiv (pv 0) pe_int) (pa_cons (pe_op op_sub (pv 2) pe_int) (pa_cons pe_str pa_nil))))))) pss_nil)
      (pss_cons (ps_set (i := 4) scMk.nd rfl (Or.inl rfl) (pe_op op_mod (pe_op op_fdiv (pv 0) pe_int) (pv 2)))
      (pss_cons (ps_set (i := 5) scMk.nd rfl (Or.inl rfl) pe_str)
      (pss_one (ps_ret (pe_op op_add_str (pe_op op_add_str (pe_slice sl_str (pv 3) po_none (po_some (pv 4))) (pe_ix ix_str (pv 5) (pe_op op_mod (pe_op op_fdiv (pv 0) pe_int) pe_int) (fun _ _ => rfl))) (pe_slice sl_str (pv 3) (po_some (pe_op op_add (pv 4) pe_int)) po_none))))))))), ?_⟩
    have tS : Tn 68 (Str.ofString "abcdefghijklmnopqrstuvwxyzABCDEFGHIJKLMNOPQRSTUVWXYZ0123456789.:-_/=") := txK (by decide +kernel)
    have t10 : Tn 10 (Str.ofString "0123456789") := txK (by decide +kernel)
    have t32 : Tn 32 (Str.ofString "ABCDEFGHIJKLMNOPQRSTUVWXYZ.:-_/=") := txK (by decide +kernel)
    have t0 : Tn 1 (Str.ofString "0") := txK (by decide +kernel)
    have m10 : madeM MAR (Str.ofString "0123456789") = true := by decide +kernel
    have m0 : madeM MAR (Str.ofString "0") = true := by decide +kernel
    have m32 : madeM MAR (Str.ofString "ABCDEFGHIJKLMNOPQRSTUVWXYZ.:-_/=") = true := by decide +kernel
    refine ⟨_, rfl, _, _, rfl, rfl, ⟨by decide, by decide⟩, _, _, rfl, rfl, (by show (0 : Int) < 12; decide), _, _, rfl, rfl, ?_⟩
    refine ⟨_, rfl, _, _, rfl, rfl, ⟨by decide, by decide⟩, _, rfl, _, rfl, _, _, _, rfl, by omega, by omega, tS.mono (by decide), by decide +kernel, fun y H1 ly my s1 => ?_⟩
    have ty' : Tn 12 y := made_tn tS my (by omega)
    have myM : madeM MAR y = true := my
    obtain ⟨d, hdS, hd⟩ := sign_atM (S := Str.ofString "ABCDEFGHIJKLMNOPQRSTUVWXYZ.:-_/=") (i := c / 288 % 32) (by omega) (by show c / 288 % 32 < 32; omega)
    have a0 : 0 ≤ c / 24 % (c / 2 % 12 + 1) := Int.emod_nonneg _ (by omega)
    have a1 : c / 24 % (c / 2 % 12 + 1) < c / 2 % 12 + 1 := Int.emod_lt_of_pos _ (by omega)
    have p1 := sl_to_len (z := y) a0 (by omega)
    have p2 := sl_from_len (z := y) (a := c / 24 % (c / 2 % 12 + 1) + 1) (by omega) (by omega)
    have hd128 := t32.2 d hdS
    have fin : ∀ H', Same H H' → Q (.str (Txt.slice y none (some (c / 24 % (c / 2 % 12 + 1))) ++ ⟨#[d]⟩ ++ Txt.slice y (some (c / 24 % (c / 2 % 12 + 1) + 1)) none)) H' := fun H' s' => k _ H' (by
      have el : (Txt.slice y none (some (c / 24 % (c / 2 % 12 + 1))) ++ (⟨#[d]⟩ : Str) ++ Txt.slice y (some (c / 24 % (c / 2 % 12 + 1) + 1)) none).length = y.length := by
        rw [Str.length_append, Str.length_append, p1, p2]
        show _ + 1 + _ = _
        omega
      exact ⟨by omega, by omega, made_app (made_app (made_of_mem fun c hc => made_mem myM c (sl_mem c hc)) (made_one (made_mem m32 d hdS))) (made_of_mem fun c hc => made_mem myM c (sl_mem c hc))⟩) s'
    refine ⟨_, rfl, _, _, rfl, rfl, (by show (0 : Int) < 2; decide), rfl, _, rfl, ?_⟩
    refine ifb ?_ ?_
    · refine ⟨_, rfl, _, _, rfl, rfl, decide (1 < c / 2 % 12 + 1), rfl, ?_⟩
      by_cases hm : 1 < c / 2 % 12 + 1
      · rw [decide_eq_true hm]
        refine iteT ⟨_, rfl, _, _, rfl, rfl, ⟨by decide, by decide⟩, _, rfl, _, _, rfl, rfl, _, _, _, rfl, by omega, by omega, t10.mono (by decide), by decide +kernel, fun y2 H2 ly2 my2 s2 => ?_⟩
        have ty2' : Tn 12 y2 := made_tn t10 my2 (by omega)
        have el : (Str.ofString "0" ++ y2).length = 1 + y2.length := by rw [Str.length_append]; rfl
        exact ⟨_, _, rfl, rfl, len2 t0 ty2' (by decide), k _ H2 ⟨by omega, by omega, made_app m0 (made_sub m10 my2)⟩ (s1.trans s2)⟩
      · rw [decide_eq_false hm]
        refine iteF ?_
        refine ⟨_, rfl, _, _, rfl, rfl, ⟨by decide, by decide⟩, _, rfl, _, _, rfl, rfl, (by show (0 : Int) < c / 2 % 12 + 1; omega), ?_⟩
        exact ⟨_, rfl, _, rfl, _, rfl, y, rfl, len_smN ty' (by decide), _, rfl, _, rfl, _, _, rfl, rfl, ⟨by decide, by decide⟩, _, _, rfl, rfl, (by show (0 : Int) < 32; decide), _, _, d, rfl, rfl, len_smN t32 (by decide), hd, _, _, rfl, rfl, len2 (ty'.slice _ _) (Tn.one hd128) (by decide), _, rfl, _, rfl, _, _, rfl, rfl, _, rfl, y, rfl, len_smN ty' (by decide), _, _, rfl, rfl, len2 ((ty'.slice _ _).app (Tn.one hd128)) (ty'.slice _ _) (by decide), fin H1 s1⟩
    · refine iteF ?_
      refine ⟨_, rfl, _, _, rfl, rfl, ⟨by decide, by decide⟩, _, rfl, _, _, rfl, rfl, (by show (0 : Int) < c / 2 % 12 + 1; omega), ?_⟩
      exact ⟨_, rfl, _, rfl, _, rfl, y, rfl, len_smN ty' (by decide), _, rfl, _, rfl, _, _, rfl, rfl, ⟨by decide, by decide⟩, _, _, rfl, rfl, (by show (0 : Int) < 32; decide), _, _, d, rfl, rfl, len_smN t32 (by decide), hd, _, _, rfl, rfl, len2 (ty'.slice _ _) (Tn.one hd128) (by decide), _, rfl, _, rfl, _, _, rfl, rfl, _, rfl, y, rfl, len_smN ty' (by decide), _, _, rfl, rfl, len2 ((ty'.slice _ _).app (Tn.one hd128)) (ty'.slice _ _) (by decide), fin H1 s1⟩
theorem ok_liM {f fN fA : Addr} {fd fdN fdA : FuncData} (F : Fun K "_law_list_word" "_law_list_word" sLi f fd) (T : T1 mg)
    (FN : Fun K "_law_number_word" "_law_number_word" sNu fN fdN) (bN : Binds K fdN ["_law_cell"] []) (gN : mg "_law_number_word" = some (.ref fN)) (GN : FnOk P w K mg base CX0 2 fN fdN ["_law_cell"] (spWx fun y => isNum y = true))
    (FA : Fun K "_law_name_word" "_law_name_word" sNa fA fdA) (bA : Binds K fdA ["_law_cell"] []) (gA : mg "_law_name_word" = some (.ref fA)) (GA : FnOk P w K mg base CX0 2 fA fdA ["_law_cell"] (spWx fun y => isName y = true)) : FnOk P w K mg base CX0 3 f fd ["_law_cell"] (spWx fun z => ∃ xs : List Str, xs.length ≤ 4 ∧ (∀ x ∈ xs, isItem x = true) ∧ z = lisOf xs) := by
  refine F.ok scLi (fun vs H Q E h => ?_) (fun cdv A outer s H vs Q E hr h => ?_)
  · obtain ⟨c, rfl, _⟩ := h
    rfl
  · obtain ⟨c, rfl, k⟩ := h
    refine ⟨_, pss_cons (ps_set (i := 1) scLi.nd rfl (Or.inl rfl) (pe_lst pa_nil))
      (pss_cons (ps_for PassesOwn.never rfl (pi_range1 rfl T.range (pa_cons (pe_op op_mod (pv 0) pe_int) pa_nil)) (pg_name (i := 2) scLi.nd rfl (Or.inl rfl))
        (pss_cons (ps_set (i := 3) scLi.nd rfl (Or.inl rfl) (pe_op op_mod (pe_op op_mul (pe_op op_add (pe_op op_fdiv (pv 0) pe_int) (pe_op op_mul (pe_op op_mul pe_int (pv 2)) (pv 2))) pe_int) pe_int))
        (pss_one (ps_if (pt_cmpR op_eq (pe_op op_mod (pv 3) pe_int) pe_int (nomark _)) (pss_one (ps_expr (pe_bm PySem.F.plainAttrs_list PySem.F.slot_list_append PySem.F.type_list_append mt_append (pv 1) (pa_cons (pe_call GN hr rfl gN FN.kp bN .nil pass0 (pa_cons (pe_op op_fdiv (pv 3) pe_int) pa_nil)) pa_nil))))
          (pss_one (ps_expr (pe_bm PySem.F.plainAttrs_list PySem.F.slot_list_append PySem.F.type_list_append mt_append (pv 1) (pa_cons (pe_call GA hr rfl gA FA.kp bA .nil pass0 (pa_cons (pe_op op_fdiv (pv 3) pe_int) pa_nil)) pa_nil))))))))
      (pss_one (ps_ret (pe_op op_add_str (pe_op op_add_str pe_str (pe_bm PySem.F.plainAttrs_str PySem.F.slot_str_join PySem.F.type_str_join mt_join pe_str (pa_cons (pv 1) pa_nil))) pe_str)))), ?_⟩
    refine ⟨Nat.zero_le _, fun l hl => ?_⟩
    refine ⟨_, rfl, _, _, rfl, rfl, (by show (0 : Int) < 5; decide), _, rfl, by omega, by omega, ?_⟩
    refine for_range (n := (c % 5).toNat) (fun i σ H2 => ∃ (zs : List Str) (v v2 : Option V), σ = [some (.int c), some (.ref l), v, v2] ∧ Same H H2 ∧ H2 l = some (.lst (zs.map V.str)) ∧ zs.length ≤ i ∧ ∀ x ∈ zs, isItem x = true)
      ⟨[], none, none, rfl, (Same.refl H).upd_free hl, upd_same, Nat.le_refl _, fun x hx => by simp at hx⟩ ?_ ?_
    · rintro i σ H2 hi ⟨zs, v, v2, rfl, s2, hL, hlen, hin⟩
      have put : ∀ (v2 : Option V) (y : Str) (H3 : Hp), isItem y = true → Same H2 H3 → ∃ (zs' : List Str) (v w : Option V), [some (.int c), some (.ref l), some (.int (0 + (i : Int))), v2] = [some (.int c), some (.ref l), v, w] ∧ Same H (upd H3 l (.lst (zs.map V.str ++ [.str y]))) ∧ (upd H3 l (.lst (zs.map V.str ++ [.str y]))) l = some (.lst (zs'.map V.str)) ∧ zs'.length ≤ i + 1 ∧ ∀ x ∈ zs', isItem x = true := fun v2 y H3 ty s3 => by
        refine ⟨zs ++ [y], _, _, rfl, (s2.trans s3).upd_free hl, by rw [upd_same, List.map_append]; rfl, by rw [List.length_append, List.length_singleton]; omega, fun x hx => ?_⟩
        rcases List.mem_append.mp hx with hx | hx
        · exact hin x hx
        · rw [List.mem_singleton] at hx
          rw [hx]
          exact ty
      have hsm : (zs.map V.str).length < sizeLine := small1000 (by rw [List.length_map]; omega)
      refine ⟨_, rfl, _, _, rfl, rfl, ⟨by decide, by decide⟩, _, rfl, _, _, rfl, rfl, .inl ⟨by decide, by decide⟩, _, rfl, _, _, rfl, rfl, .inr ⟨by omega, by omega⟩, _, _, rfl, rfl, _, _, rfl, rfl, .inr ⟨by decide, by decide⟩, _, _, rfl, rfl, (by show (0 : Int) < 2147483629; decide), ?_⟩
      refine ⟨_, rfl, _, _, rfl, rfl, (by show (0 : Int) < 2; decide), rfl, _, rfl, ?_⟩
      refine ifb ?_ ?_
      · exact ⟨_, rfl, .inl ⟨rfl, _, SqL.of hL⟩, _, rfl, _, _, rfl, rfl, ⟨by decide, by decide⟩, _, rfl, fun y H3 ty s3 => ⟨l, _, _, rfl, rfl, s3 _ _ hL, hsm, put _ y H3 (by unfold isItem; rw [ty]; rfl) s3⟩⟩
      · exact ⟨_, rfl, .inl ⟨rfl, _, SqL.of hL⟩, _, rfl, _, _, rfl, rfl, ⟨by decide, by decide⟩, _, rfl, fun y H3 ty s3 => ⟨l, _, _, rfl, rfl, s3 _ _ hL, hsm, put _ y H3 (by unfold isItem; rw [ty, Bool.or_true]) s3⟩⟩
    · rintro σ H2 ⟨zs, v, v2, rfl, s2, hL, hlen, hin⟩
      have tc : Tn 1 (Str.ofString ",") := txK (by decide +kernel)
      have tl : Tn 1 (Str.ofString "[") := txK (by decide +kernel)
      have tr : Tn 1 (Str.ofString "]") := txK (by decide +kernel)
      have h4 : zs.length ≤ 4 := by omega
      have hin' : ∀ x ∈ zs, Tn 12 x := fun x hx => (item_mark (hin x hx)).tn
      have tj := (join_tn (Str.ofString ",") tc hin').mono (m := 52) (by omega)
      have hs := sum_len hin'
      refine ⟨rfl, _, rfl, _, l, zs, rfl, rfl, SqL.of hL, ?_, ?_⟩
      · have e1 : (Str.ofString ",").length = 1 := by decide +kernel
        show (zs.map (·.length)).sum + zs.length * (Str.ofString ",").length ≤ 16777216
        rw [e1]
        omega
      exact ⟨_, _, rfl, rfl, len2 tl tj (by decide), _, _, rfl, rfl, len2 (tl.app tj) tr (by decide), k _ H2 ⟨zs, h4, hin, rfl⟩ s2⟩
theorem ok_wdM {f fN fA fL fM : Addr} {fd fdN fdA fdL fdM : FuncData} (F : Fun K "_law_word" "_law_word" sWo f fd)
    (FN : Fun K "_law_number_word" "_law_number_word" sNu fN fdN) (bN : Binds K fdN ["_law_cell"] []) (gN : mg "_law_number_word" = some (.ref fN)) (GN : FnOk P w K mg base CX0 2 fN fdN ["_law_cell"] (spWx fun y => isNum y = true))
    (FA : Fun K "_law_name_word" "_law_name_word" sNa fA fdA) (bA : Binds K fdA ["_law_cell"] []) (gA : mg "_law_name_word" = some (.ref fA)) (GA : FnOk P w K mg base CX0 2 fA fdA ["_law_cell"] (spWx fun y => isName y = true))
    (FL : Fun K "_law_list_word" "_law_list_word" sLi fL fdL) (bL : Binds K fdL ["_law_cell"] []) (gL : mg "_law_list_word" = some (.ref fL)) (GL : FnOk P w K mg base CX0 3 fL fdL ["_law_cell"] (spWx fun z => ∃ xs : List Str, xs.length ≤ 4 ∧ (∀ x ∈ xs, isItem x = true) ∧ z = lisOf xs))
    (FM : Fun K "_law_mark_word" "_law_mark_word" sMk fM fdM) (bM : Binds K fdM ["_law_cell"] []) (gM : mg "_law_mark_word" = some (.ref fM)) (GM : FnOk P w K mg base CX0 2 fM fdM ["_law_cell"] (spWx okMark)) : FnOk P w K mg base CX0 4 f fd ["_law_cell"] (spWx Wd) := by
  refine F.ok scWo (fun vs H Q E h => ?_) (fun cdv A outer s H vs Q E hr h => ?_)
  · obtain ⟨c, rfl, _⟩ := h
    rfl
  · obtain ⟨c, rfl, k⟩ := h
    have hr2 : Room 2 _ := hr.mono (by decide)
    refine ⟨_, pss_cons (ps_if (pt_cmpR op_eq (pe_op op_mod (pv 0) pe_int) pe_int (nomark _)) (pss_one (ps_ret (pe_call GN hr2 rfl gN FN.kp bN .nil pass0 (pa_cons (pe_op op_fdiv (pv 0) pe_int) pa_nil)))) pss_nil)
      (pss_cons (ps_if (pt_cmpR op_eq (pe_op op_mod (pv 0) pe_int) pe_int (nomark _)) (pss_one (ps_ret (pe_call GA hr2 rfl gA FA.kp bA .nil pass0 (pa_cons (pe_op op_fdiv (pv 0) pe_int) pa_nil)))) pss_nil)
      (pss_cons (ps_if (pt_cmpR op_eq (pe_op op_mod (pv 0) pe_int) pe_int (nomark _)) (pss_one (ps_ret (pe_call GL hr rfl gL FL.kp bL .nil pass0 (pa_cons (pe_op op_fdiv (pv 0) pe_int) pa_nil)))) pss_nil)
      (pss_one (ps_ret (pe_call GM hr2 rfl gM FM.kp bM .nil pass0 (pa_cons (pe_op op_fdiv (pv 0) pe_int) pa_nil)))))), ?_⟩
    refine ⟨_, rfl, _, _, rfl, rfl, (by show (0 : Int) < 4; decide), rfl, _, rfl, ?_⟩
    refine ifb ⟨_, rfl, _, _, rfl, rfl, ⟨by decide, by decide⟩, _, rfl, fun y H1 ty s1 => k y H1 (.item (by unfold isItem; rw [ty]; rfl)) s1⟩ ?_
    refine ⟨_, rfl, _, _, rfl, rfl, (by show (0 : Int) < 4; decide), rfl, _, rfl, ?_⟩
    refine ifb ⟨_, rfl, _, _, rfl, rfl, ⟨by decide, by decide⟩, _, rfl, fun y H1 ty s1 => k y H1 (.item (by unfold isItem; rw [ty, Bool.or_true])) s1⟩ ?_
    refine ⟨_, rfl, _, _, rfl, rfl, (by show (0 : Int) < 4; decide), rfl, _, rfl, ?_⟩
    refine ifb ⟨_, rfl, _, _, rfl, rfl, ⟨by decide, by decide⟩, _, rfl, fun y H1 ⟨xs, h1, h2, h3⟩ s1 => k y H1 (.lis xs h1 h2 h3) s1⟩ ?_
    exact ⟨_, rfl, _, _, rfl, rfl, ⟨by decide, by decide⟩, _, rfl, fun y H1 ty s1 => k y H1 (.mar ty) s1⟩
end
end SL
namespace L2
open PySem PySem.Spec PyProof.Rows
section
variable {X : Cx}

def tFst (a b : Str) (te : TE) : TE := fun σ H Q => te σ H fun v H1 => ∃ z, v = .str z ∧ a.length + z.length + b.length ≤ sizeLine ∧ Q (.str (a ++ z ++ b)) H1
theorem empty_appW (a : Str) : Str.empty ++ a = a := Str.ext' (by rw [Str.cps_append]; exact Array.empty_append)
theorem pe_fstr {a b : Str} {e : Expr} {te : TE} {k1 k2 : _} {p1 p2 p3 pos : Pos} (ha : a.length ≤ sizeLine) (he : PE X e te) : PE X (.JoinedStr [.Constant (.str a) k1 p1, .FormattedValue e (-1) none p2, .Constant (.str b) k2 p3] pos) (tFst a b te) := by
  intro pins s σ H Q I h
  refine JoinedStr_many (joinParts_cons ?_)
  refine Calls.Constant_str ?_
  show (Str.empty ++ a).length ≤ sizeLine ∧ wpAny (model X.prog X.w) X.A (joinParts (Str.empty ++ a) [eval (.FormattedValue e (-1) none p2) X.env, eval (.Constant (.str b) k2 p3) X.env]) (EP X pins σ Q) X.xe _
  rw [empty_appW]
  refine ⟨ha, joinParts_cons (FormattedValue_plain (thn (he pins _ σ H _ (I.tok _) h) fun v s1 ⟨x, H1, I1, r1, z, e1, hz, q⟩ => ?_))⟩
  subst e1
  obtain ⟨t1, rfl⟩ := r1
  refine formatField_str (fun t' tk => ?_) (by omega)
  show (a ++ z).length ≤ sizeLine ∧ wpAny (model X.prog X.w) X.A (joinParts (a ++ z) [eval (.Constant (.str b) k2 p3) X.env]) (EP X pins σ Q) X.xe _
  refine ⟨by rw [Str.length_append]; omega, joinParts_cons (Calls.Constant_str ?_)⟩
  show (a ++ z ++ b).length ≤ sizeLine ∧ wpAny (model X.prog X.w) X.A (joinParts (a ++ z ++ b) []) (EP X pins σ Q) X.xe _
  refine ⟨by rw [Str.length_append, Str.length_append]; omega, joinParts_nil ?_ (by rw [Str.length_append, Str.length_append]; omega)⟩
  exact ⟨.str _, H1, ((I1.tok _).tok _).tok _, ⟨_, rfl⟩, q⟩

end
end L2
namespace BT
open PySem L2
structure Txt (mg : Str → Option Value) : Prop where
  len : mg "len" = none
  range : mg "range" = none
  tuple : mg "tuple" = none
  isin : mg "isinstance" = none
  list : mg "list" = none
  int : mg "int" = none
  bool : mg "bool" = none
  max : mg "max" = none
  verr : mg "ValueError" = none
theorem lt_line {n : Nat} (h : n ≤ 40000) : n ≤ sizeLine := by rw [sizeLine_eq]; omega
theorem and1 (x : Int) : Builtin.bitAnd x 1 = x % 2 := by
  have h := PySem.W.kbt_mask x 1
  simpa using h
theorem cm2 {i : Int} : CMul i 2 := .inr ⟨by decide, by decide⟩
theorem cmL {j : Int} : CMul 2 j := .inl ⟨by decide, by decide⟩

def spNu : Sp := fun vs H Q _ => ∃ (l : Addr) (bs : List Int), vs = [.ref l] ∧ H l = some (.lst (bs.map V.int)) ∧ Q (.int (numI bs)) H
section
variable {P : Program} {w : World} {K : PySem.W.Frag} {mg : Str → Option Value} {base : Heap}
theorem scNu : FnScope ["bits", "number", "bit"] ["bits"] (defScope sNu) := ⟨rfl, rfl, rfl, by decide +kernel, rfl, by decide +kernel, by decide +kernel⟩
theorem ok_nu {f : Addr} {fd : FuncData} (F : Fun K "number_of" "number_of" sNu f fd) : FnOk P w K mg base CX0 1 f fd ["bits"] spNu := by
  refine F.ok scNu (fun vs H Q E h => ?_) (fun cdv A outer s H vs Q E hr h => ?_)
  · obtain ⟨l, bs, rfl, _⟩ := h
    rfl
  · obtain ⟨l, bs, rfl, hl, k⟩ := h
    refine ⟨_, pss_cons (ps_set (i := 1) scNu.nd rfl (Or.inl rfl) pe_int)
      (pss_cons (ps_for PassesOwn.never rfl (pi_list (pv 0)) (pg_name (i := 2) scNu.nd rfl (Or.inl rfl)) (pss_one (ps_set (i := 1) scNu.nd rfl (Or.inl rfl) (pe_op op_add (pe_op op_mul (pv 1) pe_int) (pv 2)))))
      (pss_one (ps_ret (pv 1)))), ?_⟩
    refine ⟨_, rfl, l, rfl, ⟨_, SqL.of hl⟩, ?_⟩
    refine for_list (K := K) (a := l) (xs := bs.map V.int) (fun i σ H' => ∃ v2, σ = [some (.ref l), some (.int (numI (bs.take i))), v2] ∧ H' = H) ⟨none, rfl, rfl⟩ (fun i σ H' _ ⟨_, _, e⟩ => by rw [e]; exact SqL.of hl) ?_ ?_
    · rintro i x σ H' hx ⟨v2, rfl, rfl⟩
      rw [List.getElem?_map] at hx
      cases e : bs[i]? with
      | none => rw [e] at hx; cases hx
      | some b =>
        rw [e] at hx
        cases hx
        refine ⟨_, rfl, _, _, rfl, rfl, cm2, _, rfl, _, _, rfl, rfl, some (V.int b), ?_, rfl⟩
        rw [List.take_add_one, e]
        show _ = [some (V.ref l), some (V.int (numI (bs.take i ++ [b]))), _]
        rw [num_snoc]
        rfl
    · rintro σ H' ⟨v2, rfl, rfl⟩
      rw [List.length_map, List.take_of_length_le (Nat.le_refl _)]
      exact ⟨_, rfl, k⟩
theorem bits_take {n : Int} {w i : Nat} (h : i < w) : (bitsI n w).take (i + 1) = (bitsI n w).take i ++ [n / 2 ^ (w - 1 - i) % 2] := by
  rw [List.take_add_one]
  unfold bitsI
  rw [List.getElem?_map, List.getElem?_range h]
  rfl
end
end BT
namespace BT
open PySem L2
def Kp (H H' : Hp) (p : Addr) : Prop := ∀ b o, H b = some o → b ≠ p → H' b = some o
structure WrK (K : PySem.W.Frag) (C : Addr) : Prop where
  cls : Cls K C
  nL : NoAttr K C "laid"
def spPu : Sp := fun vs H Q _ => ∃ (l : Addr) (bs : List Int) (n : Int) (w : Nat), vs = [.ref l, .int n, .int (w : Int)] ∧ H l = some (.lst (bs.map V.int)) ∧ w ≤ 31 ∧ bs.length ≤ 20000 ∧ ∀ H', Kp H H' l → H' l = some (.lst ((bs ++ bitsI n w).map V.int)) → Q (.ref l) H'
section
variable {P : Program} {w : World} {K : PySem.W.Frag} {mg : Str → Option Value} {base : Heap} {C : Addr} {u8 : Value}
theorem scPu : FnScope ["_law_bits_here", "_law_number", "_law_wide"] ["_law_bits_here", "_law_number", "_law_wide"] (defScope sPu) := ⟨rfl, rfl, rfl, by decide +kernel, rfl, by decide +kernel, by decide +kernel⟩
def scopePu : Scope := { kind := .function, names := [(".0", .local), ("_law_k", .local), ("_law_number", .free), ("_law_wide", .free)], isGenerator := false, isCoroutine := false, more := [] }
theorem scPuC : BlkScope (defScope sPu) ["_law_bits_here", "_law_number", "_law_wide"] ["_law_k"] ["_law_number", "_law_wide"] [1, 2] scopePu := ⟨rfl, by decide +kernel, by decide +kernel, by decide +kernel, rfl, by decide +kernel, by decide +kernel⟩
theorem ok_pu {f : Addr} {fd : FuncData} (F : Fun K "_law_put" "_law_put" sPu f fd) (T : Txt mg) : FnOk P w K mg base CX0 1 f fd ["_law_bits_here", "_law_number", "_law_wide"] spPu := by
  refine F.ok scPu (fun vs H Q E h => ?_) (fun cdv A outer s H vs Q E hr h => ?_)
  · obtain ⟨l, bs, n, w, rfl, _⟩ := h
    rfl
  · obtain ⟨l, bs, n, w, rfl, hl, h31, h3k, k⟩ := h
    refine ⟨_, pss_cons (ps_expr (pe_bm PySem.F.plainAttrs_list PySem.F.slot_list_extend PySem.F.type_list_extend mt_extend (pv 0) (pa_cons (pe_lc scPuC rfl rfl rfl (pi_range1 rfl T.range (pa_cons (pv 2) pa_nil)) (fun fp C s1 H1 => pg_name (i := 0) scPuC.nd rfl (Or.inl rfl)) (fun fp C s1 H1 => pts_nil)
      (fun fp C s1 H1 => pe_op op_and (pe_op op_shr (pv 1) (pe_op op_sub (pe_op op_sub (pv 2) pe_int) (pv 0))) pe_int)) pa_nil))) (pss_one (ps_ret (pv 0))), ?_⟩
    refine ⟨_, rfl, .inl ⟨rfl, _, SqL.of hl⟩, _, rfl, _, rfl, by omega, by omega, fun D hD => ?_⟩
    have en : ((w : Int)).toNat = w := by omega
    rw [en]
    refine lc_range (lo := 0) (n := w) (fun i ys H7 => Same H H7 ∧ H7 D = some (.lst ys) ∧ ys = ((bitsI n w).take i).map V.int) (lt_line (by omega)) ⟨(Same.refl H).upd_free hD, upd_same, by rw [List.take_zero]; rfl⟩
      (fun i ys H7 h => by rw [h.2.2, List.length_map, List.length_take]; omega) ?_ ?_
    · rintro i ys H7 N M hi ⟨u1, u2, rfl⟩ hN hM
      refine ⟨_, rfl, _, rfl, _, _, rfl, rfl, _, rfl, _, _, rfl, rfl, _, _, rfl, rfl, (by show (0 : Int) ≤ (w : Int) - 1 - (0 + (i : Int)); omega), _, _, rfl, rfl, ?_⟩
      refine hN _ H7 u2 ⟨u1.upd_free hD, upd_same, ?_⟩
      rw [bits_take hi, List.map_append]
      have e : ((w : Int) - 1 - (0 + (i : Int))).toNat = w - 1 - i := by omega
      show _ ++ [V.int (Builtin.bitAnd (n / 2 ^ ((w : Int) - 1 - (0 + (i : Int))).toNat) 1)] = _ ++ [V.int (n / 2 ^ (w - 1 - i) % 2)]
      rw [and1, e]
    · rintro ys H7 ⟨u1, u2, rfl⟩
      rw [List.take_of_length_le (by rw [bits_len]; exact Nat.le_refl _)] at u2
      refine ⟨l, D, _, _, rfl, rfl, u1 _ _ hl, u2, lt_line (by rw [List.length_map, List.length_map, bits_len]; omega), ?_⟩
      refine ⟨_, rfl, k _ (fun b o e n => ?_) ?_⟩
      · rw [upd_ne n]
        exact u1 _ _ e
      · rw [upd_same, List.map_append]

theorem pad_int {n : Nat} : (-(n : Int)) % 8 = (padN n : Int) := by
  unfold padN
  omega
theorem rep0 (k : Nat) : (List.replicate k [V.int 0]).flatten = (List.replicate k (0 : Int)).map V.int := by
  induction k with
  | zero => rfl
  | succ k ih =>
    rw [List.replicate_succ, List.replicate_succ, List.flatten_cons, ih]
    rfl
theorem cut8_V (xs : List Int) (j : Nat) (h : 8 * j + 8 ≤ xs.length) : cutV (xs.map V.int) (some (0 + (j : Int) * 8)) (some (0 + (j : Int) * 8 + 8)) = (cut8 xs j).map V.int := by
  have e1 : (0 + (j : Int) * 8) = ((8 * j : Nat) : Int) := by omega
  have e2 : (((8 * j : Nat) : Int) + 8) = ((8 * j + 8 : Nat) : Int) := by omega
  rw [e1, e2]
  unfold cutV cut8
  rw [HT.sIx_nat, HT.sIx_nat, List.length_map, Nat.min_eq_left (by omega), Nat.min_eq_left (by omega), List.map_take, List.map_drop]
  congr 1
  omega
theorem step8 {n : Nat} (h : n % 8 = 0) : stepN 0 (n : Int) 8 = n / 8 := by
  unfold stepN
  split <;> omega
theorem eight_take {bs : List Int} {i : Nat} (h : i < (pad bs).length / 8) : (eightM bs).take (i + 1) = (eightM bs).take i ++ [numI (cut8 (pad bs) i)] := by
  rw [List.take_add_one]
  unfold eightM
  rw [List.getElem?_map, List.getElem?_range h]
  rfl
end
end BT
namespace L2
open PySem PySem.Spec PyProof.Rows
theorem call_rng2 {X : Cx} : CallR X (.type "range") (fun xs H Q => ∃ i j : Int, xs = [.int i, .int j] ∧ ∀ a, H a = none → Q (.ref a) (upd H a (.rng i j))) := by
  intro pins s σ H xs us Q I r h
  obtain ⟨i, j, rfl, q⟩ := h
  obtain ⟨u, v, rfl, rx, ry⟩ := r.two
  obtain ⟨t, rfl⟩ := rx
  obtain ⟨t', rfl⟩ := ry
  refine call_range_2 ⟨.ref s.heap.objs.size, _, I.laid (t' := s.toks + 1) (o := .rng i j) (fun b o e => Heap.get?_push_of_some _ e) (Nat.le_refl _) ⟨_, _, _, Heap.get?_push_size _ rfl⟩, rfl, q _ (I.hok.fresh (Nat.le_refl _))⟩
theorem pe_fldB {X : Cx} {K : PySem.W.Frag} {e : Expr} {ta : TE} {f : Str} {pos : Pos} (hK : X.K = K) (he : PE X e ta) (hb : attributeBase e f X.env (eval e X.env) = eval e X.env) : PE X (.Attribute e f pos) (tFld K ta f) := by
  subst hK
  exact pe_fld he hb
end L2
namespace BT
open PySem L2
abbrev bmV : List Value := [.type "ValueError", .type "Exception", .type "BaseException", .type "object"]
structure RdK (K : PySem.W.Frag) (C : Addr) : Prop where
  cls : Cls K C
  nN : NoAttr K C "numbers"
  nT : NoAttr K C "taken"
structure RFs (fs : List (Str × V)) (nt : Addr) (t : Nat) : Prop where
  n : fs.lookup ("numbers" : Str) = some (.ref nt)
  t : fs.lookup ("taken" : Str) = some (.int (t : Int))
  b : fs.lookup ("bits" : Str) = none
  l : fs.lookup ("left" : Str) = none
  few : fs.length ≤ 2
def RdAt (C : Addr) (H : Hp) (rd nt : Addr) (t : Nat) (ns : List Int) : Prop := ∃ (dx : Addr) (fs : List (Str × V)), H rd = some (.ins C dx fs) ∧ RFs fs nt t ∧ H nt = some (.tup (ns.map V.int))
def spRi (C : Addr) : Sp := fun vs H Q _ => ∃ (p dx nt : Addr) (ns : List Int), vs = [.ref p, .ref nt] ∧ H p = some (.ins C dx []) ∧ H nt = some (.tup (ns.map V.int)) ∧ ∀ H', RdAt C H' p nt 0 ns → Kp H H' p → Q .non H'
def spRl (C : Addr) : Sp := fun vs H Q _ => ∃ (rd nt : Addr) (t : Nat) (ns : List Int), vs = [.ref rd] ∧ RdAt C H rd nt t ns ∧ Q (.int ((ns.length : Int) * 8 - (t : Int))) H
def spRb (C : Addr) : Sp := fun vs H Q _ => ∃ (rd nt : Addr) (t w : Nat) (ns : List Int), vs = [.ref rd, .int (w : Int)] ∧ RdAt C H rd nt t ns ∧ t + w ≤ ns.length * 8 ∧ w ≤ 60 ∧ ns.length ≤ 5000 ∧ ∀ H', RdAt C H' rd nt (t + w) ns → Kp H H' rd → Q (.int (numI (readM ns t w))) H'
def spXb (C CS : Addr) : Sp := fun vs H _ E => ∃ (rd nt : Addr) (t w : Nat) (ns : List Int), vs = [.ref rd, .int (w : Int)] ∧ RdAt C H rd nt t ns ∧ ns.length * 8 < t + w ∧ E (.ref CS) none H
theorem putL {f : Str} {v x : V} : ∀ {fs : List (Str × V)}, fs.lookup f = some x → (putF f v fs).length = fs.length
  | [], h => by cases h
  | (g, y) :: r, h => by
    show (if g = f then (g, v) :: r else (g, y) :: putF f v r).length = _
    by_cases e : g = f
    · rw [if_pos e]
      rfl
    · rw [if_neg e, List.length_cons, List.length_cons, putL (fs := r)]
      have hb : (f == g) = false := beq_eq_false_iff_ne.mpr (Ne.symm e)
      simpa only [List.lookup, hb] using h
section
variable {P : Program} {w : World} {K : PySem.W.Frag} {mg : Str → Option Value} {base : Heap} {C CS : Addr} {u8 : Value}
theorem scRi : FnScope ["self", "numbers"] ["self", "numbers"] (defScope sRi) := ⟨rfl, rfl, rfl, by decide +kernel, rfl, by decide +kernel, by decide +kernel⟩
theorem ok_ri {f : Addr} {fd : FuncData} (F : Fun K "__init__" "Reader.__init__" sRi f fd) (Y : RdK K C) : FnOk P w K mg base CX0 1 f fd ["self", "numbers"] (spRi C) := by
  refine F.ok scRi (fun vs H Q E h => ?_) (fun cdv A outer s H vs Q E hr h => ?_)
  · obtain ⟨p, dx, nt, ns, rfl, _⟩ := h
    rfl
  · obtain ⟨p, dx, nt, ns, rfl, hp, hn, k⟩ := h
    refine ⟨_, pss_cons (ps_fld (pv 0) (pv 1) rfl) (pss_one (ps_fld (pv 0) pe_int rfl)), ?_⟩
    refine ⟨_, rfl, _, rfl, p, _, dx, _, rfl, hp, Y.cls, Y.nN, (by show 0 < 1000; decide), ?_⟩
    refine ⟨_, rfl, p, _, dx, _, rfl, upd_same, Y.cls, Y.nT, (by show 1 < 1000; decide), ?_⟩
    have nn : nt ≠ p := fun z => by rw [z, hp] at hn; cases hn
    refine k _ ⟨dx, _, upd_same, ⟨?_, ?_, ?_, ?_, ?_⟩, by rw [upd_ne nn, upd_ne nn]; exact hn⟩ fun b o e n => by rw [upd_ne n, upd_ne n]; exact e
    · rw [lookup_putF, if_neg (by decide +kernel), lookup_putF, if_pos rfl]
    · rw [lookup_putF, if_pos rfl]
      rfl
    · rw [lookup_putF, if_neg (by decide +kernel), lookup_putF, if_neg (by decide +kernel)]
      rfl
    · rw [lookup_putF, if_neg (by decide +kernel), lookup_putF, if_neg (by decide +kernel)]
      rfl
    · show (putF ("taken" : Str) (V.int 0) [(("numbers" : Str), V.ref nt)]).length ≤ 2
      unfold putF
      rw [if_neg (by decide +kernel)]
      exact Nat.le_refl 2
theorem scRl : FnScope ["self"] ["self"] (defScope sRl) := ⟨rfl, rfl, rfl, by decide +kernel, rfl, by decide +kernel, by decide +kernel⟩
theorem ok_rl {f : Addr} {fd : FuncData} (F : Fun K "left" "Reader.left" sRl f fd) (T : Txt mg) (g8 : mg "WIDE" = some u8) (r8 : RelV (.int 8) u8) (Y : RdK K C) : FnOk P w K mg base CX0 1 f fd ["self"] (spRl C) := by
  refine F.ok scRl (fun vs H Q E h => ?_) (fun cdv A outer s H vs Q E hr h => ?_)
  · obtain ⟨rd, nt, t, ns, rfl, _⟩ := h
    rfl
  · obtain ⟨rd, nt, t, ns, rfl, ⟨dx, fs, hr', R, hn⟩, k⟩ := h
    refine ⟨_, pss_one (ps_ret (pe_op op_sub (pe_op op_mul (pe_callB call_len_seq (by rfl) T.len PySem.boot_len (pa_cons (pe_fld (pv 0) rfl) pa_nil)) (pe_glob (v := .int 8) (by rfl) g8 r8)) (pe_fld (pv 0) rfl))), ?_⟩
    refine ⟨_, rfl, rd, _, dx, _, _, rfl, hr', Y.cls, Y.nN, R.n, nt, _, rfl, .inr (SqT.of hn), _, _, rfl, rfl, .inr ⟨by decide, by decide⟩, _, rfl, rd, _, dx, _, _, rfl, hr', Y.cls, Y.nT, R.t, _, _, rfl, rfl, ?_⟩
    show Q (V.int ((((ns.map V.int).length : Nat) : Int) * 8 - (t : Int))) H
    rw [List.length_map]
    exact k
theorem scRb : FnScope ["self", "wide", "places"] ["self", "wide"] (defScope sRb) := ⟨rfl, rfl, rfl, by decide +kernel, rfl, by decide +kernel, by decide +kernel⟩
theorem ok_xb {f fL : Addr} {fd dL : FuncData} (F : Fun K "bits" "Reader.bits" sRb f fd) (T : Txt mg) (g8 : mg "WIDE" = some u8) (r8 : RelV (.int 8) u8) (Y : RdK K C) (gS : mg "Spoiled" = some (.ref CS)) (ex : PySem.W.excIn K CS bmV "ValueError.__new__" = true)
    (FL : Fun K "left" "Reader.left" sRl fL dL) (bL : Binds K dL ["self"] []) (mL : Meth K C "left" fL) : FnOk P w K mg base (CX1 P w) 2 f fd ["self", "wide"] (spXb C CS) := by
  have GL : FnOk P w K mg base CX0 1 fL dL ["self"] (spRl C) := ok_rl FL T g8 r8 Y
  refine F.okX scRb (fun vs H Q E h => ?_) (fun cdv A outer s H vs Q E hr h => ?_)
  · obtain ⟨rd, nt, t, w, ns, rfl, _⟩ := h
    rfl
  · obtain ⟨rd, nt, t, w, ns, rfl, hR, hlt, k⟩ := h
    obtain ⟨dx, fs, hr', R, hn⟩ := id hR
    refine ⟨_, pss_cons (ps_if (pt_cmpR op_gt (pv 1) (pe_meth0 (pv 0) Y.cls mL GL hr bL .nil pass0) (nomark _)) (pss_one (ps_raise0 (by rfl) gS ex PySem.F.excBase_ValueError rfl throws_cx)) pss_nil) pss_never, ?_⟩
    refine ⟨_, rfl, _, rfl, rd, dx, fs, rfl, hr', R.l, rd, nt, t, ns, rfl, hR, _, _, rfl, rfl, true, ?_, iteT k⟩
    show V.bl (decide ((w : Int) > (ns.length : Int) * 8 - (t : Int))) = V.bl true
    rw [decide_eq_true (show (w : Int) > (ns.length : Int) * 8 - (t : Int) by omega)]
def scopeRb : Scope := { kind := .function, names := [(".0", .local), ("place", .local), ("WIDE", .globalImplicit), ("self", .free)], isGenerator := false, isCoroutine := false, more := [] }
theorem scRbC : BlkScope (defScope sRb) ["self", "wide", "places"] ["place"] ["self"] [0] scopeRb := ⟨rfl, by decide +kernel, by decide +kernel, by decide +kernel, rfl, by decide +kernel, by decide +kernel⟩
theorem read_take {ns : List Int} {t w i : Nat} (h : i < w) : (readM ns t w).take (i + 1) = (readM ns t w).take i ++ [ns.getD ((t + i) / 8) 0 / 2 ^ (7 - (t + i) % 8) % 2] := by
  rw [List.take_add_one]
  unfold readM
  rw [List.getElem?_map, List.getElem?_range h]
  rfl
theorem ok_rb {f fL fN : Addr} {fd dL dN : FuncData} (F : Fun K "bits" "Reader.bits" sRb f fd) (T : Txt mg) (g8 : mg "WIDE" = some u8) (r8 : RelV (.int 8) u8) (Y : RdK K C)
    (FL : Fun K "left" "Reader.left" sRl fL dL) (bL : Binds K dL ["self"] []) (mL : Meth K C "left" fL) (FN : Fun K "number_of" "number_of" sNu fN dN) (bN : Binds K dN ["bits"] []) (gN : mg "number_of" = some (.ref fN)) : FnOk P w K mg base CX0 2 f fd ["self", "wide"] (spRb C) := by
  have GL : FnOk P w K mg base CX0 1 fL dL ["self"] (spRl C) := ok_rl FL T g8 r8 Y
  have GN : FnOk P w K mg base CX0 1 fN dN ["bits"] spNu := ok_nu FN
  refine F.ok scRb (fun vs H Q E h => ?_) (fun cdv A outer s H vs Q E hr h => ?_)
  · obtain ⟨rd, nt, t, w, ns, rfl, _⟩ := h
    rfl
  · obtain ⟨rd, nt, t, w, ns, rfl, hR, hle, h60, h1k, k⟩ := h
    obtain ⟨dx, fs, hr', R, hn⟩ := id hR
    refine ⟨_, pss_cons (ps_if (pt_cmpR op_gt (pv 1) (pe_meth0 (pv 0) Y.cls mL GL hr bL .nil pass0) (nomark _)) pss_never pss_nil)
      (pss_cons (ps_set (i := 2) scRb.nd rfl (Or.inl rfl) (pe_callTy (call_list_rng rfl) (by rfl) T.list PyProof.Rows.boot_list (pa_cons (pe_callTy call_rng2 (by rfl) T.range PyProof.Rows.boot_range (pa_cons (pe_fld (pv 0) rfl) (pa_cons (pe_op op_add (pe_fld (pv 0) rfl) (pv 1)) pa_nil))) pa_nil)))
      (pss_cons (ps_fld (pv 0) (pe_op op_add (pe_fld (pv 0) rfl) (pv 1)) rfl)
      (pss_one (ps_ret (pe_call GN hr rfl gN FN.kp bN .nil pass0 (pa_cons (pe_lc scRbC rfl rfl rfl (pi_list (pv 2)) (fun fp C s1 H1 => pg_name (i := 0) scRbC.nd rfl (Or.inl rfl)) (fun fp C s1 H1 => pts_nil)
        (fun fp C s1 H1 => pe_op op_and (pe_op op_shr (pe_ix (r := rIxT K) ix_tup (pe_fldB (K := K) rfl (pv 1) rfl) (pe_op op_fdiv (pv 0) (pe_glob (v := .int 8) (by rfl) g8 r8)) (fun _ _ => rfl)) (pe_op op_sub (pe_op op_sub (pe_glob (v := .int 8) (by rfl) g8 r8) pe_int) (pe_op op_mod (pv 0) (pe_glob (v := .int 8) (by rfl) g8 r8)))) pe_int)) pa_nil)))))), ?_⟩
    refine ⟨_, rfl, _, rfl, rd, dx, fs, rfl, hr', R.l, rd, nt, t, ns, rfl, hR, _, _, rfl, rfl, false, ?_, iteF ?_⟩
    · show V.bl (decide ((w : Int) > (ns.length : Int) * 8 - (t : Int))) = V.bl false
      rw [decide_eq_false (show ¬ (w : Int) > (ns.length : Int) * 8 - (t : Int) by omega)]
    refine ⟨_, rfl, rd, _, dx, _, _, rfl, hr', Y.cls, Y.nT, R.t, _, rfl, rd, _, dx, _, _, rfl, hr', Y.cls, Y.nT, R.t, _, rfl, _, _, rfl, rfl, _, _, rfl, fun a ha => ?_⟩
    have s1 := (Same.refl H).upd_free (o := .rng (t : Int) ((t : Int) + (w : Int))) ha
    refine ⟨a, _, _, rfl, upd_same, by omega, by omega, by omega, by omega, by omega, fun l hl => ?_⟩
    have en : ((t : Int) + (w : Int) - (t : Int)).toNat = w := by omega
    rw [en]
    have s2 := s1.trans ((Same.refl _).upd_free (o := .lst ((rangeI (t : Int) w).map V.int)) hl)
    have g2 : upd (upd H a (.rng (t : Int) ((t : Int) + (w : Int)))) l (.lst ((rangeI (t : Int) w).map V.int)) l = some (.lst ((rangeI (t : Int) w).map V.int)) := upd_same
    generalize upd (upd H a (.rng (t : Int) ((t : Int) + (w : Int)))) l (.lst ((rangeI (t : Int) w).map V.int)) = H2 at s2 g2
    have r2 := s2 _ _ hr'
    have few := R.few
    refine ⟨_, rfl, rd, _, dx, _, _, rfl, r2, Y.cls, Y.nT, R.t, _, rfl, _, _, rfl, rfl, _, rfl, rd, _, dx, _, rfl, r2, Y.cls, Y.nT, by omega, ?_⟩
    have R3 : RFs (putF "taken" (.int ((t : Int) + (w : Int))) fs) nt (t + w) := ⟨by rw [lookup_putF, if_neg (by decide +kernel)]; exact R.n, by rw [lookup_putF, if_pos rfl]; rfl, by rw [lookup_putF, if_neg (by decide +kernel)]; exact R.b, by rw [lookup_putF, if_neg (by decide +kernel)]; exact R.l, by rw [putL R.t]; exact few⟩
    have kp3 : Kp H (upd H2 rd (.ins C dx (putF "taken" (.int ((t : Int) + (w : Int))) fs))) rd := fun b o e n => by rw [upd_ne n]; exact s2 _ _ e
    have r3 : upd H2 rd (.ins C dx (putF "taken" (.int ((t : Int) + (w : Int))) fs)) rd = some (.ins C dx (putF "taken" (.int ((t : Int) + (w : Int))) fs)) := upd_same
    have nrl : l ≠ rd := fun z => by rw [z, r2] at g2; cases g2
    have nrn : nt ≠ rd := fun z => by rw [z, hr'] at hn; cases hn
    have g3 : upd H2 rd (.ins C dx (putF "taken" (.int ((t : Int) + (w : Int))) fs)) l = some (.lst ((rangeI (t : Int) w).map V.int)) := by rw [upd_ne nrl]; exact g2
    have n3 := kp3 _ _ hn nrn
    generalize upd H2 rd (.ins C dx (putF "taken" (.int ((t : Int) + (w : Int))) fs)) = H3 at kp3 r3 g3 n3
    refine ⟨_, rfl, l, rfl, ⟨_, SqL.of g3⟩, fun D hD => ?_⟩
    have hlr : ((rangeI (t : Int) w).map V.int).length = w := by simp [rangeI]
    refine lc_list (K := K) (a := l) (xs := (rangeI (t : Int) w).map V.int) (fun i ys H7 => Same H3 H7 ∧ H7 D = some (.lst ys) ∧ ys = ((readM ns t w).take i).map V.int) (lt_line (by omega)) ⟨(Same.refl H3).upd_free hD, upd_same, by rw [List.take_zero]; rfl⟩
      (fun i ys H7 h => by rw [h.2.2, List.length_map, List.length_take]; omega) (fun i ys H7 h => SqL.of (h.1 _ _ g3)) ?_ ?_
    · rintro i ys H7 x N M hx ⟨u1, u2, rfl⟩ hN hM
      have hi : i < w := by
        have := (List.getElem?_eq_some_iff.mp hx).1
        omega
      have hx2 : x = .int ((t : Int) + (i : Int)) := by
        unfold rangeI at hx
        rw [List.getElem?_map, List.getElem?_map, List.getElem?_range hi] at hx
        cases hx
        rfl
      subst hx2
      have hj : (t + i) / 8 < ns.length := by omega
      have eat : atI (ns.map V.int) (((t : Int) + (i : Int)) / 8) = some (.int (ns.getD ((t + i) / 8) 0)) := by
        have e : ((t : Int) + (i : Int)) / 8 = (((t + i) / 8 : Nat) : Int) := by omega
        rw [e]
        refine atI_nat ?_
        rw [List.getElem?_map]
        simp [List.getD, hj]
      refine ⟨_, rfl, rd, _, dx, _, _, rfl, u1 _ _ r3, Y.cls, Y.nN, R3.n, _, rfl, _, _, rfl, rfl, ⟨by decide, by decide⟩, nt, _, _, _, rfl, rfl, SqT.of (u1 _ _ n3), eat, _, _, rfl, rfl, _, rfl, _, _, rfl, rfl, (by show (0 : Int) < 8; decide), _, _, rfl, rfl, _, _, rfl, rfl, (by show (0 : Int) ≤ 8 - 1 - ((t : Int) + (i : Int)) % 8; omega), _, _, rfl, rfl, ?_⟩
      refine hN _ H7 u2 ⟨u1.upd_free hD, upd_same, ?_⟩
      rw [read_take hi, List.map_append]
      have e : ((8 : Int) - 1 - ((t : Int) + (i : Int)) % 8).toNat = 7 - (t + i) % 8 := by omega
      show _ ++ [V.int (Builtin.bitAnd (ns.getD ((t + i) / 8) 0 / 2 ^ ((8 : Int) - 1 - ((t : Int) + (i : Int)) % 8).toNat) 1)] = _ ++ [V.int (ns.getD ((t + i) / 8) 0 / 2 ^ (7 - (t + i) % 8) % 2)]
      rw [and1, e]
    · rintro ys H7 ⟨u1, u2, rfl⟩
      rw [List.take_of_length_le (by rw [hlr]; simp [readM])] at u2
      exact ⟨D, _, rfl, u2, k _ ⟨dx, _, u1 _ _ r3, R3, u1 _ _ n3⟩ fun b o e n => u1 _ _ (kp3 b o e n)⟩
end
end BT
namespace L2
open PySem
theorem Same.noneB {H H' : Hp} (s : Same H H') {b : Addr} (h : H' b = none) : H b = none := by
  cases e : H b with
  | none => rfl
  | some o => rw [s _ _ e] at h; cases h
def rIsB (K : PySem.W.Frag) : List V → Hp → VK → Prop := fun xs H Q => ∃ x n t b, xs = [x, .ty n] ∧ TyOf K H x t ∧ PySem.W.kitOne K t (.type n) = some b ∧ Q (.bl b) H
theorem call_isB {X : Cx} : CallR X (.builtin "isinstance") (rIsB X.K) := call_isinst
end L2
namespace BT
open PySem L2
def spEi : Sp := fun vs H Q _ => ∃ (l : Addr) (bs : List Int), vs = [.ref l] ∧ H l = some (.lst (bs.map V.int)) ∧ bs.length ≤ 20000 ∧ ∀ p H', Same H H' → H' p = some (.tup ((eightM bs).map V.int)) → Q (.ref p) H'
theorem ints_at {K : PySem.W.Frag} {H : Hp} : ∀ ns : List Int, DsAt K H (ns.map V.int) (ns.map PyData.int)
  | [] => .nil
  | n :: ns => .cons (.int n) (ints_at ns)
theorem ints_lay : ∀ ns : List Int, PyData.canLayAll0 (ns.map PyData.int) = true
  | [] => rfl
  | n :: ns => by
    rw [List.map_cons, PyData.canLayAll0, ints_lay ns]
    rfl
theorem ints_depth : ∀ ns : List Int, PyData.depthAll (ns.map PyData.int) = 0
  | [] => rfl
  | n :: ns => by
    rw [List.map_cons, PyData.depthAll, ints_depth ns]
    rfl
section
variable {P : Program} {w : World} {K : PySem.W.Frag} {mg : Str → Option Value} {base : Heap} {C CS CL CU : Addr} {u8 : Value}
theorem scEi : FnScope ["_law_bits_here", "_law_found", "_law_k", "_law_total", "_law_bit"] ["_law_bits_here"] (defScope sEi) := ⟨rfl, rfl, rfl, by decide +kernel, rfl, by decide +kernel, by decide +kernel⟩
theorem ok_ei {f : Addr} {fd : FuncData} (F : Fun K "_law_eighths" "_law_eighths" sEi f fd) (T : Txt mg) : FnOk P w K mg base CX0 1 f fd ["_law_bits_here"] spEi := by
  refine F.ok scEi (fun vs H Q E h => ?_) (fun cdv A outer s H vs Q E hr h => ?_)
  · obtain ⟨l, bs, rfl, _⟩ := h
    rfl
  · obtain ⟨l, bs, rfl, hl, h3k, k⟩ := h
    refine ⟨_, pss_cons (ps_set (i := 0) scEi.nd rfl (Or.inl rfl) (pe_op op_catL (pv 0) (pe_op op_rep (pe_lst (pa_cons pe_int pa_nil)) (pe_op op_mod (pe_un un_neg (pe_callB call_len_seq (by rfl) T.len PySem.boot_len (pa_cons (pv 0) pa_nil))) pe_int))))
      (pss_cons (ps_set (i := 1) scEi.nd rfl (Or.inl rfl) (pe_lst pa_nil))
      (pss_cons (ps_for PassesOwn.never rfl (pi_rangeS rfl T.range (pa_cons pe_int (pa_cons (pe_callB call_len_seq (by rfl) T.len PySem.boot_len (pa_cons (pv 0) pa_nil)) (pa_cons pe_int pa_nil)))) (pg_name (i := 2) scEi.nd rfl (Or.inl rfl))
        (pss_cons (ps_set (i := 3) scEi.nd rfl (Or.inl rfl) pe_int)
        (pss_cons (ps_for PassesOwn.never rfl (pi_list (pe_slice sl_list (pv 0) (po_some (pv 2)) (po_some (pe_op op_add (pv 2) pe_int)))) (pg_name (i := 4) scEi.nd rfl (Or.inl rfl)) (pss_one (ps_set (i := 3) scEi.nd rfl (Or.inl rfl) (pe_op op_add (pe_op op_mul pe_int (pv 3)) (pv 4)))))
        (pss_one (ps_expr (pe_bm PySem.F.plainAttrs_list PySem.F.slot_list_append PySem.F.type_list_append mt_append (pv 1) (pa_cons (pv 3) pa_nil)))))))
      (pss_one (ps_ret (pe_callTy call_tuple_of (by rfl) T.tuple PyProof.Rows.boot_tuple (pa_cons (pv 1) pa_nil)))))), ?_⟩
    refine ⟨_, rfl, (by show 1 ≤ sizeLine; decide), fun z hz => ?_⟩
    have s1 := (Same.refl H).upd_free (o := .lst [V.int 0]) hz
    have g1 : upd H z (.lst [V.int 0]) z = some (.lst [V.int 0]) := upd_same
    generalize upd H z (.lst [V.int 0]) = H1 at s1 g1
    refine ⟨_, rfl, l, _, rfl, .inl (SqL.of (s1 _ _ hl)), _, rfl, _, _, rfl, rfl, (by show (0 : Int) < 8; decide), ?_⟩
    have ep : -(((bs.map V.int).length : Nat) : Int) % 8 = (padN bs.length : Int) := by rw [List.length_map]; exact pad_int
    have hp8 : padN bs.length < 8 := by unfold padN; omega
    refine ⟨z, _, _, rfl, rfl, g1, (by rw [ep]; omega), (by rw [ep]; omega), ?_, fun y hy => ?_⟩
    · rw [ep]
      exact lt_line (by show 1 * ((padN bs.length : Nat) : Int).toNat ≤ 40000; omega)
    rw [ep, Int.toNat_natCast, rep0] at *
    have s2 := (Same.refl H1).upd_free (o := .lst ((List.replicate (padN bs.length) (0 : Int)).map V.int)) hy
    have g2 : upd H1 y (.lst ((List.replicate (padN bs.length) (0 : Int)).map V.int)) y = some (.lst ((List.replicate (padN bs.length) (0 : Int)).map V.int)) := upd_same
    generalize upd H1 y (.lst ((List.replicate (padN bs.length) (0 : Int)).map V.int)) = H2 at s2 g2
    have t2 := s1.trans s2
    refine ⟨l, y, _, _, rfl, rfl, SqL.of (t2 _ _ hl), SqL.of g2, lt_line (by rw [List.length_map, List.length_map, List.length_replicate]; omega), fun q hq => ?_⟩
    rw [← List.map_append]
    have s3 := (Same.refl H2).upd_free (o := .lst ((pad bs).map V.int)) hq
    have g3 : upd H2 q (.lst ((pad bs).map V.int)) q = some (.lst ((pad bs).map V.int)) := upd_same
    rw [show bs ++ List.replicate (padN bs.length) 0 = pad bs from rfl]
    generalize upd H2 q (.lst ((pad bs).map V.int)) = H3 at s3 g3
    have t3 := t2.trans s3
    obtain ⟨m8, mlt, mge⟩ := pad_len bs
    have hml : ((pad bs).map V.int).length = (pad bs).length := List.length_map ..
    refine ⟨(by show 0 ≤ sizeLine; decide), fun lf hlf => ?_⟩
    have s4 := (Same.refl H3).upd_free (o := .lst []) hlf
    have g4 : upd H3 lf (.lst []) lf = some (.lst []) := upd_same
    generalize upd H3 lf (.lst []) = H4 at s4 g4
    have nq : q ≠ lf := ne_of_none g3 hlf
    have hlfH : H lf = none := t3.noneB hlf
    refine ⟨_, rfl, q, _, rfl, .inl (SqL.of (s4 _ _ g3)), _, _, _, rfl, by decide, by decide, ⟨by decide, by decide, by omega, by omega⟩, ?_⟩
    rw [hml, step8 m8]
    refine for_step (lo := 0) (c := 8) (n := (pad bs).length / 8) (fun i σ H' => ∃ v2 v3 v4, σ = [some (.ref q), some (.ref lf), v2, v3, v4] ∧ Same H H' ∧ H' q = some (.lst ((pad bs).map V.int)) ∧ H' lf = some (.lst (((eightM bs).take i).map V.int)))
      ⟨none, none, none, rfl, t3.trans s4, s4 _ _ g3, by rw [List.take_zero]; exact g4⟩ ?_ ?_
    · rintro i σ H5 hi ⟨v2, v3, v4, rfl, s5, q5, l5⟩
      refine ⟨_, rfl, _, rfl, _, rfl, _, rfl, _, _, rfl, rfl, _, rfl, q, _, rfl, SqL.of q5, fun p hp => ?_⟩
      rw [cut8_V _ _ (by omega)]
      have s6 := (Same.refl H5).upd_free (o := .lst ((cut8 (pad bs) i).map V.int)) hp
      have g6 : upd H5 p (.lst ((cut8 (pad bs) i).map V.int)) p = some (.lst ((cut8 (pad bs) i).map V.int)) := upd_same
      generalize upd H5 p (.lst ((cut8 (pad bs) i).map V.int)) = H6 at s6 g6
      refine ⟨p, rfl, ⟨_, SqL.of g6⟩, ?_⟩
      refine for_list (K := K) (a := p) (xs := (cut8 (pad bs) i).map V.int) (fun j σ H' => ∃ v4, σ = [some (.ref q), some (.ref lf), some (.int (0 + (i : Int) * 8)), some (.int (numI ((cut8 (pad bs) i).take j))), v4] ∧ H' = H6) ⟨v4, rfl, rfl⟩ (fun j σ H' _ ⟨_, _, e⟩ => by rw [e]; exact SqL.of g6) ?_ ?_
      · rintro j x σ H' hx ⟨v4, rfl, rfl⟩
        rw [List.getElem?_map] at hx
        cases e : (cut8 (pad bs) i)[j]? with
        | none => rw [e] at hx; cases hx
        | some b =>
          rw [e] at hx
          cases hx
          refine ⟨_, rfl, _, _, rfl, rfl, cmL, _, rfl, _, _, rfl, rfl, some (V.int b), ?_, rfl⟩
          rw [List.take_add_one, e]
          show _ = [some (V.ref q), some (V.ref lf), _, some (V.int (numI ((cut8 (pad bs) i).take j ++ [b]))), _]
          rw [num_snoc, Int.mul_comm (numI ((cut8 (pad bs) i).take j)) 2]
          rfl
      · rintro σ H' ⟨v4, rfl, rfl⟩
        rw [List.length_map, List.take_of_length_le (Nat.le_refl _)]
        refine ⟨_, rfl, .inl ⟨rfl, _, SqL.of (s6 _ _ l5)⟩, _, rfl, lf, _, _, rfl, rfl, s6 _ _ l5, ?_, ?_⟩
        · rw [List.length_map, List.length_take, sizeLine_eq]
          omega
        · refine ⟨_, _, _, rfl, (s5.trans s6).upd_free hlfH, ?_, ?_⟩
          · rw [upd_ne nq]
            exact s6 _ _ q5
          · rw [upd_same, eight_take hi, List.map_append]
            rfl
    · rintro σ H5 ⟨v2, v3, v4, rfl, s5, q5, l5⟩
      have hel := eight_len bs
      rw [List.take_of_length_le (by omega)] at l5
      refine ⟨_, rfl, lf, _, rfl, .inl ⟨SqL.of l5, fun p hp => ?_⟩⟩
      exact k p _ (s5.trans ((Same.refl H5).upd_free hp)) upd_same
end
end BT
namespace CD
open PySem L2
open SL (Wd okMark isNum isName isItem isMark isList sortM lawS So lisOf FIG SMA NAM MAR madeM hd hasC made_mem)
open BT (numI bitsI eightM readM pad B01 Kp RdAt)

def blN (n : Nat) : Nat := if n = 0 then 0 else n.log2 + 1
theorem bl_bits (n : Nat) : Builtin.Int.intBits (n : Int) = blN n := by
  unfold Builtin.Int.intBits blN
  by_cases h : n = 0
  · subst h
    rfl
  · have h1 : ((n : Int) == 0) = false := by simp [h]
    rw [h1, if_neg Bool.false_ne_true, if_neg h]
    rfl
theorem bl_le {n k : Nat} (h : n < 2 ^ k) : blN n ≤ k := by
  unfold blN
  by_cases h0 : n = 0
  · rw [if_pos h0]
    exact Nat.zero_le _
  · rw [if_neg h0]
    exact (Nat.log2_lt h0).mpr h
theorem bl_half {n : Nat} (h : 0 < n) : blN n = blN (n / 2) + 1 := by
  unfold blN
  rw [if_neg (by omega)]
  by_cases h1 : n / 2 = 0
  · have : n = 1 := by omega
    subst this
    decide
  · rw [if_neg h1, Nat.log2_def n, if_pos (by omega)]
theorem bits_snocI (n : Int) (w : Nat) : bitsI n (w + 1) = bitsI (n / 2) w ++ [n % 2] := by
  unfold bitsI
  rw [List.range_succ, List.map_append]
  congr 1
  · refine List.map_congr_left fun k hk => ?_
    have hk' := List.mem_range.mp hk
    have e : w + 1 - 1 - k = (w - 1 - k) + 1 := by omega
    rw [e, Int.pow_succ, Int.mul_comm, ← Int.ediv_ediv_of_nonneg (by decide)]
  · have e : w + 1 - 1 - w = 0 := by omega
    show [n / 2 ^ (w + 1 - 1 - w) % 2] = _
    rw [e]
    simp
theorem num_bits : ∀ (w : Nat) (n : Int), 0 ≤ n → n < 2 ^ w → numI (bitsI n w) = n
  | 0, n, h0, h1 => by
    have : n = 0 := by
      have : (2 : Int) ^ 0 = 1 := rfl
      omega
    subst this
    rfl
  | w + 1, n, h0, h1 => by
    rw [bits_snocI, BT.num_snoc, num_bits w (n / 2) (by omega) (by
      rw [Int.pow_succ] at h1
      omega)]
    omega

def idxC (S : Str) (c : Nat) : Nat := S.cps.toList.idxOf c
def encC (S : Str) (w : Nat) (c : Nat) : List Int := bitsI ((idxC S c : Nat) : Int) w
def encS (S : Str) (w : Nat) (z : Str) : List Int := bitsI ((z.length : Nat) : Int) 4 ++ z.cps.toList.flatMap (encC S w)
def valN (z : Str) : Nat := NumText.digitsVal z.cps.toList
def encV (n : Nat) : List Int := bitsI ((blN n : Nat) : Int) 5 ++ bitsI (n : Int) (blN n)
def encN (z : Str) : List Int := encV (valN z)
def encI (z : Str) : List Int := if isNum z then bitsI 0 1 ++ encN z else bitsI 1 1 ++ encS NAM 6 z
def encL (xs : List Str) : List Int := bitsI ((xs.length : Nat) : Int) 3 ++ xs.flatMap encI
theorem nam_idx : ∀ c ∈ NAM.cps.toList, Builtin.Str.occurrences NAM ⟨#[c]⟩ 0 NAM.length 1 = [idxC NAM c] ∧ idxC NAM c < 36 ∧ atI NAM.cps.toList ((idxC NAM c : Nat) : Int) = some c := by decide +kernel
theorem mar_idx : ∀ c ∈ MAR.cps.toList, Builtin.Str.occurrences MAR ⟨#[c]⟩ 0 MAR.length 1 = [idxC MAR c] ∧ idxC MAR c < 68 ∧ atI MAR.cps.toList ((idxC MAR c : Nat) : Int) = some c := by decide +kernel
theorem nam_len : NAM.length = 36 := by decide +kernel
theorem mar_len : MAR.length = 68 := by decide +kernel
theorem encC_len (S : Str) (w c : Nat) : (encC S w c).length = w := BT.bits_len _ _
theorem flat_const {α β : Type} {f : α → List β} {c : Nat} : ∀ l : List α, (∀ x ∈ l, (f x).length = c) → (l.flatMap f).length = c * l.length
  | [], _ => rfl
  | x :: l, h => by
    have ih := flat_const (f := f) (c := c) l fun y hy => h y (List.mem_cons_of_mem _ hy)
    have hx := h x List.mem_cons_self
    rw [List.flatMap_cons, List.length_append, List.length_cons, Nat.mul_succ, hx, ih]
    omega
theorem encS_len (S : Str) (w : Nat) (z : Str) : (encS S w z).length = 4 + w * z.length := by
  unfold encS
  rw [List.length_append, BT.bits_len, flat_const (c := w) _ fun c _ => encC_len S w c, SL.cps_len]
theorem encV_len (n : Nat) : (encV n).length = 5 + blN n := by
  unfold encV
  rw [List.length_append, BT.bits_len, BT.bits_len]

theorem num_digits {z : Str} (h : isNum z = true) : NumText.AllDigits z.cps.toList ∧ z.cps.toList ≠ [] ∧ z.length ≤ 9 ∧ 1 ≤ z.length ∧ (z.length = 1 ∨ ∃ c r, z.cps.toList = c :: r ∧ 49 ≤ c) := by
  unfold isNum at h
  rw [Bool.and_eq_true, Bool.and_eq_true] at h
  obtain ⟨h1, h2, h3⟩ := h
  have hl := of_decide_eq_true h1
  have hd' : NumText.AllDigits z.cps.toList := fun c hc => by
    have := made_mem h2 c hc
    have hf : ∀ d ∈ FIG.cps.toList, 48 ≤ d ∧ d ≤ 57 := by decide +kernel
    exact hf c this
  have hne : z.cps.toList ≠ [] := fun e => by
    have := SL.cps_len z
    rw [e] at this
    simp at this
    omega
  refine ⟨hd', hne, hl.2, hl.1, ?_⟩
  rw [Bool.or_eq_true] at h3
  rcases h3 with q | q
  · have := of_decide_eq_true q
    rw [this]
    exact .inl (by decide +kernel)
  · refine .inr ?_
    obtain ⟨c, r, e⟩ : ∃ c r, z.cps.toList = c :: r := by
      cases hz : z.cps.toList with
      | nil => exact absurd hz hne
      | cons c r => exact ⟨c, r, rfl⟩
    refine ⟨c, r, e, ?_⟩
    have hc := hd' c (by rw [e]; exact List.mem_cons_self)
    have hne0 : c ≠ 48 := fun z0 => by
      have hh : hd z = 48 := by
        unfold hd
        rw [e, z0]
        rfl
      rw [hh] at q
      have : (⟨#[48]⟩ : Str) = Str.ofString "0" := by decide +kernel
      rw [decide_eq_true this] at q
      cases q
    omega
theorem val_lt {cs : List Nat} (h : NumText.AllDigits cs) : NumText.digitsVal cs < 10 ^ cs.length := by
  have key : ∀ (l : List Nat) (a : Nat), (∀ c ∈ l, 48 ≤ c ∧ c ≤ 57) → l.foldl (fun acc c => acc * 10 + (c - 48)) a < (a + 1) * 10 ^ l.length := by
    intro l
    induction l with
    | nil => intro a _; simp
    | cons c l ih =>
      intro a hl
      have hc := hl c List.mem_cons_self
      rw [List.foldl_cons]
      have h1 := ih (a * 10 + (c - 48)) fun d hd => hl d (List.mem_cons_of_mem _ hd)
      rw [List.length_cons, Nat.pow_succ]
      have h2 : (a * 10 + (c - 48) + 1) * 10 ^ l.length ≤ (a * 10 + 10) * 10 ^ l.length := Nat.mul_le_mul_right _ (by omega)
      have h3 : (a * 10 + 10) * 10 ^ l.length = (a + 1) * (10 ^ l.length * 10) := by
        rw [show a * 10 + 10 = (a + 1) * 10 by omega, Nat.mul_assoc, Nat.mul_comm 10]
      omega
  have := key cs 0 h
  rw [Nat.zero_add, Nat.one_mul] at this
  exact this
theorem num_int {z : Str} (h : isNum z = true) : intText? z = some ((valN z : Nat) : Int) := by
  obtain ⟨h1, h2, h3, _⟩ := num_digits h
  exact intText_digits h1 h2 (by omega)
theorem num_small {z : Str} (h : isNum z = true) : valN z < 2 ^ 30 := by
  obtain ⟨h1, h2, h3, h4, _⟩ := num_digits h
  have := val_lt h1
  rw [SL.cps_len] at this
  have : 10 ^ z.length ≤ 10 ^ 9 := Nat.pow_le_pow_right (by decide) h3
  unfold valN
  omega
def At (bs : List Int) (t : Nat) (xs : List Int) : Prop := t + xs.length ≤ bs.length ∧ (bs.drop t).take xs.length = xs
theorem at_read {bs : List Int} (h01 : B01 bs) {t w : Nat} {n : Int} (h : At bs t (bitsI n w)) (h0 : 0 ≤ n) (h1 : n < 2 ^ w) : numI (readM (eightM bs) t w) = n := by
  obtain ⟨a, b⟩ := h
  rw [BT.bits_len] at a b
  have hp := BT.pad_len bs
  rw [BT.read_eq h01 (by omega)]
  unfold pad
  rw [List.drop_append_of_le_length (by omega), List.take_append_of_le_length (by rw [List.length_drop]; omega), b]
  exact num_bits w n h0 h1
end CD
namespace CD
open PySem L2
open SL (Wd okMark isNum isName isItem isMark isList sortM lawS So lisOf FIG SMA NAM MAR madeM hd hasC made_mem)
open BT (numI bitsI eightM readM pad B01 Kp RdAt)

theorem bits_num : ∀ (n : Nat) (xs : List Int), xs.length = n → B01 xs → bitsI (numI xs) xs.length = xs
  | 0, xs, h, _ => by
    have : xs = [] := List.eq_nil_of_length_eq_zero h
    subst this
    rfl
  | n + 1, xs, h, h01 => by
    have hne : xs ≠ [] := fun e => by rw [e] at h; cases h
    obtain ⟨ys, b, rfl⟩ : ∃ ys b, xs = ys ++ [b] := ⟨xs.dropLast, xs.getLast hne, (List.dropLast_concat_getLast hne).symm⟩
    rw [List.length_append] at h
    have hy : ys.length = n := by
      simp at h
      exact h
    have ih := bits_num n ys hy fun c hc => h01 c (List.mem_append_left _ hc)
    have hb := h01 b (List.mem_append_right _ List.mem_cons_self)
    rw [BT.num_snoc, List.length_append]
    show bitsI (numI ys * 2 + b) (ys.length + 1) = _
    rw [bits_snocI]
    have e1 : (numI ys * 2 + b) / 2 = numI ys := by rcases hb with e | e <;> omega
    have e2 : (numI ys * 2 + b) % 2 = b := by rcases hb with e | e <;> omega
    rw [e1, e2, ih]

theorem at_take {bs : List Int} {t w : Nat} (h : t + w ≤ bs.length) : At bs t ((bs.drop t).take w) := by
  have : ((bs.drop t).take w).length = w := by rw [List.length_take, List.length_drop]; omega
  refine ⟨by omega, ?_⟩
  rw [this]
theorem at_bits {bs : List Int} (h01 : B01 bs) {t w : Nat} (h : t + w ≤ bs.length) : At bs t (bitsI (numI ((bs.drop t).take w)) w) := by
  have hl : ((bs.drop t).take w).length = w := by rw [List.length_take, List.length_drop]; omega
  have := bits_num w ((bs.drop t).take w) hl fun c hc => h01 c (List.mem_of_mem_drop (List.mem_of_mem_take hc))
  rw [hl] at this
  rw [this]
  exact at_take h
theorem at_app {bs : List Int} {t : Nat} {xs ys : List Int} (h : At bs t xs) (k : At bs (t + xs.length) ys) : At bs t (xs ++ ys) := by
  obtain ⟨h1, h2⟩ := h
  obtain ⟨k1, k2⟩ := k
  refine ⟨by rw [List.length_append]; omega, ?_⟩
  rw [List.length_append, List.take_add, h2, List.drop_drop, k2]
def backB (S : Str) (n : Nat) : Bool := (List.range n).all fun i => match S.cps.toList[i]? with
  | some c => decide (idxC S c = i)
  | none => false
theorem back_of {S : Str} {n : Nat} (h : backB S n = true) {i : Nat} (hi : i < n) : ∃ c, S.cps.toList[i]? = some c ∧ idxC S c = i := by
  have := List.all_eq_true.mp h i (List.mem_range.mpr hi)
  cases e : S.cps.toList[i]? with
  | none => rw [e] at this; cases this
  | some c =>
    rw [e] at this
    exact ⟨c, rfl, of_decide_eq_true this⟩
theorem nam_back {i : Nat} (h : i < 36) : ∃ c, NAM.cps.toList[i]? = some c ∧ idxC NAM c = i := back_of (by decide +kernel) h
theorem mar_back {i : Nat} (h : i < 68) : ∃ c, MAR.cps.toList[i]? = some c ∧ idxC MAR c = i := back_of (by decide +kernel) h

theorem encS_snoc {S : Str} {w : Nat} {bs : List Int} {t c : Nat} {cs : List Nat} (h : At bs t (cs.flatMap (encC S w))) (k : At bs (t + w * cs.length) (encC S w c)) : At bs t ((cs ++ [c]).flatMap (encC S w)) := by
  rw [List.flatMap_append]
  refine at_app h ?_
  rw [flat_const (c := w) _ fun c _ => encC_len S w c]
  simpa using k
end CD
namespace L2
open PySem PyProof

theorem FnOk.upX {P : Program} {w : World} {K : PySem.W.Frag} {mg : Str → Option Value} {base : Heap} {k : Nat} {f : Addr} {fd : FuncData} {ps : List Str} {sp : Sp} (F : FnOk P w K mg base CX0 k f fd ps sp) : FnOk P w K mg base (CX1 P w) k f fd ps sp :=
  ⟨F.len, fun A outer s H args us vs Q E hr he hb hv hs => codeAny_mono (F.run A outer s H args us vs Q E hr he hb hv hs) fun r s' hq => by
    cases r with
    | error e => exact (show False from hq).elim
    | ok fl => cases fl <;> exact hq⟩

theorem FnOk.either {P : Program} {w : World} {K : PySem.W.Frag} {mg : Str → Option Value} {base : Heap} {CX : CXT} {k : Nat} {f : Addr} {fd : FuncData} {ps : List Str} {sp sq : Sp} (F : FnOk P w K mg base CX k f fd ps sp) (G : FnOk P w K mg base CX k f fd ps sq) : FnOk P w K mg base CX k f fd ps (fun vs H Q E => sp vs H Q E ∨ sq vs H Q E) :=
  ⟨fun vs H Q E h => h.elim (F.len vs H Q E) (G.len vs H Q E), fun A outer s H args us vs Q E hr he hb hv hs => hs.elim (F.run A outer s H args us vs Q E hr he hb hv) (G.run A outer s H args us vs Q E hr he hb hv)⟩
end L2
namespace CD
open PySem L2
open BT (numI bitsI eightM readM pad B01 Kp RdAt)

structure RdrT (C : Addr) (H : Hp) (rd nt : Addr) (t : Nat) (bs : List Int) : Prop where
  r : RdAt C H rd nt t (eightM bs)
  o : B01 bs
  l : bs.length ≤ 20000
  m : bs.length % 8 = 0
theorem RdrT.len {C : Addr} {H : Hp} {rd nt : Addr} {t : Nat} {bs : List Int} (h : RdrT C H rd nt t bs) : (eightM bs).length * 8 = bs.length := by
  have h1 := BT.eight_len bs
  have h2 := BT.pad_len bs
  have h3 := h.m
  omega

def spBt (C CS : Addr) : Sp := fun vs H Q E => BT.spRb C vs H Q E ∨ BT.spXb C CS vs H Q E
theorem read_bits {bs : List Int} (h01 : B01 bs) {t w : Nat} (h : t + w ≤ bs.length) : ∃ n : Nat, numI (readM (eightM bs) t w) = (n : Int) ∧ n < 2 ^ w ∧ At bs t (bitsI (n : Int) w) := by
  have ha := at_bits h01 h
  have hp := BT.pad_len bs
  have hl : ((bs.drop t).take w).length = w := by rw [List.length_take, List.length_drop]; omega
  obtain ⟨d1, d2⟩ := BT.num_range (bs := (bs.drop t).take w) fun c hc => h01 c (List.mem_of_mem_drop (List.mem_of_mem_take hc))
  rw [hl] at d2
  refine ⟨(numI ((bs.drop t).take w)).toNat, ?_, ?_, ?_⟩
  · rw [at_read h01 ha d1 d2]
    omega
  · have : ((numI ((bs.drop t).take w)).toNat : Int) < ((2 ^ w : Nat) : Int) := by
      rw [Int.toNat_of_nonneg d1]
      simpa using d2
    exact Int.ofNat_lt.mp this
  · rw [Int.toNat_of_nonneg d1]
    exact ha
end CD
namespace CD
open PySem L2
open SL (iteTK iteFK decS)
open BT (numI bitsI eightM readM pad B01 Kp RdAt)
structure REX (P : Program) (w : World) (K : PySem.W.Frag) (mg : Str → Option Value) (base : Heap) (C CS fB : Addr) (dB : FuncData) : Prop where
  Y : BT.RdK K C
  bB : Binds K dB ["self", "wide"] []
  mB : Meth K C "bits" fB
  GB : FnOk P w K mg base (CX1 P w) 2 fB dB ["self", "wide"] (spBt C CS)
  gS : mg "Spoiled" = some (.ref CS)
  ex : PySem.W.excIn K CS BT.bmV "ValueError.__new__" = true
structure Tc (mg : Str → Option Value) : Prop where
  len : mg "len" = none
  range : mg "range" = none
  str : mg "str" = none
  int : mg "int" = none
def spNnT (C CS : Addr) : Sp := fun vs H Q E => ∃ (rd nt : Addr) (t : Nat) (bs : List Int), vs = [.ref rd] ∧ RdrT C H rd nt t bs ∧ (∀ (n : Nat) H', n < 2 ^ 31 → At bs t (encV n) → RdrT C H' rd nt (t + (encV n).length) bs → Kp H H' rd → Q (.str (Str.ofString (toString (n : Int)))) H') ∧ ∀ H', Kp H H' rd → E (.ref CS) none H'
theorem KpR {H : Hp} {p : Addr} : Kp H H p := fun _ _ e _ => e
theorem KpT {H H1 H2 : Hp} {p : Addr} (a : Kp H H1 p) (b : Kp H1 H2 p) : Kp H H2 p := fun x o e n => b x o (a x o e n) n
section
variable {P : Program} {w : World} {K : PySem.W.Frag} {mg : Str → Option Value} {base : Heap} {C CS fB : Addr} {dB : FuncData}
theorem scNnT : FnScope ["reader", "wide", "number"] ["reader"] (defScope sNn) := ⟨rfl, rfl, rfl, by decide +kernel, rfl, by decide +kernel, by decide +kernel⟩
theorem ok_nnT {f : Addr} {fd : FuncData} (F : Fun K "next_number" "next_number" sNn f fd) (T : Tc mg) (R : REX P w K mg base C CS fB dB) : FnOk P w K mg base (CX1 P w) 3 f fd ["reader"] (spNnT C CS) := by
  refine F.okX scNnT (fun vs H Q E h => ?_) (fun cdv A outer s H vs Q E hr h => ?_)
  · obtain ⟨rd, nt, t, bs, rfl, _⟩ := h
    rfl
  · obtain ⟨rd, nt, t, bs, rfl, D, k, kE⟩ := h
    obtain ⟨dx, fs, hrd, Rf, _⟩ := id D.r
    have hlen := D.len
    have hl := D.l
    refine ⟨_, pss_cons (ps_set (i := 1) scNnT.nd rfl (Or.inl rfl) (pe_meth (pv 0) R.Y.cls R.mB R.GB hr R.bB .nil pass1 (pa_cons pe_int pa_nil)))
      (pss_cons (ps_set (i := 2) scNnT.nd rfl (Or.inl rfl) (pe_meth (pv 0) R.Y.cls R.mB R.GB hr R.bB .nil pass1 (pa_cons (pv 1) pa_nil)))
      (pss_cons (ps_if (pt_cmpR op_ne (pe_bm0 PySem.F.plainAttrs_int PySem.F.slot_int_bit_length PySem.F.type_int_bit_length mt_bits (pv 2)) (pv 1) (nomark _)) (pss_one (ps_raise0 (by rfl) R.gS R.ex PySem.F.excBase_ValueError rfl throws_cx)) pss_nil)
      (pss_one (ps_ret (pe_callTy call_strI (by rfl) T.str PyProof.Rows.boot_str (pa_cons (pv 2) pa_nil)))))), ?_⟩
    by_cases h5 : t + 5 ≤ bs.length
    case neg => exact ⟨_, rfl, rd, dx, fs, rfl, hrd, Rf.b, .inr ⟨rd, nt, t, 5, eightM bs, rfl, D.r, by omega, kE H KpR⟩⟩
    obtain ⟨wn, e5, w5, a5⟩ := read_bits D.o h5
    refine ⟨_, rfl, rd, dx, fs, rfl, hrd, Rf.b, .inl ⟨rd, nt, t, 5, eightM bs, rfl, D.r, by omega, by decide, by omega, fun H1 R1 k1 => ?_⟩⟩
    rw [e5]
    have w32 : wn < 32 := w5
    obtain ⟨dx1, fs1, hrd1, Rf1, _⟩ := id R1
    by_cases h6 : t + 5 + wn ≤ bs.length
    case neg => exact ⟨_, rfl, rd, dx1, fs1, rfl, hrd1, Rf1.b, _, rfl, .inr ⟨rd, nt, t + 5, wn, eightM bs, rfl, R1, by omega, kE H1 k1⟩⟩
    obtain ⟨n, e6, n6, a6⟩ := read_bits D.o h6
    refine ⟨_, rfl, rd, dx1, fs1, rfl, hrd1, Rf1.b, _, rfl, .inl ⟨rd, nt, t + 5, wn, eightM bs, rfl, R1, by omega, by omega, by omega, fun H2 R2 k2 => ?_⟩⟩
    rw [e6]
    have n31 : n < 2 ^ 31 := Nat.lt_of_lt_of_le n6 (Nat.pow_le_pow_right (by decide) (by omega))
    refine ⟨_, rfl, rfl, _, rfl, rfl, _, rfl, rfl, !decide (blN n = wn), ?_, ?_⟩
    · show V.bl (!decide (V.int ((Builtin.Int.intBits (n : Int) : Nat) : Int) = V.int ((wn : Nat) : Int))) = _
      rw [bl_bits]
      congr 2
      exact decide_eq_decide.mpr ⟨fun q => by injection q with q; omega, fun q => by rw [q]⟩
    by_cases hb : blN n = wn
    case neg =>
      rw [decide_eq_false hb]
      exact iteT (kE H2 (KpT k1 k2))
    rw [decide_eq_true hb]
    refine iteF ⟨_, rfl, (n : Int), rfl, ?_, ?_⟩
    · show (n : Int).natAbs.log2 < 1920
      have : (n : Int).natAbs = n := rfl
      rw [this]
      by_cases h0 : n = 0
      · subst h0; decide
      · exact Nat.lt_of_lt_of_le ((Nat.log2_lt h0).mpr n31) (by decide)
    subst hb
    have hat : At bs t (encV n) := at_app a5 (by rw [BT.bits_len]; exact a6)
    refine k n H2 n31 hat ⟨?_, D.o, D.l, D.m⟩ (KpT k1 k2)
    rw [encV_len, ← Nat.add_assoc]
    exact R2
end
end CD
namespace CD
open PySem L2
open SL (Wd okMark isNum isName isItem isMark isList sortM lawS So lisOf FIG SMA NAM MAR madeM hd hasC made_mem iteTK iteFK decS)
open BT (numI bitsI eightM readM pad B01 Kp RdAt)

structure Bk (S : Str) (w : Nat) : Prop where
  l : S.length ≤ 100
  w7 : w ≤ 7
  b : ∀ i, i < S.length → ∃ c, S.cps.toList[i]? = some c ∧ idxC S c = i
  a : ∀ c ∈ S.cps.toList, c < 128
theorem bk_nam : Bk NAM 6 := ⟨by decide +kernel, by decide, fun i hi => nam_back (by rw [nam_len] at hi; exact hi), by decide +kernel⟩
theorem bk_mar : Bk MAR 7 := ⟨by decide +kernel, by decide, fun i hi => mar_back (by rw [mar_len] at hi; exact hi), by decide +kernel⟩
def spNsT (C CS : Addr) : Sp := fun vs H Q E => ∃ (rd nt : Addr) (t : Nat) (bs : List Int) (S : Str) (w : Nat), vs = [.ref rd, .str S, .int (w : Int)] ∧ RdrT C H rd nt t bs ∧ Bk S w ∧ (∀ (z : Str) H', z.length ≤ 15 → (∀ c ∈ z.cps.toList, c < 128) → At bs t (encS S w z) → RdrT C H' rd nt (t + (encS S w z).length) bs → Kp H H' rd → Q (.str z) H') ∧ ∀ H', Kp H H' rd → E (.ref CS) none H'
def ofC (cs : List Nat) : Str := ⟨cs.toArray⟩
theorem ofC_len (cs : List Nat) : (ofC cs).length = cs.length := by
  rw [← SL.cps_len]
  show cs.toArray.toList.length = _
  simp
theorem ofC_snoc (cs : List Nat) (c : Nat) : ofC cs ++ ⟨#[c]⟩ = ofC (cs ++ [c]) := by
  refine Str.ext' ?_
  rw [Str.cps_append]
  unfold ofC
  apply Array.ext'
  simp
section
variable {P : Program} {w : World} {K : PySem.W.Frag} {mg : Str → Option Value} {base : Heap} {C CS fB : Addr} {dB : FuncData}
theorem scNsT : FnScope ["reader", "signs", "wide", "word", "many", "place", "number"] ["reader", "signs", "wide"] (defScope sNs) := ⟨rfl, rfl, rfl, by decide +kernel, rfl, by decide +kernel, by decide +kernel⟩
theorem ok_nsT {f : Addr} {fd : FuncData} (F : Fun K "next_signs" "next_signs" sNs f fd) (T : Tc mg) (R : REX P w K mg base C CS fB dB) : FnOk P w K mg base (CX1 P w) 3 f fd ["reader", "signs", "wide"] (spNsT C CS) := by
  refine F.okX scNsT (fun vs H Q E h => ?_) (fun cdv A outer s H vs Q E hr h => ?_)
  · obtain ⟨rd, nt, t, bs, S, wi, rfl, _⟩ := h
    rfl
  · obtain ⟨rd, nt, t, bs, S, wi, rfl, D, B, k, kE⟩ := h
    obtain ⟨dx, fs, hrd, Rf, _⟩ := id D.r
    have hlen := D.len
    have hl := D.l
    have w7 := B.w7
    have S100 := B.l
    refine ⟨_, pss_cons (ps_set (i := 3) scNsT.nd rfl (Or.inl rfl) pe_str)
      (pss_cons (ps_set (i := 4) scNsT.nd rfl (Or.inl rfl) (pe_meth (pv 0) R.Y.cls R.mB R.GB hr R.bB .nil pass1 (pa_cons pe_int pa_nil)))
      (pss_cons (ps_for PassesOwn.leaving rfl (pi_range1 rfl T.range (pa_cons (pv 4) pa_nil)) (pg_name (i := 5) scNsT.nd rfl (Or.inl rfl))
        (pss_cons (ps_set (i := 6) scNsT.nd rfl (Or.inl rfl) (pe_meth (pv 0) R.Y.cls R.mB R.GB hr R.bB .nil pass1 (pa_cons (pv 2) pa_nil)))
        (pss_cons (ps_if (pt_cmpR op_ge (pv 6) (pe_callB call_len_str (by rfl) T.len PySem.boot_len (pa_cons (pv 1) pa_nil)) (nomark _)) (pss_one (ps_raise0 (by rfl) R.gS R.ex PySem.F.excBase_ValueError rfl throws_cx)) pss_nil)
        (pss_one (ps_set (i := 3) scNsT.nd rfl (Or.inl rfl) (pe_op op_add_str (pv 3) (pe_ix ix_str (pv 1) (pv 6) (fun _ _ => rfl))))))))
      (pss_one (ps_ret (pv 3))))), ?_⟩
    by_cases h4 : t + 4 ≤ bs.length
    case neg => exact ⟨_, rfl, rd, dx, fs, rfl, hrd, Rf.b, .inr ⟨rd, nt, t, 4, eightM bs, rfl, D.r, by omega, kE H KpR⟩⟩
    obtain ⟨m, e4, m4, a4⟩ := read_bits D.o h4
    refine ⟨_, rfl, rd, dx, fs, rfl, hrd, Rf.b, .inl ⟨rd, nt, t, 4, eightM bs, rfl, D.r, by omega, by decide, by omega, fun H1 R1 k1 => ?_⟩⟩
    rw [e4]
    have m16 : m < 16 := m4
    refine ⟨_, rfl, _, rfl, by omega, by omega, ?_⟩
    rw [Int.toNat_natCast]
    refine for_range (n := m) (fun i σ H2 => ∃ v5 v6 cs, σ = [some (.ref rd), some (.str S), some (.int (wi : Int)), some (.str (ofC cs)), some (.int (m : Int)), v5, v6] ∧ cs.length = i ∧ (∀ c ∈ cs, c < 128) ∧ At bs (t + 4) (cs.flatMap (encC S wi)) ∧ RdAt C H2 rd nt (t + 4 + wi * i) (eightM bs) ∧ Kp H H2 rd)
      ⟨none, none, [], rfl, rfl, (fun c hc => by cases hc), ⟨by simpa using h4, by simp⟩, R1, k1⟩ ?_ ?_
    · rintro i σ H2 hi ⟨v5, v6, cs, rfl, hcl, hc8, hat, R2, k2⟩
      obtain ⟨dx2, fs2, hrd2, Rf2, _⟩ := id R2
      by_cases h5 : t + 4 + wi * i + wi ≤ bs.length
      case neg => exact ⟨_, rfl, rd, dx2, fs2, rfl, hrd2, Rf2.b, _, rfl, .inr ⟨rd, nt, t + 4 + wi * i, wi, eightM bs, rfl, R2, by omega, kE H2 k2⟩⟩
      obtain ⟨n, e5, n5, a5⟩ := read_bits D.o h5
      refine ⟨_, rfl, rd, dx2, fs2, rfl, hrd2, Rf2.b, _, rfl, .inl ⟨rd, nt, t + 4 + wi * i, wi, eightM bs, rfl, R2, by omega, by omega, by omega, fun H3 R3 k3 => ?_⟩⟩
      rw [e5]
      have hsm : S.length ≤ sizeLine := Nat.le_of_lt (small1000 (by omega))
      by_cases hn : n < S.length
      case neg => exact ⟨_, rfl, _, rfl, S, rfl, hsm, _, _, rfl, rfl, _, rfl, iteTK (decide_eq_true (by omega)) (kE H3 (KpT k2 k3))⟩
      obtain ⟨c, hc, hci⟩ := B.b n hn
      refine ⟨_, rfl, _, rfl, S, rfl, hsm, _, _, rfl, rfl, _, rfl, iteFK (decide_eq_false (by omega)) ?_⟩
      refine ⟨_, rfl, _, rfl, _, rfl, S, _, c, rfl, rfl, hsm, atI_nat hc, _, _, rfl, rfl, ?_, some (.int (0 + (i : Int))), some (.int (n : Int)), cs ++ [c], ?_, ?_, ?_, ?_, ?_, KpT k2 k3⟩
      · have := ofC_len cs
        refine Nat.le_of_lt (small1000 ?_)
        show (ofC cs).length + 1 ≤ 1000
        omega
      · rw [← ofC_snoc]
        rfl
      · rw [List.length_append]
        simp [hcl]
      · intro d hd
        rcases List.mem_append.mp hd with q | q
        · exact hc8 d q
        · rw [List.mem_singleton.mp q]
          exact B.a c (List.mem_of_getElem? hc)
      · refine encS_snoc hat ?_
        rw [hcl]
        unfold encC
        rw [hci]
        exact a5
      · have e : t + 4 + wi * (i + 1) = t + 4 + wi * i + wi := by rw [Nat.mul_succ]; omega
        rw [e]
        exact R3
    · rintro σ H2 ⟨v5, v6, cs, rfl, hcl, hc8, hat, R2, k2⟩
      have hz := ofC_len cs
      have hS : encS S wi (ofC cs) = bitsI (m : Int) 4 ++ cs.flatMap (encC S wi) := by
        unfold encS
        rw [hz, hcl]
        rfl
      refine ⟨_, rfl, k (ofC cs) H2 (by omega) hc8 ?_ ⟨?_, D.o, D.l, D.m⟩ k2⟩
      · rw [hS]
        exact at_app a4 (by rw [BT.bits_len]; exact hat)
      · rw [encS_len, hz, hcl]
        have e : t + (4 + wi * m) = t + 4 + wi * m := by omega
        rw [e]
        exact R2
end
end CD
namespace CD
open PySem L2
open SL (Wd okMark isNum isName isItem isMark isList sortM lawS So lisOf FIG SMA NAM MAR madeM hd hasC made_mem iteTK iteFK decS)
open BT (numI bitsI eightM readM pad B01 Kp RdAt)
def enc0 (so : So) (z : Str) : List Int := match so with
  | .num => encN z
  | .nam => encS NAM 6 z
  | _ => encS MAR 7 z
theorem sort_num {z : Str} (h : sortM z = some .num) : isNum z = true := by
  unfold sortM at h
  cases hn : isNum z with
  | true => rfl
  | false =>
    rw [hn, if_neg Bool.false_ne_true] at h
    split at h
    · cases h
    · split at h
      · cases h
      · split at h <;> cases h
theorem sort_nam {z : Str} (h : sortM z = some .nam) : isName z = true := by
  unfold sortM at h
  split at h
  · cases h
  · split at h
    · assumption
    · split at h
      · cases h
      · split at h <;> cases h
theorem sort_mar {z : Str} (h : sortM z = some .mar) : isMark z = true := by
  unfold sortM at h
  split at h
  · cases h
  · split at h
    · cases h
    · split at h
      · cases h
      · split at h
        · assumption
        · cases h
theorem sort_lis {z : Str} (h : sortM z = some .lis) : isList z = true := by
  unfold sortM at h
  split at h
  · cases h
  · split at h
    · cases h
    · split at h
      · assumption
      · split at h <;> cases h
theorem item_sort {x : Str} (h : isItem x = true) : (sortM x = some .num ∧ isNum x = true) ∨ (sortM x = some .nam ∧ isNum x = false) := by
  unfold isItem at h
  cases hn : isNum x with
  | true => exact .inl ⟨by unfold sortM; rw [hn]; rfl, rfl⟩
  | false =>
    rw [hn, Bool.false_or] at h
    refine .inr ⟨?_, rfl⟩
    unfold sortM
    rw [hn, h]
    rfl

def encW (z : Str) (bits : List Int) (so : So) : Prop := (so ≠ .lis ∧ sortM z = some so ∧ bits = enc0 so z) ∨ (so = .lis ∧ sortM z = some .lis ∧ ∃ xs, xs.length ≤ 4 ∧ (∀ x ∈ xs, isItem x = true) ∧ z = lisOf xs ∧ bits = encL xs)
theorem val_num (n : Nat) : valN (Str.ofString (toString (n : Int))) = n := by
  unfold valN
  rw [PySem.W.KIN.signs_num, PySem.W.KIN.val_back]

def raw0 (so : So) (z : Str) (ws : List Int) : Prop := Tx 15 z ∧ ws = enc0 so z
theorem raw0_sort {so : So} {z : Str} {ws : List Int} (h : raw0 so z ws) (hl : so ≠ .lis) (hs : sortM z = some so) : encW z ws so := .inl ⟨hl, hs, h.2⟩
def rawL (z : Str) (ws : List Int) : Prop := ∃ xs, xs.length ≤ 7 ∧ (∀ x ∈ xs, isItem x = true) ∧ z = lisOf xs ∧ ws = encL xs
theorem rawL_sort {z : Str} {ws : List Int} (h : rawL z ws) (hs : sortM z = some .lis) : encW z ws .lis := by
  obtain ⟨xs, h7, hi, rfl, rfl⟩ := h
  refine .inr ⟨rfl, hs, xs, ?_, hi, rfl, rfl⟩
  by_cases hx : xs = []
  · subst hx; exact Nat.zero_le _
  · have hl := sort_lis hs
    unfold isList at hl
    have es : Txt.split (Txt.slice (lisOf xs) (some 1) (some (-1))) (Str.ofString ",") = xs := by
      rw [show Txt.slice (lisOf xs) (some 1) (some (-1)) = Str.join (Str.ofString ",") xs from SL.slice_mid _]
      exact SL.split_join hx hi
    have hne : lisOf xs ≠ Str.ofString "[]" := fun e => by
      rw [e] at es
      have : Txt.split (Txt.slice (Str.ofString "[]") (some 1) (some (-1))) (Str.ofString ",") = [Str.ofString ""] := by decide +kernel
      rw [this] at es
      have := hi (Str.ofString "") (by rw [← es]; exact List.mem_singleton.mpr rfl)
      revert this
      decide +kernel
    rw [decide_eq_false hne, Bool.false_or, es] at hl
    rw [Bool.and_eq_true, Bool.and_eq_true] at hl
    exact of_decide_eq_true (Bool.and_eq_true_iff.mp hl.2).1
def raw (so : So) (z : Str) (ws : List Int) : Prop := (so ≠ .lis ∧ raw0 so z ws) ∨ (so = .lis ∧ rawL z ws)
theorem raw_sort {so : So} {z : Str} {ws : List Int} (h : raw so z ws) (hs : sortM z = some so) : encW z ws so := by
  rcases h with ⟨a, b⟩ | ⟨rfl, b⟩
  · exact raw0_sort b a hs
  · exact rawL_sort b hs
theorem lis_txT {xs : List Str} (h7 : xs.length ≤ 7) (hi : ∀ x ∈ xs, isItem x = true) : Tx 1000 (lisOf xs) := by
  have t := SL.join_tn (Str.ofString ",") (n := 12) (m := 1) (SL.txK (by decide +kernel)) (ys := xs) fun y hy => (SL.item_mark (hi y hy)).tn
  have t1 := t.tx
  have t2 : Tx 1 (Str.ofString "[") := (SL.txK (by decide +kernel) : SL.Tn 1 _).tx
  have t3 : Tx 1 (Str.ofString "]") := (SL.txK (by decide +kernel) : SL.Tn 1 _).tx
  have := (t2.app t1).app t3
  exact this.mono (by omega)
theorem raw_tx {so : So} {z : Str} {ws : List Int} (h : raw so z ws) : Tx 1000 z := by
  rcases h with ⟨_, b, _⟩ | ⟨_, xs, h7, hi, rfl, _⟩
  · exact b.mono (by decide)
  · exact lis_txT h7 hi
def spTrT0 (C CS : Addr) : Sp := fun vs H Q E => ∃ (rd nt : Addr) (t : Nat) (bs : List Int) (so : So), vs = [.ref rd, .str so.str] ∧ so ≠ .lis ∧ RdrT C H rd nt t bs ∧ (∀ (z : Str) (ws : List Int) H', raw0 so z ws → At bs t ws → RdrT C H' rd nt (t + ws.length) bs → Kp H H' rd → Q (.str z) H') ∧ ∀ H', Kp H H' rd → E (.ref CS) none H'
def spNwT0 (C CS : Addr) : Sp := fun vs H Q E => ∃ (rd nt : Addr) (t : Nat) (bs : List Int) (so : So), vs = [.ref rd, .str so.str] ∧ so ≠ .lis ∧ RdrT C H rd nt t bs ∧ (∀ (z : Str) H', sortM z = some so → At bs t (enc0 so z) → RdrT C H' rd nt (t + (enc0 so z).length) bs → Kp H H' rd → Q (.str z) H') ∧ ∀ H', Kp H H' rd → E (.ref CS) none H'
def spNiT (C CS : Addr) : Sp := fun vs H Q E => ∃ (rd nt : Addr) (t : Nat) (bs : List Int), vs = [.ref rd] ∧ RdrT C H rd nt t bs ∧ (∀ (z : Str) (ws : List Int) H', rawL z ws → At bs t ws → RdrT C H' rd nt (t + ws.length) bs → Kp H H' rd → Q (.str z) H') ∧ ∀ H', Kp H H' rd → E (.ref CS) none H'
def spTrT (C CS : Addr) : Sp := fun vs H Q E => ∃ (rd nt : Addr) (t : Nat) (bs : List Int) (so : So), vs = [.ref rd, .str so.str] ∧ RdrT C H rd nt t bs ∧ (∀ (z : Str) (ws : List Int) H', raw so z ws → At bs t ws → RdrT C H' rd nt (t + ws.length) bs → Kp H H' rd → Q (.str z) H') ∧ ∀ H', Kp H H' rd → E (.ref CS) none H'
def spNwT (C CS : Addr) : Sp := fun vs H Q E => ∃ (rd nt : Addr) (t : Nat) (bs : List Int) (so : So), vs = [.ref rd, .str so.str] ∧ RdrT C H rd nt t bs ∧ (∀ (z : Str) (ws : List Int) H', encW z ws so → At bs t ws → RdrT C H' rd nt (t + ws.length) bs → Kp H H' rd → Q (.str z) H') ∧ ∀ H', Kp H H' rd → E (.ref CS) none H'
theorem KpS {H H1 : Hp} {p : Addr} (a : Same H H1) : Kp H H1 p := fun x o e _ => a x o e
theorem RdrT.same {C : Addr} {H H' : Hp} {rd nt : Addr} {t : Nat} {bs : List Int} (h : RdrT C H rd nt t bs) (s : Same H H') : RdrT C H' rd nt t bs := by
  obtain ⟨⟨dx, fs, h1, h2, h3⟩, o, l, m⟩ := h
  exact ⟨⟨dx, fs, s _ _ h1, h2, s _ _ h3⟩, o, l, m⟩
theorem so_inj : ∀ a b : So, a.str = b.str → a = b := by
  intro a b
  cases a <;> cases b <;> first | exact fun _ => rfl | (intro h; exact absurd h (by decide +kernel))
theorem sortV {o : Option So} {so : So} (h : SL.vS o = V.str so.str) : o = some so := by
  cases o with
  | none => cases h
  | some x => exact congrArg some (so_inj _ _ (V.str.inj h))
section
variable {P : Program} {w : World} {K : PySem.W.Frag} {mg : Str → Option Value} {base : Heap} {C CS fB aI : Addr} {dB : FuncData}
theorem scTr : FnScope ["reader", "sort"] ["reader", "sort"] (defScope sTr) := ⟨rfl, rfl, rfl, by decide +kernel, rfl, by decide +kernel, by decide +kernel⟩
theorem ok_trT0 {f fN fS : Addr} {fd dN dS : FuncData} (F : Fun K "text_read" "text_read" sTr f fd) (gNa : ∃ u, mg "NAME_SIGNS" = some u ∧ RelV (.str NAM) u) (gMa : ∃ u, mg "MARK_SIGNS" = some u ∧ RelV (.str MAR) u)
    (FN : Fun K "next_number" "next_number" sNn fN dN) (bN : Binds K dN ["reader"] []) (gN : mg "next_number" = some (.ref fN)) (GN : FnOk P w K mg base (CX1 P w) 3 fN dN ["reader"] (spNnT C CS))
    (FS : Fun K "next_signs" "next_signs" sNs fS dS) (bS : Binds K dS ["reader", "signs", "wide"] []) (gS : mg "next_signs" = some (.ref fS)) (GS : FnOk P w K mg base (CX1 P w) 3 fS dS ["reader", "signs", "wide"] (spNsT C CS)) : FnOk P w K mg base (CX1 P w) 4 f fd ["reader", "sort"] (spTrT0 C CS) := by
  obtain ⟨u1, m1, r1⟩ := gNa
  obtain ⟨u2, m2, r2⟩ := gMa
  refine F.okX scTr (fun vs H Q E h => ?_) (fun cdv A outer s H vs Q E hr h => ?_)
  · obtain ⟨rd, nt, t, bs, so, rfl, _⟩ := h
    rfl
  · obtain ⟨rd, nt, t, bs, so, rfl, hso, D, k, kE⟩ := h
    refine ⟨_, pss_cons (ps_if (pt_cmpR op_eq (pv 1) pe_str (nomark _)) (pss_one (ps_ret (pe_call GN hr rfl gN FN.kp bN .nil pass1 (pa_cons (pv 0) pa_nil)))) pss_nil)
      (pss_cons (ps_if (pt_cmpR op_eq (pv 1) pe_str (nomark _)) (pss_one (ps_ret (pe_call GS hr rfl gS FS.kp bS .nil pass1 (pa_cons (pv 0) (pa_cons (pe_glob (v := .str NAM) (by rfl) m1 r1) (pa_cons pe_int pa_nil)))))) pss_nil)
      (pss_cons (ps_if (pt_cmpR op_eq (pv 1) pe_str (nomark _)) (pss_one (ps_ret (pe_call GS hr rfl gS FS.kp bS .nil pass1 (pa_cons (pv 0) (pa_cons (pe_glob (v := .str MAR) (by rfl) m2 r2) (pa_cons pe_int pa_nil)))))) pss_nil)
      pss_never)), ?_⟩
    cases so with
    | lis => exact absurd rfl hso
    | num =>
      refine ⟨_, rfl, rfl, _, rfl, iteTK (by rw [decS]; exact decide_eq_true rfl) ?_⟩
      refine ⟨_, rfl, rd, nt, t, bs, rfl, D, fun n H' hn hat D' kp => ?_, kE⟩
      refine k _ _ H' ⟨(Tx.num (by omega) (by omega)).mono (by decide), ?_⟩ hat D' kp
      show encV n = encV (valN _)
      rw [val_num]
    | nam =>
      refine ⟨_, rfl, rfl, _, rfl, iteFK (by rw [decS]; exact decide_eq_false (by decide +kernel)) ?_⟩
      refine ⟨_, rfl, rfl, _, rfl, iteTK (by rw [decS]; exact decide_eq_true rfl) ?_⟩
      exact ⟨_, rfl, rd, nt, t, bs, NAM, 6, rfl, D, bk_nam, fun z H' h1 h2 hat D' kp => k z _ H' ⟨⟨h1, h2⟩, rfl⟩ hat D' kp, kE⟩
    | mar =>
      refine ⟨_, rfl, rfl, _, rfl, iteFK (by rw [decS]; exact decide_eq_false (by decide +kernel)) ?_⟩
      refine ⟨_, rfl, rfl, _, rfl, iteFK (by rw [decS]; exact decide_eq_false (by decide +kernel)) ?_⟩
      refine ⟨_, rfl, rfl, _, rfl, iteTK (by rw [decS]; exact decide_eq_true rfl) ?_⟩
      exact ⟨_, rfl, rd, nt, t, bs, MAR, 7, rfl, D, bk_mar, fun z H' h1 h2 hat D' kp => k z _ H' ⟨⟨h1, h2⟩, rfl⟩ hat D' kp, kE⟩
theorem scNw : FnScope ["reader", "sort", "text"] ["reader", "sort"] (defScope sNw) := ⟨rfl, rfl, rfl, by decide +kernel, rfl, by decide +kernel, by decide +kernel⟩
theorem ok_nwT0 {f fT fO : Addr} {fd dT dO : FuncData} (F : Fun K "next_word" "next_word" sNw f fd) (gSp : mg "Spoiled" = some (.ref CS)) (ex : PySem.W.excIn K CS BT.bmV "ValueError.__new__" = true)
    (FT : Fun K "text_read" "text_read" sTr fT dT) (bT : Binds K dT ["reader", "sort"] []) (gT : mg "text_read" = some (.ref fT)) (GT : FnOk P w K mg base (CX1 P w) 4 fT dT ["reader", "sort"] (spTrT0 C CS))
    (FO : Fun K "sort_of" "sort_of" SL.sSo fO dO) (bO : Binds K dO ["text"] []) (gO : mg "sort_of" = some (.ref fO)) (GO : FnOk P w K mg base CX0 5 fO dO ["text"] SL.spSo) : FnOk P w K mg base (CX1 P w) 6 f fd ["reader", "sort"] (spNwT0 C CS) := by
  refine F.okX scNw (fun vs H Q E h => ?_) (fun cdv A outer s H vs Q E hr h => ?_)
  · obtain ⟨rd, nt, t, bs, so, rfl, _⟩ := h
    rfl
  · obtain ⟨rd, nt, t, bs, so, rfl, hso, D, k, kE⟩ := h
    have hr4 : Room 4 _ := hr.mono (by decide)
    refine ⟨_, pss_cons (ps_set (i := 2) scNw.nd rfl (Or.inl rfl) (pe_call GT hr4 rfl gT FT.kp bT .nil pass1 (pa_cons (pv 0) (pa_cons (pv 1) pa_nil))))
      (pss_cons (ps_if (pt_cmpR op_ne (pe_call GO hr rfl gO FO.kp bO .nil pass0 (pa_cons (pv 2) pa_nil)) (pv 1) (nomark _)) (pss_one (ps_raise0 (by rfl) gSp ex PySem.F.excBase_ValueError rfl throws_cx)) pss_nil)
      (pss_one (ps_ret (pv 2)))), ?_⟩
    refine ⟨_, rfl, _, rfl, rd, nt, t, bs, so, rfl, hso, D, fun z ws H1 hz hat D1 k1 => ?_, kE⟩
    refine ⟨_, rfl, z, rfl, hz.1.mono (by decide), fun H2 s2 => ?_⟩
    have k2 := KpT k1 (KpS s2)
    by_cases hs : sortM z = some so
    · rw [hs]
      refine ⟨_, rfl, rfl, false, ?_, iteF ?_⟩
      · show V.bl (!decide (V.str so.str = V.str so.str)) = V.bl false
        rw [decide_eq_true rfl]
        rfl
      · obtain ⟨_, rfl⟩ := hz
        exact ⟨_, rfl, k z H2 hs hat (D1.same s2) k2⟩
    · refine ⟨_, rfl, ?_, true, ?_, iteT (kE H2 k2)⟩
      · cases sortM z <;> rfl
      · show V.bl (!decide (_ = V.str so.str)) = V.bl true
        rw [decide_eq_false (fun e => hs (sortV e))]
        rfl
end
end CD
namespace CD
open PySem L2
open SL (Wd okMark isNum isName isItem isMark isList sortM lawS So lisOf FIG SMA NAM MAR madeM hd hasC made_mem iteTK iteFK decS)
open BT (numI bitsI eightM readM pad B01 Kp RdAt)
theorem RdAtU {C : Addr} {H : Hp} {rd nt pl : Addr} {t : Nat} {ns : List Int} {us : List V} {o : HO} (h : RdAt C H rd nt t ns) (hp : H pl = some (.lst us)) : RdAt C (L2.upd H pl o) rd nt t ns := by
  obtain ⟨dx, fs, h1, h2, h3⟩ := h
  exact ⟨dx, fs, by rw [upd_ne (fun z => by rw [z, hp] at h1; cases h1)]; exact h1, h2, by rw [upd_ne (fun z => by rw [z, hp] at h3; cases h3)]; exact h3⟩
def soI (x : Str) : So := if isNum x then .num else .nam
def bI (x : Str) : Int := if isNum x then 0 else 1
theorem encI_eq (x : Str) : encI x = bitsI (bI x) 1 ++ enc0 (soI x) x := by
  unfold encI bI soI
  cases isNum x <;> rfl
theorem soI_sort {x : Str} (h : isItem x = true) : sortM x = some (soI x) ∧ soI x ≠ .lis := by
  unfold soI
  rcases item_sort h with ⟨a, b⟩ | ⟨a, b⟩
  · rw [b]; exact ⟨a, by decide⟩
  · rw [b]; exact ⟨a, by decide⟩
theorem item_tx {x : Str} (h : isItem x = true) : x.length ≤ 12 := (SL.item_plain h).2.1
theorem sum_12 : ∀ {xs : List Str}, (∀ x ∈ xs, isItem x = true) → (xs.map (·.length)).sum ≤ 12 * xs.length
  | [], _ => Nat.le_refl _
  | x :: xs, h => by
    have ih := sum_12 (xs := xs) fun y hy => h y (List.mem_cons_of_mem _ hy)
    have hx := item_tx (h x List.mem_cons_self)
    rw [List.map_cons, List.sum_cons, List.length_cons]
    omega

theorem item_of {b : Nat} (hb : b < 2 ^ 1) : ∃ so : So, so ≠ .lis ∧ atI [V.str (Str.ofString "number"), .str (Str.ofString "name")] (b : Int) = some (.str so.str) ∧ ∀ x, sortM x = some so → isItem x = true ∧ encI x = bitsI (b : Int) 1 ++ enc0 so x := by
  have : b = 0 ∨ b = 1 := by
    have : (2 : Nat) ^ 1 = 2 := rfl
    omega
  rcases this with rfl | rfl
  · refine ⟨.num, by decide, rfl, fun x hx => ?_⟩
    have hn := sort_num hx
    refine ⟨by unfold isItem; rw [hn]; rfl, ?_⟩
    unfold encI
    rw [hn]
    rfl
  · refine ⟨.nam, by decide, rfl, fun x hx => ?_⟩
    have hn := sort_nam hx
    have hf : isNum x = false := by
      cases q : isNum x with
      | false => rfl
      | true =>
        have : sortM x = some .num := by unfold sortM; rw [q]; rfl
        rw [this] at hx
        cases hx
    refine ⟨by unfold isItem; rw [hn, Bool.or_true], ?_⟩
    unfold encI
    rw [hf]
    rfl
section
variable {P : Program} {w : World} {K : PySem.W.Frag} {mg : Str → Option Value} {base : Heap} {C CS fB aI : Addr} {dB : FuncData}
theorem scNi : FnScope ["reader", "pieces", "many", "place", "sort", "inner"] ["reader"] (defScope sNi) := ⟨rfl, rfl, rfl, by decide +kernel, rfl, by decide +kernel, by decide +kernel⟩
theorem ok_niT {f fW : Addr} {fd dW : FuncData} (F : Fun K "next_items" "next_items" sNi f fd) (T : Tc mg) (R : REX P w K mg base C CS fB dB) (gI : mg "ITEM_SORTS" = some (.ref aI)) (hI : ∀ H, SqT K H aI [.str (Str.ofString "number"), .str (Str.ofString "name")])
    (FW : Fun K "next_word" "next_word" sNw fW dW) (bW : Binds K dW ["reader", "sort"] []) (gW : mg "next_word" = some (.ref fW)) (GW : FnOk P w K mg base (CX1 P w) 6 fW dW ["reader", "sort"] (spNwT0 C CS)) : FnOk P w K mg base (CX1 P w) 7 f fd ["reader"] (spNiT C CS) := by
  refine F.okX scNi (fun vs H Q E h => ?_) (fun cdv A outer s H vs Q E hr h => ?_)
  · obtain ⟨rd, nt, t, bs, rfl, _⟩ := h
    rfl
  · obtain ⟨rd, nt, t, bs, rfl, D, k, kE⟩ := h
    have hr2 : Room 2 _ := hr.mono (by decide)
    have hlen := D.len
    have hl := D.l
    refine ⟨_, pss_cons (ps_set (i := 1) scNi.nd rfl (Or.inl rfl) (pe_lst pa_nil))
      (pss_cons (ps_set (i := 2) scNi.nd rfl (Or.inl rfl) (pe_meth (pv 0) R.Y.cls R.mB R.GB hr2 R.bB .nil pass1 (pa_cons pe_int pa_nil)))
      (pss_cons (ps_for PassesOwn.leaving rfl (pi_range1 rfl T.range (pa_cons (pv 2) pa_nil)) (pg_name (i := 3) scNi.nd rfl (Or.inl rfl))
        (pss_cons (ps_set (i := 4) scNi.nd rfl (Or.inl rfl) (pe_ix ix_tup (pe_glob (v := .ref aI) (by rfl) gI rfl) (pe_meth (pv 0) R.Y.cls R.mB R.GB hr2 R.bB .nil pass1 (pa_cons pe_int pa_nil)) (fun _ _ => rfl)))
        (pss_one (ps_expr (pe_bm PySem.F.plainAttrs_list PySem.F.slot_list_append PySem.F.type_list_append mt_append (pv 1) (pa_cons (pe_call GW hr rfl gW FW.kp bW .nil pass1 (pa_cons (pv 0) (pa_cons (pv 4) pa_nil))) pa_nil))))))
      (pss_cons (ps_set (i := 5) scNi.nd rfl (Or.inl rfl) (pe_bm PySem.F.plainAttrs_str PySem.F.slot_str_join PySem.F.type_str_join mt_join pe_str (pa_cons (pv 1) pa_nil)))
      (pss_one (ps_ret (pe_fstr (by decide +kernel) (pv 5))))))), ?_⟩
    refine ⟨Nat.zero_le _, fun pl hpl => ?_⟩
    have s0 := (Same.refl H).upd_free (o := .lst []) hpl
    have e0 : upd H pl (.lst []) pl = some (.lst []) := upd_same
    have hplH : H pl = none := hpl
    generalize upd H pl (.lst []) = H0 at s0 e0
    have D0 : RdrT C H0 rd nt t bs := D.same s0
    obtain ⟨dx, fs, hrd, Rf, _⟩ := id D0.r
    by_cases h3 : t + 3 ≤ bs.length
    case neg => exact ⟨_, rfl, rd, dx, fs, rfl, hrd, Rf.b, .inr ⟨rd, nt, t, 3, eightM bs, rfl, D0.r, by omega, kE H0 (KpS s0)⟩⟩
    obtain ⟨m, e3, m3, a3⟩ := read_bits D.o h3
    refine ⟨_, rfl, rd, dx, fs, rfl, hrd, Rf.b, .inl ⟨rd, nt, t, 3, eightM bs, rfl, D0.r, by omega, by decide, by omega, fun H1 R1 k1 => ?_⟩⟩
    rw [e3]
    have m8 : m < 8 := m3
    have hpr : pl ≠ rd := fun z => by rw [z, hrd] at e0; cases e0
    refine ⟨_, rfl, _, rfl, by omega, by omega, ?_⟩
    rw [Int.toNat_natCast]
    refine for_range (n := m) (fun i σ H2 => ∃ v3 v4 xs, σ = [some (.ref rd), some (.ref pl), some (.int (m : Int)), v3, v4, none] ∧ xs.length = i ∧ (∀ x ∈ xs, isItem x = true) ∧ At bs (t + 3) (xs.flatMap encI) ∧ RdAt C H2 rd nt (t + 3 + (xs.flatMap encI).length) (eightM bs) ∧ Kp H H2 rd ∧ H2 pl = some (.lst (xs.map V.str)))
      ⟨none, none, [], rfl, rfl, (fun c hc => by cases hc), ⟨by simpa using h3, by simp⟩, R1, KpT (KpS s0) k1, k1 _ _ e0 hpr⟩ ?_ ?_
    · rintro i σ H2 hi' ⟨v3, v4, xs, rfl, hxl, hxi, hat, R2, k2, hp2⟩
      obtain ⟨dx2, fs2, hrd2, Rf2, _⟩ := id R2
      by_cases h1 : t + 3 + (xs.flatMap encI).length + 1 ≤ bs.length
      case neg => exact ⟨_, rfl, rd, dx2, fs2, rfl, hrd2, Rf2.b, .inr ⟨rd, nt, _, 1, eightM bs, rfl, R2, by omega, kE H2 k2⟩⟩
      obtain ⟨b, e1, b1, a1⟩ := read_bits D.o h1
      refine ⟨_, rfl, rd, dx2, fs2, rfl, hrd2, Rf2.b, .inl ⟨rd, nt, _, 1, eightM bs, rfl, R2, by omega, by decide, by omega, fun H3 R3 k3 => ?_⟩⟩
      rw [e1]
      obtain ⟨so, so1, so2, so3⟩ := item_of b1
      refine ⟨aI, _, _, .str so.str, rfl, rfl, hI H3, so2, ?_⟩
      have hp3 := k3 _ _ hp2 hpr
      have k03 := KpT k2 k3
      refine ⟨_, rfl, .inl ⟨rfl, _, SqL.of hp3⟩, _, rfl, _, rfl, rd, nt, _, bs, so, rfl, so1, ⟨R3, D.o, D.l, D.m⟩, fun x H4 hx ax D4 k4 => ?_, fun H4 k4 => kE H4 (KpT k03 k4)⟩
      have hp4 := k4 _ _ hp3 hpr
      obtain ⟨it, ei⟩ := so3 x hx
      refine ⟨pl, _, _, rfl, rfl, hp4, small1000 (by rw [List.length_map]; omega), some (.int (0 + (i : Int))), some (.str so.str), xs ++ [x], rfl, by simp [hxl], ?_, ?_, ?_, ?_, ?_⟩
      · intro y hy
        rcases List.mem_append.mp hy with q | q
        · exact hxi y q
        · rw [List.mem_singleton.mp q]; exact it
      · rw [List.flatMap_append]
        refine at_app hat ?_
        rw [List.flatMap_cons, List.flatMap_nil, List.append_nil, ei]
        exact at_app a1 (by rw [BT.bits_len]; exact ax)
      · have e : t + 3 + ((xs ++ [x]).flatMap encI).length = t + 3 + (xs.flatMap encI).length + 1 + (enc0 so x).length := by
          rw [List.flatMap_append, List.length_append, List.flatMap_cons, List.flatMap_nil, List.append_nil, ei, List.length_append, BT.bits_len]
          omega
        rw [e]
        exact RdAtU D4.r hp4
      · intro b' o hb hne
        by_cases hbp : b' = pl
        · rw [hbp, hplH] at hb; cases hb
        · rw [upd_ne hbp]
          exact KpT k03 k4 b' o hb hne
      · rw [upd_same, List.map_append]
        rfl
    · rintro σ H2 ⟨v3, v4, xs, rfl, hxl, hxi, hat, R2, k2, hp2⟩
      have hsum := sum_12 hxi
      have ec : (Str.ofString ",").length = 1 := by decide +kernel
      have jl : (Str.join (Str.ofString ",") xs).length ≤ 200 := by
        have := SL.join_tn (Str.ofString ",") (n := 12) (m := 1) (SL.txK (by decide +kernel)) (ys := xs) fun y hy => (SL.item_mark (hxi y hy)).tn
        have := this.1
        omega
      refine ⟨rfl, _, rfl, _, pl, xs, rfl, rfl, SqL.of hp2, ?_, ?_⟩
      · show (xs.map (·.length)).sum + xs.length * (Str.ofString ",").length ≤ 16777216
        rw [ec]
        omega
      · refine ⟨_, rfl, _, rfl, ?_, ?_⟩
        · refine Nat.le_of_lt (small1000 ?_)
          have e2 : (Str.ofString "[").length = 1 := by decide +kernel
          have e3 : (Str.ofString "]").length = 1 := by decide +kernel
          rw [e2, e3]
          omega
        · have eL : encL xs = bitsI (m : Int) 3 ++ xs.flatMap encI := by unfold encL; rw [hxl]
          refine k (lisOf xs) (encL xs) H2 ⟨xs, by omega, hxi, rfl, rfl⟩ ?_ ⟨?_, D.o, D.l, D.m⟩ k2
          · rw [eL]
            exact at_app a3 (by rw [BT.bits_len]; exact hat)
          · rw [eL, List.length_append, BT.bits_len, ← Nat.add_assoc]
            exact R2
theorem ok_trT {f fN fS fI : Addr} {fd dN dS dI : FuncData} (F : Fun K "text_read" "text_read" sTr f fd) (gNa : ∃ u, mg "NAME_SIGNS" = some u ∧ RelV (.str NAM) u) (gMa : ∃ u, mg "MARK_SIGNS" = some u ∧ RelV (.str MAR) u)
    (FN : Fun K "next_number" "next_number" sNn fN dN) (bN : Binds K dN ["reader"] []) (gN : mg "next_number" = some (.ref fN)) (GN : FnOk P w K mg base (CX1 P w) 3 fN dN ["reader"] (spNnT C CS))
    (FS : Fun K "next_signs" "next_signs" sNs fS dS) (bS : Binds K dS ["reader", "signs", "wide"] []) (gS : mg "next_signs" = some (.ref fS)) (GS : FnOk P w K mg base (CX1 P w) 3 fS dS ["reader", "signs", "wide"] (spNsT C CS))
    (FI : Fun K "next_items" "next_items" sNi fI dI) (bI' : Binds K dI ["reader"] []) (gI' : mg "next_items" = some (.ref fI)) (GI : FnOk P w K mg base (CX1 P w) 7 fI dI ["reader"] (spNiT C CS)) : FnOk P w K mg base (CX1 P w) 8 f fd ["reader", "sort"] (spTrT C CS) := by
  obtain ⟨u1, m1, r1⟩ := gNa
  obtain ⟨u2, m2, r2⟩ := gMa
  refine F.okX scTr (fun vs H Q E h => ?_) (fun cdv A outer s H vs Q E hr h => ?_)
  · obtain ⟨rd, nt, t, bs, so, rfl, _⟩ := h
    rfl
  · obtain ⟨rd, nt, t, bs, so, rfl, D, k, kE⟩ := h
    have hr3 : Room 3 _ := hr.mono (by decide)
    refine ⟨_, pss_cons (ps_if (pt_cmpR op_eq (pv 1) pe_str (nomark _)) (pss_one (ps_ret (pe_call GN hr3 rfl gN FN.kp bN .nil pass1 (pa_cons (pv 0) pa_nil)))) pss_nil)
      (pss_cons (ps_if (pt_cmpR op_eq (pv 1) pe_str (nomark _)) (pss_one (ps_ret (pe_call GS hr3 rfl gS FS.kp bS .nil pass1 (pa_cons (pv 0) (pa_cons (pe_glob (v := .str NAM) (by rfl) m1 r1) (pa_cons pe_int pa_nil)))))) pss_nil)
      (pss_cons (ps_if (pt_cmpR op_eq (pv 1) pe_str (nomark _)) (pss_one (ps_ret (pe_call GS hr3 rfl gS FS.kp bS .nil pass1 (pa_cons (pv 0) (pa_cons (pe_glob (v := .str MAR) (by rfl) m2 r2) (pa_cons pe_int pa_nil)))))) pss_nil)
      (pss_one (ps_ret (pe_call GI hr rfl gI' FI.kp bI' .nil pass1 (pa_cons (pv 0) pa_nil)))))), ?_⟩
    cases so with
    | lis =>
      refine ⟨_, rfl, rfl, _, rfl, iteFK (by rw [decS]; exact decide_eq_false (by decide +kernel)) ?_⟩
      refine ⟨_, rfl, rfl, _, rfl, iteFK (by rw [decS]; exact decide_eq_false (by decide +kernel)) ?_⟩
      refine ⟨_, rfl, rfl, _, rfl, iteFK (by rw [decS]; exact decide_eq_false (by decide +kernel)) ?_⟩
      exact ⟨_, rfl, rd, nt, t, bs, rfl, D, fun z ws H' h1 hat D' kp => k z ws H' (.inr ⟨rfl, h1⟩) hat D' kp, kE⟩
    | num =>
      refine ⟨_, rfl, rfl, _, rfl, iteTK (by rw [decS]; exact decide_eq_true rfl) ?_⟩
      refine ⟨_, rfl, rd, nt, t, bs, rfl, D, fun n H' hn hat D' kp => ?_, kE⟩
      refine k _ _ H' (.inl ⟨by decide, (Tx.num (by omega) (by omega)).mono (by decide), ?_⟩) hat D' kp
      show encV n = encV (valN _)
      rw [val_num]
    | nam =>
      refine ⟨_, rfl, rfl, _, rfl, iteFK (by rw [decS]; exact decide_eq_false (by decide +kernel)) ?_⟩
      refine ⟨_, rfl, rfl, _, rfl, iteTK (by rw [decS]; exact decide_eq_true rfl) ?_⟩
      exact ⟨_, rfl, rd, nt, t, bs, NAM, 6, rfl, D, bk_nam, fun z H' h1 h2 hat D' kp => k z _ H' (.inl ⟨by decide, ⟨h1, h2⟩, rfl⟩) hat D' kp, kE⟩
    | mar =>
      refine ⟨_, rfl, rfl, _, rfl, iteFK (by rw [decS]; exact decide_eq_false (by decide +kernel)) ?_⟩
      refine ⟨_, rfl, rfl, _, rfl, iteFK (by rw [decS]; exact decide_eq_false (by decide +kernel)) ?_⟩
      refine ⟨_, rfl, rfl, _, rfl, iteTK (by rw [decS]; exact decide_eq_true rfl) ?_⟩
      exact ⟨_, rfl, rd, nt, t, bs, MAR, 7, rfl, D, bk_mar, fun z H' h1 h2 hat D' kp => k z _ H' (.inl ⟨by decide, ⟨h1, h2⟩, rfl⟩) hat D' kp, kE⟩
theorem ok_nwT {f fT fO : Addr} {fd dT dO : FuncData} (F : Fun K "next_word" "next_word" sNw f fd) (gSp : mg "Spoiled" = some (.ref CS)) (ex : PySem.W.excIn K CS BT.bmV "ValueError.__new__" = true)
    (FT : Fun K "text_read" "text_read" sTr fT dT) (bT : Binds K dT ["reader", "sort"] []) (gT : mg "text_read" = some (.ref fT)) (GT : FnOk P w K mg base (CX1 P w) 8 fT dT ["reader", "sort"] (spTrT C CS))
    (FO : Fun K "sort_of" "sort_of" SL.sSo fO dO) (bO : Binds K dO ["text"] []) (gO : mg "sort_of" = some (.ref fO)) (GO : FnOk P w K mg base CX0 5 fO dO ["text"] SL.spSo) : FnOk P w K mg base (CX1 P w) 9 f fd ["reader", "sort"] (spNwT C CS) := by
  refine F.okX scNw (fun vs H Q E h => ?_) (fun cdv A outer s H vs Q E hr h => ?_)
  · obtain ⟨rd, nt, t, bs, so, rfl, _⟩ := h
    rfl
  · obtain ⟨rd, nt, t, bs, so, rfl, D, k, kE⟩ := h
    have hr5 : Room 5 _ := hr.mono (by decide)
    refine ⟨_, pss_cons (ps_set (i := 2) scNw.nd rfl (Or.inl rfl) (pe_call GT hr rfl gT FT.kp bT .nil pass1 (pa_cons (pv 0) (pa_cons (pv 1) pa_nil))))
      (pss_cons (ps_if (pt_cmpR op_ne (pe_call GO hr5 rfl gO FO.kp bO .nil pass0 (pa_cons (pv 2) pa_nil)) (pv 1) (nomark _)) (pss_one (ps_raise0 (by rfl) gSp ex PySem.F.excBase_ValueError rfl throws_cx)) pss_nil)
      (pss_one (ps_ret (pv 2)))), ?_⟩
    refine ⟨_, rfl, _, rfl, rd, nt, t, bs, so, rfl, D, fun z ws H1 hz hat D1 k1 => ?_, kE⟩
    refine ⟨_, rfl, z, rfl, raw_tx hz, fun H2 s2 => ?_⟩
    have k2 := KpT k1 (KpS s2)
    by_cases hs : sortM z = some so
    · rw [hs]
      refine ⟨_, rfl, rfl, false, ?_, iteF ?_⟩
      · show V.bl (!decide (V.str so.str = V.str so.str)) = V.bl false
        rw [decide_eq_true rfl]
        rfl
      · exact ⟨_, rfl, k z ws H2 (raw_sort hz hs) hat (D1.same s2) k2⟩
    · refine ⟨_, rfl, ?_, true, ?_, iteT (kE H2 k2)⟩
      · cases sortM z <;> rfl
      · show V.bl (!decide (_ = V.str so.str)) = V.bl true
        rw [decide_eq_false (fun e => hs (sortV e))]
        rfl
end
end CD
namespace CD
open PySem L2
open SL (Wd okMark isNum isName isItem isMark isList sortM lawS So lisOf FIG SMA NAM MAR madeM hd hasC made_mem iteTK iteFK decS)
open BT (numI bitsI eightM readM pad B01 Kp RdAt)
def Sgs (S : Str) (w : Nat) (z : Str) : Prop := z.length ≤ 12 ∧ w ≤ 7 ∧ S.length ≤ 100 ∧ (∀ c ∈ z.cps.toList, c < 128) ∧ ∀ c ∈ z.cps.toList, idxC S c < S.length ∧ idxC S c < 2 ^ w ∧ atI S.cps.toList ((idxC S c : Nat) : Int) = some c ∧ Builtin.Str.occurrences S ⟨#[c]⟩ 0 S.length 1 = [idxC S c]
theorem sgs_nam {z : Str} (h : isName z = true) : Sgs NAM 6 z := by
  unfold isName at h
  rw [Bool.and_eq_true, Bool.and_eq_true] at h
  have hl := of_decide_eq_true h.1
  have hn : ∀ c ∈ NAM.cps.toList, c < 128 := by decide +kernel
  refine ⟨hl.2, by decide, by decide +kernel, fun c hc => hn c (made_mem h.2.2 c hc), fun c hc => ?_⟩
  obtain ⟨a, b, d⟩ := nam_idx c (made_mem h.2.2 c hc)
  rw [nam_len] at a
  exact ⟨by rw [nam_len]; exact b, by omega, d, by rw [nam_len]; exact a⟩
theorem sgs_mar {z : Str} (h : isMark z = true) : Sgs MAR 7 z := by
  unfold isMark at h
  rw [Bool.and_eq_true, Bool.and_eq_true] at h
  have hl := of_decide_eq_true h.1
  have hn : ∀ c ∈ MAR.cps.toList, c < 128 := by decide +kernel
  refine ⟨hl.2, by decide, by decide +kernel, fun c hc => hn c (made_mem h.2.1 c hc), fun c hc => ?_⟩
  obtain ⟨a, b, d⟩ := mar_idx c (made_mem h.2.1 c hc)
  rw [mar_len] at a
  exact ⟨by rw [mar_len]; exact b, by omega, d, by rw [mar_len]; exact a⟩
theorem Kp.trans {H H1 H2 : Hp} {p : Addr} (a : Kp H H1 p) (b : Kp H1 H2 p) : Kp H H2 p := fun x o e n => b x o (a x o e n) n
theorem Kp.same {H H1 : Hp} {p : Addr} (a : Same H H1) : Kp H H1 p := fun x o e _ => a x o e
theorem sort_tx {z : Str} {so : So} (h : sortM z = some so) (hl : so ≠ .lis) : Tx 1000 z := by
  cases so with
  | lis => exact absurd rfl hl
  | num =>
    obtain ⟨h1, _, h3, _⟩ := num_digits (sort_num h)
    exact ⟨by omega, fun c hc => by have := h1 c hc; omega⟩
  | nam =>
    have := sgs_nam (sort_nam h)
    exact ⟨by have := this.1; omega, this.2.2.2.1⟩
  | mar =>
    have := sgs_mar (sort_mar h)
    exact ⟨by have := this.1; omega, this.2.2.2.1⟩
theorem lis_tx {xs : List Str} (h4 : xs.length ≤ 4) (hi : ∀ x ∈ xs, isItem x = true) : Tx 1000 (lisOf xs) := by
  have := (Wd.lis xs h4 hi rfl : Wd (lisOf xs)).tn.tx
  exact ⟨Nat.le_trans this.1 (by decide), this.2⟩
theorem encW_sort {z : Str} {ws : List Int} {so : So} (h : encW z ws so) : sortM z = some so ∧ Tx 1000 z := by
  rcases h with ⟨hso, hz, _⟩ | ⟨rfl, hz, xs, h4, hi, rfl, _⟩
  · exact ⟨hz, sort_tx hz hso⟩
  · exact ⟨hz, lis_tx h4 hi⟩
def spMb : Sp := fun vs H Q _ => ∃ n : Nat, vs = [.int (n : Int)] ∧ Q (.int ((blN n : Nat) : Int)) H
def spPl : Sp := fun vs H Q _ => ∃ (c : Nat) (S : Str), vs = [.str ⟨#[c]⟩, .str S] ∧ S.length ≤ 100 ∧ c ∈ S.cps.toList ∧ Q (.int ((idxC S c : Nat) : Int)) H
theorem MAR_of : Txt.slice NAM none (some 26) ++ Str.ofString "ABCDEFGHIJKLMNOPQRSTUVWXYZ0123456789.:-_/=" = MAR := by decide +kernel
def spQs : Sp := fun vs H Q _ => ∃ (l : Addr) (bs : List Int) (z : Str) (g : Bool), vs = [.ref l, .str z, .bl g] ∧ H l = some (.lst (bs.map V.int)) ∧ bs.length ≤ 15000 ∧ (if g then isMark z = true else isName z = true) ∧
  ∀ H', H' l = some (.lst ((bs ++ (if g then encS MAR 7 z else encS NAM 6 z)).map V.int)) → Kp H H' l → Q (.ref l) H'
def spQn : Sp := fun vs H Q _ => ∃ (l : Addr) (bs : List Int) (z : Str), vs = [.ref l, .str z] ∧ H l = some (.lst (bs.map V.int)) ∧ bs.length ≤ 15000 ∧ isNum z = true ∧ ∀ H', H' l = some (.lst ((bs ++ encN z).map V.int)) → Kp H H' l → Q (.ref l) H'
theorem enc0_len {so : So} {z : Str} (h : sortM z = some so) (hl : so ≠ .lis) : (enc0 so z).length ≤ 100 := by
  cases so with
  | lis => exact absurd rfl hl
  | num =>
    have := bl_le (num_small (sort_num h))
    show (encV (valN z)).length ≤ 100
    rw [encV_len]
    omega
  | nam =>
    have := (sgs_nam (sort_nam h)).1
    show (encS NAM 6 z).length ≤ 100
    rw [encS_len]
    omega
  | mar =>
    have := (sgs_mar (sort_mar h)).1
    show (encS MAR 7 z).length ≤ 100
    rw [encS_len]
    omega
theorem encI_len {x : Str} (h : isItem x = true) : (encI x).length ≤ 101 := by
  obtain ⟨h1, h2⟩ := soI_sort h
  have := enc0_len h1 h2
  rw [encI_eq, List.length_append, BT.bits_len]
  omega
theorem flatI_len : ∀ {xs : List Str}, (∀ x ∈ xs, isItem x = true) → (xs.flatMap encI).length ≤ 101 * xs.length
  | [], _ => Nat.le_refl _
  | x :: xs, h => by
    have ih := flatI_len (xs := xs) fun y hy => h y (List.mem_cons_of_mem _ hy)
    have hx := encI_len (h x List.mem_cons_self)
    rw [List.flatMap_cons, List.length_append, List.length_cons]
    omega
theorem B01.flat {α : Type} {f : α → List Int} {l : List α} (h : ∀ x ∈ l, B01 (f x)) : B01 (l.flatMap f) := fun b hb => by
  obtain ⟨x, hx, hb⟩ := List.mem_flatMap.mp hb
  exact h x hx b hb
theorem encS_01 (S : Str) (w : Nat) (z : Str) : B01 (encS S w z) := (BT.bits_01 _ _).append (B01.flat fun _ _ => BT.bits_01 _ _)
theorem encV_01 (n : Nat) : B01 (encV n) := (BT.bits_01 _ _).append (BT.bits_01 _ _)
theorem enc0_01 (so : So) (z : Str) : B01 (enc0 so z) := by
  cases so with
  | lis => first | exact encS_01 _ _ _ | (intro b hb; cases hb)
  | num => exact encV_01 _
  | nam => exact encS_01 _ _ _
  | mar => exact encS_01 _ _ _
theorem encI_01 (x : Str) : B01 (encI x) := by
  rw [encI_eq]
  exact (BT.bits_01 _ _).append (enc0_01 _ _)
theorem encL_01 (xs : List Str) : B01 (encL xs) := (BT.bits_01 _ _).append (B01.flat fun _ _ => encI_01 _)
theorem encW_ok {z : Str} {ws : List Int} {so : So} (h : encW z ws so) : ws.length ≤ 407 ∧ B01 ws := by
  rcases h with ⟨h1, h2, rfl⟩ | ⟨rfl, _, xs, h4, hi, _, rfl⟩
  · have := enc0_len h2 h1
    exact ⟨by omega, enc0_01 _ _⟩
  · have := flatI_len hi
    refine ⟨?_, encL_01 xs⟩
    unfold encL
    rw [List.length_append, BT.bits_len]
    omega
theorem law_mar {z : Str} (h : okMark z) : lawS z ≠ .lis := by
  have h1 := made_mem h.2.2 _ (SL.hd_mem h.1)
  have h2 : ∀ c ∈ MAR.cps.toList, c ≠ 91 := by decide +kernel
  have h3 : (⟨#[hd z]⟩ : Str) ≠ Str.ofString "[" := fun e => by
    have : Str.ofString "[" = ⟨#[91]⟩ := by decide +kernel
    rw [this] at e
    exact h2 _ h1 (SL.one_inj e)
  unfold lawS
  rw [if_neg h3]
  split
  · nofun
  · split
    · nofun
    · nofun
theorem wd_enc {z : Str} (h : Wd z) : ∃ (ws : List Int) (so : So), sortM z = some so ∧ encW z ws so := by
  have hs := h.sort
  cases h with
  | mar h => exact ⟨_, _, hs, .inl ⟨law_mar h, hs, rfl⟩⟩
  | lis xs h hi e =>
    have : sortM z = some .lis := by
      rw [e, SL.sort_lis h hi]
      unfold lawS
      rw [SL.lis_hd]
      exact congrArg some (if_pos (by decide +kernel))
    exact ⟨_, _, this, .inr ⟨rfl, this, xs, h, hi, e, rfl⟩⟩
section
variable {P : Program} {w : World} {K : PySem.W.Frag} {mg : Str → Option Value} {base : Heap}
theorem scMb : FnScope ["_law_number", "_law_many"] ["_law_number"] (defScope sMb) := ⟨rfl, rfl, rfl, by decide +kernel, rfl, by decide +kernel, by decide +kernel⟩
theorem ok_mb {f : Addr} {fd : FuncData} (F : Fun K "_law_many_bits" "_law_many_bits" sMb f fd) : FnOk P w K mg base CX0 1 f fd ["_law_number"] spMb := by
  refine F.ok scMb (fun vs H Q E h => ?_) (fun cdv A outer s H vs Q E hr h => ?_)
  · obtain ⟨n, rfl, _⟩ := h
    rfl
  · obtain ⟨n, rfl, k⟩ := h
    refine ⟨_, pss_cons (ps_set (i := 1) scMb.nd rfl (Or.inl rfl) pe_int)
      (pss_cons (ps_while PassesOwn.never (pt_cmpR op_gt (pv 0) pe_int (nomark _))
        (pss_cons (ps_set (i := 0) scMb.nd rfl (Or.inl rfl) (pe_op op_fdiv (pv 0) pe_int)) (pss_one (ps_set (i := 1) scMb.nd rfl (Or.inl rfl) (pe_op op_add (pv 1) pe_int)))))
      (pss_one (ps_ret (pv 1)))), ?_⟩
    refine while_by (fun σ H' => H' = H ∧ ∃ (m j : Nat), σ = [some (.int (m : Int)), some (.int (j : Int))] ∧ j + blN m = blN n) (fun σ _ => match σ with | some (.int m) :: _ => m.toNat | _ => 0) ⟨rfl, n, 0, rfl, by omega⟩ ?_ ?_
    · rintro σ H' ⟨rfl, m, j, rfl, hj⟩
      refine ⟨_, rfl, _, _, rfl, rfl, _, rfl, ?_⟩
      by_cases hm : 0 < m
      · refine iteTK (decide_eq_true (by omega)) ?_
        have hh := bl_half hm
        refine ⟨_, rfl, _, _, rfl, rfl, ⟨by decide, by decide⟩, _, rfl, _, _, rfl, rfl, ⟨rfl, m / 2, j + 1, ?_, by omega⟩, ?_⟩
        · have e : ((m / 2 : Nat) : Int) = (m : Int) / 2 := by omega
          rw [e]
          rfl
        · show ((m : Int) / 2).toNat < ((m : Int)).toNat
          omega
      · refine iteFK (decide_eq_false (by omega)) ?_
        have : m = 0 := by omega
        subst this
        have e : blN 0 = 0 := rfl
        rw [e] at hj
        refine ⟨_, rfl, ?_⟩
        have : j = blN n := by omega
        rw [this]
        exact k
    · rintro σ H' Q1 Q2 hq ⟨v, hv, x, y, hx, hy, c, hc, q⟩
      exact ⟨v, hv, x, y, hx, hy, c, hc, hq _ _ q⟩
theorem scPl : FnScope ["_law_sign", "_law_signs_here", "_law_k"] ["_law_sign", "_law_signs_here"] (defScope sPl) := ⟨rfl, rfl, rfl, by decide +kernel, rfl, by decide +kernel, by decide +kernel⟩
theorem ok_pl {f : Addr} {fd : FuncData} (F : Fun K "_law_place" "_law_place" sPl f fd) (T : Tc mg) : FnOk P w K mg base CX0 1 f fd ["_law_sign", "_law_signs_here"] spPl := by
  refine F.ok scPl (fun vs H Q E h => ?_) (fun cdv A outer s H vs Q E hr h => ?_)
  · obtain ⟨c, S, rfl, _⟩ := h
    rfl
  · obtain ⟨c, S, rfl, h100, hc, k⟩ := h
    have hsm : S.length ≤ sizeLine := Nat.le_of_lt (small1000 (by omega))
    refine ⟨_, pss_cons (ps_for PassesOwn.never rfl (pi_range1 rfl T.range (pa_cons (pe_callB call_len_str (by rfl) T.len PySem.boot_len (pa_cons (pv 1) pa_nil)) pa_nil)) (pg_name (i := 2) scPl.nd rfl (Or.inl rfl))
        (pss_one (ps_if (pt_cmpR op_eq (pe_ix ix_str (pv 1) (pv 2) (fun _ _ => rfl)) (pv 0) (nomark _)) (pss_one (ps_ret (pv 2))) pss_nil)))
      pss_never, ?_⟩
    refine ⟨_, rfl, S, rfl, hsm, _, rfl, by omega, by omega, ?_⟩
    rw [Int.toNat_natCast]
    have hix : idxC S c < S.length := by
      unfold idxC
      rw [← SL.cps_len]
      exact List.idxOf_lt_length_of_mem hc
    refine for_range (n := S.length) (fun i σ H2 => H2 = H ∧ (∃ v, σ = [some (.str ⟨#[c]⟩), some (.str S), v]) ∧ i ≤ idxC S c) ⟨rfl, ⟨none, rfl⟩, Nat.zero_le _⟩ ?_ ?_
    · rintro i σ H2 hi ⟨rfl, ⟨v, rfl⟩, hle⟩
      have i0 : 0 + (i : Int) = (i : Int) := Int.zero_add _
      rw [i0]
      have hi' : i < S.cps.toList.length := by rw [SL.cps_len]; exact hi
      have hat : atI S.cps.toList ((i : Nat) : Int) = some S.cps.toList[i] := atI_nat (by simp)
      refine ⟨_, rfl, _, rfl, S, _, _, rfl, rfl, hsm, hat, _, rfl, rfl, _, rfl, ?_⟩
      by_cases he : S.cps.toList[i] = c
      · refine iteTK (by rw [decS]; exact decide_eq_true (by rw [he])) ⟨_, rfl, ?_⟩
        have : idxC S c = i := by
          refine Nat.le_antisymm ?_ hle
          unfold idxC
          refine Nat.le_of_not_lt fun z => ?_
          have := List.not_of_lt_findIdx (p := (· == c)) (xs := S.cps.toList) (i := i) z
          simp [he] at this
        rw [this] at k
        exact k
      · refine iteFK (by rw [decS]; exact decide_eq_false (fun z => he (SL.one_inj z))) ⟨rfl, ⟨_, rfl⟩, ?_⟩
        refine Nat.lt_of_le_of_ne hle fun z => he ?_
        have hx : idxC S c < S.cps.toList.length := by rw [SL.cps_len]; exact hix
        have h1 : S.cps.toList[idxC S c] = c := List.getElem_idxOf (by exact hx)
        have h2 : S.cps.toList[i]? = some c := by
          rw [z, List.getElem?_eq_getElem hx, h1]
        rw [List.getElem?_eq_getElem hi'] at h2
        exact Option.some.inj h2
    · rintro σ H2 ⟨rfl, ⟨v, rfl⟩, hle⟩
      omega
theorem idx_mem {S : Str} {c : Nat} (h : idxC S c < S.length) : c ∈ S.cps.toList := by
  unfold idxC at h
  rw [← SL.cps_len] at h
  exact List.idxOf_lt_length_iff.mp h
theorem scQs : FnScope ["_law_bits_here", "_law_word_here", "_law_great", "_law_signs_here", "_law_sign"] ["_law_bits_here", "_law_word_here", "_law_great"] (defScope sQs) := ⟨rfl, rfl, rfl, by decide +kernel, rfl, by decide +kernel, by decide +kernel⟩
theorem ok_qs {f fU fL : Addr} {fd dU dL : FuncData} (F : Fun K "_law_put_signs" "_law_put_signs" sQs f fd) (T : Tc mg)
    (FU : Fun K "_law_put" "_law_put" BT.sPu fU dU) (bU : Binds K dU ["_law_bits_here", "_law_number", "_law_wide"] []) (gU : mg "_law_put" = some (.ref fU)) (GU : FnOk P w K mg base CX0 1 fU dU ["_law_bits_here", "_law_number", "_law_wide"] BT.spPu)
    (FL : Fun K "_law_place" "_law_place" sPl fL dL) (bL : Binds K dL ["_law_sign", "_law_signs_here"] []) (gL : mg "_law_place" = some (.ref fL)) : FnOk P w K mg base CX0 2 f fd ["_law_bits_here", "_law_word_here", "_law_great"] spQs := by
  have GL : FnOk P w K mg base CX0 1 fL dL ["_law_sign", "_law_signs_here"] spPl := ok_pl FL T
  refine F.ok scQs (fun vs H Q E h => ?_) (fun cdv A outer s H vs Q E hr h => ?_)
  · obtain ⟨l, bs, z, g, rfl, _⟩ := h
    rfl
  · obtain ⟨l, bs, z, g, rfl, hl, hbs, hz, k⟩ := h
    refine ⟨_, pss_cons (ps_set (i := 3) scQs.nd rfl (Or.inl rfl) pe_str)
      (pss_cons (ps_cut (ps_if (pt_val (pv 2)) (pss_one (ps_set (i := 3) scQs.nd rfl (Or.inl rfl) (pe_op op_add_str (pe_slice sl_str (pv 3) po_none (po_some pe_int)) pe_str))) pss_nil))
      (pss_cons (ps_set (i := 0) scQs.nd rfl (Or.inl rfl) (pe_call GU hr rfl gU FU.kp bU .nil pass0 (pa_cons (pv 0) (pa_cons (pe_callB call_len_str (by rfl) T.len PySem.boot_len (pa_cons (pv 1) pa_nil)) (pa_cons pe_int pa_nil)))))
      (pss_cons (ps_for PassesOwn.never rfl (pi_str (pv 1)) (pg_name (i := 4) scQs.nd rfl (Or.inl rfl))
        (pss_one (ps_set (i := 0) scQs.nd rfl (Or.inl rfl) (pe_call GU hr rfl gU FU.kp bU .nil pass0 (pa_cons (pv 0) (pa_cons (pe_call GL hr rfl gL FL.kp bL .nil pass0 (pa_cons (pv 4) (pa_cons (pv 3) pa_nil))) (pa_cons (pe_op op_add pe_int (pe_callTy call_int1 (by rfl) T.int PyProof.Rows.boot_int (pa_cons (pv 2) pa_nil))) pa_nil)))))))
      (pss_one (ps_ret (pv 0)))))), ?_⟩
    obtain ⟨S, wi, eS, ew, hS, hk⟩ : ∃ (S : Str) (wi : Nat), S = (if g = true then MAR else NAM) ∧ (6 + (if g = true then 1 else 0) : Int) = (wi : Int) ∧ Sgs S wi z ∧ (if g = true then encS MAR 7 z else encS NAM 6 z) = encS S wi z := by
      cases g with
      | true => exact ⟨MAR, 7, rfl, rfl, sgs_mar hz, rfl⟩
      | false => exact ⟨NAM, 6, rfl, rfl, sgs_nam hz, rfl⟩
    rw [hk] at k
    refine ⟨fun σ' H' => σ' = [some (.ref l), some (.str z), some (.bl g), some (.str S), none] ∧ H = H', ?_, ?_⟩
    · cases g with
      | true =>
        have hN : NAM.length = 36 := nam_len
        refine ⟨_, rfl, _, rfl, iteT ⟨_, rfl, _, rfl, NAM, rfl, Nat.le_of_lt (small1000 (by omega)), _, _, rfl, rfl, Nat.le_of_lt (small1000 (by decide +kernel)), ?_⟩⟩
        rw [eS, MAR_of]
        exact ⟨rfl, rfl⟩
      | false =>
        refine ⟨_, rfl, _, rfl, iteF ⟨?_, rfl⟩⟩
        rw [eS]
        rfl
    rintro σ' H1 ⟨rfl, rfl⟩
    obtain ⟨z12, w7, S100, z128, hS⟩ := hS
    refine ⟨_, rfl, _, rfl, z, rfl, Nat.le_of_lt (small1000 (by omega)), l, bs, _, 4, rfl, hl, by decide, by omega, fun H1 k1 e1 => ?_⟩
    refine ⟨_, rfl, z, 12, rfl, ⟨z12, z128⟩, ?_⟩
    refine for_str (fun i σ H2 => (∃ v4, σ = [some (.ref l), some (.str z), some (.bl g), some (.str S), v4]) ∧ H2 l = some (.lst ((bs ++ bitsI ((z.length : Nat) : Int) 4 ++ (z.cps.toList.take i).flatMap (encC S wi)).map V.int)) ∧ Kp H H2 l)
      ⟨⟨none, rfl⟩, by rw [List.take_zero]; simpa using e1, k1⟩ ?_ ?_
    · rintro i c σ H2 hc ⟨⟨v4, rfl⟩, e2, k2⟩
      have hc' : z.cps.toList[i]? = some c := by rw [← hc]; simp
      obtain ⟨c1, c2, c3, c4⟩ := hS c (List.mem_of_getElem? hc')
      have hlen : ((z.cps.toList.take i).flatMap (encC S wi)).length ≤ 7 * 12 := by
        rw [flat_const (c := wi) _ fun c _ => encC_len S wi c]
        refine Nat.le_trans (Nat.mul_le_mul_right _ w7) (Nat.mul_le_mul_left _ ?_)
        rw [List.length_take, SL.cps_len]
        omega
      refine ⟨_, rfl, _, rfl, _, rfl, c, S, rfl, S100, idx_mem c1, _, rfl, .inr ⟨g, rfl, _, _, rfl, rfl, ?_⟩⟩
      refine ⟨l, _, _, wi, congrArg (fun n : Int => [V.ref l, .int ((idxC S c : Nat) : Int), .int n]) ew, e2, by omega, ?_, fun H3 k3 e3 => ?_⟩
      · rw [List.length_append, List.length_append, BT.bits_len]
        omega
      · refine ⟨⟨_, rfl⟩, ?_, CD.Kp.trans k2 k3⟩
        rw [List.take_add_one, hc', List.flatMap_append]
        show H3 l = some (.lst ((_ ++ (_ ++ (encC S wi c ++ []))).map V.int))
        rw [List.append_nil, ← List.append_assoc]
        exact e3
    · rintro σ H2 ⟨⟨v4, rfl⟩, e2, k2⟩
      rw [List.take_of_length_le (by rw [SL.cps_len]; exact Nat.le_refl _), List.append_assoc] at e2
      exact ⟨_, rfl, k H2 e2 k2⟩
theorem scQn : FnScope ["_law_bits_here", "_law_word_here", "_law_number", "_law_many"] ["_law_bits_here", "_law_word_here"] (defScope sQn) := ⟨rfl, rfl, rfl, by decide +kernel, rfl, by decide +kernel, by decide +kernel⟩
theorem ok_qn {f fU fM : Addr} {fd dU dM : FuncData} (F : Fun K "_law_put_number" "_law_put_number" sQn f fd) (T : Tc mg)
    (FU : Fun K "_law_put" "_law_put" BT.sPu fU dU) (bU : Binds K dU ["_law_bits_here", "_law_number", "_law_wide"] []) (gU : mg "_law_put" = some (.ref fU)) (GU : FnOk P w K mg base CX0 1 fU dU ["_law_bits_here", "_law_number", "_law_wide"] BT.spPu)
    (FM : Fun K "_law_many_bits" "_law_many_bits" sMb fM dM) (bM : Binds K dM ["_law_number"] []) (gM : mg "_law_many_bits" = some (.ref fM)) : FnOk P w K mg base CX0 2 f fd ["_law_bits_here", "_law_word_here"] spQn := by
  have GM : FnOk P w K mg base CX0 1 fM dM ["_law_number"] spMb := ok_mb FM
  refine F.ok scQn (fun vs H Q E h => ?_) (fun cdv A outer s H vs Q E hr h => ?_)
  · obtain ⟨l, bs, z, rfl, _⟩ := h
    rfl
  · obtain ⟨l, bs, z, rfl, hl, hbs, hn, k⟩ := h
    refine ⟨_, pss_cons (ps_set (i := 2) scQn.nd rfl (Or.inl rfl) (pe_callTy call_intT (by rfl) T.int PyProof.Rows.boot_int (pa_cons (pv 1) pa_nil)))
      (pss_cons (ps_set (i := 3) scQn.nd rfl (Or.inl rfl) (pe_call GM hr rfl gM FM.kp bM .nil pass0 (pa_cons (pv 2) pa_nil)))
      (pss_one (ps_ret (pe_call GU hr rfl gU FU.kp bU .nil pass0 (pa_cons (pe_call GU hr rfl gU FU.kp bU .nil pass0 (pa_cons (pv 0) (pa_cons (pv 3) (pa_cons pe_int pa_nil)))) (pa_cons (pv 2) (pa_cons (pv 3) pa_nil))))))), ?_⟩
    obtain ⟨_, _, hl9, _⟩ := num_digits hn
    have hbl := bl_le (num_small hn)
    refine ⟨_, rfl, z, _, rfl, num_int hn, by omega, _, rfl, valN z, rfl, ?_⟩
    refine ⟨_, rfl, _, rfl, l, bs, _, 5, rfl, hl, by decide, by omega, fun H1 k1 e1 => ?_⟩
    refine ⟨_, rfl, _, rfl, l, _, _, blN (valN z), rfl, e1, by omega, by rw [List.length_append, BT.bits_len]; omega, fun H2 k2 e2 => ?_⟩
    rw [List.append_assoc] at e2
    exact k H2 e2 (CD.Kp.trans k1 k2)
def spQw : Sp := fun vs H Q _ => ∃ (l : Addr) (bs ws : List Int) (so : So) (z : Str), vs = [.ref l, .str so.str, .str z] ∧ encW z ws so ∧ H l = some (.lst (bs.map V.int)) ∧ bs.length ≤ 14000 ∧ ∀ H', H' l = some (.lst ((bs ++ ws).map V.int)) → Kp H H' l → Q (.ref l) H'
def cutI (xs : List Str) : List Str := Txt.split (Txt.slice (lisOf xs) (some 1) (some (-1))) (Str.ofString ",")
theorem item_ne {y : Str} (h : isItem y = true) : y ≠ Str.ofString "" := fun e => by
  rw [e] at h
  revert h
  decide +kernel
theorem cut_items {xs : List Str} (h4 : xs.length ≤ 4) (hi : ∀ x ∈ xs, isItem x = true) : (cutI xs).length ≤ 4 ∧ (cutI xs).filter (fun y => !decide (y = Str.ofString "")) = xs := by
  by_cases hx : xs = []
  · subst hx
    decide +kernel
  · have e : cutI xs = xs := by
      unfold cutI
      rw [show Txt.slice (lisOf xs) (some 1) (some (-1)) = Str.join (Str.ofString ",") xs from SL.slice_mid _]
      exact SL.split_join hx hi
    rw [e]
    refine ⟨h4, List.filter_eq_self.mpr fun y hy => ?_⟩
    rw [decide_eq_false (item_ne (hi y hy))]
    rfl
theorem scQw : FnScope ["_law_bits_here", "_law_sort_here", "_law_word_here", "_law_items", "_law_item"] ["_law_bits_here", "_law_sort_here", "_law_word_here"] (defScope sQw) := ⟨rfl, rfl, rfl, by decide +kernel, rfl, by decide +kernel, by decide +kernel⟩
def scopeQw : Scope := { kind := .function, names := [(".0", .local), ("_law_item", .local)], isGenerator := false, isCoroutine := false, more := [] }
theorem scQwC : BlkScope (defScope sQw) ["_law_bits_here", "_law_sort_here", "_law_word_here", "_law_items", "_law_item"] ["_law_item"] [] [] scopeQw := ⟨rfl, by decide +kernel, by decide +kernel, by decide +kernel, rfl, by decide +kernel, by decide +kernel⟩
theorem ok_qw {f fU fN fS fI : Addr} {fd dU dN dS dI : FuncData} (F : Fun K "_law_put_word" "_law_put_word" sQw f fd) (T : Tc mg)
    (FU : Fun K "_law_put" "_law_put" BT.sPu fU dU) (bU : Binds K dU ["_law_bits_here", "_law_number", "_law_wide"] []) (gU : mg "_law_put" = some (.ref fU)) (GU : FnOk P w K mg base CX0 1 fU dU ["_law_bits_here", "_law_number", "_law_wide"] BT.spPu)
    (FN : Fun K "_law_put_number" "_law_put_number" sQn fN dN) (bN : Binds K dN ["_law_bits_here", "_law_word_here"] []) (gN : mg "_law_put_number" = some (.ref fN)) (GN : FnOk P w K mg base CX0 2 fN dN ["_law_bits_here", "_law_word_here"] spQn)
    (FS : Fun K "_law_put_signs" "_law_put_signs" sQs fS dS) (bS : Binds K dS ["_law_bits_here", "_law_word_here", "_law_great"] []) (gS : mg "_law_put_signs" = some (.ref fS)) (GS : FnOk P w K mg base CX0 2 fS dS ["_law_bits_here", "_law_word_here", "_law_great"] spQs)
    (FI : Fun K "_law_is_number" "_law_is_number" SL.sIn fI dI) (bI' : Binds K dI ["_law_text"] []) (gI : mg "_law_is_number" = some (.ref fI)) (GI : FnOk P w K mg base CX0 2 fI dI ["_law_text"] (SL.spBo isNum)) : FnOk P w K mg base CX0 3 f fd ["_law_bits_here", "_law_sort_here", "_law_word_here"] spQw := by
  refine F.ok scQw (fun vs H Q E h => ?_) (fun cdv A outer s H vs Q E hr h => ?_)
  · obtain ⟨l, bs, ws, so, z, rfl, _⟩ := h
    rfl
  · obtain ⟨l, bs, ws, so, z, rfl, hW, hl, hbs, k⟩ := h
    have hr1 : Room 1 _ := hr.mono (by decide)
    refine ⟨_, pss_cons (ps_if (pt_cmpR op_eq (pv 1) pe_str (nomark _)) (pss_one (ps_ret (pe_call GN hr rfl gN FN.kp bN .nil pass0 (pa_cons (pv 0) (pa_cons (pv 2) pa_nil))))) pss_nil)
      (pss_cons (ps_if (pt_cmpR op_ne (pv 1) pe_str (nomark _)) (pss_one (ps_ret (pe_call GS hr rfl gS FS.kp bS .nil pass0 (pa_cons (pv 0) (pa_cons (pv 2) (pa_cons (pe_cmpR op_eq (pv 1) pe_str (nomark _)) pa_nil)))))) pss_nil)
      (pss_cons (ps_setlc (i := 3) scQwC rfl rfl rfl (pi_list (pe_bm PySem.F.plainAttrs_str PySem.F.slot_str_split PySem.F.type_str_split mt_split (pe_slice sl_str (pv 2) (po_some pe_int) (po_some (pe_un un_neg pe_int))) (pa_cons pe_str pa_nil))) (fun fp C s1 H1 => pg_name (i := 0) scQwC.nd rfl (Or.inl rfl)) (fun fp C s1 H1 => pts_one (pt_cmpR op_ne (pv 0) pe_str (nomark _))) (fun fp C s1 H1 => pv 0) scQw.nd rfl rfl rfl)
      (pss_cons (ps_set (i := 0) scQw.nd rfl (Or.inl rfl) (pe_call GU hr1 rfl gU FU.kp bU .nil pass0 (pa_cons (pv 0) (pa_cons (pe_callB call_len_seq (by rfl) T.len PySem.boot_len (pa_cons (pv 3) pa_nil)) (pa_cons pe_int pa_nil)))))
      (pss_cons (ps_for PassesOwn.never rfl (pi_list (pv 3)) (pg_name (i := 4) scQw.nd rfl (Or.inl rfl))
        (pss_one (ps_if (pt_val (pe_call GI hr rfl gI FI.kp bI' .nil pass0 (pa_cons (pv 4) pa_nil)))
          (pss_one (ps_set (i := 0) scQw.nd rfl (Or.inl rfl) (pe_call GN hr rfl gN FN.kp bN .nil pass0 (pa_cons (pe_call GU hr1 rfl gU FU.kp bU .nil pass0 (pa_cons (pv 0) (pa_cons pe_int (pa_cons pe_int pa_nil)))) (pa_cons (pv 4) pa_nil)))))
          (pss_one (ps_set (i := 0) scQw.nd rfl (Or.inl rfl) (pe_call GS hr rfl gS FS.kp bS .nil pass0 (pa_cons (pe_call GU hr1 rfl gU FU.kp bU .nil pass0 (pa_cons (pv 0) (pa_cons pe_int (pa_cons pe_int pa_nil)))) (pa_cons (pv 4) (pa_cons pe_bl pa_nil)))))))))
      (pss_one (ps_ret (pv 0))))))), ?_⟩
    rcases hW with ⟨hso, hz, rfl⟩ | ⟨rfl, hz, xs, h4, hi, rfl, rfl⟩
    · cases so with
      | lis => exact absurd rfl hso
      | num =>
        refine ⟨_, rfl, rfl, _, rfl, iteTK (by rw [decS]; exact decide_eq_true rfl) ?_⟩
        exact ⟨_, rfl, _, rfl, l, bs, z, rfl, hl, by omega, sort_num hz, k⟩
      | nam =>
        refine ⟨_, rfl, rfl, _, rfl, iteFK (by rw [decS]; exact decide_eq_false (by decide +kernel)) ?_⟩
        refine ⟨_, rfl, rfl, _, rfl, iteTK (by rw [decS, decide_eq_false (by decide +kernel)]; rfl) ?_⟩
        exact ⟨_, rfl, _, rfl, _, rfl, rfl, l, bs, z, false, by rw [decS, decide_eq_false (by decide +kernel)]; rfl, hl, by omega, sort_nam hz, k⟩
      | mar =>
        refine ⟨_, rfl, rfl, _, rfl, iteFK (by rw [decS]; exact decide_eq_false (by decide +kernel)) ?_⟩
        refine ⟨_, rfl, rfl, _, rfl, iteTK (by rw [decS, decide_eq_false (by decide +kernel)]; rfl) ?_⟩
        exact ⟨_, rfl, _, rfl, _, rfl, rfl, l, bs, z, true, by rw [decS, decide_eq_true (by decide +kernel)]; rfl, hl, by omega, sort_mar hz, k⟩
    · refine ⟨_, rfl, rfl, _, rfl, iteFK (by rw [decS]; exact decide_eq_false (by decide +kernel)) ?_⟩
      refine ⟨_, rfl, rfl, _, rfl, iteFK (by rw [decS, decide_eq_true (by decide +kernel)]; rfl) ?_⟩
      obtain ⟨c4, cf⟩ := cut_items h4 hi
      have tz : Tx 1000 (lisOf xs) := lis_tx h4 hi
      have tz' : Tx 1000 (Txt.slice (lisOf xs) (some 1) (some (-1))) := tz.slice _ _
      have l1 := split_len (Txt.slice (lisOf xs) (some 1) (some (-1))) (Str.ofString ",")
      have l2 := parts_len (Txt.slice (lisOf xs) (some 1) (some (-1))) (Str.ofString ",")
      have l3 := tz'.1
      have big : 1002 ≤ sizeLine := by decide
      refine ⟨_, rfl, _, rfl, _, rfl, _, rfl, lisOf xs, rfl, SL.len_sm tz (by decide), rfl, _, _, rfl, rfl, rfl, SL.len_sm tz' (by decide), by omega, by omega, fun pl hpl => ?_⟩
      have s1 := (Same.refl H).upd_free (o := .lst ((cutI xs).map V.str)) hpl
      have g1 : upd H pl (.lst ((cutI xs).map V.str)) pl = some (.lst ((cutI xs).map V.str)) := upd_same
      show _
      refine ⟨pl, rfl, ⟨_, SqL.of g1⟩, fun D hD => ?_⟩
      have hDH : H D = none := s1.noneB hD
      have nD : D ≠ l := fun e => by rw [e, hl] at hDH; cases hDH
      have nDp : D ≠ pl := fun e => by
        rw [e] at hD
        have : upd H pl (.lst ((cutI xs).map V.str)) pl = none := hD
        rw [g1] at this
        cases this
      refine lc_list (K := K) (a := pl) (xs := (cutI xs).map V.str) (fun j ys H3 => Same H H3 ∧ H3 pl = some (.lst ((cutI xs).map V.str)) ∧ H3 D = some (.lst ys) ∧ ys = (((cutI xs).take j).filter fun y => !decide (y = Str.ofString "")).map V.str) (by rw [List.length_map]; omega) ⟨s1.trans ((Same.refl _).upd_free hD), by rw [upd_ne (Ne.symm nDp)]; exact g1, upd_same, by simp⟩ (fun j ys H3 h => ?_) (fun j ys H3 h => SqL.of h.2.1) ?_ ?_
      · rw [h.2.2.2, List.length_map]
        refine Nat.le_trans (List.length_filter_le _ _) ?_
        rw [List.length_take]
        exact Nat.min_le_left _ _
      · rintro j ys H3 x N M hx ⟨u1, u2, u3, rfl⟩ hN hM
        rw [List.getElem?_map] at hx
        cases ex : (cutI xs)[j]? with
        | none => rw [ex] at hx; cases hx
        | some y =>
          rw [ex] at hx
          cases hx
          refine ⟨_, rfl, rfl, !decide (y = Str.ofString ""), by rw [decS], ?_⟩
          by_cases hf : y = Str.ofString ""
          · rw [decide_eq_true hf]
            refine iteF (hM H3 ⟨u1, u2, u3, ?_⟩)
            rw [List.take_add_one, ex, List.filter_append, List.map_append]
            simp [hf]
          · rw [decide_eq_false hf]
            refine iteT ⟨_, rfl, hN _ H3 u3 ⟨u1.upd_free hDH, by rw [upd_ne (Ne.symm nDp)]; exact u2, upd_same, ?_⟩⟩
            rw [List.take_add_one, ex, List.filter_append, List.map_append]
            simp [hf]
      rintro ys H3 ⟨u1, u2, u3, rfl⟩
      rw [List.length_map, List.take_length, cf] at u3
      have hl3 := u1 _ _ hl
      refine ⟨_, rfl, _, rfl, D, _, rfl, .inl (SqL.of u3), l, bs, _, 3, rfl, hl3, by decide, by omega, fun H4 k4 e4 => ?_⟩
      rw [List.length_map] at e4
      have k04 : Kp H H4 l := CD.Kp.trans (CD.Kp.same u1) k4
      have d4 := k4 _ _ u3 nD
      refine ⟨_, rfl, D, rfl, ⟨_, SqL.of d4⟩, ?_⟩
      refine for_list (K := K) (a := D) (xs := xs.map V.str) (fun i σ H5 => (∃ v4, σ = [some (.ref l), some (.str So.lis.str), some (.str (lisOf xs)), some (.ref D), v4]) ∧ H5 l = some (.lst ((bs ++ bitsI ((xs.length : Nat) : Int) 3 ++ (xs.take i).flatMap encI).map V.int)) ∧ Kp H H5 l ∧ H5 D = some (.lst (xs.map V.str)))
        ⟨⟨none, rfl⟩, by rw [List.take_zero]; simpa using e4, k04, d4⟩ (fun i σ H5 _ h => SqL.of h.2.2.2) ?_ ?_
      · rintro i x σ H5 hx ⟨⟨v4, rfl⟩, e5, k5, d5⟩
        rw [List.getElem?_map] at hx
        cases ex : xs[i]? with
        | none => rw [ex] at hx; cases hx
        | some y =>
          rw [ex] at hx
          cases hx
          have hyi := hi y (List.mem_of_getElem? ex)
          obtain ⟨so1, so2⟩ := soI_sort hyi
          have hfl : ((xs.take i).flatMap encI).length ≤ 404 := by
            have := flatI_len (xs := xs.take i) fun z hz => hi z (List.mem_of_mem_take hz)
            rw [List.length_take] at this
            omega
          refine ⟨_, rfl, y, rfl, sort_tx so1 so2, fun H6 s6 => ⟨_, rfl, ?_⟩⟩
          have e6 := s6 _ _ e5
          have d6 := s6 _ _ d5
          cases hn : isNum y with
          | true =>
            refine iteT ⟨_, rfl, l, _, 0, 1, rfl, e6, by decide, by rw [List.length_append, List.length_append, BT.bits_len]; omega, fun H7 k7 e7 => ⟨_, rfl, l, _, y, rfl, e7, by rw [List.length_append, List.length_append, List.length_append, BT.bits_len, BT.bits_len]; omega, hn, fun H8 e8 k8 => ?_⟩⟩
            refine ⟨⟨_, rfl⟩, ?_, CD.Kp.trans k5 (CD.Kp.trans (CD.Kp.same s6) (CD.Kp.trans k7 k8)), k8 _ _ (k7 _ _ d6 nD) nD⟩
            rw [List.take_add_one, ex, List.flatMap_append]
            show H8 l = some (.lst ((_ ++ (_ ++ (encI y ++ []))).map V.int))
            rw [List.append_nil, show encI y = bitsI 0 1 ++ encN y by unfold encI; rw [hn]; rfl, ← List.append_assoc, ← List.append_assoc]
            exact e8
          | false =>
            have hna : isName y = true := by
              have : soI y = .nam := by unfold soI; rw [hn]; rfl
              rw [this] at so1
              exact sort_nam so1
            refine iteF ⟨_, rfl, l, _, 1, 1, rfl, e6, by decide, by rw [List.length_append, List.length_append, BT.bits_len]; omega, fun H7 k7 e7 => ⟨_, rfl, l, _, y, false, rfl, e7, by rw [List.length_append, List.length_append, List.length_append, BT.bits_len, BT.bits_len]; omega, hna, fun H8 e8 k8 => ?_⟩⟩
            refine ⟨⟨_, rfl⟩, ?_, CD.Kp.trans k5 (CD.Kp.trans (CD.Kp.same s6) (CD.Kp.trans k7 k8)), k8 _ _ (k7 _ _ d6 nD) nD⟩
            rw [List.take_add_one, ex, List.flatMap_append]
            show H8 l = some (.lst ((_ ++ (_ ++ (encI y ++ []))).map V.int))
            rw [List.append_nil, show encI y = bitsI 1 1 ++ encS NAM 6 y by unfold encI; rw [hn]; rfl, ← List.append_assoc, ← List.append_assoc]
            exact e8
      · rintro σ H5 ⟨⟨v4, rfl⟩, e5, k5, _⟩
        rw [List.length_map, List.take_of_length_le (Nat.le_refl _), List.append_assoc] at e5
        exact ⟨_, rfl, k H5 e5 k5⟩
end
end CD
namespace CD
open PySem L2
open SL (Wd okMark isNum isName isItem isMark isList sortM lawS So lisOf FIG SMA NAM MAR madeM hd hasC made_mem iteTK iteFK decS)
open BT (numI bitsI eightM readM pad B01 Kp RdAt padN cut8)
def spCe (K : PySem.W.Frag) : Sp := fun vs H Q _ => ∃ (a : Addr) (ns : List Int) (k : Int), vs = [.ref a, .int k] ∧ SqL K H a (ns.map V.int) ∧ ns.length ≤ 1000 ∧ 0 ≤ k ∧ ∀ (z : Int) (H' : Hp), Same H H' → Q (.int z) H'

def Oct (ns : List Int) : Prop := ns.length ≤ 60 ∧ ∀ n ∈ ns, 0 ≤ n ∧ n < 256
def spNm : Sp := fun vs H Q _ => ∃ (c : Addr) (c0 c1 c2 : Int) (z : Str), vs = [.ref c, .str z] ∧ H c = some (.lst [.int c0, .int c1, .int c2]) ∧ Wd z ∧ ∀ (p : Addr) (ns : List Int) (H' : Hp), Same H H' → H' p = some (.tup (ns.map V.int)) → Oct ns → Q (.ref p) H'
def octB (ns : List Int) : List Int := ns.flatMap fun n => bitsI n 8
def spBi : Sp := fun vs H Q _ => ∃ (p : Addr) (ns : List Int), vs = [.ref p] ∧ H p = some (.tup (ns.map V.int)) ∧ ns.length ≤ 60 ∧ ∀ (l : Addr) (H' : Hp), Same H H' → H l = none → H' l = some (.lst ((octB ns).map V.int)) → Q (.ref l) H'
theorem xor_oct : ∀ x : Nat, x < 256 → ∀ k : Nat, k < 8 → 0 ≤ Builtin.bitXor (x : Int) (1 * 2 ^ k) ∧ Builtin.bitXor (x : Int) (1 * 2 ^ k) < 256 := by decide +kernel
theorem xor_octI {x k : Int} (h0 : 0 ≤ x) (h1 : x < 256) (k0 : 0 ≤ k) (k8 : k < 8) : 0 ≤ Builtin.bitXor x (1 * 2 ^ k.toNat) ∧ Builtin.bitXor x (1 * 2 ^ k.toNat) < 256 := by
  have := xor_oct x.toNat (by omega) k.toNat (by omega)
  rw [Int.toNat_of_nonneg h0] at this
  exact this
theorem octB_len (ns : List Int) : (octB ns).length = 8 * ns.length := flat_const (c := 8) ns fun n _ => BT.bits_len n 8
theorem octB_01 (ns : List Int) : B01 (octB ns) := B01.flat fun _ _ => BT.bits_01 _ _
theorem oct_pad (ns : List Int) : pad (octB ns) = octB ns := by
  unfold pad padN
  rw [octB_len]
  have : (8 - 8 * ns.length % 8) % 8 = 0 := by omega
  rw [this]
  simp
theorem oct_cut : ∀ (ns : List Int) (j : Nat) (n : Int), ns[j]? = some n → cut8 (octB ns) j = bitsI n 8
  | [], _, _, h => by simp at h
  | a :: ns, 0, n, h => by
    cases h
    unfold cut8 octB
    rw [List.flatMap_cons, Nat.mul_zero, List.drop_zero, List.take_append_of_le_length (by rw [BT.bits_len]; exact Nat.le_refl _), List.take_of_length_le (by rw [BT.bits_len]; exact Nat.le_refl _)]
  | a :: ns, j + 1, n, h => by
    have ih := oct_cut ns j n (by simpa using h)
    unfold cut8 octB at *
    rw [List.flatMap_cons, show 8 * (j + 1) = (bitsI a 8).length + 8 * j by rw [BT.bits_len]; omega, List.drop_append, ← List.drop_drop]
    simpa using ih
theorem oct_eight {ns : List Int} (h : ∀ n ∈ ns, 0 ≤ n ∧ n < 256) : eightM (octB ns) = ns := by
  unfold eightM
  rw [oct_pad, octB_len, Nat.mul_div_cancel_left _ (by decide)]
  refine List.ext_getElem? fun j => ?_
  rw [List.getElem?_map]
  by_cases hj : j < ns.length
  · rw [List.getElem?_range hj]
    obtain ⟨n, hn⟩ : ∃ n, ns[j]? = some n := ⟨ns[j], by simp [hj]⟩
    show some (numI (cut8 (octB ns) j)) = _
    rw [oct_cut ns j n hn, hn]
    obtain ⟨a, b⟩ := h n (List.mem_of_getElem? hn)
    rw [num_bits 8 n a b]
  · have h1 : (List.range ns.length)[j]? = none := by simp; omega
    have h2 : ns[j]? = none := by simp; omega
    rw [h1, h2]
    rfl
theorem cut_ints (ns : List Int) (lo hi : Option Int) : ∃ ms : List Int, cutV (ns.map V.int) lo hi = ms.map V.int ∧ ms.length ≤ ns.length ∧ ∀ m ∈ ms, m ∈ ns := by
  unfold cutV
  rw [List.length_map]
  refine ⟨(ns.drop _).take _, by rw [List.map_take, List.map_drop], ?_, fun m hm => List.mem_of_mem_drop (List.mem_of_mem_take hm)⟩
  rw [List.length_take, List.length_drop]
  omega
theorem eight_oct {bs : List Int} (h01 : B01 bs) : ∀ n ∈ eightM bs, 0 ≤ n ∧ n < 256 := by
  intro n hn
  unfold eightM at hn
  obtain ⟨j, hj, rfl⟩ := List.mem_map.mp hn
  have hj' := List.mem_range.mp hj
  have hp := BT.pad_len bs
  have hP : B01 (pad bs) := fun b hb => by
    unfold pad at hb
    rcases List.mem_append.mp hb with q | q
    · exact h01 b q
    · exact .inl (List.eq_of_mem_replicate q)
  have hc : (cut8 (pad bs) j).length = 8 := by
    unfold cut8
    rw [List.length_take, List.length_drop]
    omega
  have := BT.num_range (bs := cut8 (pad bs) j) fun b hb => hP b (List.mem_of_mem_drop (List.mem_of_mem_take hb))
  rw [hc] at this
  exact this
theorem encW_pos {z : Str} {ws : List Int} {so : So} (h : encW z ws so) : 1 ≤ ws.length := by
  rcases h with ⟨h1, h2, rfl⟩ | ⟨rfl, _, xs, h4, hi, _, rfl⟩
  · cases so with
    | lis => exact absurd rfl h1
    | num => show 1 ≤ (encV _).length; rw [encV_len]; omega
    | nam => show 1 ≤ (encS _ _ _).length; rw [encS_len]; omega
    | mar => show 1 ≤ (encS _ _ _).length; rw [encS_len]; omega
  · unfold encL
    rw [List.length_append, BT.bits_len]
    omega
section
variable {P : Program} {w : World} {K : PySem.W.Frag} {mg : Str → Option Value} {base : Heap}
theorem scCe : FnScope ["_law_script", "_law_k"] ["_law_script", "_law_k"] (defScope sCe) := ⟨rfl, rfl, rfl, by decide +kernel, rfl, by decide +kernel, by decide +kernel⟩
theorem ok_ce {f : Addr} {fd : FuncData} (F : Fun K "_law_cell_at" "_law_cell_at" sCe f fd) (T : Tc mg) : FnOk P w K mg base CX0 1 f fd ["_law_script", "_law_k"] (spCe K) := by
  refine F.ok scCe (fun vs H Q E h => ?_) (fun cdv A outer s H vs Q E hr h => ?_)
  · obtain ⟨a, ns, k, rfl, _⟩ := h
    rfl
  · obtain ⟨a, ns, k, rfl, hS, hln, k0, kk⟩ := h
    refine ⟨_, pss_cons (ps_if (pt_cmpR op_lt (pv 1) (pe_callB call_len_seq (by rfl) T.len PySem.boot_len (pa_cons (pv 0) pa_nil)) (nomark _)) (pss_one (ps_ret (pe_ix ix_list (pv 0) (pv 1) (fun _ _ => rfl)))) pss_nil)
      (pss_one (ps_ret pe_int)), ?_⟩
    refine ⟨_, rfl, _, rfl, a, _, rfl, .inl hS, _, _, rfl, rfl, _, rfl, ?_⟩
    refine ite2 (fun hlt => ?_) (fun hge => ?_)
    · have hlt' : k < ((ns.map V.int).length : Int) := of_decide_eq_true hlt
      have hk : k.toNat < ns.length := by rw [List.length_map] at hlt'; omega
      have ex : ∃ z : Int, atI (ns.map V.int) k = some (V.int z) := by
        obtain ⟨n, rfl⟩ : ∃ n : Nat, k = (n : Int) := ⟨k.toNat, by omega⟩
        exact ⟨ns[n]'hk, atI_nat (by rw [List.getElem?_map, List.getElem?_eq_getElem (by exact hk)]; rfl)⟩
      obtain ⟨z, ex⟩ := ex
      exact ⟨_, rfl, _, rfl, a, _, _, _, rfl, rfl, hS, ex, kk _ H (Same.refl H)⟩
    · exact kk _ H (Same.refl H)
theorem scBi : FnScope ["_law_numbers_here", "_law_bits_here", "_law_number"] ["_law_numbers_here"] (defScope sBi) := ⟨rfl, rfl, rfl, by decide +kernel, rfl, by decide +kernel, by decide +kernel⟩
theorem ok_bi {f fU : Addr} {fd dU : FuncData} (F : Fun K "_law_bits" "_law_bits" sBi f fd)
    (FU : Fun K "_law_put" "_law_put" BT.sPu fU dU) (bU : Binds K dU ["_law_bits_here", "_law_number", "_law_wide"] []) (gU : mg "_law_put" = some (.ref fU)) (GU : FnOk P w K mg base CX0 1 fU dU ["_law_bits_here", "_law_number", "_law_wide"] BT.spPu) : FnOk P w K mg base CX0 2 f fd ["_law_numbers_here"] spBi := by
  refine F.ok scBi (fun vs H Q E h => ?_) (fun cdv A outer s H vs Q E hr h => ?_)
  · obtain ⟨p, ns, rfl, _⟩ := h
    rfl
  · obtain ⟨p, ns, rfl, hp, h60, k⟩ := h
    refine ⟨_, pss_cons (ps_set (i := 1) scBi.nd rfl (Or.inl rfl) (pe_lst pa_nil))
      (pss_cons (ps_for PassesOwn.never rfl (pi_tup (pv 0)) (pg_name (i := 2) scBi.nd rfl (Or.inl rfl)) (pss_one (ps_set (i := 1) scBi.nd rfl (Or.inl rfl) (pe_call GU hr rfl gU FU.kp bU .nil pass0 (pa_cons (pv 1) (pa_cons (pv 2) (pa_cons pe_int pa_nil)))))))
      (pss_one (ps_ret (pv 1)))), ?_⟩
    refine ⟨Nat.zero_le _, fun l hl => ?_⟩
    have s1 := (Same.refl H).upd_free (o := .lst []) hl
    have g1 : upd H l (.lst []) l = some (.lst []) := upd_same
    generalize upd H l (.lst []) = H1 at s1 g1
    refine ⟨_, rfl, p, rfl, ⟨_, SqT.of (s1 _ _ hp)⟩, ?_⟩
    refine for_tup (K := K) (a := p) (xs := ns.map V.int) (fun i σ H2 => (∃ v, σ = [some (.ref p), some (.ref l), v]) ∧ Same H H2 ∧ H2 l = some (.lst ((octB (ns.take i)).map V.int))) ⟨⟨none, rfl⟩, s1, by rw [List.take_zero]; exact g1⟩ (fun i σ H2 _ h => SqT.of (h.2.1 _ _ hp)) ?_ ?_
    · rintro i x σ H2 hx ⟨⟨v, rfl⟩, s2, l2⟩
      rw [List.getElem?_map] at hx
      cases ex : ns[i]? with
      | none => rw [ex] at hx; cases hx
      | some n =>
        rw [ex] at hx
        cases hx
        refine ⟨_, rfl, _, rfl, l, _, n, 8, rfl, l2, by decide, ?_, fun H3 k3 e3 => ⟨⟨_, rfl⟩, ?_, ?_⟩⟩
        · rw [octB_len, List.length_take]
          omega
        · intro b o hb
          exact k3 b o (s2 _ _ hb) (ne_of_none hb hl)
        · rw [List.take_add_one, ex]
          show H3 l = some (.lst ((octB (ns.take i ++ [n])).map V.int))
          unfold octB at *
          rw [List.flatMap_append, List.flatMap_cons, List.flatMap_nil, List.append_nil]
          exact e3
    · rintro σ H2 ⟨⟨v, rfl⟩, s2, l2⟩
      rw [List.length_map, List.take_of_length_le (Nat.le_refl _)] at l2
      exact ⟨_, rfl, k l H2 s2 hl l2⟩
theorem scNm : FnScope ["_law_cells", "_law_word_here", "_law_numbers_here", "_law_way", "_law_number", "_law_k", "_law_at"] ["_law_cells", "_law_word_here"] (defScope sNm) := ⟨rfl, rfl, rfl, by decide +kernel, rfl, by decide +kernel, by decide +kernel⟩
theorem ok_nm {f fE fQ fS : Addr} {fd dE dQ dS : FuncData} (F : Fun K "_law_numbers" "_law_numbers" sNm f fd) (T : BT.Txt mg)
    (FE : Fun K "_law_eighths" "_law_eighths" BT.sEi fE dE) (bE : Binds K dE ["_law_bits_here"] []) (gE : mg "_law_eighths" = some (.ref fE)) (GE : FnOk P w K mg base CX0 1 fE dE ["_law_bits_here"] BT.spEi)
    (FQ : Fun K "_law_put_word" "_law_put_word" sQw fQ dQ) (bQ : Binds K dQ ["_law_bits_here", "_law_sort_here", "_law_word_here"] []) (gQ : mg "_law_put_word" = some (.ref fQ)) (GQ : FnOk P w K mg base CX0 3 fQ dQ ["_law_bits_here", "_law_sort_here", "_law_word_here"] spQw)
    (FS : Fun K "_law_sort" "_law_sort" SL.sLs fS dS) (bS : Binds K dS ["_law_text"] []) (gS : mg "_law_sort" = some (.ref fS)) (GS : FnOk P w K mg base CX0 4 fS dS ["_law_text"] SL.spSo) : FnOk P w K mg base CX0 5 f fd ["_law_cells", "_law_word_here"] spNm := by
  refine F.ok scNm (fun vs H Q E h => ?_) (fun cdv A outer s H vs Q E hr h => ?_)
  · obtain ⟨c, c0, c1, c2, z, rfl, _⟩ := h
    rfl
  · obtain ⟨c, c0, c1, c2, z, rfl, hc, hz, k⟩ := h
    have hr1 : Room 1 _ := hr.mono (by decide)
    have hr3 : Room 3 _ := hr.mono (by decide)
    refine ⟨_, pss_cons (ps_set (i := 2) scNm.nd rfl (Or.inl rfl) (pe_callTy call_list_of (by rfl) T.list PyProof.Rows.boot_list (pa_cons (pe_call GE hr1 rfl gE FE.kp bE .nil pass0 (pa_cons (pe_call GQ hr3 rfl gQ FQ.kp bQ .nil pass0 (pa_cons (pe_lst pa_nil) (pa_cons (pe_call GS hr rfl gS FS.kp bS .nil pass0 (pa_cons (pv 1) pa_nil)) (pa_cons (pv 1) pa_nil)))) pa_nil)) pa_nil)))
      (pss_cons (ps_set (i := 3) scNm.nd rfl (Or.inl rfl) (pe_op op_mod (pe_ix ix_list (pv 0) pe_int (fun _ _ => rfl)) pe_int))
      (pss_cons (ps_cut (ps_if (pt_cmpR op_eq (pv 3) pe_int (nomark _))
        (pss_cons (ps_set (i := 4) scNm.nd rfl (Or.inl rfl) (pe_op op_fdiv (pe_ix ix_list (pv 0) pe_int (fun _ _ => rfl)) pe_int))
        (pss_cons (ps_set (i := 2) scNm.nd rfl (Or.inl rfl) (pe_lst pa_nil))
        (pss_one (ps_for PassesOwn.never rfl (pi_range1 rfl T.range (pa_cons (pe_op op_add pe_int (pe_op op_mod (pe_ix ix_list (pv 0) pe_int (fun _ _ => rfl)) pe_int)) pa_nil)) (pg_name (i := 5) scNm.nd rfl (Or.inl rfl))
          (pss_cons (ps_set (i := 4) scNm.nd rfl (Or.inl rfl) (pe_op op_mod (pe_op op_mul (pe_op op_add (pe_op op_mod (pv 4) pe_int) pe_int) pe_int) pe_int))
          (pss_one (ps_expr (pe_bm PySem.F.plainAttrs_list PySem.F.slot_list_append PySem.F.type_list_append mt_append (pv 2) (pa_cons (pe_op op_mod (pe_op op_fdiv (pv 4) pe_int) pe_int) pa_nil)))))))))
        pss_nil))
      (pss_cons (ps_cut (ps_if (pt_cmpR op_lt (pv 3) pe_int (nomark _))
        (pss_cons (ps_cut (ps_set (i := 6) scNm.nd rfl (Or.inl rfl) (pe_op op_mod (pe_op op_fdiv (pe_ix ix_list (pv 0) pe_int (fun _ _ => rfl)) pe_int) (pe_op op_mul pe_int (pe_callB call_len_seq (by rfl) T.len PySem.boot_len (pa_cons (pv 2) pa_nil))))))
        (pss_one (ps_asg (pe_op op_xor (pe_ix ix_list (pv 2) (pe_op op_fdiv (pv 6) pe_int) (fun _ _ => rfl)) (pe_op op_shl pe_int (pe_op op_mod (pv 6) pe_int))) (pg_sub (pv 2) (pe_op op_fdiv (pv 6) pe_int) set_list))))
        pss_nil))
      (pss_cons (ps_cut (ps_if (pt_cmpR op_eq (pv 3) pe_int (nomark _))
        (pss_cons (ps_cut (ps_set (i := 6) scNm.nd rfl (Or.inl rfl) (pe_op op_mod (pe_op op_fdiv (pe_ix ix_list (pv 0) pe_int (fun _ _ => rfl)) pe_int) (pe_op op_mul pe_int (pe_callB call_len_seq (by rfl) T.len PySem.boot_len (pa_cons (pv 2) pa_nil))))))
        (pss_one (ps_asg (pe_op op_xor (pe_ix ix_list (pv 2) (pe_op op_fdiv (pv 6) pe_int) (fun _ _ => rfl)) (pe_op op_shl pe_int (pe_op op_mod (pv 6) pe_int))) (pg_sub (pv 2) (pe_op op_fdiv (pv 6) pe_int) set_list))))
        pss_nil))
      (pss_cons (ps_cut (ps_if (pt_cmpR op_eq (pv 3) pe_int (nomark _)) (pss_one (ps_set (i := 2) scNm.nd rfl (Or.inl rfl) (pe_slice sl_list (pv 2) po_none (po_some (pe_un un_neg pe_int))))) pss_nil))
      (pss_one (ps_ret (pe_callTy call_tuple_of (by rfl) T.tuple PyProof.Rows.boot_tuple (pa_cons (pv 2) pa_nil))))))))), ?_⟩
    obtain ⟨ws, so, hso, hE⟩ := wd_enc hz
    have hok := encW_ok hE
    have hpos := encW_pos hE
    have step : ∀ (σ : St) (H' : Hp) (D : Int) (l : Addr) (ns : List Int) (v4 v5 v6 : Option V), True := fun _ _ _ _ _ _ _ _ => trivial
    refine ⟨(by show 0 ≤ sizeLine; decide), fun lb hlb => ?_⟩
    have s1 := (Same.refl H).upd_free (o := .lst []) hlb
    have g1 : upd H lb (.lst []) lb = some (.lst []) := upd_same
    generalize upd H lb (.lst []) = H1 at s1 g1
    refine ⟨_, rfl, z, rfl, hz.tn.tx.mono (by decide), fun H2 s2 => ?_⟩
    rw [hso]
    refine ⟨_, rfl, lb, [], ws, so, z, rfl, hE, s2 _ _ g1, by decide, fun H3 e3 k3 => ?_⟩
    rw [List.nil_append] at e3
    have s3 : Same H H3 := fun b o hb => k3 b o ((s1.trans s2) _ _ hb) (ne_of_none hb hlb)
    refine ⟨lb, ws, rfl, e3, by omega, fun p H4 s4 hp4 => ?_⟩
    refine ⟨p, _, rfl, .inr (SqT.of hp4), fun l hl => ?_⟩
    have t4 := s3.trans s4
    have hlH : H l = none := t4.noneB hl
    have s5 := t4.trans ((Same.refl H4).upd_free (o := .lst ((eightM ws).map V.int)) hl)
    have g5 : upd H4 l (.lst ((eightM ws).map V.int)) l = some (.lst ((eightM ws).map V.int)) := upd_same
    generalize upd H4 l (.lst ((eightM ws).map V.int)) = H5 at s5 g5
    have hel := BT.eight_len ws
    have hpl := BT.pad_len ws
    have o5 : Oct (eightM ws) := ⟨by omega, eight_oct hok.2⟩
    have l5 : 1 ≤ (eightM ws).length := by omega
    generalize eightM ws = n5 at g5 o5 l5
    clear hel hpl s4 hp4 e3 k3 s3 t4 g1 s1 s2 hl
    have cat : ∀ {H' : Hp}, Same H H' → SqL K H' c [V.int c0, .int c1, .int c2] := fun s => SqL.of (s _ _ hc)
    refine ⟨_, rfl, c, _, _, _, rfl, rfl, cat s5, atI_nat (j := 1) rfl, _, _, rfl, rfl, (by show (0 : Int) < 4; decide), ?_⟩
    refine ⟨fun σ' H' => ∃ (l : Addr) (ns : List Int) (v4 v5 v6 : Option V), σ' = [some (.ref c), some (.str z), some (.ref l), some (.int (c1 % 4)), v4, v5, v6] ∧ Same H H' ∧ H l = none ∧ H' l = some (.lst (ns.map V.int)) ∧ 1 ≤ ns.length ∧ Oct ns, ?_, ?_⟩
    · refine ⟨_, rfl, rfl, _, rfl, ?_⟩
      refine SL.ifb ?_ ?_
      · refine ⟨_, rfl, c, _, _, _, rfl, rfl, cat s5, atI_nat (j := 1) rfl, _, _, rfl, rfl, ⟨by decide, by decide⟩, ?_⟩
        refine ⟨(by show 0 ≤ sizeLine; decide), fun m hm => ?_⟩
        have hmH : H m = none := s5.noneB hm
        refine ⟨_, rfl, c, _, _, _, rfl, rfl, cat (s5.trans ((Same.refl H5).upd_free hm)), atI_nat (j := 2) rfl, _, _, rfl, rfl, (by show (0 : Int) < 14; decide), _, _, rfl, rfl, ?_⟩
        obtain ⟨q, hq, q1, q14⟩ : ∃ q : Nat, 1 + c2 % 14 = (q : Int) ∧ 1 ≤ q ∧ q ≤ 14 := ⟨(1 + c2 % 14).toNat, by omega, by omega, by omega⟩
        refine ⟨(q : Int), congrArg (fun n : Int => [V.int n]) hq, by omega, by omega, ?_⟩
        rw [Int.toNat_natCast]
        refine for_range (n := q) (fun i σ H2 => ∃ (ns : List Int) (v4 : Int) (v5 : Option V), σ = [some (.ref c), some (.str z), some (.ref m), some (.int (c1 % 4)), some (.int v4), v5, none] ∧ Same H H2 ∧ H2 m = some (.lst (ns.map V.int)) ∧ ns.length = i ∧ ∀ n ∈ ns, 0 ≤ n ∧ n < 256)
          ⟨[], _, none, rfl, s5.trans ((Same.refl H5).upd_free hm), upd_same, rfl, fun n hn => by cases hn⟩ ?_ ?_
        · rintro i σ H2 hi ⟨ns, v4, v5, rfl, s2, m2, hln, hn⟩
          refine ⟨_, rfl, _, _, rfl, rfl, (by show (0 : Int) < 2147483647; decide), _, _, rfl, rfl, _, _, rfl, rfl, .inr ⟨by decide, by decide⟩, _, _, rfl, rfl, (by show (0 : Int) < 2147483629; decide), ?_⟩
          refine ⟨_, rfl, .inl ⟨rfl, _, SqL.of m2⟩, _, rfl, _, _, rfl, rfl, ⟨by decide, by decide⟩, _, _, rfl, rfl, (by show (0 : Int) < 256; decide), m, _, _, rfl, rfl, m2, small1000 (by rw [List.length_map]; omega), ?_⟩
          refine ⟨ns ++ [_], _, _, rfl, s2.upd_free hmH, by rw [upd_same, List.map_append]; rfl, by rw [List.length_append, List.length_singleton, hln], fun n hn' => ?_⟩
          rcases List.mem_append.mp hn' with r | r
          · exact hn n r
          · rw [List.mem_singleton.mp r]
            omega
        · rintro σ H2 ⟨ns, v4, v5, rfl, s2, m2, hln, hn⟩
          exact ⟨m, ns, _, _, _, rfl, s2, hmH, m2, by omega, by omega, hn⟩
      · exact ⟨l, n5, _, _, _, rfl, s5, hlH, g5, l5, o5⟩
    rintro σ H6 ⟨l, ns, v4, v5, v6, rfl, s6, hl, g6, l6, o6⟩
    refine ⟨fun σ' H' => ∃ (l : Addr) (ns : List Int) (v4 v5 v6 : Option V), σ' = [some (.ref c), some (.str z), some (.ref l), some (.int (c1 % 4)), v4, v5, v6] ∧ Same H H' ∧ H l = none ∧ H' l = some (.lst (ns.map V.int)) ∧ 1 ≤ ns.length ∧ Oct ns, ?_, ?_⟩
    · refine ⟨_, rfl, _, _, rfl, rfl, _, rfl, ?_⟩
      refine SL.ifb ?_ ?_
      · have hm8 : (0 : Int) < 8 * (((ns.map V.int).length : Nat) : Int) := by rw [List.length_map]; omega
        refine ⟨fun σ' H' => ∃ t : Int, σ' = [some (.ref c), some (.str z), some (.ref l), some (.int (c1 % 4)), v4, v5, some (.int t)] ∧ H6 = H' ∧ 0 ≤ t ∧ t < 8 * ((ns.length : Nat) : Int), ?_, ?_⟩
        · refine ⟨_, rfl, c, _, _, _, rfl, rfl, cat s6, atI_nat (j := 1) rfl, _, _, rfl, rfl, ⟨by decide, by decide⟩, _, rfl, l, _, rfl, .inl (SqL.of g6), _, _, rfl, rfl, .inl ⟨by decide, by decide⟩, _, _, rfl, rfl, hm8, _, rfl, rfl, Int.emod_nonneg _ (by omega), ?_⟩
          have := Int.emod_lt_of_pos (c1 / 4) hm8
          rw [List.length_map] at this ⊢
          exact this
        rintro σ H7 ⟨t, rfl, rfl, t0, t1⟩
        obtain ⟨j, hj, hjl⟩ : ∃ j : Nat, t / 8 = (j : Int) ∧ j < ns.length := ⟨(t / 8).toNat, by omega, by omega⟩
        have hjv : ns[j]? = some ns[j] := by simp
        have hx := o6.2 _ (List.mem_of_getElem? hjv)
        have hxr := xor_octI (k := t % 8) hx.1 hx.2 (by omega) (by omega)
        have hat : atI (ns.map V.int) (t / 8) = some (.int ns[j]) := by rw [hj]; exact atI_nat (by rw [List.getElem?_map, hjv]; rfl)
        have hixn : ixN (ns.map V.int).length (t / 8) = some j := by
          unfold ixN
          rw [if_pos (by omega), if_pos (by rw [List.length_map]; omega), hj]
          rfl
        have cp : CPow 1 (t % 8) := ⟨by omega, by omega, by decide⟩
        refine ⟨_, rfl, _, rfl, _, _, rfl, rfl, ⟨by decide, by decide⟩, l, _, _, _, rfl, rfl, SqL.of g6, hat, _, rfl, _, _, rfl, rfl, (by show (0 : Int) < 8; decide), _, _, rfl, rfl, cp, _, _, rfl, rfl, ?_⟩
        refine ⟨_, rfl, _, rfl, _, _, rfl, rfl, ⟨by decide, by decide⟩, l, _, _, j, rfl, rfl, g6, hixn, ?_⟩
        refine ⟨l, ns.set j _, _, _, _, rfl, s6.upd_free hl, hl, by rw [upd_same, List.map_set], by rw [List.length_set]; exact l6, by rw [List.length_set]; exact o6.1, fun n hn => ?_⟩
        rcases List.mem_or_eq_of_mem_set hn with r | r
        · exact o6.2 n r
        · rw [r]; exact hxr
      · exact ⟨l, ns, _, _, _, rfl, s6, hl, g6, l6, o6⟩
    rintro σ H6 ⟨l, ns, v4, v5, v6, rfl, s6, hl, g6, l6, o6⟩
    refine ⟨fun σ' H' => ∃ (l : Addr) (ns : List Int) (v4 v5 v6 : Option V), σ' = [some (.ref c), some (.str z), some (.ref l), some (.int (c1 % 4)), v4, v5, v6] ∧ Same H H' ∧ H l = none ∧ H' l = some (.lst (ns.map V.int)) ∧ 1 ≤ ns.length ∧ Oct ns, ?_, ?_⟩
    · refine ⟨_, rfl, rfl, _, rfl, ?_⟩
      refine SL.ifb ?_ ?_
      · have hm8 : (0 : Int) < 8 * (((ns.map V.int).length : Nat) : Int) := by rw [List.length_map]; omega
        refine ⟨fun σ' H' => ∃ t : Int, σ' = [some (.ref c), some (.str z), some (.ref l), some (.int (c1 % 4)), v4, v5, some (.int t)] ∧ H6 = H' ∧ 0 ≤ t ∧ t < 8 * ((ns.length : Nat) : Int), ?_, ?_⟩
        · refine ⟨_, rfl, c, _, _, _, rfl, rfl, cat s6, atI_nat (j := 2) rfl, _, _, rfl, rfl, ⟨by decide, by decide⟩, _, rfl, l, _, rfl, .inl (SqL.of g6), _, _, rfl, rfl, .inl ⟨by decide, by decide⟩, _, _, rfl, rfl, hm8, _, rfl, rfl, Int.emod_nonneg _ (by omega), ?_⟩
          have := Int.emod_lt_of_pos (c2 / 14) hm8
          rw [List.length_map] at this ⊢
          exact this
        rintro σ H7 ⟨t, rfl, rfl, t0, t1⟩
        obtain ⟨j, hj, hjl⟩ : ∃ j : Nat, t / 8 = (j : Int) ∧ j < ns.length := ⟨(t / 8).toNat, by omega, by omega⟩
        have hjv : ns[j]? = some ns[j] := by simp
        have hx := o6.2 _ (List.mem_of_getElem? hjv)
        have hxr := xor_octI (k := t % 8) hx.1 hx.2 (by omega) (by omega)
        have hat : atI (ns.map V.int) (t / 8) = some (.int ns[j]) := by rw [hj]; exact atI_nat (by rw [List.getElem?_map, hjv]; rfl)
        have hixn : ixN (ns.map V.int).length (t / 8) = some j := by
          unfold ixN
          rw [if_pos (by omega), if_pos (by rw [List.length_map]; omega), hj]
          rfl
        have cp : CPow 1 (t % 8) := ⟨by omega, by omega, by decide⟩
        refine ⟨_, rfl, _, rfl, _, _, rfl, rfl, ⟨by decide, by decide⟩, l, _, _, _, rfl, rfl, SqL.of g6, hat, _, rfl, _, _, rfl, rfl, (by show (0 : Int) < 8; decide), _, _, rfl, rfl, cp, _, _, rfl, rfl, ?_⟩
        refine ⟨_, rfl, _, rfl, _, _, rfl, rfl, ⟨by decide, by decide⟩, l, _, _, j, rfl, rfl, g6, hixn, ?_⟩
        refine ⟨l, ns.set j _, _, _, _, rfl, s6.upd_free hl, hl, by rw [upd_same, List.map_set], by rw [List.length_set]; exact l6, by rw [List.length_set]; exact o6.1, fun n hn => ?_⟩
        rcases List.mem_or_eq_of_mem_set hn with r | r
        · exact o6.2 n r
        · rw [r]; exact hxr
      · exact ⟨l, ns, _, _, _, rfl, s6, hl, g6, l6, o6⟩
    rintro σ H6 ⟨l, ns, v4, v5, v6, rfl, s6, hl, g6, l6, o6⟩
    refine ⟨fun σ' H' => ∃ (l : Addr) (ns : List Int) (v4 v5 v6 : Option V), σ' = [some (.ref c), some (.str z), some (.ref l), some (.int (c1 % 4)), v4, v5, v6] ∧ Same H H' ∧ H l = none ∧ H' l = some (.lst (ns.map V.int)) ∧ 0 ≤ ns.length ∧ Oct ns, ?_, ?_⟩
    · refine ⟨_, rfl, rfl, _, rfl, ?_⟩
      refine SL.ifb ?_ ?_
      · refine ⟨_, rfl, _, rfl, _, rfl, l, _, rfl, SqL.of g6, fun q hq => ?_⟩
        obtain ⟨ms, e, hle, hin⟩ := cut_ints ns none (some (-1))
        have hq' : H q = none := s6.noneB hq
        refine ⟨q, ms, _, _, _, rfl, s6.trans ((Same.refl H6).upd_free hq), hq', ?_, Nat.zero_le _, Nat.le_trans hle o6.1, fun n hn => o6.2 n (hin n hn)⟩
        rw [upd_same]
        exact congrArg (fun x => some (HO.lst x)) e
      · exact ⟨l, ns, _, _, _, rfl, s6, hl, g6, Nat.zero_le _, o6⟩
    rintro σ H6 ⟨l, ns, v4, v5, v6, rfl, s6, hl, g6, l6, o6⟩
    exact ⟨_, rfl, l, _, rfl, .inl ⟨SqL.of g6, fun p hp => k p ns _ (s6.trans ((Same.refl H6).upd_free hp)) upd_same o6⟩⟩
end
end CD
namespace CD
open PySem L2
open SL (Wd okMark isNum isName isItem isMark isList sortM lawS So lisOf FIG SMA NAM MAR madeM hd hasC made_mem iteTK iteFK decS)
open BT (numI bitsI eightM readM pad B01 Kp RdAt padN cut8)
def spLaw (K : PySem.W.Frag) : Sp := fun vs H Q _ => ∃ (a : Addr) (ns : List Int), vs = [.ref a] ∧ SqL K H a (ns.map V.int) ∧ ns.length ≤ 63 ∧ ∀ H', Q (.bl true) H'
theorem ints_okL (ns : List Int) : DOk (.list (ns.map PyData.int)) := ⟨BT.ints_lay ns, by rw [PyData.depth, BT.ints_depth]; decide⟩
theorem ints_eqL (ns : List Int) : PyData.eqv (.list (ns.map PyData.int)) (.list (ns.map PyData.int)) = true := SeqAt.eqv_refl _ (ints_okL ns).1
theorem cut_toI (xs : List Int) (j : Nat) : cutV (xs.map V.int) none (some (j : Int)) = (xs.take j).map V.int := by
  unfold cutV
  rw [HT.sIx_nat, HT.sIx_none, List.length_map, List.drop_zero, Nat.sub_zero, List.map_take]
  by_cases h : j ≤ xs.length
  · rw [Nat.min_eq_left h]
  · rw [Nat.min_eq_right (by omega), List.take_of_length_le (by rw [List.length_map]; exact Nat.le_refl _), List.take_of_length_le (by rw [List.length_map]; omega)]
theorem falses (n : Nat) : DOk (.list (List.replicate n (.bool false))) := by
  have h1 : ∀ n, PyData.canLayAll0 (List.replicate n (PyData.bool false)) = true := fun n => by
    induction n with
    | zero => rfl
    | succ n ih => rw [List.replicate_succ, PyData.canLayAll0, ih]; rfl
  have h2 : ∀ n, PyData.depthAll (List.replicate n (PyData.bool false)) = 0 := fun n => by
    induction n with
    | zero => rfl
    | succ n ih => rw [List.replicate_succ, PyData.depthAll, ih]; rfl
  exact ⟨h1 n, by rw [PyData.depth, h2]; decide⟩
theorem four_at (c : Int) : ∃ so : So, atI [V.str (Str.ofString "number"), .str (Str.ofString "name"), .str (Str.ofString "list"), .str (Str.ofString "mark")] (c % 4) = some (.str so.str) := by
  have h1 : c % 4 = 0 ∨ c % 4 = 1 ∨ c % 4 = 2 ∨ c % 4 = 3 := by omega
  rcases h1 with e | e | e | e
  · rw [e]; exact ⟨.num, rfl⟩
  · rw [e]; exact ⟨.nam, rfl⟩
  · rw [e]; exact ⟨.lis, rfl⟩
  · rw [e]; exact ⟨.mar, rfl⟩
structure SpK (K : PySem.W.Frag) (mg : Str → Option Value) (CS CL C0 C1 C2 C3 C4 : Addr) : Prop where
  gS : mg "Spoiled" = some (.ref CS)
  gL : mg "LoomError" = some (.ref CL)
  g0 : mg "Unknown" = some (.ref C0)
  i0 : PySem.W.kitOne K (.ref CS) (.ref C0) = some false
  g1 : mg "NoRow" = some (.ref C1)
  i1 : PySem.W.kitOne K (.ref CS) (.ref C1) = some false
  g2 : mg "NoGap" = some (.ref C2)
  i2 : PySem.W.kitOne K (.ref CS) (.ref C2) = some false
  g3 : mg "Clash" = some (.ref C3)
  i3 : PySem.W.kitOne K (.ref CS) (.ref C3) = some false
  g4 : mg "Untaught" = some (.ref C4)
  i4 : PySem.W.kitOne K (.ref CS) (.ref C4) = some false
  iS : PySem.W.kitOne K (.ref CS) (.ref CS) = some true
  get : excGet K CS = true
  tL : takesX K CS (.ref CL) = true
section
variable {P : Program} {w : World} {K : PySem.W.Frag} {mg : Str → Option Value} {base : Heap} {CR CS CL C0 C1 C2 C3 C4 : Addr}
abbrev nLaw : List Str := ["_law_script", "_law_k", "_law_cells", "_law_word_here", "_law_numbers_here", "_law_sort_here", "_law_reader", "_law_found", "_law_error", "e", "_law_others", "_law_bits_here"]
theorem scLaw : FnScope nLaw ["_law_script"] (defScope sLaw) := ⟨rfl, rfl, rfl, by decide +kernel, rfl, by decide +kernel, by decide +kernel⟩
def scopeL1 : Scope := { kind := .function, names := [(".0", .local), ("_law_j", .local), ("_law_cell_at", .globalImplicit), ("_law_k", .free), ("_law_script", .free)], isGenerator := false, isCoroutine := false, more := [] }
theorem scL1 : BlkScope (defScope sLaw) nLaw ["_law_j"] ["_law_k", "_law_script"] [1, 0] scopeL1 := ⟨rfl, by decide +kernel, by decide +kernel, by decide +kernel, rfl, by decide +kernel, by decide +kernel⟩
theorem ok_law {f fC fO fM fS fJ fN fQ fB fL : Addr} {fd dC dO dM dS dJ dN dQ dB dL : FuncData} (F : Fun K "law" "law" sLaw f fd) (T : BT.Txt mg) (Tb' : Tc mg) (min : mg "min" = none) (N : SpK K mg CS CL C0 C1 C2 C3 C4)
    (FC : Fun K "_law_cell_at" "_law_cell_at" sCe fC dC) (bC : Binds K dC ["_law_script", "_law_k"] []) (gC : mg "_law_cell_at" = some (.ref fC))
    (FO : Fun K "_law_word" "_law_word" SL.sWo fO dO) (bO : Binds K dO ["_law_cell"] []) (gO : mg "_law_word" = some (.ref fO)) (GO : FnOk P w K mg base CX0 4 fO dO ["_law_cell"] (SL.spWx Wd))
    (FM : Fun K "_law_numbers" "_law_numbers" sNm fM dM) (bM : Binds K dM ["_law_cells", "_law_word_here"] []) (gM : mg "_law_numbers" = some (.ref fM)) (GM : FnOk P w K mg base CX0 5 fM dM ["_law_cells", "_law_word_here"] spNm)
    (FS : Fun K "_law_sort" "_law_sort" SL.sLs fS dS) (bS : Binds K dS ["_law_text"] []) (gS : mg "_law_sort" = some (.ref fS)) (GS : FnOk P w K mg base CX0 4 fS dS ["_law_text"] SL.spSo)
    (NR : Mk K CR fJ) (gJ : mg "Reader" = some (.ref CR)) (bJ : Binds K dJ ["self", "numbers"] []) (GJ : FnOk P w K mg base CX0 1 fJ dJ ["self", "numbers"] (BT.spRi CR)) (YR : BT.RdK K CR)
    (bL : Binds K dL ["self"] []) (mL : Meth K CR "left" fL) (GL : FnOk P w K mg base CX0 1 fL dL ["self"] (BT.spRl CR))
    (FN : Fun K "next_word" "next_word" sNw fN dN) (bN : Binds K dN ["reader", "sort"] []) (gN : mg "next_word" = some (.ref fN)) (GN : FnOk P w K mg base (CX1 P w) 9 fN dN ["reader", "sort"] (spNwT CR CS))
    (FQ : Fun K "_law_put_word" "_law_put_word" sQw fQ dQ) (bQ : Binds K dQ ["_law_bits_here", "_law_sort_here", "_law_word_here"] []) (gQ : mg "_law_put_word" = some (.ref fQ)) (GQ : FnOk P w K mg base CX0 3 fQ dQ ["_law_bits_here", "_law_sort_here", "_law_word_here"] spQw)
    (FB : Fun K "_law_bits" "_law_bits" sBi fB dB) (bB : Binds K dB ["_law_numbers_here"] []) (gB : mg "_law_bits" = some (.ref fB)) (GB : FnOk P w K mg base CX0 2 fB dB ["_law_numbers_here"] spBi) :
    FnOk P w K mg base CX0 10 f fd ["_law_script"] (spLaw K) := by
  have GC : FnOk P w K mg base CX0 1 fC dC ["_law_script", "_law_k"] (spCe K) := ok_ce FC Tb'
  refine F.ok scLaw (fun vs H Q E h => ?_) (fun cdv A outer s H vs Q E hr h => ?_)
  · obtain ⟨a, ns, rfl, _⟩ := h
    rfl
  · obtain ⟨a, ns, rfl, hS, hln, k⟩ := h
    have hr1 : Room 1 _ := hr.mono (by decide)
    have hr2 : Room 2 _ := hr.mono (by decide)
    have hr3 : Room 3 _ := hr.mono (by decide)
    have hr4 : Room 4 _ := hr.mono (by decide)
    have hr5 : Room 5 _ := hr.mono (by decide)
    have hu := hr.units
    refine ⟨_, pss_cons (ps_for PassesOwn.never rfl (pi_rangeS rfl T.range (pa_cons pe_int (pa_cons (pe_callB (call_max2 rfl) (by rfl) T.max PyProof.Rows.boot_max (pa_cons pe_int (pa_cons (pe_callB (call_min2 rfl) (by rfl) min PyProof.Rows.boot_min (pa_cons (pe_callB call_len_seq (by rfl) T.len PySem.boot_len (pa_cons (pv 0) pa_nil)) (pa_cons pe_int pa_nil))) pa_nil))) (pa_cons pe_int pa_nil)))) (pg_name (i := 1) scLaw.nd rfl (Or.inr rfl))
        (pss_cons (ps_setlc (i := 2) scL1 rfl rfl rfl (pi_range1 rfl T.range (pa_cons pe_int pa_nil)) (fun fp C s1 H1 => pg_name (i := 0) scL1.nd rfl (Or.inl rfl)) (fun fp C s1 H1 => pts_nil) (fun fp C s1 H1 => pe_call GC hr1 rfl gC FC.kp bC .nil pass0 (pa_cons (pv 2) (pa_cons (pe_op op_add (pv 1) (pv 0)) pa_nil))) scLaw.nd rfl rfl rfl)
        (pss_cons (ps_set (i := 3) scLaw.nd rfl (Or.inl rfl) (pe_call GO hr4 rfl gO FO.kp bO .nil pass0 (pa_cons (pe_ix ix_list (pv 2) pe_int (fun _ _ => rfl)) pa_nil)))
        (pss_cons (ps_set (i := 4) scLaw.nd rfl (Or.inl rfl) (pe_call GM hr5 rfl gM FM.kp bM .nil pass0 (pa_cons (pv 2) (pa_cons (pv 3) pa_nil))))
        (pss_cons (ps_set (i := 5) scLaw.nd rfl (Or.inl rfl) (pe_call GS hr4 rfl gS FS.kp bS .nil pass0 (pa_cons (pv 3) pa_nil)))
        (pss_cons (ps_cut (ps_if (pt_cmpR op_eq (pe_op op_mod (pe_op op_fdiv (pe_ix ix_list (pv 2) pe_int (fun _ _ => rfl)) pe_int) pe_int) pe_int (nomark _))
          (pss_one (ps_set (i := 5) scLaw.nd rfl (Or.inl rfl) (pe_ix ix_list (pe_lst (pa_cons pe_str (pa_cons pe_str (pa_cons pe_str (pa_cons pe_str pa_nil))))) (pe_op op_mod (pe_op op_fdiv (pe_ix ix_list (pv 2) pe_int (fun _ _ => rfl)) pe_int) pe_int) (fun _ _ => rfl)))) pss_nil))
        (pss_cons (ps_set (i := 6) scLaw.nd rfl (Or.inl rfl) (pe_make NR GJ hr2 rfl gJ bJ .nil pass0 (pa_cons (pv 4) pa_nil)))
        (pss_cons (ps_set (i := 7) scLaw.nd rfl (Or.inl rfl) pe_non)
        (pss_cons (ps_set (i := 8) scLaw.nd rfl (Or.inl rfl) pe_non)
        (pss_cons (ps_cut (ps_try (i := 9) ⟨rfl, rfl⟩ scLaw.nd rfl rfl ⟨by rfl, by decide, .inl N.gL⟩ (pssx_one (psx_set (i := 7) scLaw.nd rfl (Or.inl rfl) (pex_call GN hr rfl gN FN.kp bN .nil (pa_cons (pv 6) (pa_cons (pv 5) pa_nil))))) (fun e => pss_one (ps_set (i := 8) scLaw.nd rfl (Or.inl rfl) (pv 9)))))
        (pss_one (ps_if (pt_cmpR op_notN (pv 8) pe_non (nomark _))
          (pss_cons (ps_set (i := 10) scLaw.nd rfl (Or.inl rfl) (pe_lst (pa_cons (pe_callB call_isinstXD (by rfl) T.isin PyProof.Rows.boot_isinstance (pa_cons (pv 8) (pa_cons (pe_glob (v := .ref C0) (by rfl) N.g0 rfl) pa_nil))) (pa_cons (pe_callB call_isinstXD (by rfl) T.isin PyProof.Rows.boot_isinstance (pa_cons (pv 8) (pa_cons (pe_glob (v := .ref C1) (by rfl) N.g1 rfl) pa_nil))) (pa_cons (pe_callB call_isinstXD (by rfl) T.isin PyProof.Rows.boot_isinstance (pa_cons (pv 8) (pa_cons (pe_glob (v := .ref C2) (by rfl) N.g2 rfl) pa_nil))) pa_nil)))))
          (pss_cons (ps_set (i := 10) scLaw.nd rfl (Or.inl rfl) (pe_op op_catL (pv 10) (pe_lst (pa_cons (pe_callB call_isinstXD (by rfl) T.isin PyProof.Rows.boot_isinstance (pa_cons (pv 8) (pa_cons (pe_glob (v := .ref C3) (by rfl) N.g3 rfl) pa_nil))) (pa_cons (pe_callB call_isinstXD (by rfl) T.isin PyProof.Rows.boot_isinstance (pa_cons (pv 8) (pa_cons (pe_glob (v := .ref C4) (by rfl) N.g4 rfl) pa_nil))) pa_nil)))))
          (pss_one (ps_if (PW.pt (pw_or (pt_not (pt_val (pe_callB call_isinstXD (by rfl) T.isin PyProof.Rows.boot_isinstance (pa_cons (pv 8) (pa_cons (pe_glob (v := .ref CS) (by rfl) N.gS rfl) pa_nil))))) (pw_or1 (pt_cmpR (op_neD hu) (pv 10) (pe_op op_rep (pe_lst (pa_cons pe_bl pa_nil)) pe_int) (nomark _))))) (pss_one (ps_ret pe_bl)) pss_nil))))
          (pss_cons (ps_if (PW.pt (pw_or (pt_not (pt_val (pe_callB call_isB (by rfl) T.isin PyProof.Rows.boot_isinstance (pa_cons (pv 7) (pa_cons (pe_bltn (v := .ty "str") (by rfl) Tb'.str PyProof.Rows.boot_str rfl) pa_nil))))) (pw_or1 (pt_cmpR op_ne (pe_call GS hr4 rfl gS FS.kp bS .nil pass0 (pa_cons (pv 7) pa_nil)) (pv 5) (nomark _))))) (pss_one (ps_ret pe_bl)) pss_nil)
          (pss_cons (ps_set (i := 11) scLaw.nd rfl (Or.inl rfl) (pe_call GQ hr3 rfl gQ FQ.kp bQ .nil pass0 (pa_cons (pe_lst pa_nil) (pa_cons (pv 5) (pa_cons (pv 7) pa_nil)))))
          (pss_one (ps_if (PW.pt (pw_or (pt_cmpR (op_neD hu) (pv 11) (pe_slice sl_list (pe_call GB hr2 rfl gB FB.kp bB .nil pass0 (pa_cons (pv 4) pa_nil)) po_none (po_some (pe_callB call_len_seq (by rfl) T.len PySem.boot_len (pa_cons (pv 11) pa_nil)))) (nomark _))
            (pw_or1 (pt_cmpR op_ne (pe_meth0 (pv 6) YR.cls mL GL hr1 bL .nil pass0) (pe_op op_sub (pe_op op_mul pe_int (pe_callB call_len_seq (by rfl) T.len PySem.boot_len (pa_cons (pv 4) pa_nil))) (pe_callB call_len_seq (by rfl) T.len PySem.boot_len (pa_cons (pv 11) pa_nil))) (nomark _))))) (pss_one (ps_ret pe_bl)) pss_nil))))))))))))))))
      (pss_one (ps_ret pe_bl)), ?_⟩
    have mx : ∃ m : Int, (if (if (45 : Int) < ((ns.map V.int).length : Int) then (45 : Int) else ((ns.map V.int).length : Int)) > 1 then (if (45 : Int) < ((ns.map V.int).length : Int) then (45 : Int) else ((ns.map V.int).length : Int)) else 1) = m ∧ 0 ≤ m ∧ m ≤ 63 := by
      refine ⟨_, rfl, ?_, ?_⟩
      · split <;> split <;> omega
      · rw [List.length_map]
        split <;> split <;> omega
    obtain ⟨m, hm, m0, m63⟩ := mx
    refine ⟨_, rfl, a, _, rfl, .inl hS, _, _, rfl, _, _, rfl, _, _, _, rfl, by decide, by decide, ⟨by decide, by decide, by rw [hm]; omega, by rw [hm]; omega⟩, ?_⟩
    rw [hm]
    refine for_step (lo := 0) (c := 3) (n := stepN 0 m 3) (fun i σ H' => ∃ v1 v2 v3 v4 v5 v6 v7 v8 v9 v10 v11, σ = [some (.ref a), v1, v2, v3, v4, v5, v6, v7, v8, v9, v10, v11] ∧ Same H H') ⟨none, none, none, none, none, none, none, none, none, none, none, rfl, Same.refl H⟩ ?_ ?_
    · rintro i σ H1 hi ⟨v1, v2, v3, v4, v5, v6, v7, v8, v9, v10, v11, rfl, s1⟩
      refine ⟨_, rfl, by decide, by decide, fun D hD => ?_⟩
      refine lc_range (n := 3) (fun j ys H3 => Same H1 H3 ∧ H3 D = some (.lst ys) ∧ ∃ cs : List Int, ys = cs.map V.int ∧ cs.length = j) (by decide) ⟨(Same.refl H1).upd_free hD, upd_same, [], rfl, rfl⟩ (fun j ys H3 h => by obtain ⟨_, _, zs, rfl, h⟩ := h; rw [List.length_map]; exact Nat.le_of_eq h) ?_ ?_
      · rintro j ys H3 N' M hj ⟨u1, u2, cs, rfl, hcs⟩ hN hM
        refine ⟨_, rfl, _, rfl, _, rfl, _, _, rfl, rfl, a, ns, _, rfl, (s1.trans u1).seq hS, by omega, by omega, fun z H4 s4 => hN _ H4 (s4 _ _ u2) ⟨(u1.trans s4).upd_free hD, upd_same, cs ++ [z], by rw [List.map_append]; rfl, by rw [List.length_append, List.length_singleton, hcs]⟩⟩
      rintro ys H2 ⟨s2, hD2, cs, rfl, hcs⟩
      obtain ⟨c0, c1, c2, rfl⟩ : ∃ c0 c1 c2, cs = [c0, c1, c2] := by
        match cs, hcs with
        | [x, y, z], _ => exact ⟨x, y, z, rfl⟩
      have cat : ∀ {H' : Hp}, Same H2 H' → SqL K H' D [V.int c0, .int c1, .int c2] := fun s => SqL.of (s _ _ hD2)
      have t2 := s1.trans s2
      refine ⟨_, rfl, D, _, _, _, rfl, rfl, cat (Same.refl H2), atI_nat (j := 0) rfl, _, rfl, fun z H3 hz s3 => ?_⟩
      refine ⟨_, rfl, _, rfl, D, c0, c1, c2, z, rfl, s3 _ _ hD2, hz, fun nt os H4 s4 hnt ho => ?_⟩
      obtain ⟨_, so0, hso0, _⟩ := wd_enc hz
      refine ⟨_, rfl, z, rfl, hz.tn.tx.mono (by decide), fun H5 s5 => ?_⟩
      rw [hso0]
      have s25 := s3.trans (s4.trans s5)
      have t5 := t2.trans s25
      have nt5 := s5 _ _ hnt
      refine ⟨fun σ' H' => ∃ (so : So) (v1' : Option V), σ' = [some (.ref a), v1', some (.ref D), some (.str z), some (.ref nt), some (.str so.str), v6, v7, v8, v9, v10, v11] ∧ Same H H' ∧ H' nt = some (.tup (os.map V.int)), ?_, ?_⟩
      · refine ⟨_, rfl, D, _, _, _, rfl, rfl, cat s25, atI_nat (j := 2) rfl, _, _, rfl, rfl, ⟨by decide, by decide⟩, _, _, rfl, rfl, (by show (0 : Int) < 4; decide), rfl, _, rfl, ?_⟩
        refine SL.ifb ?_ ?_
        · obtain ⟨so, hso⟩ := four_at (c2 / 56)
          refine ⟨(by show 4 ≤ sizeLine; decide), fun lw hlw => ?_⟩
          have s6 := (Same.refl H5).upd_free (o := .lst [V.str (Str.ofString "number"), .str (Str.ofString "name"), .str (Str.ofString "list"), .str (Str.ofString "mark")]) hlw
          refine ⟨_, rfl, D, _, _, _, rfl, rfl, cat (s25.trans s6), atI_nat (j := 2) rfl, _, _, rfl, rfl, ⟨by decide, by decide⟩, _, _, rfl, rfl, (by show (0 : Int) < 4; decide), lw, _, _, _, rfl, rfl, SqL.of upd_same, hso, so, _, rfl, t5.trans s6, s6 _ _ nt5⟩
        · exact ⟨so0, _, rfl, t5, nt5⟩
      rintro σ H6 ⟨so, v1', rfl, t6, nt6⟩
      have he := oct_eight ho.2
      refine ⟨_, rfl, fun rd dx nr ndx nex => ⟨rd, dx, nt, os, rfl, upd_same, ?_, fun H7 R7 k7 => ⟨rfl, ?_⟩⟩⟩
      · rw [upd_ne (ne_of_none nt6 nr), upd_ne (ne_of_none nt6 ndx)]
        exact nt6
      have s7 : Same H6 H7 := fun b o e => k7 b o (by rw [upd_ne (ne_of_none e nr), upd_ne (ne_of_none e ndx)]; exact e) (ne_of_none e nr)
      have t7 := t6.trans s7
      have hrdH : H rd = none := t6.noneB nr
      have nrt : nt ≠ rd := ne_of_none nt6 nr
      have nt7 := s7 _ _ nt6
      have D7 : RdrT CR H7 rd nt 0 (octB os) := ⟨by rw [he]; exact R7, octB_01 os, by rw [octB_len]; have := ho.1; omega, by rw [octB_len]; omega⟩
      refine ⟨fun σ' H' => ∃ (v1' v9' : Option V), Same H H' ∧ H' nt = some (.tup (os.map V.int)) ∧ ((∃ (y : Str) (ws : List Int), σ' = [some (.ref a), v1', some (.ref D), some (.str z), some (.ref nt), some (.str so.str), some (.ref rd), some (.str y), some .non, v9', v10, v11] ∧ encW y ws so ∧ At (octB os) 0 ws ∧ RdrT CR H' rd nt ws.length (octB os)) ∨ (∃ e : Addr, σ' = [some (.ref a), v1', some (.ref D), some (.str z), some (.ref nt), some (.str so.str), some (.ref rd), some .non, some (.ref e), v9', v10, v11] ∧ H' e = some (.ext (ExcAt e CS none)))), ?_, ?_⟩
      · refine ⟨_, rfl, _, rfl, rd, nt, 0, octB os, so, rfl, D7, fun y ws H8 hE hat D8 k8 => ?_, fun H8 k8 => ⟨CS, rfl, N.tL, fun e hf => ?_⟩⟩
        · refine ⟨_, _, fun b o hb => k8 b o (t7 _ _ hb) (ne_of_none hb hrdH), k8 _ _ nt7 nrt, .inl ⟨y, ws, rfl, hE, hat, ?_⟩⟩
          rw [Nat.zero_add] at D8
          exact D8
        · have s9 := (Same.refl H8).upd_free (o := .ext (ExcAt e CS none)) hf
          exact ⟨_, rfl, _, _, fun b o hb => s9 _ _ (k8 b o (t7 _ _ hb) (ne_of_none hb hrdH)), s9 _ _ (k8 _ _ nt7 nrt), .inr ⟨e, rfl, upd_same⟩⟩
      rintro σ H8 ⟨v1'', v9', t8, nt8, ⟨y, ws, rfl, hE, hat, D8⟩ | ⟨e, rfl, ge⟩⟩
      · refine ⟨_, rfl, rfl, _, rfl, iteFK (by rw [decide_eq_true rfl]; rfl) ?_⟩
        obtain ⟨hy, hty⟩ := encW_sort hE
        refine ⟨_, rfl, _, _, _, true, rfl, .str _, rfl, true, rfl, iteF ⟨_, rfl, y, rfl, hty, fun H9 s9 => ?_⟩⟩
        rw [hy]
        refine ⟨_, rfl, rfl, _, rfl, iteFK (by show (!decide (V.str so.str = V.str so.str)) = false; rw [decide_eq_true rfl]; rfl) ?_⟩
        refine ⟨(by show 0 ≤ sizeLine; decide), fun lb hlb => ?_⟩
        have sA := (Same.refl H9).upd_free (o := .lst []) hlb
        refine ⟨_, rfl, _, rfl, lb, [], ws, so, y, rfl, hE, upd_same, by decide, fun HB eB kB => ?_⟩
        rw [List.nil_append] at eB
        have sB : Same H9 HB := fun b o hb => kB b o (sA _ _ hb) (ne_of_none hb hlb)
        have t8B := s9.trans sB
        have ntB := t8B _ _ nt8
        have DB := D8.same t8B
        refine ⟨_, rfl, _, rfl, nt, os, rfl, ntB, ho.1, fun l2 HC sC hl2 eC => ?_⟩
        refine ⟨_, rfl, lb, _, rfl, .inl (SqL.of (sC _ _ eB)), _, rfl, l2, _, rfl, SqL.of eC, fun l3 hl3 => ?_⟩
        have ecut : cutV ((octB os).map V.int) none (some (((ws.map V.int).length : Nat) : Int)) = ws.map V.int := by
          rw [cut_toI, List.length_map]
          have := hat.2
          rw [List.drop_zero] at this
          rw [this]
        rw [ecut]
        have s3 := (Same.refl HC).upd_free (o := .lst (ws.map V.int)) hl3
        have g3 : upd HC l3 (.lst (ws.map V.int)) l3 = some (.lst (ws.map V.int)) := upd_same
        generalize upd HC l3 (.lst (ws.map V.int)) = H3' at s3 g3
        have sC3 := sC.trans s3
        have ok := ints_okL ws
        refine ⟨.list (ws.map PyData.int), .list (ws.map PyData.int), .lst (SqL.of (sC3 _ _ eB)) (BT.ints_at _), .lst (SqL.of g3) (BT.ints_at _), ok, ok, false, by rw [ints_eqL]; rfl, iteF ?_⟩
        obtain ⟨dx9, fs9, q1, q2, q3⟩ := id (DB.same sC3).r
        refine ⟨_, rfl, rd, dx9, fs9, rfl, q1, q2.l, rd, nt, _, _, rfl, (DB.same sC3).r, _, rfl, nt, _, rfl, .inr (SqT.of (sC3 _ _ ntB)), _, _, rfl, rfl, .inl ⟨by decide, by decide⟩, _, rfl, lb, _, rfl, .inl (SqL.of (sC3 _ _ eB)), _, _, rfl, rfl, rfl, false, ?_, iteF ?_⟩
        · show V.bl (!decide (V.int (((eightM (octB os)).length : Int) * 8 - ((ws.length : Nat) : Int)) = V.int (8 * (((os.map V.int).length : Nat) : Int) - (((ws.map V.int).length : Nat) : Int)))) = V.bl false
          rw [he, List.length_map, List.length_map, Int.mul_comm, decide_eq_true rfl]
          rfl
        · exact ⟨_, _, _, _, _, _, _, _, _, _, _, rfl, t8.trans (t8B.trans sC3)⟩
      · have dd : ∀ {H' : Hp}, ∀ d' : Addr, (none : Option Addr) = some d' → ∃ o, H' d' = some o := fun {H'} d' e => by cases e
        refine ⟨_, rfl, rfl, _, rfl, iteTK (by rw [decide_eq_false (fun z => by cases z)]; rfl) ?_⟩
        refine ⟨_, rfl, e, _, CS, none, false, rfl, ge, dd, N.get, N.i0, _, rfl, e, _, CS, none, false, rfl, ge, dd, N.get, N.i1, _, rfl, e, _, CS, none, false, rfl, ge, dd, N.get, N.i2, (by show 3 ≤ sizeLine; decide), fun l0 hl0 => ?_⟩
        have s3 := (Same.refl H8).upd_free (o := .lst [V.bl false, V.bl false, V.bl false]) hl0
        have g3 : upd H8 l0 (.lst [V.bl false, V.bl false, V.bl false]) l0 = some (.lst [V.bl false, V.bl false, V.bl false]) := upd_same
        generalize upd H8 l0 (.lst [V.bl false, V.bl false, V.bl false]) = H3' at s3 g3
        refine ⟨_, rfl, _, rfl, e, _, CS, none, false, rfl, s3 _ _ ge, dd, N.get, N.i3, _, rfl, e, _, CS, none, false, rfl, s3 _ _ ge, dd, N.get, N.i4, (by show 2 ≤ sizeLine; decide), fun l1 hl1 => ?_⟩
        have s4' := (Same.refl H3').upd_free (o := .lst [V.bl false, V.bl false]) hl1
        have g4 : upd H3' l1 (.lst [V.bl false, V.bl false]) l1 = some (.lst [V.bl false, V.bl false]) := upd_same
        generalize upd H3' l1 (.lst [V.bl false, V.bl false]) = H4' at s4' g4
        refine ⟨l0, l1, _, _, rfl, rfl, SqL.of (s4' _ _ g3), SqL.of g4, (by show 5 ≤ sizeLine; decide), fun l2 hl2 => ?_⟩
        have s5' := (Same.refl H4').upd_free (o := .lst ([V.bl false, V.bl false, V.bl false] ++ [V.bl false, V.bl false])) hl2
        have g5 : upd H4' l2 (.lst ([V.bl false, V.bl false, V.bl false] ++ [V.bl false, V.bl false])) l2 = some (.lst ([V.bl false, V.bl false, V.bl false] ++ [V.bl false, V.bl false])) := upd_same
        generalize upd H4' l2 (.lst ([V.bl false, V.bl false, V.bl false] ++ [V.bl false, V.bl false])) = H5' at s5' g5
        have t5' := s3.trans (s4'.trans s5')
        refine ⟨_, rfl, e, _, CS, none, true, rfl, t5' _ _ ge, dd, N.get, N.iS, true, rfl, iteF ?_⟩
        refine ⟨_, rfl, (by show 1 ≤ sizeLine; decide), fun lx hlx => ?_⟩
        have sx := (Same.refl H5').upd_free (o := .lst [V.bl false]) hlx
        have gx : upd H5' lx (.lst [V.bl false]) lx = some (.lst [V.bl false]) := upd_same
        generalize upd H5' lx (.lst [V.bl false]) = Hx at sx gx
        refine ⟨lx, _, _, rfl, rfl, gx, by decide, by decide, (by show 5 ≤ sizeLine; decide), fun ly hly => ?_⟩
        have sy := (Same.refl Hx).upd_free (o := .lst (List.replicate (5 : Int).toNat [V.bl false]).flatten) hly
        have ds : ∀ {G : Hp}, DsAt K G (List.replicate 5 (V.bl false)) (List.replicate 5 (.bool false)) := .cons (.bl _) (.cons (.bl _) (.cons (.bl _) (.cons (.bl _) (.cons (.bl _) .nil))))
        have t6' := t5'.trans (sx.trans sy)
        refine ⟨.list (List.replicate 5 (.bool false)), .list (List.replicate 5 (.bool false)), .lst (SqL.of ((sx.trans sy) _ _ g5)) ds, .lst (SqL.of upd_same) ds, falses 5, falses 5, false, ?_, iteF ?_⟩
        · rw [SeqAt.eqv_refl _ (falses 5).1]
          rfl
        exact ⟨_, _, _, _, _, _, _, _, _, _, _, rfl, t8.trans t6'⟩
    · rintro σ H1 ⟨v1, v2, v3, v4, v5, v6, v7, v8, v9, v10, v11, rfl, s1⟩
      exact k H1
end
end CD
namespace SL
open PySem L2
abbrev sLaw : Stmt := CD.sLaw
abbrev spLaw (K : PySem.W.Frag) : Sp := CD.spLaw K
abbrev Txt (mg : Str → Option Value) : Prop := T1 mg
section
variable {P : Program} {w : World} {K : PySem.W.Frag} {mg : Str → Option Value} {base : Heap} {CR aI XS XL X0 X1 X2 X3 X4 : Addr} {u8 : Value}
theorem ok_all {f fRi fRb fRl C0 CN CA CI CK fPt fPw fNt fNw fAt fAw fIt fIw fKt fKw fMo fIi fAl fSo fOf fIn fIm fIl fLs fSi fNu fNa fMk fLi fWo fXn fPu fEi fZn fZs fZi fZt fZw fMb fPl fQs fQn fQw fCe fNm fBi : Addr} {fd dRi dRb dRl dPt dPw dNt dNw dAt dAw dIt dIw dKt dKw fdMo fdIi fdAl fdSo fdOf fdIn fdIm fdIl fdLs fdSi fdNu fdNa fdMk fdLi fdWo fdXn fdPu fdEi fdZn fdZs fdZi fdZt fdZw fdMb fdPl fdQs fdQn fdQw fdCe fdNm fdBi : FuncData} (F : Fun K "law" "law" sLaw f fd) (T : Txt mg) (TT : TS mg)
    (T2 : BT.Txt mg) (T3 : CD.Tc mg) (min : mg "min" = none) (g8 : mg "WIDE" = some u8) (r8 : RelV (.int 8) u8) (gIs : mg "ITEM_SORTS" = some (.ref aI)) (hIs : Two2 K aI (Str.ofString "number") (Str.ofString "name")) (YR : BT.RdK K CR) (MR : Mk K CR fRi) (gCR : mg "Reader" = some (.ref CR)) (N : CD.SpK K mg XS XL X0 X1 X2 X3 X4) (xex : PySem.W.excIn K XS BT.bmV "ValueError.__new__" = true)
    (FRi : Fun K "__init__" "Reader.__init__" BT.sRi fRi dRi) (bRi : Binds K dRi ["self", "numbers"] [])
    (FRb : Fun K "bits" "Reader.bits" BT.sRb fRb dRb) (bRb : Binds K dRb ["self", "wide"] []) (mRb : Meth K CR "bits" fRb)
    (FRl : Fun K "left" "Reader.left" BT.sRl fRl dRl) (bRl : Binds K dRl ["self"] []) (mRl : Meth K CR "left" fRl)
    (kP : Kd K mg "Sort" C0 fPt fPw dPt dPw) (FPt : Fun K "takes" "Sort.takes" sPt fPt dPt) (FPw : Fun K "word" "Sort.word" sPw fPw dPw)
    (kN : Kd K mg "Number" CN fNt fNw dNt dNw) (FNt : Fun K "takes" "Number.takes" sNt fNt dNt) (FNw : Fun K "word" "Number.word" sNw fNw dNw)
    (kA : Kd K mg "Name" CA fAt fAw dAt dAw) (FAt : Fun K "takes" "Name.takes" sAt fAt dAt) (FAw : Fun K "word" "Name.word" sAw fAw dAw)
    (kI : Kd K mg "Items" CI fIt fIw dIt dIw) (FIt : Fun K "takes" "Items.takes" sIt fIt dIt) (FIw : Fun K "word" "Items.word" sIw fIw dIw)
    (kK : Kd K mg "Mark" CK fKt fKw dKt dKw) (FKt : Fun K "takes" "Mark.takes" sKt fKt dKt) (FKw : Fun K "word" "Mark.word" sKw fKw dKw)
    (FMo : Fun K "made_of" "made_of" sMo fMo fdMo) (bMo : Binds K fdMo ["signs", "text"] []) (gMo : mg "made_of" = some (.ref fMo))
    (FIi : Fun K "is_item" "is_item" sIi fIi fdIi) (bIi : Binds K fdIi ["text"] []) (gIi : mg "is_item" = some (.ref fIi))
    (FAl : Fun K "all_sorts" "all_sorts" sAl fAl fdAl) (bAl : Binds K fdAl [] []) (gAl : mg "all_sorts" = some (.ref fAl))
    (FSo : Fun K "sort_of" "sort_of" sSo fSo fdSo) (bSo : Binds K fdSo ["text"] []) (gSo : mg "sort_of" = some (.ref fSo))
    (FOf : Fun K "_law_of" "_law_of" sOf fOf fdOf) (bOf : Binds K fdOf ["_law_text", "_law_signs_here"] []) (gOf : mg "_law_of" = some (.ref fOf))
    (FIn : Fun K "_law_is_number" "_law_is_number" sIn fIn fdIn) (bIn : Binds K fdIn ["_law_text"] []) (gIn : mg "_law_is_number" = some (.ref fIn))
    (FIm : Fun K "_law_is_name" "_law_is_name" sIm fIm fdIm) (bIm : Binds K fdIm ["_law_text"] []) (gIm : mg "_law_is_name" = some (.ref fIm))
    (FIl : Fun K "_law_is_list" "_law_is_list" sIl fIl fdIl) (bIl : Binds K fdIl ["_law_text"] []) (gIl : mg "_law_is_list" = some (.ref fIl))
    (FLs : Fun K "_law_sort" "_law_sort" sLs fLs fdLs) (bLs : Binds K fdLs ["_law_text"] []) (gLs : mg "_law_sort" = some (.ref fLs))
    (FSi : Fun K "_law_signs" "_law_signs" sSi fSi fdSi) (bSi : Binds K fdSi ["_law_cell", "_law_many", "_law_signs_here"] []) (gSi : mg "_law_signs" = some (.ref fSi))
    (FNu : Fun K "_law_number_word" "_law_number_word" sNu fNu fdNu) (bNu : Binds K fdNu ["_law_cell"] []) (gNu : mg "_law_number_word" = some (.ref fNu))
    (FNa : Fun K "_law_name_word" "_law_name_word" sNa fNa fdNa) (bNa : Binds K fdNa ["_law_cell"] []) (gNa : mg "_law_name_word" = some (.ref fNa))
    (FMk : Fun K "_law_mark_word" "_law_mark_word" sMk fMk fdMk) (bMk : Binds K fdMk ["_law_cell"] []) (gMk : mg "_law_mark_word" = some (.ref fMk))
    (FLi : Fun K "_law_list_word" "_law_list_word" sLi fLi fdLi) (bLi : Binds K fdLi ["_law_cell"] []) (gLi : mg "_law_list_word" = some (.ref fLi))
    (FWo : Fun K "_law_word" "_law_word" sWo fWo fdWo) (bWo : Binds K fdWo ["_law_cell"] []) (gWo : mg "_law_word" = some (.ref fWo))
    (FXn : Fun K "number_of" "number_of" BT.sNu fXn fdXn) (bXn : Binds K fdXn ["bits"] []) (gXn : mg "number_of" = some (.ref fXn))
    (FPu : Fun K "_law_put" "_law_put" BT.sPu fPu fdPu) (bPu : Binds K fdPu ["_law_bits_here", "_law_number", "_law_wide"] []) (gPu : mg "_law_put" = some (.ref fPu))
    (FEi : Fun K "_law_eighths" "_law_eighths" BT.sEi fEi fdEi) (bEi : Binds K fdEi ["_law_bits_here"] []) (gEi : mg "_law_eighths" = some (.ref fEi))
    (FZn : Fun K "next_number" "next_number" CD.sNn fZn fdZn) (bZn : Binds K fdZn ["reader"] []) (gZn : mg "next_number" = some (.ref fZn))
    (FZs : Fun K "next_signs" "next_signs" CD.sNs fZs fdZs) (bZs : Binds K fdZs ["reader", "signs", "wide"] []) (gZs : mg "next_signs" = some (.ref fZs))
    (FZi : Fun K "next_items" "next_items" CD.sNi fZi fdZi) (bZi : Binds K fdZi ["reader"] []) (gZi : mg "next_items" = some (.ref fZi))
    (FZt : Fun K "text_read" "text_read" CD.sTr fZt fdZt) (bZt : Binds K fdZt ["reader", "sort"] []) (gZt : mg "text_read" = some (.ref fZt))
    (FZw : Fun K "next_word" "next_word" CD.sNw fZw fdZw) (bZw : Binds K fdZw ["reader", "sort"] []) (gZw : mg "next_word" = some (.ref fZw))
    (FMb : Fun K "_law_many_bits" "_law_many_bits" CD.sMb fMb fdMb) (bMb : Binds K fdMb ["_law_number"] []) (gMb : mg "_law_many_bits" = some (.ref fMb))
    (FPl : Fun K "_law_place" "_law_place" CD.sPl fPl fdPl) (bPl : Binds K fdPl ["_law_sign", "_law_signs_here"] []) (gPl : mg "_law_place" = some (.ref fPl))
    (FQs : Fun K "_law_put_signs" "_law_put_signs" CD.sQs fQs fdQs) (bQs : Binds K fdQs ["_law_bits_here", "_law_word_here", "_law_great"] []) (gQs : mg "_law_put_signs" = some (.ref fQs))
    (FQn : Fun K "_law_put_number" "_law_put_number" CD.sQn fQn fdQn) (bQn : Binds K fdQn ["_law_bits_here", "_law_word_here"] []) (gQn : mg "_law_put_number" = some (.ref fQn))
    (FQw : Fun K "_law_put_word" "_law_put_word" CD.sQw fQw fdQw) (bQw : Binds K fdQw ["_law_bits_here", "_law_sort_here", "_law_word_here"] []) (gQw : mg "_law_put_word" = some (.ref fQw))
    (FCe : Fun K "_law_cell_at" "_law_cell_at" CD.sCe fCe fdCe) (bCe : Binds K fdCe ["_law_script", "_law_k"] []) (gCe : mg "_law_cell_at" = some (.ref fCe))
    (FNm : Fun K "_law_numbers" "_law_numbers" CD.sNm fNm fdNm) (bNm : Binds K fdNm ["_law_cells", "_law_word_here"] []) (gNm : mg "_law_numbers" = some (.ref fNm))
    (FBi : Fun K "_law_bits" "_law_bits" CD.sBi fBi fdBi) (bBi : Binds K fdBi ["_law_numbers_here"] []) (gBi : mg "_law_bits" = some (.ref fBi))
    : FnOk P w K mg base CX0 10 f fd ["_law_script"] (spLaw K) := by
  have k1 : FnOk P w K mg base CX0 2 fNt dNt ["self", "text"] (spTk isNum) := ok_nt FNt TT FMo bMo gMo
  have k2 : FnOk P w K mg base CX0 2 fAt dAt ["self", "text"] (spTk isName) := ok_at FAt TT FMo bMo gMo
  have kI' : FnOk P w K mg base CX0 3 fIi fdIi ["text"] spIi := ok_ii FIi kN kA k1 k2
  have k3 : FnOk P w K mg base CX0 4 fIt dIt ["self", "text"] (spTk isList) := ok_it FIt TT FIi bIi gIi kI'
  have k4 : FnOk P w K mg base CX0 4 fKt dKt ["self", "text"] (spTk isMark) := ok_kt FKt TT FMo bMo gMo FIi bIi gIi kI'
  have o1 : FnOk P w K mg base CX0 1 fNw dNw ["self"] (spWo (So.str .num)) := ok_wo FNw scNw rfl
  have o2 : FnOk P w K mg base CX0 1 fAw dAw ["self"] (spWo (So.str .nam)) := ok_wo FAw scAw rfl
  have o3 : FnOk P w K mg base CX0 1 fIw dIw ["self"] (spWo (So.str .lis)) := ok_wo FIw scIw rfl
  have o4 : FnOk P w K mg base CX0 1 fKw dKw ["self"] (spWo (So.str .mar)) := ok_wo FKw scKw rfl
  have S1 : SK P w K mg base CN isNum (So.str .num) := ⟨kN.cls, ⟨fNt, dNt, kN.mt, kN.bt, k1.mono (by decide)⟩, ⟨fNw, dNw, kN.mw, kN.bw, o1.mono (by decide)⟩⟩
  have S2 : SK P w K mg base CA isName (So.str .nam) := ⟨kA.cls, ⟨fAt, dAt, kA.mt, kA.bt, k2.mono (by decide)⟩, ⟨fAw, dAw, kA.mw, kA.bw, o2.mono (by decide)⟩⟩
  have S3 : SK P w K mg base CI isList (So.str .lis) := ⟨kI.cls, ⟨fIt, dIt, kI.mt, kI.bt, k3⟩, ⟨fIw, dIw, kI.mw, kI.bw, o3.mono (by decide)⟩⟩
  have S4 : SK P w K mg base CK isMark (So.str .mar) := ⟨kK.cls, ⟨fKt, dKt, kK.mt, kK.bt, k4⟩, ⟨fKw, dKw, kK.mw, kK.bw, o4.mono (by decide)⟩⟩
  have GSo : FnOk P w K mg base CX0 5 fSo fdSo ["text"] spSo := ok_so FSo FAl bAl gAl (ok_al FAl kN kA kI kK) S1 S2 S3 S4
  have GLs : FnOk P w K mg base CX0 4 fLs fdLs ["_law_text"] spSo := ok_ls FLs T FOf bOf gOf FIn bIn gIn FIm bIm gIm FIl bIl gIl
  have GNu : FnOk P w K mg base CX0 2 fNu fdNu ["_law_cell"] (spWx fun y => isNum y = true) := ok_nuM FNu T FSi bSi gSi
  have GNa : FnOk P w K mg base CX0 2 fNa fdNa ["_law_cell"] (spWx fun y => isName y = true) := ok_naM FNa T FSi bSi gSi
  have GMk : FnOk P w K mg base CX0 2 fMk fdMk ["_law_cell"] (spWx okMark) := ok_mkM FMk T FSi bSi gSi
  have GLi := ok_liM (P := P) (w := w) (base := base) FLi T FNu bNu gNu GNu FNa bNa gNa GNa
  have GWo : FnOk P w K mg base CX0 4 fWo fdWo ["_law_cell"] (spWx Wd) := ok_wdM FWo FNu bNu gNu GNu FNa bNa gNa GNa FLi bLi gLi GLi FMk bMk gMk GMk
  have GPu : FnOk P w K mg base CX0 1 fPu fdPu ["_law_bits_here", "_law_number", "_law_wide"] BT.spPu := BT.ok_pu FPu T2
  have GEi : FnOk P w K mg base CX0 1 fEi fdEi ["_law_bits_here"] BT.spEi := BT.ok_ei FEi T2
  have RR : CD.REX P w K mg base CR XS fRb dRb := ⟨YR, bRb, mRb, FnOk.either (BT.ok_rb FRb T2 g8 r8 YR FRl bRl mRl FXn bXn gXn).upX (BT.ok_xb FRb T2 g8 r8 YR N.gS xex FRl bRl mRl), N.gS, xex⟩
  have GZn := CD.ok_nnT FZn T3 RR
  have GZs := CD.ok_nsT FZs T3 RR
  have GZu := CD.ok_trT0 FZt TT.nam TT.mar FZn bZn gZn GZn FZs bZs gZs GZs
  have GZv := CD.ok_nwT0 FZw N.gS xex FZt bZt gZt GZu FSo bSo gSo GSo
  have GZi := CD.ok_niT FZi T3 RR gIs hIs.sq FZw bZw gZw GZv
  have GZt := CD.ok_trT FZt TT.nam TT.mar FZn bZn gZn GZn FZs bZs gZs GZs FZi bZi gZi GZi
  have GZw := CD.ok_nwT FZw N.gS xex FZt bZt gZt GZt FSo bSo gSo GSo
  have GQs := CD.ok_qs FQs T3 FPu bPu gPu GPu FPl bPl gPl
  have GQn := CD.ok_qn FQn T3 FPu bPu gPu GPu FMb bMb gMb
  have GIn : FnOk P w K mg base CX0 2 fIn fdIn ["_law_text"] (spBo isNum) := ok_in FIn T FOf bOf gOf
  have GQw := CD.ok_qw FQw T3 FPu bPu gPu GPu FQn bQn gQn GQn FQs bQs gQs GQs FIn bIn gIn GIn
  have GNm := CD.ok_nm FNm T2 FEi bEi gEi GEi FQw bQw gQw GQw FLs bLs gLs GLs
  have GBi := CD.ok_bi FBi FPu bPu gPu GPu
  exact CD.ok_law F T2 T3 min N FCe bCe gCe FWo bWo gWo GWo FNm bNm gNm GNm FLs bLs gLs GLs MR gCR bRi (BT.ok_ri FRi YR) YR bRl mRl (BT.ok_rl FRl T2 g8 r8 YR) FZw bZw gZw GZw FQw bQw gQw GQw FBi bBi gBi GBi
end
end SL

namespace SL
open PySem L2
theorem all_mk {l : PySem.W.OpenLaw} {w : World} {K : PySem.W.Frag} {h : Heap} {mg : Str → Option Value} {fa C0 CN CA CI CK aI XS XL X0 X1 X2 X3 X4 CR fMo fIi fAl fSo fOf fIn fIm fIl fLs fSi fNu fNa fMk fLi fWo fXn fPu fEi fZn fZs fZi fZt fZw fMb fPl fQs fQn fQw fCe fNm fBi fZ fPt fPw fNt fNw fAt fAw fIt fIw fKt fKw fRi fRb fRl : Addr} (X : K.In h) (G : h.Ns mainGlobals mg) (hfa : mg "law" = some (.ref fa))
    {odMo anMo odIi anIi odAl anAl odSo anSo odOf anOf odIn anIn odIm anIm odIl anIl odLs anLs odSi anSi odNu anNu odNa anNa odMk anMk odLi anLi odWo anWo odXn anXn odPu anPu odEi anEi odZn anZn odZs anZs odZi anZi odZt anZt odZw anZw odMb anMb odPl anPl odQs anQs odQn anQn odQw anQw odCe anCe odNm anNm odBi anBi odZ anZ odPt anPt odPw anPw odNt anNt odNw anNw odAt anAt odAw anAw odIt anIt odIw anIw odKt anKt odKw anKw odRi anRi odRb anRb odRl anRl : Option Addr} {slMo slIi slAl slSo slOf slIn slIm slIl slLs slSi slNu slNa slMk slLi slWo slXn slPu slEi slZn slZs slZi slZt slZw slMb slPl slQs slQn slQw slCe slNm slBi slZ slPt slPw slNt slNw slAt slAw slIt slIw slKt slKw slRi slRb slRl : Array (Option Value)} {ocMo kVMo dcMo pmMo cdMo ctMo ocIi kVIi dcIi pmIi cdIi ctIi ocAl kVAl dcAl pmAl cdAl ctAl ocSo kVSo dcSo pmSo cdSo ctSo ocOf kVOf dcOf pmOf cdOf ctOf ocIn kVIn dcIn pmIn cdIn ctIn ocIm kVIm dcIm pmIm cdIm ctIm ocIl kVIl dcIl pmIl cdIl ctIl ocLs kVLs dcLs pmLs cdLs ctLs ocSi kVSi dcSi pmSi cdSi ctSi ocNu kVNu dcNu pmNu cdNu ctNu ocNa kVNa dcNa pmNa cdNa ctNa ocMk kVMk dcMk pmMk cdMk ctMk ocLi kVLi dcLi pmLi cdLi ctLi ocWo kVWo dcWo pmWo cdWo ctWo ocXn kVXn dcXn pmXn cdXn ctXn ocPu kVPu dcPu pmPu cdPu ctPu ocEi kVEi dcEi pmEi cdEi ctEi ocZn kVZn dcZn pmZn cdZn ctZn ocZs kVZs dcZs pmZs cdZs ctZs ocZi kVZi dcZi pmZi cdZi ctZi ocZt kVZt dcZt pmZt cdZt ctZt ocZw kVZw dcZw pmZw cdZw ctZw ocMb kVMb dcMb pmMb cdMb ctMb ocPl kVPl dcPl pmPl cdPl ctPl ocQs kVQs dcQs pmQs cdQs ctQs ocQn kVQn dcQn pmQn cdQn ctQn ocQw kVQw dcQw pmQw cdQw ctQw ocCe kVCe dcCe pmCe cdCe ctCe ocNm kVNm dcNm pmNm cdNm ctNm ocBi kVBi dcBi pmBi cdBi ctBi ocZ kVZ dcZ pmZ cdZ ctZ ocPt kVPt dcPt pmPt cdPt ctPt ocPw kVPw dcPw pmPw cdPw ctPw ocNt kVNt dcNt pmNt cdNt ctNt ocNw kVNw dcNw pmNw cdNw ctNw ocAt kVAt dcAt pmAt cdAt ctAt ocAw kVAw dcAw pmAw cdAw ctAw ocIt kVIt dcIt pmIt cdIt ctIt ocIw kVIw dcIw pmIw cdIw ctIw ocKt kVKt dcKt pmKt cdKt ctKt ocKw kVKw dcKw pmKw cdKw ctKw ocRi kVRi dcRi pmRi cdRi ctRi ocRb kVRb dcRb pmRb cdRb ctRb ocRl kVRl dcRl pmRl cdRl ctRl : Value}
    {tkf tks tkn tkm tka tkb tkc tk8 : Tok}
    (aC0 : PySem.W.nsIn K mainGlobals "Sort" = some (some (.ref C0)))
    (pgC0 : PySem.W.plainGet K C0 Str.empty = true)
    (hdC0 : PySem.W.hasDictIn K C0 = true)
    (poC0 : PySem.W.plainOver K C0 = true)
    (saC0 : PySem.W.findIn K (.ref C0) "__setattr__" = some (some (.builtin "object.__setattr__")))
    (mkC0 : PySem.W.makesIn K C0 = true)
    (kcC0 : PySem.W.keepIn K (.ref C0) = true)
    (haC0 : PySem.W.findIn K (.ref C0) "__class__" = some (some (.builtin "object.__class__")))
    (hmC0 : PySem.W.mroIn K C0 (.type "object") = some true)
    (inC0 : PySem.W.findIn K (.ref C0) "__init__" = some (some (.builtin "object.__init__")))
    (aCN : PySem.W.nsIn K mainGlobals "Number" = some (some (.ref CN)))
    (pgCN : PySem.W.plainGet K CN Str.empty = true)
    (hdCN : PySem.W.hasDictIn K CN = true)
    (poCN : PySem.W.plainOver K CN = true)
    (saCN : PySem.W.findIn K (.ref CN) "__setattr__" = some (some (.builtin "object.__setattr__")))
    (mkCN : PySem.W.makesIn K CN = true)
    (kcCN : PySem.W.keepIn K (.ref CN) = true)
    (haCN : PySem.W.findIn K (.ref CN) "__class__" = some (some (.builtin "object.__class__")))
    (hmCN : PySem.W.mroIn K CN (.type "object") = some true)
    (inCN : PySem.W.findIn K (.ref CN) "__init__" = some (some (.builtin "object.__init__")))
    (aCA : PySem.W.nsIn K mainGlobals "Name" = some (some (.ref CA)))
    (pgCA : PySem.W.plainGet K CA Str.empty = true)
    (hdCA : PySem.W.hasDictIn K CA = true)
    (poCA : PySem.W.plainOver K CA = true)
    (saCA : PySem.W.findIn K (.ref CA) "__setattr__" = some (some (.builtin "object.__setattr__")))
    (mkCA : PySem.W.makesIn K CA = true)
    (kcCA : PySem.W.keepIn K (.ref CA) = true)
    (haCA : PySem.W.findIn K (.ref CA) "__class__" = some (some (.builtin "object.__class__")))
    (hmCA : PySem.W.mroIn K CA (.type "object") = some true)
    (inCA : PySem.W.findIn K (.ref CA) "__init__" = some (some (.builtin "object.__init__")))
    (aCI : PySem.W.nsIn K mainGlobals "Items" = some (some (.ref CI)))
    (pgCI : PySem.W.plainGet K CI Str.empty = true)
    (hdCI : PySem.W.hasDictIn K CI = true)
    (poCI : PySem.W.plainOver K CI = true)
    (saCI : PySem.W.findIn K (.ref CI) "__setattr__" = some (some (.builtin "object.__setattr__")))
    (mkCI : PySem.W.makesIn K CI = true)
    (kcCI : PySem.W.keepIn K (.ref CI) = true)
    (haCI : PySem.W.findIn K (.ref CI) "__class__" = some (some (.builtin "object.__class__")))
    (hmCI : PySem.W.mroIn K CI (.type "object") = some true)
    (inCI : PySem.W.findIn K (.ref CI) "__init__" = some (some (.builtin "object.__init__")))
    (aCK : PySem.W.nsIn K mainGlobals "Mark" = some (some (.ref CK)))
    (pgCK : PySem.W.plainGet K CK Str.empty = true)
    (hdCK : PySem.W.hasDictIn K CK = true)
    (poCK : PySem.W.plainOver K CK = true)
    (saCK : PySem.W.findIn K (.ref CK) "__setattr__" = some (some (.builtin "object.__setattr__")))
    (mkCK : PySem.W.makesIn K CK = true)
    (kcCK : PySem.W.keepIn K (.ref CK) = true)
    (haCK : PySem.W.findIn K (.ref CK) "__class__" = some (some (.builtin "object.__class__")))
    (hmCK : PySem.W.mroIn K CK (.type "object") = some true)
    (inCK : PySem.W.findIn K (.ref CK) "__init__" = some (some (.builtin "object.__init__")))
    (aaI : PySem.W.nsIn K mainGlobals "ITEM_SORTS" = some (some (.ref aI)))
    (aXS : PySem.W.nsIn K mainGlobals "Spoiled" = some (some (.ref XS)))
    (aXL : PySem.W.nsIn K mainGlobals "LoomError" = some (some (.ref XL)))
    (aX0 : PySem.W.nsIn K mainGlobals "Unknown" = some (some (.ref X0)))
    (aX1 : PySem.W.nsIn K mainGlobals "NoRow" = some (some (.ref X1)))
    (aX2 : PySem.W.nsIn K mainGlobals "NoGap" = some (some (.ref X2)))
    (aX3 : PySem.W.nsIn K mainGlobals "Clash" = some (some (.ref X3)))
    (aX4 : PySem.W.nsIn K mainGlobals "Untaught" = some (some (.ref X4)))
    (aCR : PySem.W.nsIn K mainGlobals "Reader" = some (some (.ref CR)))
    (pgCR : PySem.W.plainGet K CR Str.empty = true)
    (hdCR : PySem.W.hasDictIn K CR = true)
    (poCR : PySem.W.plainOver K CR = true)
    (saCR : PySem.W.findIn K (.ref CR) "__setattr__" = some (some (.builtin "object.__setattr__")))
    (mkCR : PySem.W.makesIn K CR = true)
    (kcCR : PySem.W.keepIn K (.ref CR) = true)
    (haCR : PySem.W.findIn K (.ref CR) "__class__" = some (some (.builtin "object.__class__")))
    (hmCR : PySem.W.mroIn K CR (.type "object") = some true)
    (nCR_numbers : PySem.W.findIn K (.ref CR) "numbers" = some none)
    (nCR_taken : PySem.W.findIn K (.ref CR) "taken" = some none)
    (hn : PySem.W.specialIn K (.builtin "object.__class__") "__get__" = some (some (.builtin "getset_descriptor.__get__")))
    (htk : PySem.W.takesIn K (.builtin "object.__class__") = some true)
    (hIs : Two2 K aI (Str.ofString "number") (Str.ofString "name"))
    (xex : PySem.W.excIn K XS BT.bmV "ValueError.__new__" = true)
    (xtL : takesX K XS (.ref XL) = true)
    (xge : excGet K XS = true)
    (xiS : PySem.W.kitOne K (.ref XS) (.ref XS) = some true)
    (xi0 : PySem.W.kitOne K (.ref XS) (.ref X0) = some false)
    (xi1 : PySem.W.kitOne K (.ref XS) (.ref X1) = some false)
    (xi2 : PySem.W.kitOne K (.ref XS) (.ref X2) = some false)
    (xi3 : PySem.W.kitOne K (.ref XS) (.ref X3) = some false)
    (xi4 : PySem.W.kitOne K (.ref XS) (.ref X4) = some false)
    (aMo : PySem.W.nsIn K mainGlobals "made_of" = some (some (.ref fMo)))
    (lMo : K.lookup fMo = some ⟨ocMo, odMo, .func (PySem.W.fnOf "made_of" "made_of" (defArgs sMo) (defBody sMo) (defScope sMo) .none kVMo dcMo pmMo anMo cdMo ctMo), slMo⟩)
    (cMo : PySem.W.codeIn K cdMo "made_of" = true)
    (kMo : PySem.W.keepIn K (.ref fMo) = true)
    (aIi : PySem.W.nsIn K mainGlobals "is_item" = some (some (.ref fIi)))
    (lIi : K.lookup fIi = some ⟨ocIi, odIi, .func (PySem.W.fnOf "is_item" "is_item" (defArgs sIi) (defBody sIi) (defScope sIi) .none kVIi dcIi pmIi anIi cdIi ctIi), slIi⟩)
    (cIi : PySem.W.codeIn K cdIi "is_item" = true)
    (kIi : PySem.W.keepIn K (.ref fIi) = true)
    (aAl : PySem.W.nsIn K mainGlobals "all_sorts" = some (some (.ref fAl)))
    (lAl : K.lookup fAl = some ⟨ocAl, odAl, .func (PySem.W.fnOf "all_sorts" "all_sorts" (defArgs sAl) (defBody sAl) (defScope sAl) .none kVAl dcAl pmAl anAl cdAl ctAl), slAl⟩)
    (cAl : PySem.W.codeIn K cdAl "all_sorts" = true)
    (kAl : PySem.W.keepIn K (.ref fAl) = true)
    (aSo : PySem.W.nsIn K mainGlobals "sort_of" = some (some (.ref fSo)))
    (lSo : K.lookup fSo = some ⟨ocSo, odSo, .func (PySem.W.fnOf "sort_of" "sort_of" (defArgs sSo) (defBody sSo) (defScope sSo) .none kVSo dcSo pmSo anSo cdSo ctSo), slSo⟩)
    (cSo : PySem.W.codeIn K cdSo "sort_of" = true)
    (kSo : PySem.W.keepIn K (.ref fSo) = true)
    (aOf : PySem.W.nsIn K mainGlobals "_law_of" = some (some (.ref fOf)))
    (lOf : K.lookup fOf = some ⟨ocOf, odOf, .func (PySem.W.fnOf "_law_of" "_law_of" (defArgs sOf) (defBody sOf) (defScope sOf) .none kVOf dcOf pmOf anOf cdOf ctOf), slOf⟩)
    (cOf : PySem.W.codeIn K cdOf "_law_of" = true)
    (kOf : PySem.W.keepIn K (.ref fOf) = true)
    (aIn : PySem.W.nsIn K mainGlobals "_law_is_number" = some (some (.ref fIn)))
    (lIn : K.lookup fIn = some ⟨ocIn, odIn, .func (PySem.W.fnOf "_law_is_number" "_law_is_number" (defArgs sIn) (defBody sIn) (defScope sIn) .none kVIn dcIn pmIn anIn cdIn ctIn), slIn⟩)
    (cIn : PySem.W.codeIn K cdIn "_law_is_number" = true)
    (kIn : PySem.W.keepIn K (.ref fIn) = true)
    (aIm : PySem.W.nsIn K mainGlobals "_law_is_name" = some (some (.ref fIm)))
    (lIm : K.lookup fIm = some ⟨ocIm, odIm, .func (PySem.W.fnOf "_law_is_name" "_law_is_name" (defArgs sIm) (defBody sIm) (defScope sIm) .none kVIm dcIm pmIm anIm cdIm ctIm), slIm⟩)
    (cIm : PySem.W.codeIn K cdIm "_law_is_name" = true)
    (kIm : PySem.W.keepIn K (.ref fIm) = true)
    (aIl : PySem.W.nsIn K mainGlobals "_law_is_list" = some (some (.ref fIl)))
    (lIl : K.lookup fIl = some ⟨ocIl, odIl, .func (PySem.W.fnOf "_law_is_list" "_law_is_list" (defArgs sIl) (defBody sIl) (defScope sIl) .none kVIl dcIl pmIl anIl cdIl ctIl), slIl⟩)
    (cIl : PySem.W.codeIn K cdIl "_law_is_list" = true)
    (kIl : PySem.W.keepIn K (.ref fIl) = true)
    (aLs : PySem.W.nsIn K mainGlobals "_law_sort" = some (some (.ref fLs)))
    (lLs : K.lookup fLs = some ⟨ocLs, odLs, .func (PySem.W.fnOf "_law_sort" "_law_sort" (defArgs sLs) (defBody sLs) (defScope sLs) .none kVLs dcLs pmLs anLs cdLs ctLs), slLs⟩)
    (cLs : PySem.W.codeIn K cdLs "_law_sort" = true)
    (kLs : PySem.W.keepIn K (.ref fLs) = true)
    (aSi : PySem.W.nsIn K mainGlobals "_law_signs" = some (some (.ref fSi)))
    (lSi : K.lookup fSi = some ⟨ocSi, odSi, .func (PySem.W.fnOf "_law_signs" "_law_signs" (defArgs sSi) (defBody sSi) (defScope sSi) .none kVSi dcSi pmSi anSi cdSi ctSi), slSi⟩)
    (cSi : PySem.W.codeIn K cdSi "_law_signs" = true)
    (kSi : PySem.W.keepIn K (.ref fSi) = true)
    (aNu : PySem.W.nsIn K mainGlobals "_law_number_word" = some (some (.ref fNu)))
    (lNu : K.lookup fNu = some ⟨ocNu, odNu, .func (PySem.W.fnOf "_law_number_word" "_law_number_word" (defArgs sNu) (defBody sNu) (defScope sNu) .none kVNu dcNu pmNu anNu cdNu ctNu), slNu⟩)
    (cNu : PySem.W.codeIn K cdNu "_law_number_word" = true)
    (kNu : PySem.W.keepIn K (.ref fNu) = true)
    (aNa : PySem.W.nsIn K mainGlobals "_law_name_word" = some (some (.ref fNa)))
    (lNa : K.lookup fNa = some ⟨ocNa, odNa, .func (PySem.W.fnOf "_law_name_word" "_law_name_word" (defArgs sNa) (defBody sNa) (defScope sNa) .none kVNa dcNa pmNa anNa cdNa ctNa), slNa⟩)
    (cNa : PySem.W.codeIn K cdNa "_law_name_word" = true)
    (kNa : PySem.W.keepIn K (.ref fNa) = true)
    (aMk : PySem.W.nsIn K mainGlobals "_law_mark_word" = some (some (.ref fMk)))
    (lMk : K.lookup fMk = some ⟨ocMk, odMk, .func (PySem.W.fnOf "_law_mark_word" "_law_mark_word" (defArgs sMk) (defBody sMk) (defScope sMk) .none kVMk dcMk pmMk anMk cdMk ctMk), slMk⟩)
    (cMk : PySem.W.codeIn K cdMk "_law_mark_word" = true)
    (kMk : PySem.W.keepIn K (.ref fMk) = true)
    (aLi : PySem.W.nsIn K mainGlobals "_law_list_word" = some (some (.ref fLi)))
    (lLi : K.lookup fLi = some ⟨ocLi, odLi, .func (PySem.W.fnOf "_law_list_word" "_law_list_word" (defArgs sLi) (defBody sLi) (defScope sLi) .none kVLi dcLi pmLi anLi cdLi ctLi), slLi⟩)
    (cLi : PySem.W.codeIn K cdLi "_law_list_word" = true)
    (kLi : PySem.W.keepIn K (.ref fLi) = true)
    (aWo : PySem.W.nsIn K mainGlobals "_law_word" = some (some (.ref fWo)))
    (lWo : K.lookup fWo = some ⟨ocWo, odWo, .func (PySem.W.fnOf "_law_word" "_law_word" (defArgs sWo) (defBody sWo) (defScope sWo) .none kVWo dcWo pmWo anWo cdWo ctWo), slWo⟩)
    (cWo : PySem.W.codeIn K cdWo "_law_word" = true)
    (kWo : PySem.W.keepIn K (.ref fWo) = true)
    (aXn : PySem.W.nsIn K mainGlobals "number_of" = some (some (.ref fXn)))
    (lXn : K.lookup fXn = some ⟨ocXn, odXn, .func (PySem.W.fnOf "number_of" "number_of" (defArgs BT.sNu) (defBody BT.sNu) (defScope BT.sNu) .none kVXn dcXn pmXn anXn cdXn ctXn), slXn⟩)
    (cXn : PySem.W.codeIn K cdXn "number_of" = true)
    (kXn : PySem.W.keepIn K (.ref fXn) = true)
    (aPu : PySem.W.nsIn K mainGlobals "_law_put" = some (some (.ref fPu)))
    (lPu : K.lookup fPu = some ⟨ocPu, odPu, .func (PySem.W.fnOf "_law_put" "_law_put" (defArgs BT.sPu) (defBody BT.sPu) (defScope BT.sPu) .none kVPu dcPu pmPu anPu cdPu ctPu), slPu⟩)
    (cPu : PySem.W.codeIn K cdPu "_law_put" = true)
    (kPu : PySem.W.keepIn K (.ref fPu) = true)
    (aEi : PySem.W.nsIn K mainGlobals "_law_eighths" = some (some (.ref fEi)))
    (lEi : K.lookup fEi = some ⟨ocEi, odEi, .func (PySem.W.fnOf "_law_eighths" "_law_eighths" (defArgs BT.sEi) (defBody BT.sEi) (defScope BT.sEi) .none kVEi dcEi pmEi anEi cdEi ctEi), slEi⟩)
    (cEi : PySem.W.codeIn K cdEi "_law_eighths" = true)
    (kEi : PySem.W.keepIn K (.ref fEi) = true)
    (aZn : PySem.W.nsIn K mainGlobals "next_number" = some (some (.ref fZn)))
    (lZn : K.lookup fZn = some ⟨ocZn, odZn, .func (PySem.W.fnOf "next_number" "next_number" (defArgs CD.sNn) (defBody CD.sNn) (defScope CD.sNn) .none kVZn dcZn pmZn anZn cdZn ctZn), slZn⟩)
    (cZn : PySem.W.codeIn K cdZn "next_number" = true)
    (kZn : PySem.W.keepIn K (.ref fZn) = true)
    (aZs : PySem.W.nsIn K mainGlobals "next_signs" = some (some (.ref fZs)))
    (lZs : K.lookup fZs = some ⟨ocZs, odZs, .func (PySem.W.fnOf "next_signs" "next_signs" (defArgs CD.sNs) (defBody CD.sNs) (defScope CD.sNs) .none kVZs dcZs pmZs anZs cdZs ctZs), slZs⟩)
    (cZs : PySem.W.codeIn K cdZs "next_signs" = true)
    (kZs : PySem.W.keepIn K (.ref fZs) = true)
    (aZi : PySem.W.nsIn K mainGlobals "next_items" = some (some (.ref fZi)))
    (lZi : K.lookup fZi = some ⟨ocZi, odZi, .func (PySem.W.fnOf "next_items" "next_items" (defArgs CD.sNi) (defBody CD.sNi) (defScope CD.sNi) .none kVZi dcZi pmZi anZi cdZi ctZi), slZi⟩)
    (cZi : PySem.W.codeIn K cdZi "next_items" = true)
    (kZi : PySem.W.keepIn K (.ref fZi) = true)
    (aZt : PySem.W.nsIn K mainGlobals "text_read" = some (some (.ref fZt)))
    (lZt : K.lookup fZt = some ⟨ocZt, odZt, .func (PySem.W.fnOf "text_read" "text_read" (defArgs CD.sTr) (defBody CD.sTr) (defScope CD.sTr) .none kVZt dcZt pmZt anZt cdZt ctZt), slZt⟩)
    (cZt : PySem.W.codeIn K cdZt "text_read" = true)
    (kZt : PySem.W.keepIn K (.ref fZt) = true)
    (aZw : PySem.W.nsIn K mainGlobals "next_word" = some (some (.ref fZw)))
    (lZw : K.lookup fZw = some ⟨ocZw, odZw, .func (PySem.W.fnOf "next_word" "next_word" (defArgs CD.sNw) (defBody CD.sNw) (defScope CD.sNw) .none kVZw dcZw pmZw anZw cdZw ctZw), slZw⟩)
    (cZw : PySem.W.codeIn K cdZw "next_word" = true)
    (kZw : PySem.W.keepIn K (.ref fZw) = true)
    (aMb : PySem.W.nsIn K mainGlobals "_law_many_bits" = some (some (.ref fMb)))
    (lMb : K.lookup fMb = some ⟨ocMb, odMb, .func (PySem.W.fnOf "_law_many_bits" "_law_many_bits" (defArgs CD.sMb) (defBody CD.sMb) (defScope CD.sMb) .none kVMb dcMb pmMb anMb cdMb ctMb), slMb⟩)
    (cMb : PySem.W.codeIn K cdMb "_law_many_bits" = true)
    (kMb : PySem.W.keepIn K (.ref fMb) = true)
    (aPl : PySem.W.nsIn K mainGlobals "_law_place" = some (some (.ref fPl)))
    (lPl : K.lookup fPl = some ⟨ocPl, odPl, .func (PySem.W.fnOf "_law_place" "_law_place" (defArgs CD.sPl) (defBody CD.sPl) (defScope CD.sPl) .none kVPl dcPl pmPl anPl cdPl ctPl), slPl⟩)
    (cPl : PySem.W.codeIn K cdPl "_law_place" = true)
    (kPl : PySem.W.keepIn K (.ref fPl) = true)
    (aQs : PySem.W.nsIn K mainGlobals "_law_put_signs" = some (some (.ref fQs)))
    (lQs : K.lookup fQs = some ⟨ocQs, odQs, .func (PySem.W.fnOf "_law_put_signs" "_law_put_signs" (defArgs CD.sQs) (defBody CD.sQs) (defScope CD.sQs) .none kVQs dcQs pmQs anQs cdQs ctQs), slQs⟩)
    (cQs : PySem.W.codeIn K cdQs "_law_put_signs" = true)
    (kQs : PySem.W.keepIn K (.ref fQs) = true)
    (aQn : PySem.W.nsIn K mainGlobals "_law_put_number" = some (some (.ref fQn)))
    (lQn : K.lookup fQn = some ⟨ocQn, odQn, .func (PySem.W.fnOf "_law_put_number" "_law_put_number" (defArgs CD.sQn) (defBody CD.sQn) (defScope CD.sQn) .none kVQn dcQn pmQn anQn cdQn ctQn), slQn⟩)
    (cQn : PySem.W.codeIn K cdQn "_law_put_number" = true)
    (kQn : PySem.W.keepIn K (.ref fQn) = true)
    (aQw : PySem.W.nsIn K mainGlobals "_law_put_word" = some (some (.ref fQw)))
    (lQw : K.lookup fQw = some ⟨ocQw, odQw, .func (PySem.W.fnOf "_law_put_word" "_law_put_word" (defArgs CD.sQw) (defBody CD.sQw) (defScope CD.sQw) .none kVQw dcQw pmQw anQw cdQw ctQw), slQw⟩)
    (cQw : PySem.W.codeIn K cdQw "_law_put_word" = true)
    (kQw : PySem.W.keepIn K (.ref fQw) = true)
    (aCe : PySem.W.nsIn K mainGlobals "_law_cell_at" = some (some (.ref fCe)))
    (lCe : K.lookup fCe = some ⟨ocCe, odCe, .func (PySem.W.fnOf "_law_cell_at" "_law_cell_at" (defArgs CD.sCe) (defBody CD.sCe) (defScope CD.sCe) .none kVCe dcCe pmCe anCe cdCe ctCe), slCe⟩)
    (cCe : PySem.W.codeIn K cdCe "_law_cell_at" = true)
    (kCe : PySem.W.keepIn K (.ref fCe) = true)
    (aNm : PySem.W.nsIn K mainGlobals "_law_numbers" = some (some (.ref fNm)))
    (lNm : K.lookup fNm = some ⟨ocNm, odNm, .func (PySem.W.fnOf "_law_numbers" "_law_numbers" (defArgs CD.sNm) (defBody CD.sNm) (defScope CD.sNm) .none kVNm dcNm pmNm anNm cdNm ctNm), slNm⟩)
    (cNm : PySem.W.codeIn K cdNm "_law_numbers" = true)
    (kNm : PySem.W.keepIn K (.ref fNm) = true)
    (aBi : PySem.W.nsIn K mainGlobals "_law_bits" = some (some (.ref fBi)))
    (lBi : K.lookup fBi = some ⟨ocBi, odBi, .func (PySem.W.fnOf "_law_bits" "_law_bits" (defArgs CD.sBi) (defBody CD.sBi) (defScope CD.sBi) .none kVBi dcBi pmBi anBi cdBi ctBi), slBi⟩)
    (cBi : PySem.W.codeIn K cdBi "_law_bits" = true)
    (kBi : PySem.W.keepIn K (.ref fBi) = true)
    (aZ : PySem.W.nsIn K mainGlobals "law" = some (some (.ref fZ)))
    (lZ : K.lookup fZ = some ⟨ocZ, odZ, .func (PySem.W.fnOf "law" "law" (defArgs sLaw) (defBody sLaw) (defScope sLaw) .none kVZ dcZ pmZ anZ cdZ ctZ), slZ⟩)
    (cZ : PySem.W.codeIn K cdZ "law" = true)
    (kZ : PySem.W.keepIn K (.ref fZ) = true)
    (aPt : PySem.W.findIn K (.ref C0) "takes" = some (some (.ref fPt)))
    (iPt : PySem.W.isFn K (.ref fPt) = true)
    (lPt : K.lookup fPt = some ⟨ocPt, odPt, .func (PySem.W.fnOf "takes" "Sort.takes" (defArgs sPt) (defBody sPt) (defScope sPt) .none kVPt dcPt pmPt anPt cdPt ctPt), slPt⟩)
    (cPt : PySem.W.codeIn K cdPt "Sort.takes" = true)
    (kPt : PySem.W.keepIn K (.ref fPt) = true)
    (aPw : PySem.W.findIn K (.ref C0) "word" = some (some (.ref fPw)))
    (iPw : PySem.W.isFn K (.ref fPw) = true)
    (lPw : K.lookup fPw = some ⟨ocPw, odPw, .func (PySem.W.fnOf "word" "Sort.word" (defArgs sPw) (defBody sPw) (defScope sPw) .none kVPw dcPw pmPw anPw cdPw ctPw), slPw⟩)
    (cPw : PySem.W.codeIn K cdPw "Sort.word" = true)
    (kPw : PySem.W.keepIn K (.ref fPw) = true)
    (aNt : PySem.W.findIn K (.ref CN) "takes" = some (some (.ref fNt)))
    (iNt : PySem.W.isFn K (.ref fNt) = true)
    (lNt : K.lookup fNt = some ⟨ocNt, odNt, .func (PySem.W.fnOf "takes" "Number.takes" (defArgs sNt) (defBody sNt) (defScope sNt) .none kVNt dcNt pmNt anNt cdNt ctNt), slNt⟩)
    (cNt : PySem.W.codeIn K cdNt "Number.takes" = true)
    (kNt : PySem.W.keepIn K (.ref fNt) = true)
    (aNw : PySem.W.findIn K (.ref CN) "word" = some (some (.ref fNw)))
    (iNw : PySem.W.isFn K (.ref fNw) = true)
    (lNw : K.lookup fNw = some ⟨ocNw, odNw, .func (PySem.W.fnOf "word" "Number.word" (defArgs sNw) (defBody sNw) (defScope sNw) .none kVNw dcNw pmNw anNw cdNw ctNw), slNw⟩)
    (cNw : PySem.W.codeIn K cdNw "Number.word" = true)
    (kNw : PySem.W.keepIn K (.ref fNw) = true)
    (aAt : PySem.W.findIn K (.ref CA) "takes" = some (some (.ref fAt)))
    (iAt : PySem.W.isFn K (.ref fAt) = true)
    (lAt : K.lookup fAt = some ⟨ocAt, odAt, .func (PySem.W.fnOf "takes" "Name.takes" (defArgs sAt) (defBody sAt) (defScope sAt) .none kVAt dcAt pmAt anAt cdAt ctAt), slAt⟩)
    (cAt : PySem.W.codeIn K cdAt "Name.takes" = true)
    (kAt : PySem.W.keepIn K (.ref fAt) = true)
    (aAw : PySem.W.findIn K (.ref CA) "word" = some (some (.ref fAw)))
    (iAw : PySem.W.isFn K (.ref fAw) = true)
    (lAw : K.lookup fAw = some ⟨ocAw, odAw, .func (PySem.W.fnOf "word" "Name.word" (defArgs sAw) (defBody sAw) (defScope sAw) .none kVAw dcAw pmAw anAw cdAw ctAw), slAw⟩)
    (cAw : PySem.W.codeIn K cdAw "Name.word" = true)
    (kAw : PySem.W.keepIn K (.ref fAw) = true)
    (aIt : PySem.W.findIn K (.ref CI) "takes" = some (some (.ref fIt)))
    (iIt : PySem.W.isFn K (.ref fIt) = true)
    (lIt : K.lookup fIt = some ⟨ocIt, odIt, .func (PySem.W.fnOf "takes" "Items.takes" (defArgs sIt) (defBody sIt) (defScope sIt) .none kVIt dcIt pmIt anIt cdIt ctIt), slIt⟩)
    (cIt : PySem.W.codeIn K cdIt "Items.takes" = true)
    (kIt : PySem.W.keepIn K (.ref fIt) = true)
    (aIw : PySem.W.findIn K (.ref CI) "word" = some (some (.ref fIw)))
    (iIw : PySem.W.isFn K (.ref fIw) = true)
    (lIw : K.lookup fIw = some ⟨ocIw, odIw, .func (PySem.W.fnOf "word" "Items.word" (defArgs sIw) (defBody sIw) (defScope sIw) .none kVIw dcIw pmIw anIw cdIw ctIw), slIw⟩)
    (cIw : PySem.W.codeIn K cdIw "Items.word" = true)
    (kIw : PySem.W.keepIn K (.ref fIw) = true)
    (aKt : PySem.W.findIn K (.ref CK) "takes" = some (some (.ref fKt)))
    (iKt : PySem.W.isFn K (.ref fKt) = true)
    (lKt : K.lookup fKt = some ⟨ocKt, odKt, .func (PySem.W.fnOf "takes" "Mark.takes" (defArgs sKt) (defBody sKt) (defScope sKt) .none kVKt dcKt pmKt anKt cdKt ctKt), slKt⟩)
    (cKt : PySem.W.codeIn K cdKt "Mark.takes" = true)
    (kKt : PySem.W.keepIn K (.ref fKt) = true)
    (aKw : PySem.W.findIn K (.ref CK) "word" = some (some (.ref fKw)))
    (iKw : PySem.W.isFn K (.ref fKw) = true)
    (lKw : K.lookup fKw = some ⟨ocKw, odKw, .func (PySem.W.fnOf "word" "Mark.word" (defArgs sKw) (defBody sKw) (defScope sKw) .none kVKw dcKw pmKw anKw cdKw ctKw), slKw⟩)
    (cKw : PySem.W.codeIn K cdKw "Mark.word" = true)
    (kKw : PySem.W.keepIn K (.ref fKw) = true)
    (aRi : PySem.W.findIn K (.ref CR) "__init__" = some (some (.ref fRi)))
    (iRi : PySem.W.isFn K (.ref fRi) = true)
    (lRi : K.lookup fRi = some ⟨ocRi, odRi, .func (PySem.W.fnOf "__init__" "Reader.__init__" (defArgs BT.sRi) (defBody BT.sRi) (defScope BT.sRi) .none kVRi dcRi pmRi anRi cdRi ctRi), slRi⟩)
    (cRi : PySem.W.codeIn K cdRi "Reader.__init__" = true)
    (kRi : PySem.W.keepIn K (.ref fRi) = true)
    (aRb : PySem.W.findIn K (.ref CR) "bits" = some (some (.ref fRb)))
    (iRb : PySem.W.isFn K (.ref fRb) = true)
    (lRb : K.lookup fRb = some ⟨ocRb, odRb, .func (PySem.W.fnOf "bits" "Reader.bits" (defArgs BT.sRb) (defBody BT.sRb) (defScope BT.sRb) .none kVRb dcRb pmRb anRb cdRb ctRb), slRb⟩)
    (cRb : PySem.W.codeIn K cdRb "Reader.bits" = true)
    (kRb : PySem.W.keepIn K (.ref fRb) = true)
    (aRl : PySem.W.findIn K (.ref CR) "left" = some (some (.ref fRl)))
    (iRl : PySem.W.isFn K (.ref fRl) = true)
    (lRl : K.lookup fRl = some ⟨ocRl, odRl, .func (PySem.W.fnOf "left" "Reader.left" (defArgs BT.sRl) (defBody BT.sRl) (defScope BT.sRl) .none kVRl dcRl pmRl anRl cdRl ctRl), slRl⟩)
    (cRl : PySem.W.codeIn K cdRl "Reader.left" = true)
    (kRl : PySem.W.keepIn K (.ref fRl) = true)
    (qf : PySem.W.nsIn K mainGlobals "FIGURES" = some (some (.str FIG tkf)))
    (qs : PySem.W.nsIn K mainGlobals "SMALL_LETTERS" = some (some (.str SMA tks)))
    (qn : PySem.W.nsIn K mainGlobals "NAME_SIGNS" = some (some (.str NAM tkn)))
    (qm : PySem.W.nsIn K mainGlobals "MARK_SIGNS" = some (some (.str MAR tkm)))
    (qa : PySem.W.nsIn K mainGlobals "MOST_FIGURES" = some (some (.int 9 tka)))
    (qb : PySem.W.nsIn K mainGlobals "MOST_SIGNS" = some (some (.int 12 tkb)))
    (qc : PySem.W.nsIn K mainGlobals "MOST_ITEMS" = some (some (.int 4 tkc)))
    (q8 : PySem.W.nsIn K mainGlobals "WIDE" = some (some (.int 8 tk8)))
    (zall : PySem.W.nsIn K mainGlobals "all" = some none)
    (ztup : PySem.W.nsIn K mainGlobals "tuple" = some none)
    (zlist : PySem.W.nsIn K mainGlobals "list" = some none)
    (zint : PySem.W.nsIn K mainGlobals "int" = some none)
    (zmax : PySem.W.nsIn K mainGlobals "max" = some none)
    (zmin : PySem.W.nsIn K mainGlobals "min" = some none)
    (zverr : PySem.W.nsIn K mainGlobals "ValueError" = some none)
    (zlen : PySem.W.nsIn K mainGlobals "len" = some none)
    (zrange : PySem.W.nsIn K mainGlobals "range" = some none)
    (zisin : PySem.W.nsIn K mainGlobals "isinstance" = some none)
    (zstr : PySem.W.nsIn K mainGlobals "str" = some none)
    (zbool : PySem.W.nsIn K mainGlobals "bool" = some none)
    (zzip : PySem.W.nsIn K mainGlobals "zip" = some none)
    : ∃ fd : FuncData, (∀ (s : Shared) (v : Value), BindsTo s fd ⟨[v], []⟩ [("_law_script", v)]) ∧ ∀ base : Heap, K.In base → base.Ns mainGlobals mg → FnOk l.prog w K mg base CX0 10 fa fd ["_law_script"] (spLaw K) := by
  have e := hfa.symm.trans (PySem.W.mg_of X G aZ)
  cases e
  have T : Txt mg := ⟨PySem.W.mg_none_of X G zlen, PySem.W.mg_none_of X G zrange, PySem.W.mg_none_of X G zisin, PySem.W.mg_none_of X G zstr, PySem.W.mg_none_of X G zbool, PySem.W.mg_none_of X G zzip⟩
  have mgC0 := PySem.W.mg_of X G aC0
  have clC0 : Cls K C0 := ⟨pgC0, hdC0, poC0, saC0⟩
  have MC0 : MkN K C0 := ⟨mkC0, inC0, kcC0⟩
  have mgCN := PySem.W.mg_of X G aCN
  have clCN : Cls K CN := ⟨pgCN, hdCN, poCN, saCN⟩
  have MCN : MkN K CN := ⟨mkCN, inCN, kcCN⟩
  have mgCA := PySem.W.mg_of X G aCA
  have clCA : Cls K CA := ⟨pgCA, hdCA, poCA, saCA⟩
  have MCA : MkN K CA := ⟨mkCA, inCA, kcCA⟩
  have mgCI := PySem.W.mg_of X G aCI
  have clCI : Cls K CI := ⟨pgCI, hdCI, poCI, saCI⟩
  have MCI : MkN K CI := ⟨mkCI, inCI, kcCI⟩
  have mgCK := PySem.W.mg_of X G aCK
  have clCK : Cls K CK := ⟨pgCK, hdCK, poCK, saCK⟩
  have MCK : MkN K CK := ⟨mkCK, inCK, kcCK⟩
  have mgaI := PySem.W.mg_of X G aaI
  have mgXS := PySem.W.mg_of X G aXS
  have mgXL := PySem.W.mg_of X G aXL
  have mgX0 := PySem.W.mg_of X G aX0
  have mgX1 := PySem.W.mg_of X G aX1
  have mgX2 := PySem.W.mg_of X G aX2
  have mgX3 := PySem.W.mg_of X G aX3
  have mgX4 := PySem.W.mg_of X G aX4
  have mgCR := PySem.W.mg_of X G aCR
  have clCR : Cls K CR := ⟨pgCR, hdCR, poCR, saCR⟩
  have FMo := fun_mk (st := sMo) lMo cMo kMo
  have bMo := FMo.binds (ps := ["signs", "text"]) fun _ _ _ _ _ _ us hl => match us, hl with | [_, _], _ => rfl
  have FIi := fun_mk (st := sIi) lIi cIi kIi
  have bIi := FIi.binds (ps := ["text"]) fun _ _ _ _ _ _ us hl => match us, hl with | [_], _ => rfl
  have FAl := fun_mk (st := sAl) lAl cAl kAl
  have bAl := FAl.binds (ps := []) fun _ _ _ _ _ _ us hl => match us, hl with | [], _ => rfl
  have FSo := fun_mk (st := sSo) lSo cSo kSo
  have bSo := FSo.binds (ps := ["text"]) fun _ _ _ _ _ _ us hl => match us, hl with | [_], _ => rfl
  have FOf := fun_mk (st := sOf) lOf cOf kOf
  have bOf := FOf.binds (ps := ["_law_text", "_law_signs_here"]) fun _ _ _ _ _ _ us hl => match us, hl with | [_, _], _ => rfl
  have FIn := fun_mk (st := sIn) lIn cIn kIn
  have bIn := FIn.binds (ps := ["_law_text"]) fun _ _ _ _ _ _ us hl => match us, hl with | [_], _ => rfl
  have FIm := fun_mk (st := sIm) lIm cIm kIm
  have bIm := FIm.binds (ps := ["_law_text"]) fun _ _ _ _ _ _ us hl => match us, hl with | [_], _ => rfl
  have FIl := fun_mk (st := sIl) lIl cIl kIl
  have bIl := FIl.binds (ps := ["_law_text"]) fun _ _ _ _ _ _ us hl => match us, hl with | [_], _ => rfl
  have FLs := fun_mk (st := sLs) lLs cLs kLs
  have bLs := FLs.binds (ps := ["_law_text"]) fun _ _ _ _ _ _ us hl => match us, hl with | [_], _ => rfl
  have FSi := fun_mk (st := sSi) lSi cSi kSi
  have bSi := FSi.binds (ps := ["_law_cell", "_law_many", "_law_signs_here"]) fun _ _ _ _ _ _ us hl => match us, hl with | [_, _, _], _ => rfl
  have FNu := fun_mk (st := sNu) lNu cNu kNu
  have bNu := FNu.binds (ps := ["_law_cell"]) fun _ _ _ _ _ _ us hl => match us, hl with | [_], _ => rfl
  have FNa := fun_mk (st := sNa) lNa cNa kNa
  have bNa := FNa.binds (ps := ["_law_cell"]) fun _ _ _ _ _ _ us hl => match us, hl with | [_], _ => rfl
  have FMk := fun_mk (st := sMk) lMk cMk kMk
  have bMk := FMk.binds (ps := ["_law_cell"]) fun _ _ _ _ _ _ us hl => match us, hl with | [_], _ => rfl
  have FLi := fun_mk (st := sLi) lLi cLi kLi
  have bLi := FLi.binds (ps := ["_law_cell"]) fun _ _ _ _ _ _ us hl => match us, hl with | [_], _ => rfl
  have FWo := fun_mk (st := sWo) lWo cWo kWo
  have bWo := FWo.binds (ps := ["_law_cell"]) fun _ _ _ _ _ _ us hl => match us, hl with | [_], _ => rfl
  have FXn := fun_mk (st := BT.sNu) lXn cXn kXn
  have bXn := FXn.binds (ps := ["bits"]) fun _ _ _ _ _ _ us hl => match us, hl with | [_], _ => rfl
  have FPu := fun_mk (st := BT.sPu) lPu cPu kPu
  have bPu := FPu.binds (ps := ["_law_bits_here", "_law_number", "_law_wide"]) fun _ _ _ _ _ _ us hl => match us, hl with | [_, _, _], _ => rfl
  have FEi := fun_mk (st := BT.sEi) lEi cEi kEi
  have bEi := FEi.binds (ps := ["_law_bits_here"]) fun _ _ _ _ _ _ us hl => match us, hl with | [_], _ => rfl
  have FZn := fun_mk (st := CD.sNn) lZn cZn kZn
  have bZn := FZn.binds (ps := ["reader"]) fun _ _ _ _ _ _ us hl => match us, hl with | [_], _ => rfl
  have FZs := fun_mk (st := CD.sNs) lZs cZs kZs
  have bZs := FZs.binds (ps := ["reader", "signs", "wide"]) fun _ _ _ _ _ _ us hl => match us, hl with | [_, _, _], _ => rfl
  have FZi := fun_mk (st := CD.sNi) lZi cZi kZi
  have bZi := FZi.binds (ps := ["reader"]) fun _ _ _ _ _ _ us hl => match us, hl with | [_], _ => rfl
  have FZt := fun_mk (st := CD.sTr) lZt cZt kZt
  have bZt := FZt.binds (ps := ["reader", "sort"]) fun _ _ _ _ _ _ us hl => match us, hl with | [_, _], _ => rfl
  have FZw := fun_mk (st := CD.sNw) lZw cZw kZw
  have bZw := FZw.binds (ps := ["reader", "sort"]) fun _ _ _ _ _ _ us hl => match us, hl with | [_, _], _ => rfl
  have FMb := fun_mk (st := CD.sMb) lMb cMb kMb
  have bMb := FMb.binds (ps := ["_law_number"]) fun _ _ _ _ _ _ us hl => match us, hl with | [_], _ => rfl
  have FPl := fun_mk (st := CD.sPl) lPl cPl kPl
  have bPl := FPl.binds (ps := ["_law_sign", "_law_signs_here"]) fun _ _ _ _ _ _ us hl => match us, hl with | [_, _], _ => rfl
  have FQs := fun_mk (st := CD.sQs) lQs cQs kQs
  have bQs := FQs.binds (ps := ["_law_bits_here", "_law_word_here", "_law_great"]) fun _ _ _ _ _ _ us hl => match us, hl with | [_, _, _], _ => rfl
  have FQn := fun_mk (st := CD.sQn) lQn cQn kQn
  have bQn := FQn.binds (ps := ["_law_bits_here", "_law_word_here"]) fun _ _ _ _ _ _ us hl => match us, hl with | [_, _], _ => rfl
  have FQw := fun_mk (st := CD.sQw) lQw cQw kQw
  have bQw := FQw.binds (ps := ["_law_bits_here", "_law_sort_here", "_law_word_here"]) fun _ _ _ _ _ _ us hl => match us, hl with | [_, _, _], _ => rfl
  have FCe := fun_mk (st := CD.sCe) lCe cCe kCe
  have bCe := FCe.binds (ps := ["_law_script", "_law_k"]) fun _ _ _ _ _ _ us hl => match us, hl with | [_, _], _ => rfl
  have FNm := fun_mk (st := CD.sNm) lNm cNm kNm
  have bNm := FNm.binds (ps := ["_law_cells", "_law_word_here"]) fun _ _ _ _ _ _ us hl => match us, hl with | [_, _], _ => rfl
  have FBi := fun_mk (st := CD.sBi) lBi cBi kBi
  have bBi := FBi.binds (ps := ["_law_numbers_here"]) fun _ _ _ _ _ _ us hl => match us, hl with | [_], _ => rfl
  have FZ := fun_mk (st := sLaw) lZ cZ kZ
  have FPt := fun_mk (st := sPt) lPt cPt kPt
  have bPt := FPt.binds (ps := ["self", "text"]) fun _ _ _ _ _ _ us hl => match us, hl with | [_, _], _ => rfl
  have FPw := fun_mk (st := sPw) lPw cPw kPw
  have bPw := FPw.binds (ps := ["self"]) fun _ _ _ _ _ _ us hl => match us, hl with | [_], _ => rfl
  have FNt := fun_mk (st := sNt) lNt cNt kNt
  have bNt := FNt.binds (ps := ["self", "text"]) fun _ _ _ _ _ _ us hl => match us, hl with | [_, _], _ => rfl
  have FNw := fun_mk (st := sNw) lNw cNw kNw
  have bNw := FNw.binds (ps := ["self"]) fun _ _ _ _ _ _ us hl => match us, hl with | [_], _ => rfl
  have FAt := fun_mk (st := sAt) lAt cAt kAt
  have bAt := FAt.binds (ps := ["self", "text"]) fun _ _ _ _ _ _ us hl => match us, hl with | [_, _], _ => rfl
  have FAw := fun_mk (st := sAw) lAw cAw kAw
  have bAw := FAw.binds (ps := ["self"]) fun _ _ _ _ _ _ us hl => match us, hl with | [_], _ => rfl
  have FIt := fun_mk (st := sIt) lIt cIt kIt
  have bIt := FIt.binds (ps := ["self", "text"]) fun _ _ _ _ _ _ us hl => match us, hl with | [_, _], _ => rfl
  have FIw := fun_mk (st := sIw) lIw cIw kIw
  have bIw := FIw.binds (ps := ["self"]) fun _ _ _ _ _ _ us hl => match us, hl with | [_], _ => rfl
  have FKt := fun_mk (st := sKt) lKt cKt kKt
  have bKt := FKt.binds (ps := ["self", "text"]) fun _ _ _ _ _ _ us hl => match us, hl with | [_, _], _ => rfl
  have FKw := fun_mk (st := sKw) lKw cKw kKw
  have bKw := FKw.binds (ps := ["self"]) fun _ _ _ _ _ _ us hl => match us, hl with | [_], _ => rfl
  have FRi := fun_mk (st := BT.sRi) lRi cRi kRi
  have bRi := FRi.binds (ps := ["self", "numbers"]) fun _ _ _ _ _ _ us hl => match us, hl with | [_, _], _ => rfl
  have FRb := fun_mk (st := BT.sRb) lRb cRb kRb
  have bRb := FRb.binds (ps := ["self", "wide"]) fun _ _ _ _ _ _ us hl => match us, hl with | [_, _], _ => rfl
  have FRl := fun_mk (st := BT.sRl) lRl cRl kRl
  have bRl := FRl.binds (ps := ["self"]) fun _ _ _ _ _ _ us hl => match us, hl with | [_], _ => rfl
  have gMo := PySem.W.mg_of X G aMo
  have gIi := PySem.W.mg_of X G aIi
  have gAl := PySem.W.mg_of X G aAl
  have gSo := PySem.W.mg_of X G aSo
  have gOf := PySem.W.mg_of X G aOf
  have gIn := PySem.W.mg_of X G aIn
  have gIm := PySem.W.mg_of X G aIm
  have gIl := PySem.W.mg_of X G aIl
  have gLs := PySem.W.mg_of X G aLs
  have gSi := PySem.W.mg_of X G aSi
  have gNu := PySem.W.mg_of X G aNu
  have gNa := PySem.W.mg_of X G aNa
  have gMk := PySem.W.mg_of X G aMk
  have gLi := PySem.W.mg_of X G aLi
  have gWo := PySem.W.mg_of X G aWo
  have gXn := PySem.W.mg_of X G aXn
  have gPu := PySem.W.mg_of X G aPu
  have gEi := PySem.W.mg_of X G aEi
  have gZn := PySem.W.mg_of X G aZn
  have gZs := PySem.W.mg_of X G aZs
  have gZi := PySem.W.mg_of X G aZi
  have gZt := PySem.W.mg_of X G aZt
  have gZw := PySem.W.mg_of X G aZw
  have gMb := PySem.W.mg_of X G aMb
  have gPl := PySem.W.mg_of X G aPl
  have gQs := PySem.W.mg_of X G aQs
  have gQn := PySem.W.mg_of X G aQn
  have gQw := PySem.W.mg_of X G aQw
  have gCe := PySem.W.mg_of X G aCe
  have gNm := PySem.W.mg_of X G aNm
  have gBi := PySem.W.mg_of X G aBi
  have mPt : Meth K C0 "takes" fPt := ⟨aPt, iPt, kPt⟩
  have mPw : Meth K C0 "word" fPw := ⟨aPw, iPw, kPw⟩
  have mNt : Meth K CN "takes" fNt := ⟨aNt, iNt, kNt⟩
  have mNw : Meth K CN "word" fNw := ⟨aNw, iNw, kNw⟩
  have mAt : Meth K CA "takes" fAt := ⟨aAt, iAt, kAt⟩
  have mAw : Meth K CA "word" fAw := ⟨aAw, iAw, kAw⟩
  have mIt : Meth K CI "takes" fIt := ⟨aIt, iIt, kIt⟩
  have mIw : Meth K CI "word" fIw := ⟨aIw, iIw, kIw⟩
  have mKt : Meth K CK "takes" fKt := ⟨aKt, iKt, kKt⟩
  have mKw : Meth K CK "word" fKw := ⟨aKw, iKw, kKw⟩
  have MCR : Mk K CR fRi := ⟨mkCR, aRi, iRi, kcCR⟩
  have mRb : Meth K CR "bits" fRb := ⟨aRb, iRb, kRb⟩
  have mRl : Meth K CR "left" fRl := ⟨aRl, iRl, kRl⟩
  have TT : TS mg := ⟨T.len, PySem.W.mg_none_of X G zall, ⟨_, PySem.W.mg_of X G qf, _, rfl⟩, ⟨_, PySem.W.mg_of X G qs, _, rfl⟩, ⟨_, PySem.W.mg_of X G qn, _, rfl⟩, ⟨_, PySem.W.mg_of X G qm, _, rfl⟩, ⟨_, PySem.W.mg_of X G qa, _, rfl⟩, ⟨_, PySem.W.mg_of X G qb, _, rfl⟩, ⟨_, PySem.W.mg_of X G qc, _, rfl⟩⟩
  have g8 := PySem.W.mg_of X G q8
  have r8 : RelV (.int 8) (Value.int 8 tk8) := ⟨_, rfl⟩
  have YR : BT.RdK K CR := ⟨clCR, nCR_numbers, nCR_taken⟩
  have T2 : BT.Txt mg := ⟨T.len, T.range, (PySem.W.mg_none_of X G ztup), T.isin, (PySem.W.mg_none_of X G zlist), (PySem.W.mg_none_of X G zint), T.bool, (PySem.W.mg_none_of X G zmax), (PySem.W.mg_none_of X G zverr)⟩
  have T3 : CD.Tc mg := ⟨T.len, T.range, T.str, (PySem.W.mg_none_of X G zint)⟩
  have N : CD.SpK K mg XS XL X0 X1 X2 X3 X4 := ⟨mgXS, mgXL, mgX0, xi0, mgX1, xi1, mgX2, xi2, mgX3, xi3, mgX4, xi4, xiS, xge, xtL⟩
  exact ⟨PySem.W.fnOf "law" "law" (defArgs sLaw) (defBody sLaw) (defScope sLaw) .none kVZ dcZ pmZ anZ cdZ ctZ, fun s v => .of_eq rfl, fun base _ _ => ok_all FZ T TT T2 T3 (PySem.W.mg_none_of X G zmin) g8 r8 mgaI hIs YR MCR mgCR N xex FRi bRi FRb bRb mRb FRl bRl mRl ⟨MC0, mgC0, clC0, mPt, bPt, mPw, bPw⟩ FPt FPw ⟨MCN, mgCN, clCN, mNt, bNt, mNw, bNw⟩ FNt FNw ⟨MCA, mgCA, clCA, mAt, bAt, mAw, bAw⟩ FAt FAw ⟨MCI, mgCI, clCI, mIt, bIt, mIw, bIw⟩ FIt FIw ⟨MCK, mgCK, clCK, mKt, bKt, mKw, bKw⟩ FKt FKw FMo bMo gMo FIi bIi gIi FAl bAl gAl FSo bSo gSo FOf bOf gOf FIn bIn gIn FIm bIm gIm FIl bIl gIl FLs bLs gLs FSi bSi gSi FNu bNu gNu FNa bNa gNa FMk bMk gMk FLi bLi gLi FWo bWo gWo FXn bXn gXn FPu bPu gPu FEi bEi gEi FZn bZn gZn FZs bZs gZs FZi bZi gZi FZt bZt gZt FZw bZw gZw FMb bMb gMb FPl bPl gPl FQs bQs gQs FQn bQn gQn FQw bQw gQw FCe bCe gCe FNm bNm gNm FBi bBi gBi⟩
theorem walk {l : PySem.W.OpenLaw} {q : Program} {loose : List Str} {XP : (Str → Option Value) → Heap → Prop} {YP : World → Heap → Prop} {d : DefRec} {K : Params → PySem.W.Frag} (hn : l.most = some 63) (hdf : d.params.defaults = [])
    (hY : ∀ (w : World) (h : Heap), YP w h → (K w.params).In h)
    (F : ∀ (w : World) (mg : Str → Option Value) (fa : Addr) (h : Heap), (K w.params).In h → h.Ns mainGlobals mg → mg d.name = some (.ref fa) →
      ∃ fd : FuncData, (∀ (s : Shared) (u : Value), BindsTo s fd ⟨[u], []⟩ [("_law_script", u)]) ∧ ∀ base : Heap, (K w.params).In base → base.Ns mainGlobals mg → FnOk l.prog w (K w.params) mg base CX0 10 fa fd ["_law_script"] (spLaw (K w.params))) :
    PySem.W.WalkO q loose XP YP l.row.toRowW d [] (fun f vs => PySem.call f vs) :=
  L2.walk_of (n := 63) (k := 10) (x := "_law_script") (CX := fun _ => CX0) (sp := fun w => spLaw (K w.params)) hn (by decide) hdf ⟨rfl, by decide, by decide⟩ hY F (fun _ _ a ns hl _ hS => ⟨a, ns, rfl, hS, hl, fun _ => rfl⟩) fun _ _ _ _ _ z => z
end SL
open PySem PySem.W PyProof.Rows
set_option maxRecDepth 100000 in
set_option maxHeartbeats 0 in
theorem PySem.Challenge.cw_logloom_k72_bits_without_a_word_holds : PySem.Challenge.rw_logloom_k72_bits_without_a_word.Holds := by
  w_on; o_law
  refine PySem.W.holds_open (q := SL.hQ) (loose := []) (Xt := SL.hX)
    (XP := PySem.W.XL SL.hQ [])
    (Yf := (PySem.W.kHook SL.hK SL.hA SL.hE).obs) (Ya := (PySem.W.kHook SL.hK SL.hA SL.hE).val)
    (YP := (PySem.W.kHook SL.hK SL.hA SL.hE).says)
    (N := 8764) SL.hL (PySem.W.kHook SL.hK SL.hA SL.hE).of (PySem.W.kHook SL.hK SL.hA SL.hE).keeps
    (fun s e => PySem.W.xl_of s (Bool.and_eq_true_iff.mp e).1) PySem.W.XL.keeps
    rfl rfl rfl
    (fun s e => PySem.W.recFacts_of (Bool.and_eq_true_iff.mp e).2)
    rfl (by first | assumption | decide +kernel) (by decide +kernel)
    ⟨rfl, rfl, rfl, rfl, rfl, by decide +kernel⟩ ?hw ?hc
  case hw => w_witness2
  k_fill
  refine SL.walk (l := PySem.Challenge.rw_logloom_k72_bits_without_a_word) rfl rfl (fun w h Y => PySem.W.kIn_of Y) ?F
  case F =>
    intro w mg fa h KX G hmg
    refine' SL.all_mk KX G hmg ?aC0 ?pgC0 ?hdC0 ?poC0 ?saC0 ?mkC0 ?kcC0 ?haC0 ?hmC0 ?inC0 ?aCN ?pgCN ?hdCN ?poCN ?saCN ?mkCN ?kcCN ?haCN ?hmCN ?inCN ?aCA ?pgCA ?hdCA ?poCA ?saCA ?mkCA ?kcCA ?haCA ?hmCA ?inCA ?aCI ?pgCI ?hdCI ?poCI ?saCI ?mkCI ?kcCI ?haCI ?hmCI ?inCI ?aCK ?pgCK ?hdCK ?poCK ?saCK ?mkCK ?kcCK ?haCK ?hmCK ?inCK ?aaI ?aXS ?aXL ?aX0 ?aX1 ?aX2 ?aX3 ?aX4 ?aCR ?pgCR ?hdCR ?poCR ?saCR ?mkCR ?kcCR ?haCR ?hmCR ?nCR_numbers ?nCR_taken ?hn ?htk ?hIs ?xex ?xtL ?xge ?xiS ?xi0 ?xi1 ?xi2 ?xi3 ?xi4 ?aMo ?lMo ?cMo ?kMo ?aIi ?lIi ?cIi ?kIi ?aAl ?lAl ?cAl ?kAl ?aSo ?lSo ?cSo ?kSo ?aOf ?lOf ?cOf ?kOf ?aIn ?lIn ?cIn ?kIn ?aIm ?lIm ?cIm ?kIm ?aIl ?lIl ?cIl ?kIl ?aLs ?lLs ?cLs ?kLs ?aSi ?lSi ?cSi ?kSi ?aNu ?lNu ?cNu ?kNu ?aNa ?lNa ?cNa ?kNa ?aMk ?lMk ?cMk ?kMk ?aLi ?lLi ?cLi ?kLi ?aWo ?lWo ?cWo ?kWo ?aXn ?lXn ?cXn ?kXn ?aPu ?lPu ?cPu ?kPu ?aEi ?lEi ?cEi ?kEi ?aZn ?lZn ?cZn ?kZn ?aZs ?lZs ?cZs ?kZs ?aZi ?lZi ?cZi ?kZi ?aZt ?lZt ?cZt ?kZt ?aZw ?lZw ?cZw ?kZw ?aMb ?lMb ?cMb ?kMb ?aPl ?lPl ?cPl ?kPl ?aQs ?lQs ?cQs ?kQs ?aQn ?lQn ?cQn ?kQn ?aQw ?lQw ?cQw ?kQw ?aCe ?lCe ?cCe ?kCe ?aNm ?lNm ?cNm ?kNm ?aBi ?lBi ?cBi ?kBi ?aZ ?lZ ?cZ ?kZ ?aPt ?iPt ?lPt ?cPt ?kPt ?aPw ?iPw ?lPw ?cPw ?kPw ?aNt ?iNt ?lNt ?cNt ?kNt ?aNw ?iNw ?lNw ?cNw ?kNw ?aAt ?iAt ?lAt ?cAt ?kAt ?aAw ?iAw ?lAw ?cAw ?kAw ?aIt ?iIt ?lIt ?cIt ?kIt ?aIw ?iIw ?lIw ?cIw ?kIw ?aKt ?iKt ?lKt ?cKt ?kKt ?aKw ?iKw ?lKw ?cKw ?kKw ?aRi ?iRi ?lRi ?cRi ?kRi ?aRb ?iRb ?lRb ?cRb ?kRb ?aRl ?iRl ?lRl ?cRl ?kRl ?qf ?qs ?qn ?qm ?qa ?qb ?qc ?q8 ?zall ?ztup ?zlist ?zint ?zmax ?zmin ?zverr ?zlen ?zrange ?zisin ?zstr ?zbool ?zzip
    (case aC0 => k_is)
    (case pgC0 => k_is)
    (case hdC0 => k_is)
    (case poC0 => k_is)
    (case saC0 => k_is)
    (case mkC0 => k_is)
    (case kcC0 => k_is)
    (case haC0 => k_is)
    (case hmC0 => k_is)
    (case inC0 => k_is)
    (case aCN => k_is)
    (case pgCN => k_is)
    (case hdCN => k_is)
    (case poCN => k_is)
    (case saCN => k_is)
    (case mkCN => k_is)
    (case kcCN => k_is)
    (case haCN => k_is)
    (case hmCN => k_is)
    (case inCN => k_is)
    (case aCA => k_is)
    (case pgCA => k_is)
    (case hdCA => k_is)
    (case poCA => k_is)
    (case saCA => k_is)
    (case mkCA => k_is)
    (case kcCA => k_is)
    (case haCA => k_is)
    (case hmCA => k_is)
    (case inCA => k_is)
    (case aCI => k_is)
    (case pgCI => k_is)
    (case hdCI => k_is)
    (case poCI => k_is)
    (case saCI => k_is)
    (case mkCI => k_is)
    (case kcCI => k_is)
    (case haCI => k_is)
    (case hmCI => k_is)
    (case inCI => k_is)
    (case aCK => k_is)
    (case pgCK => k_is)
    (case hdCK => k_is)
    (case poCK => k_is)
    (case saCK => k_is)
    (case mkCK => k_is)
    (case kcCK => k_is)
    (case haCK => k_is)
    (case hmCK => k_is)
    (case inCK => k_is)
    (case aaI => k_is)
    (case aXS => k_is)
    (case aXL => k_is)
    (case aX0 => k_is)
    (case aX1 => k_is)
    (case aX2 => k_is)
    (case aX3 => k_is)
    (case aX4 => k_is)
    (case aCR => k_is)
    (case pgCR => k_is)
    (case hdCR => k_is)
    (case poCR => k_is)
    (case saCR => k_is)
    (case mkCR => k_is)
    (case kcCR => k_is)
    (case haCR => k_is)
    (case hmCR => k_is)
    (case nCR_numbers => k_is)
    (case nCR_taken => k_is)
    (case hn => k_is)
    (case htk => k_is)
    (case hIs => (apply Exists.intro; apply Exists.intro; apply Exists.intro; apply Exists.intro; k_is))
    (case xex => k_exc)
    (case xtL => (first | kernel_rfl | decide +kernel))
    (case xge => (first | kernel_rfl | decide +kernel))
    (case xiS => kit_is)
    (case xi0 => kit_is)
    (case xi1 => kit_is)
    (case xi2 => kit_is)
    (case xi3 => kit_is)
    (case xi4 => kit_is)
    (case aMo => k_is)
    (case lMo => k_is)
    (case cMo => k_is)
    (case kMo => k_is)
    (case aIi => k_is)
    (case lIi => k_is)
    (case cIi => k_is)
    (case kIi => k_is)
    (case aAl => k_is)
    (case lAl => k_is)
    (case cAl => k_is)
    (case kAl => k_is)
    (case aSo => k_is)
    (case lSo => k_is)
    (case cSo => k_is)
    (case kSo => k_is)
    (case aOf => k_is)
    (case lOf => k_is)
    (case cOf => k_is)
    (case kOf => k_is)
    (case aIn => k_is)
    (case lIn => k_is)
    (case cIn => k_is)
    (case kIn => k_is)
    (case aIm => k_is)
    (case lIm => k_is)
    (case cIm => k_is)
    (case kIm => k_is)
    (case aIl => k_is)
    (case lIl => k_is)
    (case cIl => k_is)
    (case kIl => k_is)
    (case aLs => k_is)
    (case lLs => k_is)
    (case cLs => k_is)
    (case kLs => k_is)
    (case aSi => k_is)
    (case lSi => k_is)
    (case cSi => k_is)
    (case kSi => k_is)
    (case aNu => k_is)
    (case lNu => k_is)
    (case cNu => k_is)
    (case kNu => k_is)
    (case aNa => k_is)
    (case lNa => k_is)
    (case cNa => k_is)
    (case kNa => k_is)
    (case aMk => k_is)
    (case lMk => k_is)
    (case cMk => k_is)
    (case kMk => k_is)
    (case aLi => k_is)
    (case lLi => k_is)
    (case cLi => k_is)
    (case kLi => k_is)
    (case aWo => k_is)
    (case lWo => k_is)
    (case cWo => k_is)
    (case kWo => k_is)
    (case aXn => k_is)
    (case lXn => k_is)
    (case cXn => k_is)
    (case kXn => k_is)
    (case aPu => k_is)
    (case lPu => k_is)
    (case cPu => k_is)
    (case kPu => k_is)
    (case aEi => k_is)
    (case lEi => k_is)
    (case cEi => k_is)
    (case kEi => k_is)
    (case aZn => k_is)
    (case lZn => k_is)
    (case cZn => k_is)
    (case kZn => k_is)
    (case aZs => k_is)
    (case lZs => k_is)
    (case cZs => k_is)
    (case kZs => k_is)
    (case aZi => k_is)
    (case lZi => k_is)
    (case cZi => k_is)
    (case kZi => k_is)
    (case aZt => k_is)
    (case lZt => k_is)
    (case cZt => k_is)
    (case kZt => k_is)
    (case aZw => k_is)
    (case lZw => k_is)
    (case cZw => k_is)
    (case kZw => k_is)
    (case aMb => k_is)
    (case lMb => k_is)
    (case cMb => k_is)
    (case kMb => k_is)
    (case aPl => k_is)
    (case lPl => k_is)
    (case cPl => k_is)
    (case kPl => k_is)
    (case aQs => k_is)
    (case lQs => k_is)
    (case cQs => k_is)
    (case kQs => k_is)
    (case aQn => k_is)
    (case lQn => k_is)
    (case cQn => k_is)
    (case kQn => k_is)
    (case aQw => k_is)
    (case lQw => k_is)
    (case cQw => k_is)
    (case kQw => k_is)
    (case aCe => k_is)
    (case lCe => k_is)
    (case cCe => k_is)
    (case kCe => k_is)
    (case aNm => k_is)
    (case lNm => k_is)
    (case cNm => k_is)
    (case kNm => k_is)
    (case aBi => k_is)
    (case lBi => k_is)
    (case cBi => k_is)
    (case kBi => k_is)
    (case aZ => k_is)
    (case lZ => k_is)
    (case cZ => k_is)
    (case kZ => k_is)
    (case aPt => k_is)
    (case iPt => k_is)
    (case lPt => k_is)
    (case cPt => k_is)
    (case kPt => k_is)
    (case aPw => k_is)
    (case iPw => k_is)
    (case lPw => k_is)
    (case cPw => k_is)
    (case kPw => k_is)
    (case aNt => k_is)
    (case iNt => k_is)
    (case lNt => k_is)
    (case cNt => k_is)
    (case kNt => k_is)
    (case aNw => k_is)
    (case iNw => k_is)
    (case lNw => k_is)
    (case cNw => k_is)
    (case kNw => k_is)
    (case aAt => k_is)
    (case iAt => k_is)
    (case lAt => k_is)
    (case cAt => k_is)
    (case kAt => k_is)
    (case aAw => k_is)
    (case iAw => k_is)
    (case lAw => k_is)
    (case cAw => k_is)
    (case kAw => k_is)
    (case aIt => k_is)
    (case iIt => k_is)
    (case lIt => k_is)
    (case cIt => k_is)
    (case kIt => k_is)
    (case aIw => k_is)
    (case iIw => k_is)
    (case lIw => k_is)
    (case cIw => k_is)
    (case kIw => k_is)
    (case aKt => k_is)
    (case iKt => k_is)
    (case lKt => k_is)
    (case cKt => k_is)
    (case kKt => k_is)
    (case aKw => k_is)
    (case iKw => k_is)
    (case lKw => k_is)
    (case cKw => k_is)
    (case kKw => k_is)
    (case aRi => k_is)
    (case iRi => k_is)
    (case lRi => k_is)
    (case cRi => k_is)
    (case kRi => k_is)
    (case aRb => k_is)
    (case iRb => k_is)
    (case lRb => k_is)
    (case cRb => k_is)
    (case kRb => k_is)
    (case aRl => k_is)
    (case iRl => k_is)
    (case lRl => k_is)
    (case cRl => k_is)
    (case kRl => k_is)
    (case qf => k_is)
    (case qs => k_is)
    (case qn => k_is)
    (case qm => k_is)
    (case qa => k_is)
    (case qb => k_is)
    (case qc => k_is)
    (case q8 => k_is)
    (case zall => k_is)
    (case ztup => k_is)
    (case zlist => k_is)
    (case zint => k_is)
    (case zmax => k_is)
    (case zmin => k_is)
    (case zverr => k_is)
    (case zlen => k_is)
    (case zrange => k_is)
    (case zisin => k_is)
    (case zstr => k_is)
    (case zbool => k_is)
    (case zzip => k_is)

