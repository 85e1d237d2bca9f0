import PyProof.Rows.All
import Wide.All
import OpenK.AllK
import Wide.FinOn
import Lean
import PyProof.EqAt
import PyProof.EqKinds
import PyProof.TupleCall
import PySem.Challenge.RW_logloom_k05_forms_shown_and_read
set_option Elab.async false
set_option linter.all false
set_option maxRecDepth 100000
/-! the run of the top over a tree of objects, by the library's faster forms, in one kernel run -/
namespace HT
open PySem PySem.W
abbrev annR : Option Value := some (.ref 6)
noncomputable abbrev okQ : Thread → Bool := Fast.tw6613529449190102663 11 annR
noncomputable abbrev stQ (p : Program) (w : World) : SharedT → Thread → Option (SharedT × Thread) :=
  Fast.tw10156331382660048174 (Fast.tw11892475500146522536 Fast.tw14364793385576792824) p w
noncomputable def runQ (p : Program) (w : World) : Nat → SharedT → Thread → Option SharedT
  | 0, _, _ => none
  | fuel + 1, a, th => @Bool.rec (fun _ => Option SharedT)
      (@Bool.rec (fun _ => Option SharedT) none (@Option.rec (SharedT × Thread) (fun _ => Option SharedT) none (fun r => runQ p w fuel r.1 r.2) (stQ p w a th)) (okQ th))
      (some a) (through th)
theorem okQ_is (th : Thread) : okQ th = stepOk 11 annR th := by
  show Fast.tw6613529449190102663 11 annR th = _
  rw [← Fast.te6613529449190102663]
theorem stQ_is (p : Program) (w : World) (a : SharedT) (th : Thread) : stQ p w a th = stepT (denote treeTable) p w a th := by
  show Fast.tw10156331382660048174 (Fast.tw11892475500146522536 Fast.tw14364793385576792824) p w a th = _
  rw [← Fast.te10156331382660048174, ← Fast.te11892475500146522536, ← Fast.te14364793385576792824]
theorem runQ_top {p : Program} {w : World} : ∀ (fuel : Nat) (a b : SharedT) (th : Thread),
    runQ p w fuel a th = some b → topRun treeTable p w 11 annR fuel a.abs th = some b.abs
  | 0, _, _, _, e => by cases e
  | fuel + 1, a, b, th, e => by
    unfold runQ at e
    unfold topRun
    rw [okQ_is, stQ_is] at e
    cases e1 : through th
    · rw [e1] at e
      cases e2 : stepOk 11 annR th
      · rw [e2] at e; cases e
      · rw [e2] at e
        cases e3 : stepT (denote treeTable) p w a th with
        | none => rw [e3] at e; cases e
        | some r =>
          rw [e3] at e
          have e4 := stepT_spec (s' := r.1) (t' := r.2) e3
          rw [e4]
          exact runQ_top fuel r.1 b r.2 e
    · rw [e1] at e
      have : a = b := Option.some.inj e
      rw [this]
noncomputable def bT (P : Params) : BT :=
  .node (boot_o_0 P)
    (.node (boot_o_1 P) (.node (boot_o_3 P) (.node (boot_o_7 P) .nil .nil) .nil) (.node (boot_o_5 P) (.node (boot_o_9 P) .nil .nil) .nil))
    (.node (boot_o_2 P) (.node (boot_o_4 P) (.node (boot_o_8 P) .nil .nil) .nil) (.node (boot_o_6 P) (.node (boot_o_10 P) .nil .nil) .nil))
theorem bT_boot : ∀ P, boot_heap P = absHeap (bT P) 11 {} := fun P => by kernel_rfl
noncomputable abbrev at0 (w : World) (os : OsState) : SharedT := ⟨bT w.params, 11, {}, Array.mk [], boot_drawn, boot_toks, os⟩
theorem at0_abs (w : World) (os : OsState) : (at0 w os).abs = ⟨boot_heap w.params, Array.mk [], boot_drawn, boot_toks, os⟩ := by
  rw [bT_boot]; rfl
theorem boot_looks : ∀ P : Params, (((boot_heap P).isNs mainGlobals && (#[] : Array GenState).size == 0) = true ∧ (boot_heap P).objs.size = 11) ∧
    (boot_heap P).nsMap mainGlobals "__annotations__" = annR := fun P => ⟨⟨by kernel_rfl, by kernel_rfl⟩, by kernel_rfl⟩
/-- what is looked at behind the top, ahead of the views -/
noncomputable abbrev kept (p : Program) (P : Params) (b : Shared) : Bool :=
  staticsOk (importedModules p.main.body) (boot_heap P) b.heap && namesBound p b.heap && gensDone b && laidKept (boot_heap P) b.heap
/-- the head out of one kernel run -/
theorem left1 {p q : Program} {loose : List Str} {Xt : Shared → Bool} {α : Type} {Yf : Shared → α} {Ya : World → α} {N : Nat} {g0 : Bool}
    (e : opening p = plainProg p.main.scope.names) (hN : Nat.ble 600 N = true) (f : ∀ s, fenceModules? p s = some s)
    (run : ∀ (w : World) (os : OsState), (runQ p w N (at0 w os) (topStub p)).map (fun b =>
      (kept p w.params b.abs, Fast.tw4187177175401517315 q loose (importedModules p.main.body) Xt g0 b.abs, Yf b.abs)) = some (true, openGood q loose, Ya w)) :
    LeftO p q loose Xt Yf Ya N g0 := by
  intro w
  obtain ⟨⟨hp, gs, d, k, os⟩, o1, o2⟩ := Option.map_eq_some_iff.mp (boot_open e hN f w)
  obtain ⟨rfl, rfl, rfl, rfl⟩ : hp = boot_heap w.params ∧ gs = Array.mk [] ∧ d = boot_drawn ∧ k = boot_toks := by
    simpa using o2
  obtain ⟨⟨z1, z2⟩, z3⟩ := boot_looks w.params
  have r := run w os
  rw [← Fast.te4187177175401517315] at r
  obtain ⟨b, r1, r2⟩ := Option.map_eq_some_iff.mp r
  rw [Prod.mk.injEq, Prod.mk.injEq] at r2
  have r3 := runQ_top N _ b _ r1
  rw [at0_abs] at r3
  have r4 : topFrom treeTable p w N ⟨boot_heap w.params, Array.mk [], boot_drawn, boot_toks, os⟩ = some b.abs := by
    have k1 : kept p w.params b.abs = true := r2.1
    unfold kept at k1
    unfold topFrom
    simp only [z1, z2, z3, r3, Option.bind_some, k1]
  have r5 : openEnds treeTable p w N = some b.abs := by
    unfold openEnds
    simp only [o1, Option.bind_some, r4]
  rw [r5]
  exact congrArg some (by rw [← r2.2.1, ← r2.2.2])
end HT
namespace L2
open PySem
def inClass (s : Stmt) (j : Nat) : Stmt := match s with
  | .ClassDef _ _ _ body _ _ _ _ _ _ _ => body.getD j (.Pass ⟨0, 0, 0, 0⟩)
  | _ => .Pass ⟨0, 0, 0, 0⟩
def defArgs (s : Stmt) : Arguments := match s with
  | .FunctionDef _ a _ _ _ _ _ _ _ _ => a
  | _ => { posonlyargs := [], args := [], vararg := none, kwonlyargs := [], kw_defaults := [], kwarg := none, defaults := [] }
def defBody (s : Stmt) : List Stmt := match s with
  | .FunctionDef _ _ b _ _ _ _ _ _ _ => b
  | _ => []
def defScope (s : Stmt) : Scope := match s with
  | .FunctionDef _ _ _ _ _ _ sc _ _ _ => sc
  | _ => { kind := .function, names := [], isGenerator := false, isCoroutine := false }
end L2
namespace SL
open PySem L2
def top (i : Nat) : Stmt := PySem.Challenge.pw_logloom_k05_forms_shown_and_read.main.body.getD i (.Pass ⟨0, 0, 0, 0⟩)
abbrev sRi : Stmt := inClass (top 2) 0
abbrev sXf : Stmt := inClass (top 3) 0
abbrev sXg : Stmt := inClass (top 4) 0
abbrev sXo : Stmt := inClass (top 5) 0
abbrev sMo : Stmt := top 16
abbrev sPw : Stmt := inClass (top 17) 0
abbrev sPt : Stmt := inClass (top 17) 1
abbrev sNw : Stmt := inClass (top 18) 0
abbrev sNt : Stmt := inClass (top 18) 1
abbrev sAw : Stmt := inClass (top 19) 0
abbrev sAt : Stmt := inClass (top 19) 1
abbrev sIw : Stmt := inClass (top 20) 0
abbrev sIt : Stmt := inClass (top 20) 1
abbrev sKw : Stmt := inClass (top 21) 0
abbrev sKt : Stmt := inClass (top 21) 1
abbrev sIi : Stmt := top 22
abbrev sAl : Stmt := top 23
abbrev sSo : Stmt := top 24
abbrev sIg : Stmt := top 26
abbrev sSg : Stmt := top 29
abbrev sSf : Stmt := top 30
abbrev sPo : Stmt := top 31
abbrev sRd : Stmt := top 32
abbrev sCe : Stmt := top 34
abbrev sOf : Stmt := top 35
abbrev sIn : Stmt := top 36
abbrev sIm : Stmt := top 37
abbrev sIl : Stmt := top 38
abbrev sLs : Stmt := top 39
abbrev sSi : Stmt := top 40
abbrev sNu : Stmt := top 41
abbrev sNa : Stmt := top 42
abbrev sMk : Stmt := top 43
abbrev sLi : Stmt := top 44
abbrev sWo : Stmt := top 45
abbrev sRw : Stmt := top 46
abbrev sFo : Stmt := top 47
abbrev sPi : Stmt := top 48
abbrev sPp : Stmt := top 49
abbrev sAk : Stmt := top 50
abbrev sRf : Stmt := top 51
abbrev sCh : Stmt := top 52
abbrev sLaw : Stmt := top 53
end SL
namespace SL
open PySem L2
def hK : PySem.Params → PySem.W.Frag := fun P =>
  (nat_lit 2, ({ cls := Value.none, data := Data.dict #[] } : Obj)) ::
  (nat_lit 3, ({ cls := Value.type "dict", data := Data.dict #[{ hash := PyData.keyHash P (Str.ofString "__name__"), key := Value.str (Str.ofString "__name__") 165, val := Value.str (Str.ofString "law_logloom_k05_forms_shown_and_read") 597 }, { hash := PyData.keyHash P (Str.ofString "__doc__"), key := Value.str (Str.ofString "__doc__") 166, val := Value.none }, { hash := PyData.keyHash P (Str.ofString "__package__"), key := Value.str (Str.ofString "__package__") 167, val := Value.none }, { hash := PyData.keyHash P (Str.ofString "__loader__"), key := Value.str (Str.ofString "__loader__") 168, val := Value.builtin "__main__.__loader__#opaque" }, { hash := PyData.keyHash P (Str.ofString "__spec__"), key := Value.str (Str.ofString "__spec__") 169, val := Value.none }, { hash := PyData.keyHash P (Str.ofString "__annotations__"), key := Value.str (Str.ofString "__annotations__") 170, val := Value.ref 6 }, { hash := PyData.keyHash P (Str.ofString "__builtins__"), key := Value.str (Str.ofString "__builtins__") 171, val := Value.ref 4 }, { hash := PyData.keyHash P (Str.ofString "__file__"), key := Value.str (Str.ofString "__file__") 173, val := Value.str (Str.ofString "/claim/cut.py") 172 }, { hash := PyData.keyHash P (Str.ofString "__cached__"), key := Value.str (Str.ofString "__cached__") 174, val := Value.none }, { hash := PyData.keyHash P (Str.ofString "LoomError"), key := Value.str (Str.ofString "LoomError") 206, val := Value.ref 24 }, { hash := PyData.keyHash P (Str.ofString "NoRow"), key := Value.str (Str.ofString "NoRow") 231, val := Value.ref 44 }, { hash := PyData.keyHash P (Str.ofString "NoFit"), key := Value.str (Str.ofString "NoFit") 256, val := Value.ref 63 }, { hash := PyData.keyHash P (Str.ofString "NoGap"), key := Value.str (Str.ofString "NoGap") 281, val := Value.ref 82 }, { hash := PyData.keyHash P (Str.ofString "NoForm"), key := Value.str (Str.ofString "NoForm") 306, val := Value.ref 101 }, { hash := PyData.keyHash P (Str.ofString "NoQuestion"), key := Value.str (Str.ofString "NoQuestion") 331, val := Value.ref 120 }, { hash := PyData.keyHash P (Str.ofString "Unknown"), key := Value.str (Str.ofString "Unknown") 356, val := Value.ref 139 }, { hash := PyData.keyHash P (Str.ofString "FIGURES"), key := Value.str (Str.ofString "FIGURES") 360, val := Value.str (Str.ofString "0123456789") 359 }, { hash := PyData.keyHash P (Str.ofString "SMALL_LETTERS"), key := Value.str (Str.ofString "SMALL_LETTERS") 362, val := Value.str (Str.ofString "abcdefghijklmnopqrstuvwxyz") 361 }, { hash := PyData.keyHash P (Str.ofString "NAME_SIGNS"), key := Value.str (Str.ofString "NAME_SIGNS") 364, val := Value.str (Str.ofString "abcdefghijklmnopqrstuvwxyz0123456789") 363 }, { hash := PyData.keyHash P (Str.ofString "MARK_SIGNS"), key := Value.str (Str.ofString "MARK_SIGNS") 366, val := Value.str (Str.ofString "abcdefghijklmnopqrstuvwxyzABCDEFGHIJKLMNOPQRSTUVWXYZ0123456789.:-_/=") 365 }, { hash := PyData.keyHash P (Str.ofString "MOST_FIGURES"), key := Value.str (Str.ofString "MOST_FIGURES") 368, val := Value.int 9 367 }, { hash := PyData.keyHash P (Str.ofString "MOST_SIGNS"), key := Value.str (Str.ofString "MOST_SIGNS") 370, val := Value.int 12 369 }, { hash := PyData.keyHash P (Str.ofString "MOST_ITEMS"), key := Value.str (Str.ofString "MOST_ITEMS") 372, val := Value.int 4 371 }, { hash := PyData.keyHash P (Str.ofString "made_of"), key := Value.str (Str.ofString "made_of") 378, val := Value.ref 146 }, { hash := PyData.keyHash P (Str.ofString "Sort"), key := Value.str (Str.ofString "Sort") 413, val := Value.ref 170 }, { hash := PyData.keyHash P (Str.ofString "Number"), key := Value.str (Str.ofString "Number") 444, val := Value.ref 198 }, { hash := PyData.keyHash P (Str.ofString "Name"), key := Value.str (Str.ofString "Name") 475, val := Value.ref 224 }, { hash := PyData.keyHash P (Str.ofString "Items"), key := Value.str (Str.ofString "Items") 504, val := Value.ref 248 }, { hash := PyData.keyHash P (Str.ofString "Mark"), key := Value.str (Str.ofString "Mark") 535, val := Value.ref 274 }, { hash := PyData.keyHash P (Str.ofString "is_item"), key := Value.str (Str.ofString "is_item") 542, val := Value.ref 283 }, { hash := PyData.keyHash P (Str.ofString "all_sorts"), key := Value.str (Str.ofString "all_sorts") 548, val := Value.ref 290 }, { hash := PyData.keyHash P (Str.ofString "sort_of"), key := Value.str (Str.ofString "sort_of") 556, val := Value.ref 297 }, { hash := PyData.keyHash P (Str.ofString "is_gap"), key := Value.str (Str.ofString "is_gap") 565, val := Value.ref 304 }, { hash := PyData.keyHash P (Str.ofString "MOST_WORDS"), key := Value.str (Str.ofString "MOST_WORDS") 567, val := Value.int 8 566 }, { hash := PyData.keyHash P (Str.ofString "shown_gap"), key := Value.str (Str.ofString "shown_gap") 576, val := Value.ref 311 }, { hash := PyData.keyHash P (Str.ofString "shown_form"), key := Value.str (Str.ofString "shown_form") 582, val := Value.ref 316 }, { hash := PyData.keyHash P (Str.ofString "part_of"), key := Value.str (Str.ofString "part_of") 590, val := Value.ref 323 }, { hash := PyData.keyHash P (Str.ofString "read_form"), key := Value.str (Str.ofString "read_form") 596, val := Value.ref 328 }, { hash := PyData.keyHash P (Str.ofString "_law_cell_at"), key := Value.str (Str.ofString "_law_cell_at") 606, val := Value.ref 335 }, { hash := PyData.keyHash P (Str.ofString "_law_of"), key := Value.str (Str.ofString "_law_of") 612, val := Value.ref 340 }, { hash := PyData.keyHash P (Str.ofString "_law_is_number"), key := Value.str (Str.ofString "_law_is_number") 619, val := Value.ref 347 }, { hash := PyData.keyHash P (Str.ofString "_law_is_name"), key := Value.str (Str.ofString "_law_is_name") 627, val := Value.ref 354 }, { hash := PyData.keyHash P (Str.ofString "_law_is_list"), key := Value.str (Str.ofString "_law_is_list") 633, val := Value.ref 359 }, { hash := PyData.keyHash P (Str.ofString "_law_sort"), key := Value.str (Str.ofString "_law_sort") 641, val := Value.ref 366 }, { hash := PyData.keyHash P (Str.ofString "_law_signs"), key := Value.str (Str.ofString "_law_signs") 653, val := Value.ref 373 }, { hash := PyData.keyHash P (Str.ofString "_law_number_word"), key := Value.str (Str.ofString "_law_number_word") 661, val := Value.ref 380 }, { hash := PyData.keyHash P (Str.ofString "_law_name_word"), key := Value.str (Str.ofString "_law_name_word") 669, val := Value.ref 387 }, { hash := PyData.keyHash P (Str.ofString "_law_mark_word"), key := Value.str (Str.ofString "_law_mark_word") 681, val := Value.ref 394 }, { hash := PyData.keyHash P (Str.ofString "_law_list_word"), key := Value.str (Str.ofString "_law_list_word") 691, val := Value.ref 401 }, { hash := PyData.keyHash P (Str.ofString "_law_word"), key := Value.str (Str.ofString "_law_word") 698, val := Value.ref 408 }, { hash := PyData.keyHash P (Str.ofString "_law_row"), key := Value.str (Str.ofString "_law_row") 709, val := Value.ref 415 }, { hash := PyData.keyHash P (Str.ofString "_law_form"), key := Value.str (Str.ofString "_law_form") 719, val := Value.ref 422 }, { hash := PyData.keyHash P (Str.ofString "_law_piece"), key := Value.str (Str.ofString "_law_piece") 727, val := Value.ref 429 }, { hash := PyData.keyHash P (Str.ofString "_law_part"), key := Value.str (Str.ofString "_law_part") 735, val := Value.ref 436 }, { hash := PyData.keyHash P (Str.ofString "_law_alike"), key := Value.str (Str.ofString "_law_alike") 745, val := Value.ref 443 }, { hash := PyData.keyHash P (Str.ofString "_law_refused"), key := Value.str (Str.ofString "_law_refused") 756, val := Value.ref 450 }, { hash := PyData.keyHash P (Str.ofString "_law_changed"), key := Value.str (Str.ofString "_law_changed") 762, val := Value.ref 455 }, { hash := PyData.keyHash P (Str.ofString "law"), key := Value.str (Str.ofString "law") 768, val := Value.ref 460 }] 58 } : Obj)) ::
  (nat_lit 15, ({ cls := Value.type "tuple", data := Data.seq #[Value.type "ValueError"] } : Obj)) ::
  (nat_lit 22, ({ cls := Value.type "tuple", data := Data.seq #[] } : Obj)) ::
  (nat_lit 23, ({ cls := Value.type "dict", data := Data.dict #[{ hash := PyData.keyHash P (Str.ofString "__module__"), key := Value.str (Str.ofString "__module__") 196, val := Value.str (Str.ofString "logloom.errors") 187 }, { hash := PyData.keyHash P (Str.ofString "__firstlineno__"), key := Value.str (Str.ofString "__firstlineno__") 200, val := Value.int 2 199 }, { hash := PyData.keyHash P (Str.ofString "__static_attributes__"), key := Value.str (Str.ofString "__static_attributes__") 201, val := Value.ref 22 }, { hash := PyData.keyHash P (Str.ofString "__weakref__"), key := Value.str (Str.ofString "__weakref__") 203, val := Value.ref 25 }, { hash := PyData.keyHash P (Str.ofString "__doc__"), key := Value.str (Str.ofString "__doc__") 204, val := Value.none }] 3 } : Obj)) ::
  (nat_lit 24, ({ cls := Value.type "type", data := Data.cls { name := Str.ofString "LoomError", bases := [Value.type "ValueError"], mro := [Value.ref 24, Value.type "ValueError", Value.type "Exception", Value.type "BaseException", Value.type "object"], ns := 23, qualname := Str.ofString "LoomError", subclasses := [Value.ref 44, Value.ref 63, Value.ref 82, Value.ref 101, Value.ref 120, Value.ref 139] }, slots := #[some (Value.ref 15), none, some (Value.str (Str.ofString "LoomError") 189), some (Value.str (Str.ofString "LoomError") 197), some (Value.builtin "ValueError.__new__"), some (Value.bool true)] } : Obj)) ::
  (nat_lit 25, ({ cls := Value.type "getset_descriptor", data := Data.fields #[Value.str (Str.ofString "__weakref__") 202, Value.ref 24, Value.builtin "ExceptionGroup.__weakref__", Value.none] } : Obj)) ::
  (nat_lit 28, ({ cls := Value.type "tuple", data := Data.seq #[Value.ref 24] } : Obj)) ::
  (nat_lit 35, ({ cls := Value.type "tuple", data := Data.seq #[] } : Obj)) ::
  (nat_lit 37, ({ cls := Value.type "tuple", data := Data.seq #[Value.str (Str.ofString "self") 222, Value.str (Str.ofString "at") 223] } : Obj)) ::
  (nat_lit 38, ({ cls := Value.type "tuple", data := Data.seq #[] } : Obj)) ::
  (nat_lit 40, ({ cls := Value.type "code", data := Data.fields #[Value.str (Str.ofString "__init__") 219, Value.str (Str.ofString "NoRow.__init__") 220, Value.str (Str.ofString "/claim/cut.py") 221, Value.int 6 0, Value.int 2 0, Value.int 0 0, Value.int 0 0, Value.int 3 0, Value.ref 35, Value.bool true, Value.int 181 0, Value.ref 36, Value.none, Value.ref 37, Value.ref 38, Value.ref 39, Value.int 224 0, Value.int 6 0, Value.str (Str.ofString "/claim/cut.py") 225] } : Obj)) ::
  (nat_lit 41, (⟨(Value.type "function"), (none), .func (PySem.W.fnOf (Str.ofString "__init__") (Str.ofString "NoRow.__init__") (defArgs (inClass (top 2) 0)) (defBody (inClass (top 2) 0)) (defScope (inClass (top 2) 0)) (Value.none) (Value.none) (Value.none) (Value.str (Str.ofString "logloom.errors") 187) (none) (Value.ref 40) (Value.none)), (#[])⟩ : Obj)) ::
  (nat_lit 42, ({ cls := Value.type "tuple", data := Data.seq #[Value.str (Str.ofString "at") 227] } : Obj)) ::
  (nat_lit 43, ({ cls := Value.type "dict", data := Data.dict #[{ hash := PyData.keyHash P (Str.ofString "__module__"), key := Value.str (Str.ofString "__module__") 214, val := Value.str (Str.ofString "logloom.errors") 187 }, { hash := PyData.keyHash P (Str.ofString "__firstlineno__"), key := Value.str (Str.ofString "__firstlineno__") 218, val := Value.int 4 217 }, { hash := PyData.keyHash P (Str.ofString "__init__"), key := Value.str (Str.ofString "__init__") 226, val := Value.ref 41 }, { hash := PyData.keyHash P (Str.ofString "__static_attributes__"), key := Value.str (Str.ofString "__static_attributes__") 228, val := Value.ref 42 }, { hash := PyData.keyHash P (Str.ofString "__doc__"), key := Value.str (Str.ofString "__doc__") 229, val := Value.none }] 2 } : Obj)) ::
  (nat_lit 44, ({ cls := Value.type "type", data := Data.cls { name := Str.ofString "NoRow", bases := [Value.ref 24], mro := [Value.ref 44, Value.ref 24, Value.type "ValueError", Value.type "Exception", Value.type "BaseException", Value.type "object"], ns := 43, qualname := Str.ofString "NoRow" }, slots := #[some (Value.ref 28), none, some (Value.str (Str.ofString "NoRow") 207), some (Value.str (Str.ofString "NoRow") 215), some (Value.builtin "ValueError.__new__"), some (Value.bool true)] } : Obj)) ::
  (nat_lit 47, ({ cls := Value.type "tuple", data := Data.seq #[Value.ref 24] } : Obj)) ::
  (nat_lit 54, ({ cls := Value.type "tuple", data := Data.seq #[] } : Obj)) ::
  (nat_lit 56, ({ cls := Value.type "tuple", data := Data.seq #[Value.str (Str.ofString "self") 247, Value.str (Str.ofString "at") 248] } : Obj)) ::
  (nat_lit 57, ({ cls := Value.type "tuple", data := Data.seq #[] } : Obj)) ::
  (nat_lit 59, ({ cls := Value.type "code", data := Data.fields #[Value.str (Str.ofString "__init__") 244, Value.str (Str.ofString "NoFit.__init__") 245, Value.str (Str.ofString "/claim/cut.py") 246, Value.int 10 0, Value.int 2 0, Value.int 0 0, Value.int 0 0, Value.int 3 0, Value.ref 54, Value.bool true, Value.int 181 0, Value.ref 55, Value.none, Value.ref 56, Value.ref 57, Value.ref 58, Value.int 249 0, Value.int 10 0, Value.str (Str.ofString "/claim/cut.py") 250] } : Obj)) ::
  (nat_lit 60, (⟨(Value.type "function"), (none), .func (PySem.W.fnOf (Str.ofString "__init__") (Str.ofString "NoFit.__init__") (defArgs (inClass (top 3) 0)) (defBody (inClass (top 3) 0)) (defScope (inClass (top 3) 0)) (Value.none) (Value.none) (Value.none) (Value.str (Str.ofString "logloom.errors") 187) (none) (Value.ref 59) (Value.none)), (#[])⟩ : Obj)) ::
  (nat_lit 61, ({ cls := Value.type "tuple", data := Data.seq #[Value.str (Str.ofString "at") 252] } : Obj)) ::
  (nat_lit 62, ({ cls := Value.type "dict", data := Data.dict #[{ hash := PyData.keyHash P (Str.ofString "__module__"), key := Value.str (Str.ofString "__module__") 239, val := Value.str (Str.ofString "logloom.errors") 187 }, { hash := PyData.keyHash P (Str.ofString "__firstlineno__"), key := Value.str (Str.ofString "__firstlineno__") 243, val := Value.int 8 242 }, { hash := PyData.keyHash P (Str.ofString "__init__"), key := Value.str (Str.ofString "__init__") 251, val := Value.ref 60 }, { hash := PyData.keyHash P (Str.ofString "__static_attributes__"), key := Value.str (Str.ofString "__static_attributes__") 253, val := Value.ref 61 }, { hash := PyData.keyHash P (Str.ofString "__doc__"), key := Value.str (Str.ofString "__doc__") 254, val := Value.none }] 2 } : Obj)) ::
  (nat_lit 63, ({ cls := Value.type "type", data := Data.cls { name := Str.ofString "NoFit", bases := [Value.ref 24], mro := [Value.ref 63, Value.ref 24, Value.type "ValueError", Value.type "Exception", Value.type "BaseException", Value.type "object"], ns := 62, qualname := Str.ofString "NoFit" }, slots := #[some (Value.ref 47), none, some (Value.str (Str.ofString "NoFit") 232), some (Value.str (Str.ofString "NoFit") 240), some (Value.builtin "ValueError.__new__"), some (Value.bool true)] } : Obj)) ::
  (nat_lit 66, ({ cls := Value.type "tuple", data := Data.seq #[Value.ref 24] } : Obj)) ::
  (nat_lit 73, ({ cls := Value.type "tuple", data := Data.seq #[] } : Obj)) ::
  (nat_lit 75, ({ cls := Value.type "tuple", data := Data.seq #[Value.str (Str.ofString "self") 272, Value.str (Str.ofString "at") 273] } : Obj)) ::
  (nat_lit 76, ({ cls := Value.type "tuple", data := Data.seq #[] } : Obj)) ::
  (nat_lit 78, ({ cls := Value.type "code", data := Data.fields #[Value.str (Str.ofString "__init__") 269, Value.str (Str.ofString "NoGap.__init__") 270, Value.str (Str.ofString "/claim/cut.py") 271, Value.int 14 0, Value.int 2 0, Value.int 0 0, Value.int 0 0, Value.int 3 0, Value.ref 73, Value.bool true, Value.int 181 0, Value.ref 74, Value.none, Value.ref 75, Value.ref 76, Value.ref 77, Value.int 274 0, Value.int 14 0, Value.str (Str.ofString "/claim/cut.py") 275] } : Obj)) ::
  (nat_lit 79, (⟨(Value.type "function"), (none), .func (PySem.W.fnOf (Str.ofString "__init__") (Str.ofString "NoGap.__init__") (defArgs (inClass (top 4) 0)) (defBody (inClass (top 4) 0)) (defScope (inClass (top 4) 0)) (Value.none) (Value.none) (Value.none) (Value.str (Str.ofString "logloom.errors") 187) (none) (Value.ref 78) (Value.none)), (#[])⟩ : Obj)) ::
  (nat_lit 80, ({ cls := Value.type "tuple", data := Data.seq #[Value.str (Str.ofString "at") 277] } : Obj)) ::
  (nat_lit 81, ({ cls := Value.type "dict", data := Data.dict #[{ hash := PyData.keyHash P (Str.ofString "__module__"), key := Value.str (Str.ofString "__module__") 264, val := Value.str (Str.ofString "logloom.errors") 187 }, { hash := PyData.keyHash P (Str.ofString "__firstlineno__"), key := Value.str (Str.ofString "__firstlineno__") 268, val := Value.int 12 267 }, { hash := PyData.keyHash P (Str.ofString "__init__"), key := Value.str (Str.ofString "__init__") 276, val := Value.ref 79 }, { hash := PyData.keyHash P (Str.ofString "__static_attributes__"), key := Value.str (Str.ofString "__static_attributes__") 278, val := Value.ref 80 }, { hash := PyData.keyHash P (Str.ofString "__doc__"), key := Value.str (Str.ofString "__doc__") 279, val := Value.none }] 2 } : Obj)) ::
  (nat_lit 82, ({ cls := Value.type "type", data := Data.cls { name := Str.ofString "NoGap", bases := [Value.ref 24], mro := [Value.ref 82, Value.ref 24, Value.type "ValueError", Value.type "Exception", Value.type "BaseException", Value.type "object"], ns := 81, qualname := Str.ofString "NoGap" }, slots := #[some (Value.ref 66), none, some (Value.str (Str.ofString "NoGap") 257), some (Value.str (Str.ofString "NoGap") 265), some (Value.builtin "ValueError.__new__"), some (Value.bool true)] } : Obj)) ::
  (nat_lit 85, ({ cls := Value.type "tuple", data := Data.seq #[Value.ref 24] } : Obj)) ::
  (nat_lit 92, ({ cls := Value.type "tuple", data := Data.seq #[] } : Obj)) ::
  (nat_lit 94, ({ cls := Value.type "tuple", data := Data.seq #[Value.str (Str.ofString "self") 297, Value.str (Str.ofString "at") 298] } : Obj)) ::
  (nat_lit 95, ({ cls := Value.type "tuple", data := Data.seq #[] } : Obj)) ::
  (nat_lit 97, ({ cls := Value.type "code", data := Data.fields #[Value.str (Str.ofString "__init__") 294, Value.str (Str.ofString "NoForm.__init__") 295, Value.str (Str.ofString "/claim/cut.py") 296, Value.int 18 0, Value.int 2 0, Value.int 0 0, Value.int 0 0, Value.int 3 0, Value.ref 92, Value.bool true, Value.int 181 0, Value.ref 93, Value.none, Value.ref 94, Value.ref 95, Value.ref 96, Value.int 299 0, Value.int 18 0, Value.str (Str.ofString "/claim/cut.py") 300] } : Obj)) ::
  (nat_lit 98, (⟨(Value.type "function"), (none), .func (PySem.W.fnOf (Str.ofString "__init__") (Str.ofString "NoForm.__init__") (defArgs (inClass (top 5) 0)) (defBody (inClass (top 5) 0)) (defScope (inClass (top 5) 0)) (Value.none) (Value.none) (Value.none) (Value.str (Str.ofString "logloom.errors") 187) (none) (Value.ref 97) (Value.none)), (#[])⟩ : Obj)) ::
  (nat_lit 99, ({ cls := Value.type "tuple", data := Data.seq #[Value.str (Str.ofString "at") 302] } : Obj)) ::
  (nat_lit 100, ({ cls := Value.type "dict", data := Data.dict #[{ hash := PyData.keyHash P (Str.ofString "__module__"), key := Value.str (Str.ofString "__module__") 289, val := Value.str (Str.ofString "logloom.errors") 187 }, { hash := PyData.keyHash P (Str.ofString "__firstlineno__"), key := Value.str (Str.ofString "__firstlineno__") 293, val := Value.int 16 292 }, { hash := PyData.keyHash P (Str.ofString "__init__"), key := Value.str (Str.ofString "__init__") 301, val := Value.ref 98 }, { hash := PyData.keyHash P (Str.ofString "__static_attributes__"), key := Value.str (Str.ofString "__static_attributes__") 303, val := Value.ref 99 }, { hash := PyData.keyHash P (Str.ofString "__doc__"), key := Value.str (Str.ofString "__doc__") 304, val := Value.none }] 2 } : Obj)) ::
  (nat_lit 101, ({ cls := Value.type "type", data := Data.cls { name := Str.ofString "NoForm", bases := [Value.ref 24], mro := [Value.ref 101, Value.ref 24, Value.type "ValueError", Value.type "Exception", Value.type "BaseException", Value.type "object"], ns := 100, qualname := Str.ofString "NoForm" }, slots := #[some (Value.ref 85), none, some (Value.str (Str.ofString "NoForm") 282), some (Value.str (Str.ofString "NoForm") 290), some (Value.builtin "ValueError.__new__"), some (Value.bool true)] } : Obj)) ::
  (nat_lit 104, ({ cls := Value.type "tuple", data := Data.seq #[Value.ref 24] } : Obj)) ::
  (nat_lit 111, ({ cls := Value.type "tuple", data := Data.seq #[] } : Obj)) ::
  (nat_lit 113, ({ cls := Value.type "tuple", data := Data.seq #[Value.str (Str.ofString "self") 322, Value.str (Str.ofString "at") 323] } : Obj)) ::
  (nat_lit 114, ({ cls := Value.type "tuple", data := Data.seq #[] } : Obj)) ::
  (nat_lit 116, ({ cls := Value.type "code", data := Data.fields #[Value.str (Str.ofString "__init__") 319, Value.str (Str.ofString "NoQuestion.__init__") 320, Value.str (Str.ofString "/claim/cut.py") 321, Value.int 22 0, Value.int 2 0, Value.int 0 0, Value.int 0 0, Value.int 3 0, Value.ref 111, Value.bool true, Value.int 181 0, Value.ref 112, Value.none, Value.ref 113, Value.ref 114, Value.ref 115, Value.int 324 0, Value.int 22 0, Value.str (Str.ofString "/claim/cut.py") 325] } : Obj)) ::
  (nat_lit 117, (⟨(Value.type "function"), (none), .func (PySem.W.fnOf (Str.ofString "__init__") (Str.ofString "NoQuestion.__init__") (defArgs (inClass (top 6) 0)) (defBody (inClass (top 6) 0)) (defScope (inClass (top 6) 0)) (Value.none) (Value.none) (Value.none) (Value.str (Str.ofString "logloom.errors") 187) (none) (Value.ref 116) (Value.none)), (#[])⟩ : Obj)) ::
  (nat_lit 118, ({ cls := Value.type "tuple", data := Data.seq #[Value.str (Str.ofString "at") 327] } : Obj)) ::
  (nat_lit 119, ({ cls := Value.type "dict", data := Data.dict #[{ hash := PyData.keyHash P (Str.ofString "__module__"), key := Value.str (Str.ofString "__module__") 314, val := Value.str (Str.ofString "logloom.errors") 187 }, { hash := PyData.keyHash P (Str.ofString "__firstlineno__"), key := Value.str (Str.ofString "__firstlineno__") 318, val := Value.int 20 317 }, { hash := PyData.keyHash P (Str.ofString "__init__"), key := Value.str (Str.ofString "__init__") 326, val := Value.ref 117 }, { hash := PyData.keyHash P (Str.ofString "__static_attributes__"), key := Value.str (Str.ofString "__static_attributes__") 328, val := Value.ref 118 }, { hash := PyData.keyHash P (Str.ofString "__doc__"), key := Value.str (Str.ofString "__doc__") 329, val := Value.none }] 2 } : Obj)) ::
  (nat_lit 120, ({ cls := Value.type "type", data := Data.cls { name := Str.ofString "NoQuestion", bases := [Value.ref 24], mro := [Value.ref 120, Value.ref 24, Value.type "ValueError", Value.type "Exception", Value.type "BaseException", Value.type "object"], ns := 119, qualname := Str.ofString "NoQuestion" }, slots := #[some (Value.ref 104), none, some (Value.str (Str.ofString "NoQuestion") 307), some (Value.str (Str.ofString "NoQuestion") 315), some (Value.builtin "ValueError.__new__"), some (Value.bool true)] } : Obj)) ::
  (nat_lit 123, ({ cls := Value.type "tuple", data := Data.seq #[Value.ref 24] } : Obj)) ::
  (nat_lit 130, ({ cls := Value.type "tuple", data := Data.seq #[] } : Obj)) ::
  (nat_lit 132, ({ cls := Value.type "tuple", data := Data.seq #[Value.str (Str.ofString "self") 347, Value.str (Str.ofString "number") 348] } : Obj)) ::
  (nat_lit 133, ({ cls := Value.type "tuple", data := Data.seq #[] } : Obj)) ::
  (nat_lit 135, ({ cls := Value.type "code", data := Data.fields #[Value.str (Str.ofString "__init__") 344, Value.str (Str.ofString "Unknown.__init__") 345, Value.str (Str.ofString "/claim/cut.py") 346, Value.int 26 0, Value.int 2 0, Value.int 0 0, Value.int 0 0, Value.int 3 0, Value.ref 130, Value.bool true, Value.int 181 0, Value.ref 131, Value.none, Value.ref 132, Value.ref 133, Value.ref 134, Value.int 349 0, Value.int 26 0, Value.str (Str.ofString "/claim/cut.py") 350] } : Obj)) ::
  (nat_lit 136, (⟨(Value.type "function"), (none), .func (PySem.W.fnOf (Str.ofString "__init__") (Str.ofString "Unknown.__init__") (defArgs (inClass (top 7) 0)) (defBody (inClass (top 7) 0)) (defScope (inClass (top 7) 0)) (Value.none) (Value.none) (Value.none) (Value.str (Str.ofString "logloom.errors") 187) (none) (Value.ref 135) (Value.none)), (#[])⟩ : Obj)) ::
  (nat_lit 137, ({ cls := Value.type "tuple", data := Data.seq #[Value.str (Str.ofString "number") 352] } : Obj)) ::
  (nat_lit 138, ({ cls := Value.type "dict", data := Data.dict #[{ hash := PyData.keyHash P (Str.ofString "__module__"), key := Value.str (Str.ofString "__module__") 339, val := Value.str (Str.ofString "logloom.errors") 187 }, { hash := PyData.keyHash P (Str.ofString "__firstlineno__"), key := Value.str (Str.ofString "__firstlineno__") 343, val := Value.int 24 342 }, { hash := PyData.keyHash P (Str.ofString "__init__"), key := Value.str (Str.ofString "__init__") 351, val := Value.ref 136 }, { hash := PyData.keyHash P (Str.ofString "__static_attributes__"), key := Value.str (Str.ofString "__static_attributes__") 353, val := Value.ref 137 }, { hash := PyData.keyHash P (Str.ofString "__doc__"), key := Value.str (Str.ofString "__doc__") 354, val := Value.none }] 2 } : Obj)) ::
  (nat_lit 139, ({ cls := Value.type "type", data := Data.cls { name := Str.ofString "Unknown", bases := [Value.ref 24], mro := [Value.ref 139, Value.ref 24, Value.type "ValueError", Value.type "Exception", Value.type "BaseException", Value.type "object"], ns := 138, qualname := Str.ofString "Unknown" }, slots := #[some (Value.ref 123), none, some (Value.str (Str.ofString "Unknown") 332), some (Value.str (Str.ofString "Unknown") 340), some (Value.builtin "ValueError.__new__"), some (Value.bool true)] } : Obj)) ::
  (nat_lit 142, ({ cls := Value.type "tuple", data := Data.seq #[] } : Obj)) ::
  (nat_lit 145, ({ cls := Value.type "code", data := Data.fields #[Value.str (Str.ofString "made_of") 373, Value.str (Str.ofString "made_of") 374, Value.str (Str.ofString "/claim/cut.py") 375, Value.int 36 0, Value.int 2 0, Value.int 0 0, Value.int 0 0, Value.int 3 0, Value.ref 142, Value.bool true, Value.int 181 0, Value.ref 143, Value.none, Value.none, Value.none, Value.ref 144, Value.int 376 0, Value.int 36 0, Value.str (Str.ofString "/claim/cut.py") 377] } : Obj)) ::
  (nat_lit 146, (⟨(Value.type "function"), (none), .func (PySem.W.fnOf (Str.ofString "made_of") (Str.ofString "made_of") (defArgs (top 16)) (defBody (top 16)) (defScope (top 16)) (Value.none) (Value.none) (Value.none) (Value.str (Str.ofString "logloom.sorts") 357) (none) (Value.ref 145) (Value.none)), (#[])⟩ : Obj)) ::
  (nat_lit 154, ({ cls := Value.type "tuple", data := Data.seq #[] } : Obj)) ::
  (nat_lit 156, ({ cls := Value.type "tuple", data := Data.seq #[Value.str (Str.ofString "self") 394] } : Obj)) ::
  (nat_lit 157, ({ cls := Value.type "tuple", data := Data.seq #[] } : Obj)) ::
  (nat_lit 159, ({ cls := Value.type "code", data := Data.fields #[Value.str (Str.ofString "word") 391, Value.str (Str.ofString "Sort.word") 392, Value.str (Str.ofString "/claim/cut.py") 393, Value.int 40 0, Value.int 1 0, Value.int 0 0, Value.int 0 0, Value.int 3 0, Value.ref 154, Value.bool true, Value.int 181 0, Value.ref 155, Value.none, Value.ref 156, Value.ref 157, Value.ref 158, Value.int 395 0, Value.int 40 0, Value.str (Str.ofString "/claim/cut.py") 396] } : Obj)) ::
  (nat_lit 160, (⟨(Value.type "function"), (none), .func (PySem.W.fnOf (Str.ofString "word") (Str.ofString "Sort.word") (defArgs (inClass (top 17) 0)) (defBody (inClass (top 17) 0)) (defScope (inClass (top 17) 0)) (Value.none) (Value.none) (Value.none) (Value.str (Str.ofString "logloom.sorts") 357) (none) (Value.ref 159) (Value.none)), (#[])⟩ : Obj)) ::
  (nat_lit 161, ({ cls := Value.type "tuple", data := Data.seq #[] } : Obj)) ::
  (nat_lit 163, ({ cls := Value.type "tuple", data := Data.seq #[Value.str (Str.ofString "self") 401, Value.str (Str.ofString "text") 402] } : Obj)) ::
  (nat_lit 164, ({ cls := Value.type "tuple", data := Data.seq #[] } : Obj)) ::
  (nat_lit 166, ({ cls := Value.type "code", data := Data.fields #[Value.str (Str.ofString "takes") 398, Value.str (Str.ofString "Sort.takes") 399, Value.str (Str.ofString "/claim/cut.py") 400, Value.int 43 0, Value.int 2 0, Value.int 0 0, Value.int 0 0, Value.int 3 0, Value.ref 161, Value.bool true, Value.int 181 0, Value.ref 162, Value.none, Value.ref 163, Value.ref 164, Value.ref 165, Value.int 403 0, Value.int 43 0, Value.str (Str.ofString "/claim/cut.py") 404] } : Obj)) ::
  (nat_lit 167, (⟨(Value.type "function"), (none), .func (PySem.W.fnOf (Str.ofString "takes") (Str.ofString "Sort.takes") (defArgs (inClass (top 17) 1)) (defBody (inClass (top 17) 1)) (defScope (inClass (top 17) 1)) (Value.none) (Value.none) (Value.none) (Value.str (Str.ofString "logloom.sorts") 357) (none) (Value.ref 166) (Value.none)), (#[])⟩ : Obj)) ::
  (nat_lit 168, ({ cls := Value.type "tuple", data := Data.seq #[] } : Obj)) ::
  (nat_lit 169, ({ cls := Value.type "dict", data := Data.dict #[{ hash := PyData.keyHash P (Str.ofString "__module__"), key := Value.str (Str.ofString "__module__") 386, val := Value.str (Str.ofString "logloom.sorts") 357 }, { hash := PyData.keyHash P (Str.ofString "__firstlineno__"), key := Value.str (Str.ofString "__firstlineno__") 390, val := Value.int 38 389 }, { hash := PyData.keyHash P (Str.ofString "word"), key := Value.str (Str.ofString "word") 397, val := Value.ref 160 }, { hash := PyData.keyHash P (Str.ofString "takes"), key := Value.str (Str.ofString "takes") 405, val := Value.ref 167 }, { hash := PyData.keyHash P (Str.ofString "__static_attributes__"), key := Value.str (Str.ofString "__static_attributes__") 406, val := Value.ref 168 }, { hash := PyData.keyHash P (Str.ofString "__dict__"), key := Value.str (Str.ofString "__dict__") 408, val := Value.ref 171 }, { hash := PyData.keyHash P (Str.ofString "__weakref__"), key := Value.str (Str.ofString "__weakref__") 410, val := Value.ref 172 }, { hash := PyData.keyHash P (Str.ofString "__doc__"), key := Value.str (Str.ofString "__doc__") 411, val := Value.none }] 4 } : Obj)) ::
  (nat_lit 170, ({ cls := Value.type "type", data := Data.cls { name := Str.ofString "Sort", bases := [Value.type "object"], mro := [Value.ref 170, Value.type "object"], ns := 169, qualname := Str.ofString "Sort", subclasses := [Value.ref 198, Value.ref 224, Value.ref 248, Value.ref 274] }, slots := #[none, none, some (Value.str (Str.ofString "Sort") 379), some (Value.str (Str.ofString "Sort") 387), some (Value.builtin "object.__new__"), some (Value.bool true)] } : Obj)) ::
  (nat_lit 171, ({ cls := Value.type "getset_descriptor", data := Data.fields #[Value.str (Str.ofString "__dict__") 407, Value.ref 170, Value.builtin "function.__dict__", Value.builtin "function.__dict__#set"] } : Obj)) ::
  (nat_lit 172, ({ cls := Value.type "getset_descriptor", data := Data.fields #[Value.str (Str.ofString "__weakref__") 409, Value.ref 170, Value.builtin "ExceptionGroup.__weakref__", Value.none] } : Obj)) ::
  (nat_lit 175, ({ cls := Value.type "tuple", data := Data.seq #[Value.ref 170] } : Obj)) ::
  (nat_lit 182, ({ cls := Value.type "tuple", data := Data.seq #[] } : Obj)) ::
  (nat_lit 184, ({ cls := Value.type "tuple", data := Data.seq #[Value.str (Str.ofString "self") 429] } : Obj)) ::
  (nat_lit 185, ({ cls := Value.type "tuple", data := Data.seq #[] } : Obj)) ::
  (nat_lit 187, ({ cls := Value.type "code", data := Data.fields #[Value.str (Str.ofString "word") 426, Value.str (Str.ofString "Number.word") 427, Value.str (Str.ofString "/claim/cut.py") 428, Value.int 47 0, Value.int 1 0, Value.int 0 0, Value.int 0 0, Value.int 3 0, Value.ref 182, Value.bool true, Value.int 181 0, Value.ref 183, Value.none, Value.ref 184, Value.ref 185, Value.ref 186, Value.int 430 0, Value.int 47 0, Value.str (Str.ofString "/claim/cut.py") 431] } : Obj)) ::
  (nat_lit 188, (⟨(Value.type "function"), (none), .func (PySem.W.fnOf (Str.ofString "word") (Str.ofString "Number.word") (defArgs (inClass (top 18) 0)) (defBody (inClass (top 18) 0)) (defScope (inClass (top 18) 0)) (Value.none) (Value.none) (Value.none) (Value.str (Str.ofString "logloom.sorts") 357) (none) (Value.ref 187) (Value.none)), (#[])⟩ : Obj)) ::
  (nat_lit 189, ({ cls := Value.type "tuple", data := Data.seq #[] } : Obj)) ::
  (nat_lit 191, ({ cls := Value.type "tuple", data := Data.seq #[Value.str (Str.ofString "self") 436, Value.str (Str.ofString "text") 437] } : Obj)) ::
  (nat_lit 192, ({ cls := Value.type "tuple", data := Data.seq #[] } : Obj)) ::
  (nat_lit 194, ({ cls := Value.type "code", data := Data.fields #[Value.str (Str.ofString "takes") 433, Value.str (Str.ofString "Number.takes") 434, Value.str (Str.ofString "/claim/cut.py") 435, Value.int 50 0, Value.int 2 0, Value.int 0 0, Value.int 0 0, Value.int 3 0, Value.ref 189, Value.bool true, Value.int 181 0, Value.ref 190, Value.none, Value.ref 191, Value.ref 192, Value.ref 193, Value.int 438 0, Value.int 50 0, Value.str (Str.ofString "/claim/cut.py") 439] } : Obj)) ::
  (nat_lit 195, (⟨(Value.type "function"), (none), .func (PySem.W.fnOf (Str.ofString "takes") (Str.ofString "Number.takes") (defArgs (inClass (top 18) 1)) (defBody (inClass (top 18) 1)) (defScope (inClass (top 18) 1)) (Value.none) (Value.none) (Value.none) (Value.str (Str.ofString "logloom.sorts") 357) (none) (Value.ref 194) (Value.none)), (#[])⟩ : Obj)) ::
  (nat_lit 196, ({ cls := Value.type "tuple", data := Data.seq #[] } : Obj)) ::
  (nat_lit 197, ({ cls := Value.type "dict", data := Data.dict #[{ hash := PyData.keyHash P (Str.ofString "__module__"), key := Value.str (Str.ofString "__module__") 421, val := Value.str (Str.ofString "logloom.sorts") 357 }, { hash := PyData.keyHash P (Str.ofString "__firstlineno__"), key := Value.str (Str.ofString "__firstlineno__") 425, val := Value.int 45 424 }, { hash := PyData.keyHash P (Str.ofString "word"), key := Value.str (Str.ofString "word") 432, val := Value.ref 188 }, { hash := PyData.keyHash P (Str.ofString "takes"), key := Value.str (Str.ofString "takes") 440, val := Value.ref 195 }, { hash := PyData.keyHash P (Str.ofString "__static_attributes__"), key := Value.str (Str.ofString "__static_attributes__") 441, val := Value.ref 196 }, { hash := PyData.keyHash P (Str.ofString "__doc__"), key := Value.str (Str.ofString "__doc__") 442, val := Value.none }] 2 } : Obj)) ::
  (nat_lit 198, ({ cls := Value.type "type", data := Data.cls { name := Str.ofString "Number", bases := [Value.ref 170], mro := [Value.ref 198, Value.ref 170, Value.type "object"], ns := 197, qualname := Str.ofString "Number" }, slots := #[some (Value.ref 175), none, some (Value.str (Str.ofString "Number") 414), some (Value.str (Str.ofString "Number") 422), some (Value.builtin "object.__new__"), some (Value.bool true)] } : Obj)) ::
  (nat_lit 201, ({ cls := Value.type "tuple", data := Data.seq #[Value.ref 170] } : Obj)) ::
  (nat_lit 208, ({ cls := Value.type "tuple", data := Data.seq #[] } : Obj)) ::
  (nat_lit 210, ({ cls := Value.type "tuple", data := Data.seq #[Value.str (Str.ofString "self") 460] } : Obj)) ::
  (nat_lit 211, ({ cls := Value.type "tuple", data := Data.seq #[] } : Obj)) ::
  (nat_lit 213, ({ cls := Value.type "code", data := Data.fields #[Value.str (Str.ofString "word") 457, Value.str (Str.ofString "Name.word") 458, Value.str (Str.ofString "/claim/cut.py") 459, Value.int 56 0, Value.int 1 0, Value.int 0 0, Value.int 0 0, Value.int 3 0, Value.ref 208, Value.bool true, Value.int 181 0, Value.ref 209, Value.none, Value.ref 210, Value.ref 211, Value.ref 212, Value.int 461 0, Value.int 56 0, Value.str (Str.ofString "/claim/cut.py") 462] } : Obj)) ::
  (nat_lit 214, (⟨(Value.type "function"), (none), .func (PySem.W.fnOf (Str.ofString "word") (Str.ofString "Name.word") (defArgs (inClass (top 19) 0)) (defBody (inClass (top 19) 0)) (defScope (inClass (top 19) 0)) (Value.none) (Value.none) (Value.none) (Value.str (Str.ofString "logloom.sorts") 357) (none) (Value.ref 213) (Value.none)), (#[])⟩ : Obj)) ::
  (nat_lit 215, ({ cls := Value.type "tuple", data := Data.seq #[] } : Obj)) ::
  (nat_lit 217, ({ cls := Value.type "tuple", data := Data.seq #[Value.str (Str.ofString "self") 467, Value.str (Str.ofString "text") 468] } : Obj)) ::
  (nat_lit 218, ({ cls := Value.type "tuple", data := Data.seq #[] } : Obj)) ::
  (nat_lit 220, ({ cls := Value.type "code", data := Data.fields #[Value.str (Str.ofString "takes") 464, Value.str (Str.ofString "Name.takes") 465, Value.str (Str.ofString "/claim/cut.py") 466, Value.int 59 0, Value.int 2 0, Value.int 0 0, Value.int 0 0, Value.int 3 0, Value.ref 215, Value.bool true, Value.int 181 0, Value.ref 216, Value.none, Value.ref 217, Value.ref 218, Value.ref 219, Value.int 469 0, Value.int 59 0, Value.str (Str.ofString "/claim/cut.py") 470] } : Obj)) ::
  (nat_lit 221, (⟨(Value.type "function"), (none), .func (PySem.W.fnOf (Str.ofString "takes") (Str.ofString "Name.takes") (defArgs (inClass (top 19) 1)) (defBody (inClass (top 19) 1)) (defScope (inClass (top 19) 1)) (Value.none) (Value.none) (Value.none) (Value.str (Str.ofString "logloom.sorts") 357) (none) (Value.ref 220) (Value.none)), (#[])⟩ : Obj)) ::
  (nat_lit 222, ({ cls := Value.type "tuple", data := Data.seq #[] } : Obj)) ::
  (nat_lit 223, ({ cls := Value.type "dict", data := Data.dict #[{ hash := PyData.keyHash P (Str.ofString "__module__"), key := Value.str (Str.ofString "__module__") 452, val := Value.str (Str.ofString "logloom.sorts") 357 }, { hash := PyData.keyHash P (Str.ofString "__firstlineno__"), key := Value.str (Str.ofString "__firstlineno__") 456, val := Value.int 54 455 }, { hash := PyData.keyHash P (Str.ofString "word"), key := Value.str (Str.ofString "word") 463, val := Value.ref 214 }, { hash := PyData.keyHash P (Str.ofString "takes"), key := Value.str (Str.ofString "takes") 471, val := Value.ref 221 }, { hash := PyData.keyHash P (Str.ofString "__static_attributes__"), key := Value.str (Str.ofString "__static_attributes__") 472, val := Value.ref 222 }, { hash := PyData.keyHash P (Str.ofString "__doc__"), key := Value.str (Str.ofString "__doc__") 473, val := Value.none }] 2 } : Obj)) ::
  (nat_lit 224, ({ cls := Value.type "type", data := Data.cls { name := Str.ofString "Name", bases := [Value.ref 170], mro := [Value.ref 224, Value.ref 170, Value.type "object"], ns := 223, qualname := Str.ofString "Name" }, slots := #[some (Value.ref 201), none, some (Value.str (Str.ofString "Name") 445), some (Value.str (Str.ofString "Name") 453), some (Value.builtin "object.__new__"), some (Value.bool true)] } : Obj)) ::
  (nat_lit 227, ({ cls := Value.type "tuple", data := Data.seq #[Value.ref 170] } : Obj)) ::
  (nat_lit 234, ({ cls := Value.type "tuple", data := Data.seq #[] } : Obj)) ::
  (nat_lit 236, ({ cls := Value.type "tuple", data := Data.seq #[Value.str (Str.ofString "self") 491] } : Obj)) ::
  (nat_lit 237, ({ cls := Value.type "tuple", data := Data.seq #[] } : Obj)) ::
  (nat_lit 239, ({ cls := Value.type "code", data := Data.fields #[Value.str (Str.ofString "word") 488, Value.str (Str.ofString "Items.word") 489, Value.str (Str.ofString "/claim/cut.py") 490, Value.int 65 0, Value.int 1 0, Value.int 0 0, Value.int 0 0, Value.int 3 0, Value.ref 234, Value.bool true, Value.int 181 0, Value.ref 235, Value.none, Value.ref 236, Value.ref 237, Value.ref 238, Value.int 492 0, Value.int 65 0, Value.str (Str.ofString "/claim/cut.py") 493] } : Obj)) ::
  (nat_lit 240, (⟨(Value.type "function"), (none), .func (PySem.W.fnOf (Str.ofString "word") (Str.ofString "Items.word") (defArgs (inClass (top 20) 0)) (defBody (inClass (top 20) 0)) (defScope (inClass (top 20) 0)) (Value.none) (Value.none) (Value.none) (Value.str (Str.ofString "logloom.sorts") 357) (none) (Value.ref 239) (Value.none)), (#[])⟩ : Obj)) ::
  (nat_lit 241, ({ cls := Value.type "tuple", data := Data.seq #[] } : Obj)) ::
  (nat_lit 244, ({ cls := Value.type "code", data := Data.fields #[Value.str (Str.ofString "takes") 495, Value.str (Str.ofString "Items.takes") 496, Value.str (Str.ofString "/claim/cut.py") 497, Value.int 68 0, Value.int 2 0, Value.int 0 0, Value.int 0 0, Value.int 3 0, Value.ref 241, Value.bool true, Value.int 181 0, Value.ref 242, Value.none, Value.none, Value.none, Value.ref 243, Value.int 498 0, Value.int 68 0, Value.str (Str.ofString "/claim/cut.py") 499] } : Obj)) ::
  (nat_lit 245, (⟨(Value.type "function"), (none), .func (PySem.W.fnOf (Str.ofString "takes") (Str.ofString "Items.takes") (defArgs (inClass (top 20) 1)) (defBody (inClass (top 20) 1)) (defScope (inClass (top 20) 1)) (Value.none) (Value.none) (Value.none) (Value.str (Str.ofString "logloom.sorts") 357) (none) (Value.ref 244) (Value.none)), (#[])⟩ : Obj)) ::
  (nat_lit 246, ({ cls := Value.type "tuple", data := Data.seq #[] } : Obj)) ::
  (nat_lit 247, ({ cls := Value.type "dict", data := Data.dict #[{ hash := PyData.keyHash P (Str.ofString "__module__"), key := Value.str (Str.ofString "__module__") 483, val := Value.str (Str.ofString "logloom.sorts") 357 }, { hash := PyData.keyHash P (Str.ofString "__firstlineno__"), key := Value.str (Str.ofString "__firstlineno__") 487, val := Value.int 63 486 }, { hash := PyData.keyHash P (Str.ofString "word"), key := Value.str (Str.ofString "word") 494, val := Value.ref 240 }, { hash := PyData.keyHash P (Str.ofString "takes"), key := Value.str (Str.ofString "takes") 500, val := Value.ref 245 }, { hash := PyData.keyHash P (Str.ofString "__static_attributes__"), key := Value.str (Str.ofString "__static_attributes__") 501, val := Value.ref 246 }, { hash := PyData.keyHash P (Str.ofString "__doc__"), key := Value.str (Str.ofString "__doc__") 502, val := Value.none }] 2 } : Obj)) ::
  (nat_lit 248, ({ cls := Value.type "type", data := Data.cls { name := Str.ofString "Items", bases := [Value.ref 170], mro := [Value.ref 248, Value.ref 170, Value.type "object"], ns := 247, qualname := Str.ofString "Items" }, slots := #[some (Value.ref 227), none, some (Value.str (Str.ofString "Items") 476), some (Value.str (Str.ofString "Items") 484), some (Value.builtin "object.__new__"), some (Value.bool true)] } : Obj)) ::
  (nat_lit 251, ({ cls := Value.type "tuple", data := Data.seq #[Value.ref 170] } : Obj)) ::
  (nat_lit 258, ({ cls := Value.type "tuple", data := Data.seq #[] } : Obj)) ::
  (nat_lit 260, ({ cls := Value.type "tuple", data := Data.seq #[Value.str (Str.ofString "self") 520] } : Obj)) ::
  (nat_lit 261, ({ cls := Value.type "tuple", data := Data.seq #[] } : Obj)) ::
  (nat_lit 263, ({ cls := Value.type "code", data := Data.fields #[Value.str (Str.ofString "word") 517, Value.str (Str.ofString "Mark.word") 518, Value.str (Str.ofString "/claim/cut.py") 519, Value.int 77 0, Value.int 1 0, Value.int 0 0, Value.int 0 0, Value.int 3 0, Value.ref 258, Value.bool true, Value.int 181 0, Value.ref 259, Value.none, Value.ref 260, Value.ref 261, Value.ref 262, Value.int 521 0, Value.int 77 0, Value.str (Str.ofString "/claim/cut.py") 522] } : Obj)) ::
  (nat_lit 264, (⟨(Value.type "function"), (none), .func (PySem.W.fnOf (Str.ofString "word") (Str.ofString "Mark.word") (defArgs (inClass (top 21) 0)) (defBody (inClass (top 21) 0)) (defScope (inClass (top 21) 0)) (Value.none) (Value.none) (Value.none) (Value.str (Str.ofString "logloom.sorts") 357) (none) (Value.ref 263) (Value.none)), (#[])⟩ : Obj)) ::
  (nat_lit 265, ({ cls := Value.type "tuple", data := Data.seq #[] } : Obj)) ::
  (nat_lit 267, ({ cls := Value.type "tuple", data := Data.seq #[Value.str (Str.ofString "self") 527, Value.str (Str.ofString "text") 528] } : Obj)) ::
  (nat_lit 268, ({ cls := Value.type "tuple", data := Data.seq #[] } : Obj)) ::
  (nat_lit 270, ({ cls := Value.type "code", data := Data.fields #[Value.str (Str.ofString "takes") 524, Value.str (Str.ofString "Mark.takes") 525, Value.str (Str.ofString "/claim/cut.py") 526, Value.int 80 0, Value.int 2 0, Value.int 0 0, Value.int 0 0, Value.int 3 0, Value.ref 265, Value.bool true, Value.int 181 0, Value.ref 266, Value.none, Value.ref 267, Value.ref 268, Value.ref 269, Value.int 529 0, Value.int 80 0, Value.str (Str.ofString "/claim/cut.py") 530] } : Obj)) ::
  (nat_lit 271, (⟨(Value.type "function"), (none), .func (PySem.W.fnOf (Str.ofString "takes") (Str.ofString "Mark.takes") (defArgs (inClass (top 21) 1)) (defBody (inClass (top 21) 1)) (defScope (inClass (top 21) 1)) (Value.none) (Value.none) (Value.none) (Value.str (Str.ofString "logloom.sorts") 357) (none) (Value.ref 270) (Value.none)), (#[])⟩ : Obj)) ::
  (nat_lit 272, ({ cls := Value.type "tuple", data := Data.seq #[] } : Obj)) ::
  (nat_lit 273, ({ cls := Value.type "dict", data := Data.dict #[{ hash := PyData.keyHash P (Str.ofString "__module__"), key := Value.str (Str.ofString "__module__") 512, val := Value.str (Str.ofString "logloom.sorts") 357 }, { hash := PyData.keyHash P (Str.ofString "__firstlineno__"), key := Value.str (Str.ofString "__firstlineno__") 516, val := Value.int 75 515 }, { hash := PyData.keyHash P (Str.ofString "word"), key := Value.str (Str.ofString "word") 523, val := Value.ref 264 }, { hash := PyData.keyHash P (Str.ofString "takes"), key := Value.str (Str.ofString "takes") 531, val := Value.ref 271 }, { hash := PyData.keyHash P (Str.ofString "__static_attributes__"), key := Value.str (Str.ofString "__static_attributes__") 532, val := Value.ref 272 }, { hash := PyData.keyHash P (Str.ofString "__doc__"), key := Value.str (Str.ofString "__doc__") 533, val := Value.none }] 2 } : Obj)) ::
  (nat_lit 274, ({ cls := Value.type "type", data := Data.cls { name := Str.ofString "Mark", bases := [Value.ref 170], mro := [Value.ref 274, Value.ref 170, Value.type "object"], ns := 273, qualname := Str.ofString "Mark" }, slots := #[some (Value.ref 251), none, some (Value.str (Str.ofString "Mark") 505), some (Value.str (Str.ofString "Mark") 513), some (Value.builtin "object.__new__"), some (Value.bool true)] } : Obj)) ::
  (nat_lit 277, ({ cls := Value.type "tuple", data := Data.seq #[] } : Obj)) ::
  (nat_lit 279, ({ cls := Value.type "tuple", data := Data.seq #[Value.str (Str.ofString "text") 539] } : Obj)) ::
  (nat_lit 280, ({ cls := Value.type "tuple", data := Data.seq #[] } : Obj)) ::
  (nat_lit 282, ({ cls := Value.type "code", data := Data.fields #[Value.str (Str.ofString "is_item") 536, Value.str (Str.ofString "is_item") 537, Value.str (Str.ofString "/claim/cut.py") 538, Value.int 84 0, Value.int 1 0, Value.int 0 0, Value.int 0 0, Value.int 3 0, Value.ref 277, Value.bool true, Value.int 181 0, Value.ref 278, Value.none, Value.ref 279, Value.ref 280, Value.ref 281, Value.int 540 0, Value.int 84 0, Value.str (Str.ofString "/claim/cut.py") 541] } : Obj)) ::
  (nat_lit 283, (⟨(Value.type "function"), (none), .func (PySem.W.fnOf (Str.ofString "is_item") (Str.ofString "is_item") (defArgs (top 22)) (defBody (top 22)) (defScope (top 22)) (Value.none) (Value.none) (Value.none) (Value.str (Str.ofString "logloom.sorts") 357) (none) (Value.ref 282) (Value.none)), (#[])⟩ : Obj)) ::
  (nat_lit 284, ({ cls := Value.type "tuple", data := Data.seq #[] } : Obj)) ::
  (nat_lit 286, ({ cls := Value.type "tuple", data := Data.seq #[] } : Obj)) ::
  (nat_lit 287, ({ cls := Value.type "tuple", data := Data.seq #[] } : Obj)) ::
  (nat_lit 289, ({ cls := Value.type "code", data := Data.fields #[Value.str (Str.ofString "all_sorts") 543, Value.str (Str.ofString "all_sorts") 544, Value.str (Str.ofString "/claim/cut.py") 545, Value.int 86 0, Value.int 0 0, Value.int 0 0, Value.int 0 0, Value.int 3 0, Value.ref 284, Value.bool true, Value.int 181 0, Value.ref 285, Value.none, Value.ref 286, Value.ref 287, Value.ref 288, Value.int 546 0, Value.int 86 0, Value.str (Str.ofString "/claim/cut.py") 547] } : Obj)) ::
  (nat_lit 290, (⟨(Value.type "function"), (none), .func (PySem.W.fnOf (Str.ofString "all_sorts") (Str.ofString "all_sorts") (defArgs (top 23)) (defBody (top 23)) (defScope (top 23)) (Value.none) (Value.none) (Value.none) (Value.str (Str.ofString "logloom.sorts") 357) (none) (Value.ref 289) (Value.none)), (#[])⟩ : Obj)) ::
  (nat_lit 291, ({ cls := Value.type "tuple", data := Data.seq #[] } : Obj)) ::
  (nat_lit 293, ({ cls := Value.type "tuple", data := Data.seq #[Value.str (Str.ofString "text") 552, Value.str (Str.ofString "sort") 553] } : Obj)) ::
  (nat_lit 294, ({ cls := Value.type "tuple", data := Data.seq #[] } : Obj)) ::
  (nat_lit 296, ({ cls := Value.type "code", data := Data.fields #[Value.str (Str.ofString "sort_of") 549, Value.str (Str.ofString "sort_of") 550, Value.str (Str.ofString "/claim/cut.py") 551, Value.int 88 0, Value.int 1 0, Value.int 0 0, Value.int 0 0, Value.int 3 0, Value.ref 291, Value.bool true, Value.int 181 0, Value.ref 292, Value.none, Value.ref 293, Value.ref 294, Value.ref 295, Value.int 554 0, Value.int 88 0, Value.str (Str.ofString "/claim/cut.py") 555] } : Obj)) ::
  (nat_lit 297, (⟨(Value.type "function"), (none), .func (PySem.W.fnOf (Str.ofString "sort_of") (Str.ofString "sort_of") (defArgs (top 24)) (defBody (top 24)) (defScope (top 24)) (Value.none) (Value.none) (Value.none) (Value.str (Str.ofString "logloom.sorts") 357) (none) (Value.ref 296) (Value.none)), (#[])⟩ : Obj)) ::
  (nat_lit 298, ({ cls := Value.type "tuple", data := Data.seq #[] } : Obj)) ::
  (nat_lit 300, ({ cls := Value.type "tuple", data := Data.seq #[Value.str (Str.ofString "part") 562] } : Obj)) ::
  (nat_lit 301, ({ cls := Value.type "tuple", data := Data.seq #[] } : Obj)) ::
  (nat_lit 303, ({ cls := Value.type "code", data := Data.fields #[Value.str (Str.ofString "is_gap") 559, Value.str (Str.ofString "is_gap") 560, Value.str (Str.ofString "/claim/cut.py") 561, Value.int 94 0, Value.int 1 0, Value.int 0 0, Value.int 0 0, Value.int 3 0, Value.ref 298, Value.bool true, Value.int 181 0, Value.ref 299, Value.none, Value.ref 300, Value.ref 301, Value.ref 302, Value.int 563 0, Value.int 94 0, Value.str (Str.ofString "/claim/cut.py") 564] } : Obj)) ::
  (nat_lit 304, (⟨(Value.type "function"), (none), .func (PySem.W.fnOf (Str.ofString "is_gap") (Str.ofString "is_gap") (defArgs (top 26)) (defBody (top 26)) (defScope (top 26)) (Value.none) (Value.none) (Value.none) (Value.str (Str.ofString "logloom.forms") 557) (none) (Value.ref 303) (Value.none)), (#[])⟩ : Obj)) ::
  (nat_lit 305, ({ cls := Value.type "tuple", data := Data.seq #[] } : Obj)) ::
  (nat_lit 307, ({ cls := Value.type "tuple", data := Data.seq #[Value.str (Str.ofString "sort") 573] } : Obj)) ::
  (nat_lit 308, ({ cls := Value.type "tuple", data := Data.seq #[] } : Obj)) ::
  (nat_lit 310, ({ cls := Value.type "code", data := Data.fields #[Value.str (Str.ofString "shown_gap") 570, Value.str (Str.ofString "shown_gap") 571, Value.str (Str.ofString "/claim/cut.py") 572, Value.int 98 0, Value.int 1 0, Value.int 0 0, Value.int 0 0, Value.int 3 0, Value.ref 305, Value.bool true, Value.int 181 0, Value.ref 306, Value.none, Value.ref 307, Value.ref 308, Value.ref 309, Value.int 574 0, Value.int 98 0, Value.str (Str.ofString "/claim/cut.py") 575] } : Obj)) ::
  (nat_lit 311, (⟨(Value.type "function"), (none), .func (PySem.W.fnOf (Str.ofString "shown_gap") (Str.ofString "shown_gap") (defArgs (top 29)) (defBody (top 29)) (defScope (top 29)) (Value.none) (Value.none) (Value.none) (Value.str (Str.ofString "logloom.showing") 568) (none) (Value.ref 310) (Value.none)), (#[])⟩ : Obj)) ::
  (nat_lit 312, ({ cls := Value.type "tuple", data := Data.seq #[] } : Obj)) ::
  (nat_lit 315, ({ cls := Value.type "code", data := Data.fields #[Value.str (Str.ofString "shown_form") 577, Value.str (Str.ofString "shown_form") 578, Value.str (Str.ofString "/claim/cut.py") 579, Value.int 100 0, Value.int 1 0, Value.int 0 0, Value.int 0 0, Value.int 3 0, Value.ref 312, Value.bool true, Value.int 181 0, Value.ref 313, Value.none, Value.none, Value.none, Value.ref 314, Value.int 580 0, Value.int 100 0, Value.str (Str.ofString "/claim/cut.py") 581] } : Obj)) ::
  (nat_lit 316, (⟨(Value.type "function"), (none), .func (PySem.W.fnOf (Str.ofString "shown_form") (Str.ofString "shown_form") (defArgs (top 30)) (defBody (top 30)) (defScope (top 30)) (Value.none) (Value.none) (Value.none) (Value.str (Str.ofString "logloom.showing") 568) (none) (Value.ref 315) (Value.none)), (#[])⟩ : Obj)) ::
  (nat_lit 317, ({ cls := Value.type "tuple", data := Data.seq #[] } : Obj)) ::
  (nat_lit 319, ({ cls := Value.type "tuple", data := Data.seq #[Value.str (Str.ofString "piece") 586, Value.str (Str.ofString "sort") 587] } : Obj)) ::
  (nat_lit 320, ({ cls := Value.type "tuple", data := Data.seq #[] } : Obj)) ::
  (nat_lit 322, ({ cls := Value.type "code", data := Data.fields #[Value.str (Str.ofString "part_of") 583, Value.str (Str.ofString "part_of") 584, Value.str (Str.ofString "/claim/cut.py") 585, Value.int 102 0, Value.int 1 0, Value.int 0 0, Value.int 0 0, Value.int 3 0, Value.ref 317, Value.bool true, Value.int 181 0, Value.ref 318, Value.none, Value.ref 319, Value.ref 320, Value.ref 321, Value.int 588 0, Value.int 102 0, Value.str (Str.ofString "/claim/cut.py") 589] } : Obj)) ::
  (nat_lit 323, (⟨(Value.type "function"), (none), .func (PySem.W.fnOf (Str.ofString "part_of") (Str.ofString "part_of") (defArgs (top 31)) (defBody (top 31)) (defScope (top 31)) (Value.none) (Value.none) (Value.none) (Value.str (Str.ofString "logloom.showing") 568) (none) (Value.ref 322) (Value.none)), (#[])⟩ : Obj)) ::
  (nat_lit 324, ({ cls := Value.type "tuple", data := Data.seq #[] } : Obj)) ::
  (nat_lit 327, ({ cls := Value.type "code", data := Data.fields #[Value.str (Str.ofString "read_form") 591, Value.str (Str.ofString "read_form") 592, Value.str (Str.ofString "/claim/cut.py") 593, Value.int 109 0, Value.int 1 0, Value.int 0 0, Value.int 0 0, Value.int 3 0, Value.ref 324, Value.bool true, Value.int 181 0, Value.ref 325, Value.none, Value.none, Value.none, Value.ref 326, Value.int 594 0, Value.int 109 0, Value.str (Str.ofString "/claim/cut.py") 595] } : Obj)) ::
  (nat_lit 328, (⟨(Value.type "function"), (none), .func (PySem.W.fnOf (Str.ofString "read_form") (Str.ofString "read_form") (defArgs (top 32)) (defBody (top 32)) (defScope (top 32)) (Value.none) (Value.none) (Value.none) (Value.str (Str.ofString "logloom.showing") 568) (none) (Value.ref 327) (Value.none)), (#[])⟩ : Obj)) ::
  (nat_lit 329, ({ cls := Value.type "tuple", data := Data.seq #[] } : Obj)) ::
  (nat_lit 331, ({ cls := Value.type "tuple", data := Data.seq #[Value.str (Str.ofString "_law_script") 602, Value.str (Str.ofString "_law_k") 603] } : Obj)) ::
  (nat_lit 332, ({ cls := Value.type "tuple", data := Data.seq #[] } : Obj)) ::
  (nat_lit 334, ({ cls := Value.type "code", data := Data.fields #[Value.str (Str.ofString "_law_cell_at") 599, Value.str (Str.ofString "_law_cell_at") 600, Value.str (Str.ofString "/claim/cut.py") 601, Value.int 117 0, Value.int 2 0, Value.int 0 0, Value.int 0 0, Value.int 3 0, Value.ref 329, Value.bool true, Value.int 181 0, Value.ref 330, Value.none, Value.ref 331, Value.ref 332, Value.ref 333, Value.int 604 0, Value.int 117 0, Value.str (Str.ofString "/claim/cut.py") 605] } : Obj)) ::
  (nat_lit 335, (⟨(Value.type "function"), (none), .func (PySem.W.fnOf (Str.ofString "_law_cell_at") (Str.ofString "_law_cell_at") (defArgs (top 34)) (defBody (top 34)) (defScope (top 34)) (Value.none) (Value.none) (Value.none) (Value.str (Str.ofString "law_logloom_k05_forms_shown_and_read") 597) (none) (Value.ref 334) (Value.none)), (#[])⟩ : Obj)) ::
  (nat_lit 336, ({ cls := Value.type "tuple", data := Data.seq #[] } : Obj)) ::
  (nat_lit 339, ({ cls := Value.type "code", data := Data.fields #[Value.str (Str.ofString "_law_of") 607, Value.str (Str.ofString "_law_of") 608, Value.str (Str.ofString "/claim/cut.py") 609, Value.int 121 0, Value.int 2 0, Value.int 0 0, Value.int 0 0, Value.int 3 0, Value.ref 336, Value.bool true, Value.int 181 0, Value.ref 337, Value.none, Value.none, Value.none, Value.ref 338, Value.int 610 0, Value.int 121 0, Value.str (Str.ofString "/claim/cut.py") 611] } : Obj)) ::
  (nat_lit 340, (⟨(Value.type "function"), (none), .func (PySem.W.fnOf (Str.ofString "_law_of") (Str.ofString "_law_of") (defArgs (top 35)) (defBody (top 35)) (defScope (top 35)) (Value.none) (Value.none) (Value.none) (Value.str (Str.ofString "law_logloom_k05_forms_shown_and_read") 597) (none) (Value.ref 339) (Value.none)), (#[])⟩ : Obj)) ::
  (nat_lit 341, ({ cls := Value.type "tuple", data := Data.seq #[] } : Obj)) ::
  (nat_lit 343, ({ cls := Value.type "tuple", data := Data.seq #[Value.str (Str.ofString "_law_text") 616] } : Obj)) ::
  (nat_lit 344, ({ cls := Value.type "tuple", data := Data.seq #[] } : Obj)) ::
  (nat_lit 346, ({ cls := Value.type "code", data := Data.fields #[Value.str (Str.ofString "_law_is_number") 613, Value.str (Str.ofString "_law_is_number") 614, Value.str (Str.ofString "/claim/cut.py") 615, Value.int 123 0, Value.int 1 0, Value.int 0 0, Value.int 0 0, Value.int 3 0, Value.ref 341, Value.bool true, Value.int 181 0, Value.ref 342, Value.none, Value.ref 343, Value.ref 344, Value.ref 345, Value.int 617 0, Value.int 123 0, Value.str (Str.ofString "/claim/cut.py") 618] } : Obj)) ::
  (nat_lit 347, (⟨(Value.type "function"), (none), .func (PySem.W.fnOf (Str.ofString "_law_is_number") (Str.ofString "_law_is_number") (defArgs (top 36)) (defBody (top 36)) (defScope (top 36)) (Value.none) (Value.none) (Value.none) (Value.str (Str.ofString "law_logloom_k05_forms_shown_and_read") 597) (none) (Value.ref 346) (Value.none)), (#[])⟩ : Obj)) ::
  (nat_lit 348, ({ cls := Value.type "tuple", data := Data.seq #[] } : Obj)) ::
  (nat_lit 350, ({ cls := Value.type "tuple", data := Data.seq #[Value.str (Str.ofString "_law_text") 623, Value.str (Str.ofString "_law_small") 624] } : Obj)) ::
  (nat_lit 351, ({ cls := Value.type "tuple", data := Data.seq #[] } : Obj)) ::
  (nat_lit 353, ({ cls := Value.type "code", data := Data.fields #[Value.str (Str.ofString "_law_is_name") 620, Value.str (Str.ofString "_law_is_name") 621, Value.str (Str.ofString "/claim/cut.py") 622, Value.int 127 0, Value.int 1 0, Value.int 0 0, Value.int 0 0, Value.int 3 0, Value.ref 348, Value.bool true, Value.int 181 0, Value.ref 349, Value.none, Value.ref 350, Value.ref 351, Value.ref 352, Value.int 625 0, Value.int 127 0, Value.str (Str.ofString "/claim/cut.py") 626] } : Obj)) ::
  (nat_lit 354, (⟨(Value.type "function"), (none), .func (PySem.W.fnOf (Str.ofString "_law_is_name") (Str.ofString "_law_is_name") (defArgs (top 37)) (defBody (top 37)) (defScope (top 37)) (Value.none) (Value.none) (Value.none) (Value.str (Str.ofString "law_logloom_k05_forms_shown_and_read") 597) (none) (Value.ref 353) (Value.none)), (#[])⟩ : Obj)) ::
  (nat_lit 355, ({ cls := Value.type "tuple", data := Data.seq #[] } : Obj)) ::
  (nat_lit 358, ({ cls := Value.type "code", data := Data.fields #[Value.str (Str.ofString "_law_is_list") 628, Value.str (Str.ofString "_law_is_list") 629, Value.str (Str.ofString "/claim/cut.py") 630, Value.int 132 0, Value.int 1 0, Value.int 0 0, Value.int 0 0, Value.int 3 0, Value.ref 355, Value.bool true, Value.int 181 0, Value.ref 356, Value.none, Value.none, Value.none, Value.ref 357, Value.int 631 0, Value.int 132 0, Value.str (Str.ofString "/claim/cut.py") 632] } : Obj)) ::
  (nat_lit 359, (⟨(Value.type "function"), (none), .func (PySem.W.fnOf (Str.ofString "_law_is_list") (Str.ofString "_law_is_list") (defArgs (top 38)) (defBody (top 38)) (defScope (top 38)) (Value.none) (Value.none) (Value.none) (Value.str (Str.ofString "law_logloom_k05_forms_shown_and_read") 597) (none) (Value.ref 358) (Value.none)), (#[])⟩ : Obj)) ::
  (nat_lit 360, ({ cls := Value.type "tuple", data := Data.seq #[] } : Obj)) ::
  (nat_lit 362, ({ cls := Value.type "tuple", data := Data.seq #[Value.str (Str.ofString "_law_text") 637, Value.str (Str.ofString "_law_small") 638] } : Obj)) ::
  (nat_lit 363, ({ cls := Value.type "tuple", data := Data.seq #[] } : Obj)) ::
  (nat_lit 365, ({ cls := Value.type "code", data := Data.fields #[Value.str (Str.ofString "_law_sort") 634, Value.str (Str.ofString "_law_sort") 635, Value.str (Str.ofString "/claim/cut.py") 636, Value.int 145 0, Value.int 1 0, Value.int 0 0, Value.int 0 0, Value.int 3 0, Value.ref 360, Value.bool true, Value.int 181 0, Value.ref 361, Value.none, Value.ref 362, Value.ref 363, Value.ref 364, Value.int 639 0, Value.int 145 0, Value.str (Str.ofString "/claim/cut.py") 640] } : Obj)) ::
  (nat_lit 366, (⟨(Value.type "function"), (none), .func (PySem.W.fnOf (Str.ofString "_law_sort") (Str.ofString "_law_sort") (defArgs (top 39)) (defBody (top 39)) (defScope (top 39)) (Value.none) (Value.none) (Value.none) (Value.str (Str.ofString "law_logloom_k05_forms_shown_and_read") 597) (none) (Value.ref 365) (Value.none)), (#[])⟩ : Obj)) ::
  (nat_lit 367, ({ cls := Value.type "tuple", data := Data.seq #[] } : Obj)) ::
  (nat_lit 369, ({ cls := Value.type "tuple", data := Data.seq #[Value.str (Str.ofString "_law_cell") 645, Value.str (Str.ofString "_law_many") 646, Value.str (Str.ofString "_law_signs_here") 647, Value.str (Str.ofString "_law_found") 648, Value.str (Str.ofString "_law_number") 649, Value.str (Str.ofString "_law_k") 650] } : Obj)) ::
  (nat_lit 370, ({ cls := Value.type "tuple", data := Data.seq #[] } : Obj)) ::
  (nat_lit 372, ({ cls := Value.type "code", data := Data.fields #[Value.str (Str.ofString "_law_signs") 642, Value.str (Str.ofString "_law_signs") 643, Value.str (Str.ofString "/claim/cut.py") 644, Value.int 156 0, Value.int 3 0, Value.int 0 0, Value.int 0 0, Value.int 3 0, Value.ref 367, Value.bool true, Value.int 181 0, Value.ref 368, Value.none, Value.ref 369, Value.ref 370, Value.ref 371, Value.int 651 0, Value.int 156 0, Value.str (Str.ofString "/claim/cut.py") 652] } : Obj)) ::
  (nat_lit 373, (⟨(Value.type "function"), (none), .func (PySem.W.fnOf (Str.ofString "_law_signs") (Str.ofString "_law_signs") (defArgs (top 40)) (defBody (top 40)) (defScope (top 40)) (Value.none) (Value.none) (Value.none) (Value.str (Str.ofString "law_logloom_k05_forms_shown_and_read") 597) (none) (Value.ref 372) (Value.none)), (#[])⟩ : Obj)) ::
  (nat_lit 374, ({ cls := Value.type "tuple", data := Data.seq #[] } : Obj)) ::
  (nat_lit 376, ({ cls := Value.type "tuple", data := Data.seq #[Value.str (Str.ofString "_law_cell") 657, Value.str (Str.ofString "_law_many") 658] } : Obj)) ::
  (nat_lit 377, ({ cls := Value.type "tuple", data := Data.seq #[] } : Obj)) ::
  (nat_lit 379, ({ cls := Value.type "code", data := Data.fields #[Value.str (Str.ofString "_law_number_word") 654, Value.str (Str.ofString "_law_number_word") 655, Value.str (Str.ofString "/claim/cut.py") 656, Value.int 163 0, Value.int 1 0, Value.int 0 0, Value.int 0 0, Value.int 3 0, Value.ref 374, Value.bool true, Value.int 181 0, Value.ref 375, Value.none, Value.ref 376, Value.ref 377, Value.ref 378, Value.int 659 0, Value.int 163 0, Value.str (Str.ofString "/claim/cut.py") 660] } : Obj)) ::
  (nat_lit 380, (⟨(Value.type "function"), (none), .func (PySem.W.fnOf (Str.ofString "_law_number_word") (Str.ofString "_law_number_word") (defArgs (top 41)) (defBody (top 41)) (defScope (top 41)) (Value.none) (Value.none) (Value.none) (Value.str (Str.ofString "law_logloom_k05_forms_shown_and_read") 597) (none) (Value.ref 379) (Value.none)), (#[])⟩ : Obj)) ::
  (nat_lit 381, ({ cls := Value.type "tuple", data := Data.seq #[] } : Obj)) ::
  (nat_lit 383, ({ cls := Value.type "tuple", data := Data.seq #[Value.str (Str.ofString "_law_cell") 665, Value.str (Str.ofString "_law_small") 666] } : Obj)) ::
  (nat_lit 384, ({ cls := Value.type "tuple", data := Data.seq #[] } : Obj)) ::
  (nat_lit 386, ({ cls := Value.type "code", data := Data.fields #[Value.str (Str.ofString "_law_name_word") 662, Value.str (Str.ofString "_law_name_word") 663, Value.str (Str.ofString "/claim/cut.py") 664, Value.int 168 0, Value.int 1 0, Value.int 0 0, Value.int 0 0, Value.int 3 0, Value.ref 381, Value.bool true, Value.int 181 0, Value.ref 382, Value.none, Value.ref 383, Value.ref 384, Value.ref 385, Value.int 667 0, Value.int 168 0, Value.str (Str.ofString "/claim/cut.py") 668] } : Obj)) ::
  (nat_lit 387, (⟨(Value.type "function"), (none), .func (PySem.W.fnOf (Str.ofString "_law_name_word") (Str.ofString "_law_name_word") (defArgs (top 42)) (defBody (top 42)) (defScope (top 42)) (Value.none) (Value.none) (Value.none) (Value.str (Str.ofString "law_logloom_k05_forms_shown_and_read") 597) (none) (Value.ref 386) (Value.none)), (#[])⟩ : Obj)) ::
  (nat_lit 388, ({ cls := Value.type "tuple", data := Data.seq #[] } : Obj)) ::
  (nat_lit 390, ({ cls := Value.type "tuple", data := Data.seq #[Value.str (Str.ofString "_law_cell") 673, Value.str (Str.ofString "_law_signs_here") 674, Value.str (Str.ofString "_law_many") 675, Value.str (Str.ofString "_law_word_here") 676, Value.str (Str.ofString "_law_at") 677, Value.str (Str.ofString "_law_great") 678] } : Obj)) ::
  (nat_lit 391, ({ cls := Value.type "tuple", data := Data.seq #[] } : Obj)) ::
  (nat_lit 393, ({ cls := Value.type "code", data := Data.fields #[Value.str (Str.ofString "_law_mark_word") 670, Value.str (Str.ofString "_law_mark_word") 671, Value.str (Str.ofString "/claim/cut.py") 672, Value.int 171 0, Value.int 1 0, Value.int 0 0, Value.int 0 0, Value.int 3 0, Value.ref 388, Value.bool true, Value.int 181 0, Value.ref 389, Value.none, Value.ref 390, Value.ref 391, Value.ref 392, Value.int 679 0, Value.int 171 0, Value.str (Str.ofString "/claim/cut.py") 680] } : Obj)) ::
  (nat_lit 394, (⟨(Value.type "function"), (none), .func (PySem.W.fnOf (Str.ofString "_law_mark_word") (Str.ofString "_law_mark_word") (defArgs (top 43)) (defBody (top 43)) (defScope (top 43)) (Value.none) (Value.none) (Value.none) (Value.str (Str.ofString "law_logloom_k05_forms_shown_and_read") 597) (none) (Value.ref 393) (Value.none)), (#[])⟩ : Obj)) ::
  (nat_lit 395, ({ cls := Value.type "tuple", data := Data.seq #[] } : Obj)) ::
  (nat_lit 397, ({ cls := Value.type "tuple", data := Data.seq #[Value.str (Str.ofString "_law_cell") 685, Value.str (Str.ofString "_law_items") 686, Value.str (Str.ofString "_law_k") 687, Value.str (Str.ofString "_law_part_here") 688] } : Obj)) ::
  (nat_lit 398, ({ cls := Value.type "tuple", data := Data.seq #[] } : Obj)) ::
  (nat_lit 400, ({ cls := Value.type "code", data := Data.fields #[Value.str (Str.ofString "_law_list_word") 682, Value.str (Str.ofString "_law_list_word") 683, Value.str (Str.ofString "/claim/cut.py") 684, Value.int 180 0, Value.int 1 0, Value.int 0 0, Value.int 0 0, Value.int 3 0, Value.ref 395, Value.bool true, Value.int 181 0, Value.ref 396, Value.none, Value.ref 397, Value.ref 398, Value.ref 399, Value.int 689 0, Value.int 180 0, Value.str (Str.ofString "/claim/cut.py") 690] } : Obj)) ::
  (nat_lit 401, (⟨(Value.type "function"), (none), .func (PySem.W.fnOf (Str.ofString "_law_list_word") (Str.ofString "_law_list_word") (defArgs (top 44)) (defBody (top 44)) (defScope (top 44)) (Value.none) (Value.none) (Value.none) (Value.str (Str.ofString "law_logloom_k05_forms_shown_and_read") 597) (none) (Value.ref 400) (Value.none)), (#[])⟩ : Obj)) ::
  (nat_lit 402, ({ cls := Value.type "tuple", data := Data.seq #[] } : Obj)) ::
  (nat_lit 404, ({ cls := Value.type "tuple", data := Data.seq #[Value.str (Str.ofString "_law_cell") 695] } : Obj)) ::
  (nat_lit 405, ({ cls := Value.type "tuple", data := Data.seq #[] } : Obj)) ::
  (nat_lit 407, ({ cls := Value.type "code", data := Data.fields #[Value.str (Str.ofString "_law_word") 692, Value.str (Str.ofString "_law_word") 693, Value.str (Str.ofString "/claim/cut.py") 694, Value.int 189 0, Value.int 1 0, Value.int 0 0, Value.int 0 0, Value.int 3 0, Value.ref 402, Value.bool true, Value.int 181 0, Value.ref 403, Value.none, Value.ref 404, Value.ref 405, Value.ref 406, Value.int 696 0, Value.int 189 0, Value.str (Str.ofString "/claim/cut.py") 697] } : Obj)) ::
  (nat_lit 408, (⟨(Value.type "function"), (none), .func (PySem.W.fnOf (Str.ofString "_law_word") (Str.ofString "_law_word") (defArgs (top 45)) (defBody (top 45)) (defScope (top 45)) (Value.none) (Value.none) (Value.none) (Value.str (Str.ofString "law_logloom_k05_forms_shown_and_read") 597) (none) (Value.ref 407) (Value.none)), (#[])⟩ : Obj)) ::
  (nat_lit 409, ({ cls := Value.type "tuple", data := Data.seq #[] } : Obj)) ::
  (nat_lit 411, ({ cls := Value.type "tuple", data := Data.seq #[Value.str (Str.ofString "_law_cell") 702, Value.str (Str.ofString "_law_many") 703, Value.str (Str.ofString "_law_row_here") 704, Value.str (Str.ofString "_law_k") 705, Value.str (Str.ofString "_law_number") 706] } : Obj)) ::
  (nat_lit 412, ({ cls := Value.type "tuple", data := Data.seq #[] } : Obj)) ::
  (nat_lit 414, ({ cls := Value.type "code", data := Data.fields #[Value.str (Str.ofString "_law_row") 699, Value.str (Str.ofString "_law_row") 700, Value.str (Str.ofString "/claim/cut.py") 701, Value.int 197 0, Value.int 2 0, Value.int 0 0, Value.int 0 0, Value.int 3 0, Value.ref 409, Value.bool true, Value.int 181 0, Value.ref 410, Value.none, Value.ref 411, Value.ref 412, Value.ref 413, Value.int 707 0, Value.int 197 0, Value.str (Str.ofString "/claim/cut.py") 708] } : Obj)) ::
  (nat_lit 415, (⟨(Value.type "function"), (none), .func (PySem.W.fnOf (Str.ofString "_law_row") (Str.ofString "_law_row") (defArgs (top 46)) (defBody (top 46)) (defScope (top 46)) (Value.none) (Value.none) (Value.none) (Value.str (Str.ofString "law_logloom_k05_forms_shown_and_read") 597) (none) (Value.ref 414) (Value.none)), (#[])⟩ : Obj)) ::
  (nat_lit 416, ({ cls := Value.type "tuple", data := Data.seq #[] } : Obj)) ::
  (nat_lit 418, ({ cls := Value.type "tuple", data := Data.seq #[Value.str (Str.ofString "_law_row_here") 713, Value.str (Str.ofString "_law_bits") 714, Value.str (Str.ofString "_law_form_here") 715, Value.str (Str.ofString "_law_k") 716] } : Obj)) ::
  (nat_lit 419, ({ cls := Value.type "tuple", data := Data.seq #[] } : Obj)) ::
  (nat_lit 421, ({ cls := Value.type "code", data := Data.fields #[Value.str (Str.ofString "_law_form") 710, Value.str (Str.ofString "_law_form") 711, Value.str (Str.ofString "/claim/cut.py") 712, Value.int 203 0, Value.int 2 0, Value.int 0 0, Value.int 0 0, Value.int 3 0, Value.ref 416, Value.bool true, Value.int 181 0, Value.ref 417, Value.none, Value.ref 418, Value.ref 419, Value.ref 420, Value.int 717 0, Value.int 203 0, Value.str (Str.ofString "/claim/cut.py") 718] } : Obj)) ::
  (nat_lit 422, (⟨(Value.type "function"), (none), .func (PySem.W.fnOf (Str.ofString "_law_form") (Str.ofString "_law_form") (defArgs (top 47)) (defBody (top 47)) (defScope (top 47)) (Value.none) (Value.none) (Value.none) (Value.str (Str.ofString "law_logloom_k05_forms_shown_and_read") 597) (none) (Value.ref 421) (Value.none)), (#[])⟩ : Obj)) ::
  (nat_lit 423, ({ cls := Value.type "tuple", data := Data.seq #[] } : Obj)) ::
  (nat_lit 425, ({ cls := Value.type "tuple", data := Data.seq #[Value.str (Str.ofString "_law_cell") 723, Value.str (Str.ofString "_law_some") 724] } : Obj)) ::
  (nat_lit 426, ({ cls := Value.type "tuple", data := Data.seq #[] } : Obj)) ::
  (nat_lit 428, ({ cls := Value.type "code", data := Data.fields #[Value.str (Str.ofString "_law_piece") 720, Value.str (Str.ofString "_law_piece") 721, Value.str (Str.ofString "/claim/cut.py") 722, Value.int 211 0, Value.int 1 0, Value.int 0 0, Value.int 0 0, Value.int 3 0, Value.ref 423, Value.bool true, Value.int 181 0, Value.ref 424, Value.none, Value.ref 425, Value.ref 426, Value.ref 427, Value.int 725 0, Value.int 211 0, Value.str (Str.ofString "/claim/cut.py") 726] } : Obj)) ::
  (nat_lit 429, (⟨(Value.type "function"), (none), .func (PySem.W.fnOf (Str.ofString "_law_piece") (Str.ofString "_law_piece") (defArgs (top 48)) (defBody (top 48)) (defScope (top 48)) (Value.none) (Value.none) (Value.none) (Value.str (Str.ofString "law_logloom_k05_forms_shown_and_read") 597) (none) (Value.ref 428) (Value.none)), (#[])⟩ : Obj)) ::
  (nat_lit 430, ({ cls := Value.type "tuple", data := Data.seq #[] } : Obj)) ::
  (nat_lit 432, ({ cls := Value.type "tuple", data := Data.seq #[Value.str (Str.ofString "_law_piece_here") 731, Value.str (Str.ofString "_law_sort_here") 732] } : Obj)) ::
  (nat_lit 433, ({ cls := Value.type "tuple", data := Data.seq #[] } : Obj)) ::
  (nat_lit 435, ({ cls := Value.type "code", data := Data.fields #[Value.str (Str.ofString "_law_part") 728, Value.str (Str.ofString "_law_part") 729, Value.str (Str.ofString "/claim/cut.py") 730, Value.int 217 0, Value.int 1 0, Value.int 0 0, Value.int 0 0, Value.int 3 0, Value.ref 430, Value.bool true, Value.int 181 0, Value.ref 431, Value.none, Value.ref 432, Value.ref 433, Value.ref 434, Value.int 733 0, Value.int 217 0, Value.str (Str.ofString "/claim/cut.py") 734] } : Obj)) ::
  (nat_lit 436, (⟨(Value.type "function"), (none), .func (PySem.W.fnOf (Str.ofString "_law_part") (Str.ofString "_law_part") (defArgs (top 49)) (defBody (top 49)) (defScope (top 49)) (Value.none) (Value.none) (Value.none) (Value.str (Str.ofString "law_logloom_k05_forms_shown_and_read") 597) (none) (Value.ref 435) (Value.none)), (#[])⟩ : Obj)) ::
  (nat_lit 437, ({ cls := Value.type "tuple", data := Data.seq #[] } : Obj)) ::
  (nat_lit 439, ({ cls := Value.type "tuple", data := Data.seq #[Value.str (Str.ofString "_law_found") 739, Value.str (Str.ofString "_law_due") 740, Value.str (Str.ofString "_law_one") 741, Value.str (Str.ofString "_law_other") 742] } : Obj)) ::
  (nat_lit 440, ({ cls := Value.type "tuple", data := Data.seq #[] } : Obj)) ::
  (nat_lit 442, ({ cls := Value.type "code", data := Data.fields #[Value.str (Str.ofString "_law_alike") 736, Value.str (Str.ofString "_law_alike") 737, Value.str (Str.ofString "/claim/cut.py") 738, Value.int 224 0, Value.int 2 0, Value.int 0 0, Value.int 0 0, Value.int 3 0, Value.ref 437, Value.bool true, Value.int 181 0, Value.ref 438, Value.none, Value.ref 439, Value.ref 440, Value.ref 441, Value.int 743 0, Value.int 224 0, Value.str (Str.ofString "/claim/cut.py") 744] } : Obj)) ::
  (nat_lit 443, (⟨(Value.type "function"), (none), .func (PySem.W.fnOf (Str.ofString "_law_alike") (Str.ofString "_law_alike") (defArgs (top 50)) (defBody (top 50)) (defScope (top 50)) (Value.none) (Value.none) (Value.none) (Value.str (Str.ofString "law_logloom_k05_forms_shown_and_read") 597) (none) (Value.ref 442) (Value.none)), (#[])⟩ : Obj)) ::
  (nat_lit 444, ({ cls := Value.type "tuple", data := Data.seq #[] } : Obj)) ::
  (nat_lit 446, ({ cls := Value.type "tuple", data := Data.seq #[Value.str (Str.ofString "_law_text") 749, Value.str (Str.ofString "_law_at") 750, Value.str (Str.ofString "_law_error") 751, Value.str (Str.ofString "e") 752, Value.str (Str.ofString "_law_others") 753] } : Obj)) ::
  (nat_lit 447, ({ cls := Value.type "tuple", data := Data.seq #[] } : Obj)) ::
  (nat_lit 449, ({ cls := Value.type "code", data := Data.fields #[Value.str (Str.ofString "_law_refused") 746, Value.str (Str.ofString "_law_refused") 747, Value.str (Str.ofString "/claim/cut.py") 748, Value.int 231 0, Value.int 2 0, Value.int 0 0, Value.int 0 0, Value.int 3 0, Value.ref 444, Value.bool true, Value.int 181 0, Value.ref 445, Value.none, Value.ref 446, Value.ref 447, Value.ref 448, Value.int 754 0, Value.int 231 0, Value.str (Str.ofString "/claim/cut.py") 755] } : Obj)) ::
  (nat_lit 450, (⟨(Value.type "function"), (none), .func (PySem.W.fnOf (Str.ofString "_law_refused") (Str.ofString "_law_refused") (defArgs (top 51)) (defBody (top 51)) (defScope (top 51)) (Value.none) (Value.none) (Value.none) (Value.str (Str.ofString "law_logloom_k05_forms_shown_and_read") 597) (none) (Value.ref 449) (Value.none)), (#[])⟩ : Obj)) ::
  (nat_lit 451, ({ cls := Value.type "tuple", data := Data.seq #[] } : Obj)) ::
  (nat_lit 454, ({ cls := Value.type "code", data := Data.fields #[Value.str (Str.ofString "_law_changed") 757, Value.str (Str.ofString "_law_changed") 758, Value.str (Str.ofString "/claim/cut.py") 759, Value.int 243 0, Value.int 2 0, Value.int 0 0, Value.int 0 0, Value.int 3 0, Value.ref 451, Value.bool true, Value.int 181 0, Value.ref 452, Value.none, Value.none, Value.none, Value.ref 453, Value.int 760 0, Value.int 243 0, Value.str (Str.ofString "/claim/cut.py") 761] } : Obj)) ::
  (nat_lit 455, (⟨(Value.type "function"), (none), .func (PySem.W.fnOf (Str.ofString "_law_changed") (Str.ofString "_law_changed") (defArgs (top 52)) (defBody (top 52)) (defScope (top 52)) (Value.none) (Value.none) (Value.none) (Value.str (Str.ofString "law_logloom_k05_forms_shown_and_read") 597) (none) (Value.ref 454) (Value.none)), (#[])⟩ : Obj)) ::
  (nat_lit 456, ({ cls := Value.type "tuple", data := Data.seq #[] } : Obj)) ::
  (nat_lit 459, ({ cls := Value.type "code", data := Data.fields #[Value.str (Str.ofString "law") 763, Value.str (Str.ofString "law") 764, Value.str (Str.ofString "/claim/cut.py") 765, Value.int 254 0, Value.int 1 0, Value.int 0 0, Value.int 0 0, Value.int 3 0, Value.ref 456, Value.bool true, Value.int 181 0, Value.ref 457, Value.none, Value.none, Value.none, Value.ref 458, Value.int 766 0, Value.int 254 0, Value.str (Str.ofString "/claim/cut.py") 767] } : Obj)) ::
  (nat_lit 460, (⟨(Value.type "function"), (none), .func (PySem.W.fnOf (Str.ofString "law") (Str.ofString "law") (defArgs (top 53)) (defBody (top 53)) (defScope (top 53)) (Value.none) (Value.none) (Value.none) (Value.str (Str.ofString "law_logloom_k05_forms_shown_and_read") 597) (none) (Value.ref 459) (Value.none)), (#[])⟩ : Obj)) :: []
def hA : List PySem.Addr := nat_lit 2 :: nat_lit 3 :: nat_lit 15 :: nat_lit 22 :: nat_lit 23 :: nat_lit 24 :: nat_lit 25 :: nat_lit 28 :: nat_lit 35 :: nat_lit 37 :: nat_lit 38 :: nat_lit 40 :: nat_lit 41 :: nat_lit 42 :: nat_lit 43 :: nat_lit 44 :: nat_lit 47 :: nat_lit 54 :: nat_lit 56 :: nat_lit 57 :: nat_lit 59 :: nat_lit 60 :: nat_lit 61 :: nat_lit 62 :: nat_lit 63 :: nat_lit 66 :: nat_lit 73 :: nat_lit 75 :: nat_lit 76 :: nat_lit 78 :: nat_lit 79 :: nat_lit 80 :: nat_lit 81 :: nat_lit 82 :: nat_lit 85 :: nat_lit 92 :: nat_lit 94 :: nat_lit 95 :: nat_lit 97 :: nat_lit 98 :: nat_lit 99 :: nat_lit 100 :: nat_lit 101 :: nat_lit 104 :: nat_lit 111 :: nat_lit 113 :: nat_lit 114 :: nat_lit 116 :: nat_lit 117 :: nat_lit 118 :: nat_lit 119 :: nat_lit 120 :: nat_lit 123 :: nat_lit 130 :: nat_lit 132 :: nat_lit 133 :: nat_lit 135 :: nat_lit 136 :: nat_lit 137 :: nat_lit 138 :: nat_lit 139 :: nat_lit 142 :: nat_lit 145 :: nat_lit 146 :: nat_lit 154 :: nat_lit 156 :: nat_lit 157 :: nat_lit 159 :: nat_lit 160 :: nat_lit 161 :: nat_lit 163 :: nat_lit 164 :: nat_lit 166 :: nat_lit 167 :: nat_lit 168 :: nat_lit 169 :: nat_lit 170 :: nat_lit 171 :: nat_lit 172 :: nat_lit 175 :: nat_lit 182 :: nat_lit 184 :: nat_lit 185 :: nat_lit 187 :: nat_lit 188 :: nat_lit 189 :: nat_lit 191 :: nat_lit 192 :: nat_lit 194 :: nat_lit 195 :: nat_lit 196 :: nat_lit 197 :: nat_lit 198 :: nat_lit 201 :: nat_lit 208 :: nat_lit 210 :: nat_lit 211 :: nat_lit 213 :: nat_lit 214 :: nat_lit 215 :: nat_lit 217 :: nat_lit 218 :: nat_lit 220 :: nat_lit 221 :: nat_lit 222 :: nat_lit 223 :: nat_lit 224 :: nat_lit 227 :: nat_lit 234 :: nat_lit 236 :: nat_lit 237 :: nat_lit 239 :: nat_lit 240 :: nat_lit 241 :: nat_lit 244 :: nat_lit 245 :: nat_lit 246 :: nat_lit 247 :: nat_lit 248 :: nat_lit 251 :: nat_lit 258 :: nat_lit 260 :: nat_lit 261 :: nat_lit 263 :: nat_lit 264 :: nat_lit 265 :: nat_lit 267 :: nat_lit 268 :: nat_lit 270 :: nat_lit 271 :: nat_lit 272 :: nat_lit 273 :: nat_lit 274 :: nat_lit 277 :: nat_lit 279 :: nat_lit 280 :: nat_lit 282 :: nat_lit 283 :: nat_lit 284 :: nat_lit 286 :: nat_lit 287 :: nat_lit 289 :: nat_lit 290 :: nat_lit 291 :: nat_lit 293 :: nat_lit 294 :: nat_lit 296 :: nat_lit 297 :: nat_lit 298 :: nat_lit 300 :: nat_lit 301 :: nat_lit 303 :: nat_lit 304 :: nat_lit 305 :: nat_lit 307 :: nat_lit 308 :: nat_lit 310 :: nat_lit 311 :: nat_lit 312 :: nat_lit 315 :: nat_lit 316 :: nat_lit 317 :: nat_lit 319 :: nat_lit 320 :: nat_lit 322 :: nat_lit 323 :: nat_lit 324 :: nat_lit 327 :: nat_lit 328 :: nat_lit 329 :: nat_lit 331 :: nat_lit 332 :: nat_lit 334 :: nat_lit 335 :: nat_lit 336 :: nat_lit 339 :: nat_lit 340 :: nat_lit 341 :: nat_lit 343 :: nat_lit 344 :: nat_lit 346 :: nat_lit 347 :: nat_lit 348 :: nat_lit 350 :: nat_lit 351 :: nat_lit 353 :: nat_lit 354 :: nat_lit 355 :: nat_lit 358 :: nat_lit 359 :: nat_lit 360 :: nat_lit 362 :: nat_lit 363 :: nat_lit 365 :: nat_lit 366 :: nat_lit 367 :: nat_lit 369 :: nat_lit 370 :: nat_lit 372 :: nat_lit 373 :: nat_lit 374 :: nat_lit 376 :: nat_lit 377 :: nat_lit 379 :: nat_lit 380 :: nat_lit 381 :: nat_lit 383 :: nat_lit 384 :: nat_lit 386 :: nat_lit 387 :: nat_lit 388 :: nat_lit 390 :: nat_lit 391 :: nat_lit 393 :: nat_lit 394 :: nat_lit 395 :: nat_lit 397 :: nat_lit 398 :: nat_lit 400 :: nat_lit 401 :: nat_lit 402 :: nat_lit 404 :: nat_lit 405 :: nat_lit 407 :: nat_lit 408 :: nat_lit 409 :: nat_lit 411 :: nat_lit 412 :: nat_lit 414 :: nat_lit 415 :: nat_lit 416 :: nat_lit 418 :: nat_lit 419 :: nat_lit 421 :: nat_lit 422 :: nat_lit 423 :: nat_lit 425 :: nat_lit 426 :: nat_lit 428 :: nat_lit 429 :: nat_lit 430 :: nat_lit 432 :: nat_lit 433 :: nat_lit 435 :: nat_lit 436 :: nat_lit 437 :: nat_lit 439 :: nat_lit 440 :: nat_lit 442 :: nat_lit 443 :: nat_lit 444 :: nat_lit 446 :: nat_lit 447 :: nat_lit 449 :: nat_lit 450 :: nat_lit 451 :: nat_lit 454 :: nat_lit 455 :: nat_lit 456 :: nat_lit 459 :: nat_lit 460 :: []
theorem hE : ∀ P, hA = (hK P).map (·.1) := fun _ => by kernel_rfl
def hQ : PySem.Program := { PySem.Challenge.pw_logloom_k05_forms_shown_and_read with
  main := { PySem.Challenge.pw_logloom_k05_forms_shown_and_read.main with
    body := [top 1, top 2, top 3, top 4, top 5, top 6, top 7, top 9, top 10, top 11, top 12, top 13, top 14, top 15, top 16, top 17, top 18, top 19, top 20, top 21, top 22, top 23, top 24, top 26, top 27, top 29, top 30, top 31, top 32, top 34, top 35, top 36, top 37, top 38, top 39, top 40, top 41, top 42, top 43, top 44, top 45, top 46, top 47, top 48, top 49, top 50, top 51, top 52, top 53] } }
abbrev hH : PySem.W.Hook := PySem.W.kHook hK hA hE
abbrev hX (s : PySem.Shared) : Bool := PySem.W.xlAt hQ [] s &&
  PySem.W.recOk (PySem.W.RowW.records (PySem.W.OpenRow.toRowW (PySem.W.OpenLaw.row PySem.Challenge.rw_logloom_k05_forms_shown_and_read))) s
set_option maxHeartbeats 0 in
theorem hL : PySem.W.LeftO PySem.Challenge.pw_logloom_k05_forms_shown_and_read hQ [] hX hH.obs hH.val 8078 :=
  HT.left1 rfl rfl (fun _ => rfl) (fun w os => by kernel_rfl)
end SL

namespace L2
open PySem PySem.Spec PyProof.Rows


abbrev Key := Sum Int Str
def keyIs : Key → Value → Bool
  | .inl k, v => Value.isInt k v
  | .inr x, v => Value.isStrOf x v
def keyH (w : World) : Key → Int
  | .inl k => hashInt k
  | .inr x => hashStr w x
theorem keyIs_shape : ∀ {k : Key} {v : Value}, keyIs k v = true → (∃ i t, k = Sum.inl i ∧ v = Value.int i t) ∨ (∃ x t, k = Sum.inr x ∧ v = Value.str x t)
  | .inl i, v, h => by
    obtain ⟨t, e⟩ := Value.isInt_shape (k := i) (v := v) h
    exact .inl ⟨i, t, rfl, e⟩
  | .inr x, v, h => by
    obtain ⟨t, e⟩ := Value.isStrOf_shape (x := x) (v := v) h
    exact .inr ⟨x, t, rfl, e⟩
theorem key_ll (a b : Int) : decide ((Sum.inl a : Key) = Sum.inl b) = (a == b) := by
  by_cases e : a = b
  · subst e; simp
  · have h : ¬ (Sum.inl a : Key) = Sum.inl b := fun q => e (Sum.inl.inj q)
    rw [decide_eq_false h]
    exact (beq_eq_false_iff_ne.mpr e).symm
theorem key_rr (a b : Str) : decide ((Sum.inr a : Key) = Sum.inr b) = decide (a = b) := by
  by_cases e : a = b
  · subst e; simp
  · have h : ¬ (Sum.inr a : Key) = Sum.inr b := fun q => e (Sum.inr.inj q)
    rw [decide_eq_false h, decide_eq_false e]
theorem key_lr (a : Int) (b : Str) : decide ((Sum.inl a : Key) = Sum.inr b) = false := decide_eq_false (fun q => nomatch q)
theorem key_rl (a : Str) (b : Int) : decide ((Sum.inr a : Key) = Sum.inl b) = false := decide_eq_false (fun q => nomatch q)

def mixKind (prog : Program) (w : World) : PySem.KeyKind prog w Key where
  is := keyIs
  hash := keyH w
  inj := fun v a b ha hb => by
    rcases keyIs_shape ha with ⟨i, t, rfl, rfl⟩ | ⟨x, t, rfl, rfl⟩
    · rcases keyIs_shape hb with ⟨j, u, rfl, e⟩ | ⟨y, u, rfl, e⟩
      · injection e with e1 _; rw [e1]
      · exact nomatch e
    · rcases keyIs_shape hb with ⟨j, u, rfl, e⟩ | ⟨y, u, rfl, e⟩
      · exact nomatch e
      · injection e with e1 _; rw [e1]
  byValue := fun k v h => by
    rcases keyIs_shape h with ⟨i, t, rfl, rfl⟩ | ⟨x, t, rfl, rfl⟩ <;> rfl
  pyHash := fun hv h => by
    rcases keyIs_shape hv with ⟨i, t, rfl, rfl⟩ | ⟨x, t, rfl, rfl⟩
    · exact wpAny_pyHash_int h
    · exact wpAny_pyHash_str h
  eqBool := fun hu hv h => by
    rcases keyIs_shape hu with ⟨i, t, rfl, rfl⟩ | ⟨x, t, rfl, rfl⟩
    · rcases keyIs_shape hv with ⟨j, u, rfl, rfl⟩ | ⟨y, u, rfl, rfl⟩
      · rw [key_ll] at h; exact wpAny_eqBool_int h
      · rw [key_lr] at h; exact SeqAt.EqAt.int_str i t y u _ _ _ _ h
    · rcases keyIs_shape hv with ⟨j, u, rfl, rfl⟩ | ⟨y, u, rfl, rfl⟩
      · rw [key_rl] at h; exact SeqAt.EqAt.str_int x t j u _ _ _ _ h
      · rw [key_rr] at h; exact wpAny_eqBool_str h
  «strs» := fun k x t v h => by
    rcases keyIs_shape h with ⟨i, u, rfl, e⟩ | ⟨y, u, rfl, e⟩
    · exact nomatch e
    · injection e with e1 _
      subst e1
      cases v <;> rfl

end L2

namespace L2
open PySem PySem.Spec PyProof.Rows


inductive V where
  | non | bl (b : Bool) | int (i : Int) | str (x : Str) | byt (b : Array UInt8) | flt (b : UInt64) | ref (a : Addr) | ty (n : String)
  deriving DecidableEq

def RelV : V → Value → Prop
  | .non, u => u = Value.none
  | .bl b, u => u = Value.bool b
  | .int i, u => ∃ t, u = Value.int i t
  | .str x, u => ∃ t, u = Value.str x t
  | .byt b, u => ∃ t, u = Value.bytes b t
  | .flt b, u => ∃ t, u = Value.float b t
  | .ref a, u => u = Value.ref a
  | .ty n, u => u = Value.type n

abbrev Vals : List V → List Value → Prop := Paired RelV
theorem Vals.length {xs : List V} {us : List Value} (r : Vals xs us) : xs.length = us.length := Paired.length r
theorem Vals.get : ∀ {xs : List V} {us : List Value} {i : Nat} {x : V}, Vals xs us → xs[i]? = some x → ∃ u, us[i]? = some u ∧ RelV x u
  | _, _, _, _, .nil, e => by simp at e
  | _, _, 0, _, .cons r _, e => by simp at e; subst e; exact ⟨_, rfl, r⟩
  | _, _, i + 1, x, .cons _ t, e => by
    obtain ⟨u, h1, h2⟩ := Vals.get (i := i) (x := x) t (by simpa using e)
    exact ⟨u, by simpa using h1, h2⟩
theorem Vals.set {x : V} {u : Value} (r : RelV x u) : ∀ {xs : List V} {us : List Value} (i : Nat), Vals xs us → Vals (xs.set i x) (us.set i u)
  | _, _, _, .nil => .nil
  | _, _, 0, .cons _ t => .cons r t
  | _, _, i + 1, .cons q t => .cons q (Vals.set r i t)
theorem Vals.append : ∀ {xs ys : List V} {us ws : List Value}, Vals xs us → Vals ys ws → Vals (xs ++ ys) (us ++ ws)
  | _, _, _, _, .nil, s => s
  | _, _, _, _, .cons r t, s => .cons r (Vals.append t s)
theorem Vals.take : ∀ {xs : List V} {us : List Value} (n : Nat), Vals xs us → Vals (xs.take n) (us.take n)
  | _, _, 0, _ => .nil
  | _, _, _ + 1, .nil => .nil
  | _, _, n + 1, .cons r t => .cons r (Vals.take n t)
theorem Vals.drop : ∀ {xs : List V} {us : List Value} (n : Nat), Vals xs us → Vals (xs.drop n) (us.drop n)
  | _, _, 0, r => r
  | _, _, _ + 1, .nil => .nil
  | _, _, n + 1, .cons _ t => Vals.drop n t
def RelO : Option V → Option Value → Prop
  | some v, some u => RelV v u
  | none, none => True
  | _, _ => False
def KV {κ : Type} : List (κ × V) → List (κ × Value) → Prop := Paired fun (p : κ × V) (q : κ × Value) => p.1 = q.1 ∧ RelV p.2 q.2


def kV : Key → V
  | .inl i => .int i
  | .inr x => .str x


inductive HO where
  
  | lst (xs : List V)
  
  | tup (xs : List V)
  
  | dK (kvs : List (Key × V)) | dT (kvs : List (List Key × V))
  
  | set (S : Int → Bool) (n : Nat)
  
  | ins (C dx : Addr) (fs : List (Str × V))
  
  | own (x : Addr)
  
  | xd (fs : List (Str × V))
  
  | met (f x : Addr)
  
  | rng (lo hi : Int)
  
  | frz (o : Obj) (u : HO)
  
  | tbl (ps : Array Value)
  
  | ext (φ : Heap → Prop)

abbrev Hp := Addr → Option HO
def upd (H : Hp) (a : Addr) (o : HO) : Hp := fun b => if b = a then some o else H b
theorem upd_same {H : Hp} {a : Addr} {o : HO} : upd H a o a = some o := by unfold upd; rw [if_pos rfl]
theorem upd_ne {H : Hp} {a b : Addr} {o : HO} (h : b ≠ a) : upd H a o b = H b := by unfold upd; rw [if_neg h]
theorem ne_of {H : Hp} {a b : Addr} {o u : HO} (h : H a = some o) (h' : H b = some u) (d : o ≠ u) : a ≠ b := by
  intro e; subst e; rw [h] at h'; exact d (Option.some.inj h')
theorem ne_of_none {H : Hp} {a b : Addr} {o : HO} (h : H a = some o) (h' : H b = none) : a ≠ b := by
  intro e; subst e; rw [h] at h'; cases h'

section
variable (P : Program) (w : World)
def ObjOk (H : Hp) (h : Heap) (a : Addr) : HO → Prop
  | .lst xs => xs.length ≤ sizeLine ∧ ∃ (its : List Value) (n : Nat), Vals xs its ∧ h.get? a = some { cls := .type "list", data := .seq its.toArray n }
  | .tup xs => xs.length ≤ sizeLine ∧ ∃ its : List Value, Vals xs its ∧ IsTup h a its.toArray
  | .dK kvs => kvs.length ≤ sizeLine ∧ (a == sysModules) = false ∧ ∃ vs, KV kvs vs ∧ h.DictOf (mixKind P w) a vs
  | .dT kvs => kvs.length ≤ sizeLine ∧ (a == sysModules) = false ∧ ∃ xs : List (List Key × Addr × Value),
      Paired (fun (p : List Key × V) (q : List Key × Addr × Value) => p.1 = q.1 ∧ H q.2.1 = some (.tup (p.1.map kV)) ∧ RelV p.2 q.2.2) kvs xs ∧
      ∃ o es ep, h.get? a = some o ∧ o.ExactDict ∧ o.data = .dict es ep ∧ es.toList = xs.map (entryOfKey (tupleKind (mixKind P w))) ∧ (xs.map (·.1)).Nodup
  | .set S n => h.SetOf (intKind P w) a S n
  | .ins C dx fs => H dx = some (.own a) ∧ fs.length ≤ 1000 ∧ dx ≠ a ∧ h.get? a = some (PySem.W.instObj C dx) ∧
      ∃ mA, h.Ns1 dx mA ∧ (∀ f, RelO (fs.lookup f) (mA f)) ∧ PySem.Within mA (fs.map (·.1))
  | .own _ => ∃ o, h.get? a = some o
  | .xd fs => ∃ mA, h.Ns1 a mA ∧ ∀ f, RelO (fs.lookup f) (mA f)
  | .rng lo hi => ∃ t u v, h.get? a = some { cls := .type "range", data := .fields #[.int lo t, .int hi u, .int 1 v] }
  | .frz o u => h.get? a = some o ∧ ObjOk H h a u
  | .tbl ps => h.get? a = some { cls := .none, data := .fields ps }
  | .met f x => h.get? a = some (PySem.W.methodObj (.ref f) (.ref x))
  | .ext φ => φ h ∧ (∃ o, h.get? a = some o) ∧ ∀ h1 h2 : Heap, φ h1 → (∀ o, h1.get? a = some o → h2.get? a = some o) → φ h2

def HOk (H : Hp) (h : Heap) : Prop := ∀ a o, H a = some o → ObjOk P w H h a o
end

section
variable {P : Program} {w : World} {H H' : Hp} {h h' : Heap} {a : Addr} {o : HO}
theorem ObjOk.lt (x : ObjOk P w H h a o) : a < h.objs.size := by
  cases o with
  | lst xs => obtain ⟨_, _, _, _, e⟩ := x; exact Heap.lt_size e
  | tup xs => obtain ⟨_, _, _, p⟩ := x; exact p.lt
  | dK kvs => obtain ⟨_, _, _, _, o, _, _, e, _⟩ := x; exact Heap.lt_size e
  | dT kvs => obtain ⟨_, _, _, _, o, _, _, e, _⟩ := x; exact Heap.lt_size e
  | set S n => obtain ⟨o, _, _, _, e, _⟩ := x; exact Heap.lt_size e
  | ins C dx fs => obtain ⟨_, _, _, e, _⟩ := x; exact Heap.lt_size e
  | own y => obtain ⟨_, e⟩ := x; exact Heap.lt_size e
  | xd fs => obtain ⟨_, ⟨_, _, _, e, _⟩, _⟩ := x; exact Heap.lt_size e
  | rng lo hi => obtain ⟨_, _, _, e⟩ := x; exact Heap.lt_size e
  | frz ob u => obtain ⟨e, _⟩ := x; exact Heap.lt_size e
  | tbl ps => exact Heap.lt_size (show h.get? a = some _ from x)
  | met f y => exact Heap.lt_size (show h.get? a = some _ from x)
  | ext φ => obtain ⟨_, ⟨_, e⟩, _⟩ := x; exact Heap.lt_size e
theorem Paired.mapP {α β : Type} {F G : α → β → Prop} : ∀ {l₁ : List α} {l₂ : List β}, Paired F l₁ l₂ → (∀ a b, F a b → G a b) → Paired G l₁ l₂
  | _, _, .nil, _ => .nil
  | _, _, .cons r t, f => .cons (f _ _ r) (Paired.mapP t f)
theorem ObjOk.stay (x : ObjOk P w H h a o) (k : ∀ b u, (b = a ∨ H b = some (.own a)) → h.get? b = some u → h'.get? b = some u)
    (ho : ∀ b, H b = some (.own a) → H' b = some (.own a)) (ht : ∀ b xs, H b = some (.tup xs) → H' b = some (.tup xs)) : ObjOk P w H' h' a o := by
  induction o with
  | lst xs => obtain ⟨z, its, n, r, e⟩ := x; exact ⟨z, its, n, r, k _ _ (.inl rfl) e⟩
  | tup xs => obtain ⟨z, its, r, ob, e, c⟩ := x; exact ⟨z, its, r, ob, k _ _ (.inl rfl) e, c⟩
  | dK kvs => obtain ⟨z, y, vs, r, ob, es, ep, e, c⟩ := x; exact ⟨z, y, vs, r, ob, es, ep, k _ _ (.inl rfl) e, c⟩
  | dT kvs =>
    obtain ⟨z, y, xs, r, ob, es, ep, e, c⟩ := x
    exact ⟨z, y, xs, Paired.mapP r fun p q z => ⟨z.1, ht _ _ z.2.1, z.2.2⟩, ob, es, ep, k _ _ (.inl rfl) e, c⟩
  | set S n => obtain ⟨ob, es, ep, t, e, c⟩ := x; exact ⟨ob, es, ep, t, k _ _ (.inl rfl) e, c⟩
  | ins C dx fs =>
    obtain ⟨d, z, ne, e, mA, ⟨od, es, ep, e2, c⟩, r⟩ := x
    exact ⟨ho _ d, z, ne, k _ _ (.inl rfl) e, mA, ⟨od, es, ep, k _ _ (.inr d) e2, c⟩, r⟩
  | own y => obtain ⟨ob, e⟩ := x; exact ⟨ob, k _ _ (.inl rfl) e⟩
  | xd fs => obtain ⟨mA, ⟨od, es, ep, e, c⟩, r⟩ := x; exact ⟨mA, ⟨od, es, ep, k _ _ (.inl rfl) e, c⟩, r⟩
  | rng lo hi => obtain ⟨t, u, v, e⟩ := x; exact ⟨t, u, v, k _ _ (.inl rfl) e⟩
  | frz ob u ih => obtain ⟨e, q⟩ := x; exact ⟨k _ _ (.inl rfl) e, ih q⟩
  | tbl ps =>
    have e : h.get? a = some { cls := .none, data := .fields ps } := x
    show h'.get? a = some { cls := .none, data := .fields ps }
    exact k a _ (.inl rfl) e
  | met f y =>
    have e : h.get? a = some (PySem.W.methodObj (.ref f) (.ref y)) := x
    show h'.get? a = some (PySem.W.methodObj (.ref f) (.ref y))
    exact k a _ (.inl rfl) e
  | ext φ => obtain ⟨p, ⟨o, e⟩, st⟩ := x; exact ⟨st _ _ p fun o q => k _ _ (.inl rfl) q, ⟨o, k _ _ (.inl rfl) e⟩, st⟩
theorem HOk.lt (x : HOk P w H h) (e : H a = some o) : a < h.objs.size := (x a o e).lt
theorem HOk.fresh (x : HOk P w H h) (e : h.objs.size ≤ a) : H a = none := by
  cases q : H a with
  | none => rfl
  | some u => exact absurd (Nat.lt_of_lt_of_le (x.lt q) e) (Nat.lt_irrefl _)

theorem HOk.kept (x : HOk P w H h) (k : ∀ b u, h.get? b = some u → h'.get? b = some u) : HOk P w H h' := fun a o e =>
  (x a o e).stay (fun b u _ q => k b u q) (fun _ q => q) fun _ _ q => q

theorem HOk.laid (x : HOk P w H h) (k : ∀ b u, h.get? b = some u → h'.get? b = some u) (hp : h.objs.size ≤ a) (new : ObjOk P w (upd H a o) h' a o) : HOk P w (upd H a o) h' := fun b u e => by
  have hn := x.fresh hp
  by_cases hb : b = a
  · subst hb; rw [upd_same] at e; cases e; exact new
  · rw [upd_ne hb] at e
    exact (x b u e).stay (fun c v _ q => k c v q) (fun c q => by rw [upd_ne (ne_of_none q hn)]; exact q) fun c xs q => by rw [upd_ne (ne_of_none q hn)]; exact q
end


def Rd (H : Hp) (a : Addr) (u : HO) : Prop := H a = some u ∨ ∃ o, H a = some (.frz o u)
theorem Rd.ok {P : Program} {w : World} {H : Hp} {h : Heap} {a : Addr} {u : HO} (r : Rd H a u) (x : HOk P w H h) : ObjOk P w H h a u := by
  rcases r with r | ⟨o, r⟩
  · exact x a u r
  · obtain ⟨_, q⟩ := x a _ r
    exact q

def Mut : Option HO → Prop
  | some (.lst _) => True
  | some (.dK _) => True
  | some (.dT _) => True
  | some (.set _ _) => True
  | some (.ins _ _ _) => True
  | some (.ext _) => True
  | _ => False
section
variable {P : Program} {w : World} {H : Hp} {h h' : Heap} {x e : Addr} {o' : HO}

theorem HOk.write (ok : HOk P w H h) (mu : Mut (H x)) (he : e = x ∨ H e = some (.own x)) (k : ∀ b u, b ≠ e → h.get? b = some u → h'.get? b = some u) (heo : ∃ u, h'.get? e = some u)
    (new : ObjOk P w (upd H x o') h' x o') : HOk P w (upd H x o') h' := fun b u q => by
  have nown : ∀ c y, H c = some (.own y) → c ≠ x := fun c y r z => by subst z; rw [r] at mu; exact mu
  have ntup : ∀ c xs, H c = some (.tup xs) → c ≠ x := fun c xs r z => by subst z; rw [r] at mu; exact mu
  by_cases hb : b = x
  · subst hb; rw [upd_same] at q; cases q; exact new
  · rw [upd_ne hb] at q
    by_cases hbe : b = e
    · have q' : H b = some (.own x) := by
        rcases he with z | z
        · exact absurd (hbe.trans z) hb
        · rw [hbe]; exact z
      rw [q] at q'; cases q'
      obtain ⟨v, hv⟩ := heo
      exact ⟨v, by rw [hbe]; exact hv⟩
    · refine (ok b u q).stay (fun c v hc r => k c v ?_ r) (fun c r => by rw [upd_ne (nown c b r)]; exact r) fun c xs r => by rw [upd_ne (ntup c xs r)]; exact r
      rcases hc with rfl | hc
      · exact hbe
      · rintro rfl
        rcases he with z | z
        · exact nown c b hc z
        · rw [hc] at z; cases z; exact hb rfl
end


structure Un (fs ex : List Addr) (H H' : Hp) (h h' : Heap) : Prop where
  keep : ∀ b o, h.get? b = some o → H b = none → b ∉ fs → b ∉ ex → h'.get? b = some o
  slot : ∀ b o, h.get? b = some o → H b = none → b ∈ fs → b ∉ ex → ∃ sl, h'.get? b = some { o with slots := sl }
  free : ∀ b o, h.get? b = some o → H b = none → b ∉ ex → H' b = none
  there : ∀ b o, h.get? b = some o → b ∉ ex → ∃ o', h'.get? b = some o'
  tups : ∀ b xs, H b = some (.tup xs) → H' b = some (.tup xs)
  frzs : ∀ b o u, H b = some (.frz o u) → H' b = some (.frz o u)
  tbls : ∀ b ps, H b = some (.tbl ps) → ∃ more, H' b = some (.tbl (ps ++ more))
section
variable {fs fs' ex ex' : List Addr} {H H1 H2 : Hp} {h h1 h2 h' : Heap} {a x e : Addr} {o : HO}
theorem Un.any (u : Un fs ex H H1 h h1) {b : Addr} {ob : Obj} (q : h.get? b = some ob) (n : H b = none) (hx : b ∉ ex) : ∃ sl, h1.get? b = some { ob with slots := sl } := by
  by_cases hb : b ∈ fs
  · exact u.slot b ob q n hb hx
  · exact ⟨ob.slots, u.keep b ob q n hb hx⟩
theorem Un.kept (k : ∀ b u, h.get? b = some u → h'.get? b = some u) : Un fs ex H H h h' :=
  ⟨fun b ob q _ _ _ => k b ob q, fun b ob q _ _ _ => ⟨ob.slots, k b ob q⟩, fun _ _ _ n _ => n, fun b ob q _ => ⟨ob, k b ob q⟩, fun _ _ q => q, fun _ _ _ q => q, fun _ ps q => ⟨#[], by rw [q]; simp⟩⟩
theorem Un.refl : Un fs ex H H h h := Un.kept fun _ _ q => q
theorem Un.laid (k : ∀ b u, h.get? b = some u → h'.get? b = some u) (hp : h.objs.size ≤ a) (hn : H a = none) : Un fs ex H (upd H a o) h h' where
  keep := fun b u q _ _ _ => k b u q
  slot := fun b u q _ _ _ => ⟨u.slots, k b u q⟩
  free := fun b u q n _ => by rw [upd_ne (Nat.ne_of_lt (Nat.lt_of_lt_of_le (Heap.lt_size q) hp))]; exact n
  there := fun b u q _ => ⟨u, k b u q⟩
  tups := fun b xs q => by rw [upd_ne (ne_of_none q hn)]; exact q
  frzs := fun b u xs q => by rw [upd_ne (ne_of_none q hn)]; exact q
  tbls := fun b ps q => ⟨#[], by rw [upd_ne (ne_of_none q hn), q]; simp⟩
theorem Un.write (mu : Mut (H x)) (he : e = x ∨ H e = some (.own x)) (k : ∀ b u, b ≠ e → h.get? b = some u → h'.get? b = some u) (heo : ∃ u, h'.get? e = some u) : Un fs ex H (upd H x o) h h' := by
  have hx : ∀ b, H b = none → b ≠ x := fun b n z => by subst z; rw [n] at mu; exact mu
  have hb : ∀ b, H b = none → b ≠ e := fun b n z => by
    subst z
    rcases he with r | r
    · exact hx b n r
    · rw [n] at r; cases r
  have hm : ∀ b u, H b = some u → ¬ Mut (some u) → b ≠ x := fun b u q nm z => by subst z; rw [q] at mu; exact nm mu
  refine ⟨fun b u q n _ _ => k b u (hb b n) q, fun b u q n _ _ => ⟨u.slots, k b u (hb b n) q⟩, fun b u q n _ => by rw [upd_ne (hx b n)]; exact n, fun b u q _ => ?_,
    fun b xs q => by rw [upd_ne (hm b _ q fun z => z)]; exact q, fun b u xs q => by rw [upd_ne (hm b _ q fun z => z)]; exact q, fun b ps q => ⟨#[], by rw [upd_ne (hm b _ q fun z => z), q]; simp⟩⟩
  by_cases hbe : b = e
  · subst hbe; exact heo
  · exact ⟨u, k b u hbe q⟩
end


def trk (h : Heap) (H : Hp) : List Addr := (List.range h.objs.size).filter fun a => (H a).isSome
def hidT (h : Heap) (H : Hp) : Heap := PySem.W.hideAll h (trk h H)
theorem hidT_size (h : Heap) (H : Hp) : (hidT h H).objs.size = h.objs.size := PySem.W.hideAll_size _ _
theorem hidT_get {h : Heap} {H : Hp} {b : Addr} {o : Obj} (e : h.get? b = some o) (n : H b = none) : (hidT h H).get? b = some o :=
  PySem.W.hideAll_get _ e fun hm => by
    have q : (H b).isSome = true := (List.mem_filter.mp hm).2
    rw [n] at q; simp at q
theorem of_hidT {h : Heap} {H : Hp} {b : Addr} {o : Obj} (e : (hidT h H).get? b = some o) : h.get? b = some o ∧ H b = none := by
  have e' : h.get? b = some o := PySem.W.of_hideAll (trk h H) e
  refine ⟨e', ?_⟩
  cases q : H b with
  | none => rfl
  | some x =>
    have hm : b ∈ trk h H := List.mem_filter.mpr ⟨List.mem_range.mpr (Heap.lt_size e'), by simp [q]⟩
    have z : (hidT h H).get? b = none := PySem.W.hideAll_none (trk h H) hm
    rw [z] at e; cases e


end L2

namespace L2
open PySem PySem.Spec PyProof.Rows


structure Mod (K : PySem.W.Frag) (mg : Str → Option Value) (base : Heap) : Prop where
  kin : K.In base
  glob : base.Ns mainGlobals mg
  blt : ∃ mb, base.Ns builtinsNs mb ∧ ∀ x : Str, x ≠ "__name__" → mb x = bootBuiltins x
  nolimit : base.NoLimit


structure Cx where
  prog : Program
  w : World
  K : PySem.W.Frag
  mg : Str → Option Value
  base : Heap
  A : Around
  N : List Str
  s₀ : Shared
  H₀ : Hp
  env : Env
  outer : List Env
  stack : List Env
  ex : List Addr
  fn : Str → Bool
  calm : Bool
  pn : List (Addr × Obj)
  xe : Value → Shared → Prop

def frs (l : List Env) : List Addr := l.filterMap (·.frame)
abbrev Cx.fs (X : Cx) : List Addr := frs X.outer

def Vis (sc : Scope) (x : Str) : Prop := sc.names.lookup x = some .local ∨ sc.names.lookup x = some .cell ∨ sc.names.lookup x = some .free
def Loc (sc : Scope) (x : Str) : Prop := sc.names.lookup x = some .local ∨ sc.names.lookup x = some .cell
def Look (env : Env) (h : Heap) (m : Str → Option Value) (x : Str) (u : Value) : Prop :=
  (env.kindOf x = some .local ∧ m x = some u) ∨ ((env.kindOf x = some .cell ∨ env.kindOf x = some .free) ∧ ∃ c, env.cells.lookup x = some c ∧ h.IsCell c (some u))

structure Cx.Ok (X : Cx) : Prop where
  mod : Mod X.K X.mg X.base
  kind : X.env.scope.kind = .function
  glob : X.env.globals = mainGlobals
  blt : X.env.builtins = builtinsNs
  above : X.s₀.heap.objs.size ≤ X.env.locals
  inj : ∀ x y c, X.env.cells.lookup x = some c → X.env.cells.lookup y = some c → x = y
  has : ∀ x, (X.env.kindOf x = some .cell ∨ X.env.kindOf x = some .free) → ∃ c, X.env.cells.lookup x = some c
  cab : ∀ x c, X.fn x = true → X.env.cells.lookup x = some c → X.s₀.heap.objs.size ≤ c
  hd : X.calm = true → X.A.handled = none
  frames : X.A.frames = some X.stack
  stk : X.stack = X.outer ∨ (X.stack = X.env :: X.outer ∧ X.env.frame = some X.env.locals)
  exf : ∀ b ∈ X.ex, b ≠ X.env.locals ∧ ∀ x c, X.env.cells.lookup x = some c → c ≠ b
  bs : ∀ b o, X.base.get? b = some o → X.s₀.heap.get? b = some o ∧ X.H₀ b = none
  bsz : X.base.objs.size ≤ X.s₀.heap.objs.size
  noex : ∀ b o, X.base.get? b = some o → b ∉ X.ex
  exfs : ∀ b ∈ X.ex, b ∉ X.fs
  funs : X.s₀.heap.FunFrames X.base X.outer
  frf : ∀ b ∈ X.fs, X.H₀ b = none

structure Inv (X : Cx) (pins : List (Addr × Obj)) (σ : List (Option V)) (H : Hp) (s : Shared) : Prop where
  ok : X.Ok
  os : s.os = X.s₀.os
  bare : AllBare s.gens
  base : Un X.fs X.ex X.H₀ H X.s₀.heap s.heap
  loc : ∃ m, s.heap.Ns X.env.locals m ∧ ∀ (i : Nat) (x : Str) (v : V), X.N[i]? = some x → σ[i]? = some (some v) → Vis X.env.scope x → ∃ u, RelV v u ∧ Look X.env s.heap m x u
  cell : ∀ x c, X.env.cells.lookup x = some c → ∃ v, s.heap.IsCell c v
  free : H X.env.locals = none
  freeC : ∀ x c, X.env.cells.lookup x = some c → H c = none
  pin : ∀ p ∈ X.pn ++ pins, s.heap.get? p.1 = some p.2 ∧ H p.1 = none ∧ p.1 ≠ X.env.locals ∧ p.1 ∉ X.fs ∧ ∀ v, p.2.data ≠ .cell v
  hok : HOk X.prog X.w H s.heap
  len : σ.length = X.N.length

section
variable {X : Cx} {pins : List (Addr × Obj)} {σ : List (Option V)} {H H' : Hp} {s : Shared} {h' : Heap}

theorem Cx.Ok.nofr (ok : X.Ok) {b : Addr} {o : Obj} (e : X.base.get? b = some o) : b ∉ X.fs := fun hb => by
  have := (ok.funs.mem hb).1
  rw [e] at this; cases this
theorem Inv.bs (I : Inv X pins σ H s) : ∀ b o, X.base.get? b = some o → s.heap.get? b = some o ∧ H b = none := fun b o e =>
  ⟨I.base.keep b o (I.ok.bs b o e).1 (I.ok.bs b o e).2 (I.ok.nofr e) (I.ok.noex b o e), I.base.free b o (I.ok.bs b o e).1 (I.ok.bs b o e).2 (I.ok.noex b o e)⟩
theorem Inv.bk (I : Inv X pins σ H s) : ∀ b o, X.base.get? b = some o → s.heap.get? b = some o := fun b o e => (I.bs b o e).1
theorem Inv.mod (I : Inv X pins σ H s) : Mod X.K X.mg X.base := I.ok.mod
theorem Inv.kIn (I : Inv X pins σ H s) : X.K.In s.heap := I.ok.mod.kin.keeps I.bk
theorem Inv.lt (I : Inv X pins σ H s) : X.env.locals < s.heap.objs.size := let ⟨_, hn, _⟩ := I.loc; hn.lt
theorem Inv.sz (I : Inv X pins σ H s) : X.s₀.heap.objs.size ≤ s.heap.objs.size := Nat.le_trans I.ok.above (Nat.le_of_lt I.lt)
theorem Inv.nofs (I : Inv X pins σ H s) {a : Addr} (h : s.heap.objs.size ≤ a) : a ∉ X.fs := fun hb => by
  obtain ⟨_, o, ho, _⟩ := I.ok.funs.mem hb
  exact absurd (Nat.lt_of_lt_of_le (Heap.lt_size ho) (Nat.le_trans I.sz h)) (Nat.lt_irrefl _)
theorem Inv.cne (I : Inv X pins σ H s) : ∀ x c, X.env.cells.lookup x = some c → c ≠ X.env.locals := fun x c e z => by
  obtain ⟨v, o, ho, hd⟩ := I.cell x c e
  obtain ⟨m, ⟨o', es, ep, ho', hd', _⟩, _⟩ := I.loc
  rw [z, ho'] at ho; cases ho; rw [hd'] at hd; cases hd
theorem Inv.funs (I : Inv X pins σ H s) : s.heap.FunFrames X.base X.outer := by
  have all : ∀ (l : List Env), (∀ b ∈ frs l, b ∈ X.fs) → X.s₀.heap.FunFrames X.base l → s.heap.FunFrames X.base l := by
    intro l
    induction l with
    | nil => intro _ _; trivial
    | cons env r ih =>
      intro hs hl
      obtain ⟨hk, ⟨L, o, hf, hn, ho, hd⟩, hr⟩ := hl
      have hL : L ∈ X.fs := hs L (by unfold frs; rw [List.filterMap_cons, hf]; exact List.mem_cons_self)
      obtain ⟨sl, e⟩ := I.base.slot L o ho (I.ok.frf L hL) hL fun z => I.ok.exfs L z hL
      exact ⟨hk, ⟨L, _, hf, hn, e, hd⟩, ih (fun b hb => hs b (by unfold frs; rw [List.filterMap_cons, hf]; exact List.mem_cons_of_mem _ hb)) hr⟩
  exact all X.outer (fun _ hb => hb) I.ok.funs


theorem Inv.stack (I : Inv X pins σ H s) : s.heap.FunFrames X.base X.stack := by
  rcases I.ok.stk with e | ⟨e, hf⟩
  · rw [e]; exact I.funs
  · rw [e]
    obtain ⟨m, hn, _⟩ := I.loc
    refine .cons (by rw [I.ok.kind]; decide) hf hn ?_ I.funs
    exact Heap.get?_none_of_le (Nat.le_trans I.ok.bsz I.ok.above)
theorem Inv.stkSub (I : Inv X pins σ H s) : ∀ b ∈ frs X.stack, b ∈ X.env.locals :: X.fs := fun b hb => by
  rcases I.ok.stk with e | ⟨e, hf⟩
  · rw [e] at hb; exact List.mem_cons_of_mem _ hb
  · rw [e] at hb
    unfold frs at hb
    rw [List.filterMap_cons, hf] at hb
    exact hb
theorem Inv.stkFree (I : Inv X pins σ H s) : ∀ b ∈ frs X.stack, H b = none := fun b hb => by
  rcases List.mem_cons.mp (I.stkSub b hb) with e | hb
  · rw [e]; exact I.free
  · obtain ⟨_, o, ho, _⟩ := I.ok.funs.mem hb
    exact I.base.free b o ho (I.ok.frf b hb) fun z => I.ok.exfs b z hb


theorem Inv.step {g' : Array GenState} {t' : Nat} {d' : Drawn} {ch : List Addr} (I : Inv X pins σ H s)
    (hch : ∀ b ∈ ch, (b ∈ X.ex ∨ X.s₀.heap.objs.size ≤ b) ∧ b ≠ X.env.locals ∧ (∀ x c, X.env.cells.lookup x = some c → c ≠ b) ∧ ∀ p ∈ X.pn ++ pins, p.1 ≠ b)
    (keep : ∀ b o, b ≠ X.env.locals → b ∉ X.fs → b ∉ ch → s.heap.get? b = some o → H b = none → h'.get? b = some o)
    (slot : ∀ b o, b ≠ X.env.locals → b ∈ X.fs → b ∉ ch → s.heap.get? b = some o → H b = none → ∃ sl, h'.get? b = some { o with slots := sl }) (free : ∀ b o, b ∉ ch → s.heap.get? b = some o → H b = none → H' b = none)
    (there : ∀ b o, b ∉ ch → s.heap.get? b = some o → ∃ o', h'.get? b = some o')
    (tups : ∀ b xs, H b = some (.tup xs) → H' b = some (.tup xs)) (frzs : ∀ b o u, H b = some (.frz o u) → H' b = some (.frz o u)) (tbls : ∀ b ps, H b = some (.tbl ps) → ∃ more, H' b = some (.tbl (ps ++ more)))
    (ns : ∀ m, s.heap.Ns X.env.locals m → h'.Ns X.env.locals m) (hok : HOk X.prog X.w H' h') (hg : AllBare g') :
    Inv X pins σ H' { s with heap := h', gens := g', drawn := d', toks := t' } := by
  have neL : ∀ b o, X.s₀.heap.get? b = some o → b ≠ X.env.locals := fun b o e => Nat.ne_of_lt (Nat.lt_of_lt_of_le (Heap.lt_size e) I.ok.above)
  have neC : ∀ b o, X.s₀.heap.get? b = some o → b ∉ X.ex → b ∉ ch := fun b o e hx hb => by
    rcases (hch b hb).1 with z | z
    · exact hx z
    · exact absurd (Nat.lt_of_lt_of_le (Heap.lt_size e) z) (Nat.lt_irrefl _)
  have cellK : ∀ x c, X.env.cells.lookup x = some c → ∀ v, s.heap.IsCell c v → h'.IsCell c v := fun x c e v ⟨o, ho, hd⟩ => by
    have nch : c ∉ ch := fun z => (hch c z).2.2.1 x c e rfl
    by_cases hc : c ∈ X.fs
    · obtain ⟨sl, q⟩ := slot c o (I.cne x c e) hc nch ho (I.freeC x c e)
      exact ⟨_, q, hd⟩
    · exact ⟨o, keep c o (I.cne x c e) hc nch ho (I.freeC x c e), hd⟩
  refine ⟨I.ok, I.os, hg, ⟨fun b o e n hb hx => ?_, fun b o e n hb hx => ?_, fun b o e n hx => ?_, fun b o e hx => ?_, fun b xs e => tups b xs (I.base.tups b xs e), fun b o xs e => frzs b o xs (I.base.frzs b o xs e), fun b ps e => ?_⟩, ?_, fun x c e => ?_, ?_, fun x c e => ?_, fun p hp => ?_, hok, I.len⟩
  · exact keep b o (neL b o e) hb (neC b o e hx) (I.base.keep b o e n hb hx) (I.base.free b o e n hx)
  · obtain ⟨sl, e1⟩ := I.base.slot b o e n hb hx
    obtain ⟨sl', e2⟩ := slot b _ (neL b o e) hb (neC b o e hx) e1 (I.base.free b o e n hx)
    exact ⟨sl', e2⟩
  · obtain ⟨o', e1⟩ := I.base.there b o e hx
    exact free b o' (neC b o e hx) e1 (I.base.free b o e n hx)
  · obtain ⟨o', e1⟩ := I.base.there b o e hx
    exact there b o' (neC b o e hx) e1
  · obtain ⟨m1, e1⟩ := I.base.tbls b ps e
    obtain ⟨m2, e2⟩ := tbls b _ e1
    exact ⟨m1 ++ m2, by rw [e2, Array.append_assoc]⟩
  · obtain ⟨m, hn, hl⟩ := I.loc
    refine ⟨m, ns m hn, fun i x v e1 e2 e3 => ?_⟩
    obtain ⟨u, r, l⟩ := hl i x v e1 e2 e3
    refine ⟨u, r, ?_⟩
    rcases l with l | ⟨k, c, e, z⟩
    · exact .inl l
    · exact .inr ⟨k, c, e, cellK x c e _ z⟩
  · obtain ⟨v, z⟩ := I.cell x c e
    exact ⟨v, cellK x c e v z⟩
  · obtain ⟨m, ⟨o, _, _, ho, _⟩, _⟩ := I.loc
    exact free _ o (fun z => (hch _ z).2.1 rfl) ho I.free
  · obtain ⟨v, o, ho, hd⟩ := I.cell x c e
    exact free c o (fun z => (hch c z).2.2.1 x c e rfl) ho (I.freeC x c e)
  · obtain ⟨e, n, ne, nf, d⟩ := I.pin p hp
    have nch : p.1 ∉ ch := fun z => (hch p.1 z).2.2.2 p hp rfl
    exact ⟨keep p.1 p.2 ne nf nch e n, free p.1 p.2 nch e n, ne, nf, d⟩

theorem Inv.un {t' : Nat} (I : Inv X pins σ H s) (u : Un X.fs [] H H' s.heap h') (hok : HOk X.prog X.w H' h') : Inv X pins σ H' { s with heap := h', toks := t' } := by
  obtain ⟨m, ⟨o, es, ep, ho, r⟩, _⟩ := id I.loc
  obtain ⟨sl, hL⟩ := u.any ho I.free (by simp)
  exact I.step (g' := s.gens) (d' := s.drawn) (ch := []) (fun _ z => nomatch z) (fun b o _ hb _ e n => u.keep b o e n hb (by simp)) (fun b o _ hb _ e n => u.slot b o e n hb (by simp)) (fun b o _ e n => u.free b o e n (by simp)) (fun b o _ e => u.there b o e (by simp)) u.tups u.frzs u.tbls (fun m' hm => by
    obtain ⟨o', es', ep', ho', r'⟩ := hm
    rw [ho] at ho'; cases ho'
    exact ⟨_, es', ep', hL, r'⟩) hok I.bare

theorem Inv.call {g' : Array GenState} {t' : Nat} {d' : Drawn} {ch : List Addr} (I : Inv X pins σ H s) (u : Un (frs X.stack) ch H H' s.heap h') (hok : HOk X.prog X.w H' h') (hg : AllBare g')
    (hch : ∀ b ∈ ch, (b ∈ X.ex ∨ X.s₀.heap.objs.size ≤ b) ∧ b ≠ X.env.locals ∧ (∀ x c, X.env.cells.lookup x = some c → c ≠ b) ∧ ∀ p ∈ X.pn ++ pins, p.1 ≠ b) :
    Inv X pins σ H' { s with heap := h', gens := g', drawn := d', toks := t' } := by
  obtain ⟨m, ⟨o, es, ep, ho, r⟩, _⟩ := id I.loc
  obtain ⟨sl, hL⟩ := u.any ho I.free fun z => (hch _ z).2.1 rfl
  exact I.step (ch := ch) hch (fun b o hL hb hc e n => u.keep b o e n (fun z => (List.mem_cons.mp (I.stkSub b z)).elim hL hb) hc) (fun b o _ _ hc e n => u.any e n hc) (fun b o hc e n => u.free b o e n hc) (fun b o hc e => u.there b o e hc) u.tups u.frzs u.tbls (fun m' hm => by
    obtain ⟨o', es', ep', ho', r'⟩ := hm
    rw [ho] at ho'; cases ho'
    exact ⟨_, es', ep', hL, r'⟩) hok hg

theorem Inv.turned {t' : Nat} {it : Addr} (I : Inv X pins σ H s) (k : ∀ b o, b ≠ it → s.heap.get? b = some o → h'.get? b = some o) (hn : H it = none) (hL : it ≠ X.env.locals)
    (h1 : it ∈ X.ex ∨ X.s₀.heap.objs.size ≤ it) (h2 : ∀ x c, X.env.cells.lookup x = some c → c ≠ it) (h3 : ∀ p ∈ X.pn ++ pins, p.1 ≠ it) : Inv X pins σ H { s with heap := h', toks := t' } := by
  have nit : ∀ b u, H b = some u → b ≠ it := fun b u e z => by rw [z, hn] at e; cases e
  refine I.step (g' := s.gens) (d' := s.drawn) (ch := [it]) (fun b hb => ?_) (fun b o _ _ hc e _ => k b o (fun z => hc (by simp [z])) e) (fun b o _ _ hc e _ => ⟨o.slots, k b o (fun z => hc (by simp [z])) e⟩) (fun _ _ _ _ n => n)
    (fun b o hc e => ⟨o, k b o (fun z => hc (by simp [z])) e⟩) (fun _ _ e => e) (fun _ _ _ e => e) (fun b ps e => ⟨#[], by rw [e]; simp⟩) (fun m hm => ?_) (fun b u e => ?_) I.bare
  · have e : b = it := by simpa using hb
    subst e
    exact ⟨h1, hL, h2, h3⟩
  · obtain ⟨o, es, ep, ho, r⟩ := hm
    exact ⟨o, es, ep, k _ o (Ne.symm hL) ho, r⟩
  · refine (I.hok b u e).stay (fun c v hc q => k c v ?_ q) (fun _ q => q) fun _ _ q => q
    rcases hc with z | z
    · rw [z]; exact nit b u e
    · exact nit c _ z
theorem Inv.tok (I : Inv X pins σ H s) (t : Nat) : Inv X pins σ H { s with toks := t } := I.un (h' := s.heap) (t' := t) Un.refl I.hok

theorem Inv.kept {t' : Nat} (I : Inv X pins σ H s) (k : ∀ b u, s.heap.get? b = some u → h'.get? b = some u) : Inv X pins σ H { s with heap := h', toks := t' } := I.un (Un.kept k) (I.hok.kept k)

theorem Inv.laid {a : Addr} {o : HO} {t' : Nat} (I : Inv X pins σ H s) (k : ∀ b u, s.heap.get? b = some u → h'.get? b = some u) (hp : s.heap.objs.size ≤ a) (new : ObjOk X.prog X.w (upd H a o) h' a o) :
    Inv X pins σ (upd H a o) { s with heap := h', toks := t' } := I.un (Un.laid k hp (I.hok.fresh hp)) (I.hok.laid k hp new)

theorem Inv.write {x e : Addr} {o : HO} {t' : Nat} (I : Inv X pins σ H s) (mu : Mut (H x)) (he : e = x ∨ H e = some (.own x)) (k : ∀ b u, b ≠ e → s.heap.get? b = some u → h'.get? b = some u) (heo : ∃ u, h'.get? e = some u)
    (new : ObjOk X.prog X.w (upd H x o) h' x o) : Inv X pins σ (upd H x o) { s with heap := h', toks := t' } := I.un (Un.write mu he k heo) (I.hok.write mu he k heo new)

theorem Inv.pins_of {pins' : List (Addr × Obj)} (I : Inv X pins σ H s) (h : ∀ p ∈ pins', s.heap.get? p.1 = some p.2 ∧ H p.1 = none ∧ p.1 ≠ X.env.locals ∧ p.1 ∉ X.fs ∧ ∀ v, p.2.data ≠ .cell v) : Inv X pins' σ H s :=
  ⟨I.ok, I.os, I.bare, I.base, I.loc, I.cell, I.free, I.freeC, fun p hp => (List.mem_append.mp hp).elim (fun z => I.pin p (List.mem_append_left _ z)) (h p), I.hok, I.len⟩

theorem nodup_ix {N : List Str} (hN : N.Nodup) {i j : Nat} {x : Str} (a : N[i]? = some x) (b : N[j]? = some x) : i = j := by
  obtain ⟨h1, e1⟩ := List.getElem?_eq_some_iff.mp a
  obtain ⟨h2, e2⟩ := List.getElem?_eq_some_iff.mp b
  exact (List.getElem_inj hN).mp (e1.trans e2.symm)


theorem store_ok2 {M : Model} {A : Around} {E : Value → Shared → Prop} {i : Nat} {x : Str} {v : V} {u : Value} {Q : Unit → Shared → Prop} (I : Inv X pins σ H s) (hN : X.N.Nodup) (hi : X.N[i]? = some x) (hx : Loc X.env.scope x) (r : RelV v u)
    (h : ∀ s', Inv X pins (σ.set i (some v)) H s' → (∃ a, Heap.SameBut a s.heap s'.heap ∧ (a = X.env.locals ∨ X.env.cells.lookup x = some a)) → Q () s') (hf : X.fn x = true ∨ X.env.scope.names.lookup x = some .local := by first | exact .inl rfl | exact .inr rfl | assumption) : wpAny M A (storeName X.env x u) Q E s := by
  obtain ⟨m, hn, hl⟩ := id I.loc
  have hcls : (X.env.scope.kind == .class || (X.env.scope.kind == .module && X.env.locals != X.env.globals)) = false := by rw [I.ok.kind]; rfl
  have hiσ : i < σ.length := by rw [I.len]; exact (List.getElem?_eq_some_iff.mp hi).1
  have cne := I.cne
  have tracked : ∀ {a : Addr} {h' : Heap}, (∃ o, s.heap.get? a = some o ∧ H a = none) → Heap.SameBut a s.heap h' → HOk X.prog X.w H h' := fun {a h'} ha hs b ob e => by
    obtain ⟨_, _, hfree⟩ := ha
    refine (I.hok b ob e).stay (fun c w' hc q => (hs.2 c ?_).trans q) (fun _ q => q) fun _ _ q => q
    rintro rfl
    rcases hc with rfl | hc
    · rw [hfree] at e; cases e
    · rw [hfree] at hc; cases hc
  rcases hx with hk | hk
  · refine wpAny_storeName_local hk hn (fun h' hn' hs => ?_) hcls
    obtain ⟨oL, _, _, hoL, _⟩ := id hn
    refine h _ ⟨I.ok, I.os, I.bare, ⟨fun b o e n hb hx => ?_, fun b o e n hb hx => ?_, I.base.free, fun b o e hx => ?_, I.base.tups, I.base.frzs, I.base.tbls⟩, ⟨_, hn', fun j y v' e1 e2 e3 => ?_⟩, fun y c e => ?_, I.free, I.freeC, fun p hp => ?_, tracked ⟨oL, hoL, I.free⟩ hs, by simpa using I.len⟩ ⟨_, hs, .inl rfl⟩
    · exact (hs.2 b (Nat.ne_of_lt (Nat.lt_of_lt_of_le (Heap.lt_size e) I.ok.above))).trans (I.base.keep b o e n hb hx)
    · obtain ⟨sl, e1⟩ := I.base.slot b o e n hb hx
      exact ⟨sl, (hs.2 b (Nat.ne_of_lt (Nat.lt_of_lt_of_le (Heap.lt_size e) I.ok.above))).trans e1⟩
    · obtain ⟨o', e1⟩ := I.base.there b o e hx
      exact ⟨o', (hs.2 b (Nat.ne_of_lt (Nat.lt_of_lt_of_le (Heap.lt_size e) I.ok.above))).trans e1⟩
    · by_cases hj : j = i
      · subst hj
        rw [hi] at e1; cases e1
        rw [List.getElem?_set_self hiσ] at e2
        cases e2
        exact ⟨u, r, .inl ⟨hk, by simp⟩⟩
      · rw [List.getElem?_set_ne (Ne.symm hj)] at e2
        obtain ⟨u', r', q⟩ := hl j y v' e1 e2 e3
        refine ⟨u', r', ?_⟩
        rcases q with ⟨k, e⟩ | ⟨k, c, e, z⟩
        · refine .inl ⟨k, ?_⟩
          have : y ≠ x := fun e => hj (nodup_ix hN e1 (e ▸ hi))
          simp [this, e]
        · exact .inr ⟨k, c, e, z.sameBut hs (cne y c e)⟩
    · obtain ⟨w', z⟩ := I.cell y c e
      exact ⟨w', z.sameBut hs (cne y c e)⟩
    · obtain ⟨e, n, ne, nf, d⟩ := I.pin p hp
      exact ⟨(hs.2 p.1 ne).trans e, n, ne, nf, d⟩
  · have hfn : X.fn x = true := by
      rcases hf with z | z
      · exact z
      · rw [z] at hk; cases hk
    obtain ⟨c, hc⟩ := I.ok.has x (.inl hk)
    obtain ⟨w', z⟩ := I.cell x c hc
    refine wpAny_storeName_cell I.ok.kind hk hc z (fun h' hc' hs => ?_)
    obtain ⟨oc, hoc, hocd⟩ := id z
    refine h { s with heap := h' } ⟨I.ok, I.os, I.bare, ⟨fun b o e n hb hx => ?_, fun b o e n hb hx => ?_, I.base.free, fun b o e hx => ?_, I.base.tups, I.base.frzs, I.base.tbls⟩, ⟨m, hn.sameBut hs (Ne.symm (cne x c hc)), fun j y v' e1 e2 e3 => ?_⟩, fun y c' e => ?_, I.free, I.freeC, fun p hp => ?_, tracked ⟨oc, hoc, I.freeC x c hc⟩ hs, by simpa using I.len⟩ ⟨c, hs, .inr hc⟩
    · exact (hs.2 b (Nat.ne_of_lt (Nat.lt_of_lt_of_le (Heap.lt_size e) (I.ok.cab x c hfn hc)))).trans (I.base.keep b o e n hb hx)
    · obtain ⟨sl, e1⟩ := I.base.slot b o e n hb hx
      exact ⟨sl, (hs.2 b (Nat.ne_of_lt (Nat.lt_of_lt_of_le (Heap.lt_size e) (I.ok.cab x c hfn hc)))).trans e1⟩
    · obtain ⟨o', e1⟩ := I.base.there b o e hx
      exact ⟨o', (hs.2 b (Nat.ne_of_lt (Nat.lt_of_lt_of_le (Heap.lt_size e) (I.ok.cab x c hfn hc)))).trans e1⟩
    · by_cases hj : j = i
      · subst hj
        rw [hi] at e1; cases e1
        rw [List.getElem?_set_self hiσ] at e2
        cases e2
        exact ⟨u, r, .inr ⟨.inl hk, c, hc, hc'⟩⟩
      · rw [List.getElem?_set_ne (Ne.symm hj)] at e2
        obtain ⟨u', r', q⟩ := hl j y v' e1 e2 e3
        refine ⟨u', r', ?_⟩
        rcases q with q | ⟨k, c', e, z'⟩
        · exact .inl q
        · refine .inr ⟨k, c', e, z'.sameBut hs ?_⟩
          rintro rfl
          exact hj (nodup_ix hN e1 (I.ok.inj _ _ _ e hc ▸ hi))
    · by_cases hcc : c' = c
      · subst hcc; exact ⟨_, hc'⟩
      · obtain ⟨w2, z2⟩ := I.cell y c' e
        exact ⟨w2, z2.sameBut hs hcc⟩
    · obtain ⟨e, n, ne, nf, d⟩ := I.pin p hp
      refine ⟨(hs.2 p.1 ?_).trans e, n, ne, nf, d⟩
      intro q
      rw [q, hoc] at e
      have q' : oc = p.2 := Option.some.inj e
      exact d w' (by rw [← q']; exact hocd)
theorem store_ok {M : Model} {A : Around} {E : Value → Shared → Prop} {i : Nat} {x : Str} {v : V} {u : Value} {Q : Unit → Shared → Prop} (I : Inv X pins σ H s) (hN : X.N.Nodup) (hi : X.N[i]? = some x) (hx : Loc X.env.scope x) (r : RelV v u)
    (h : ∀ s', Inv X pins (σ.set i (some v)) H s' → Q () s') (hf : X.fn x = true ∨ X.env.scope.names.lookup x = some .local := by first | exact .inl rfl | exact .inr rfl | assumption) : wpAny M A (storeName X.env x u) Q E s :=
  store_ok2 I hN hi hx r (fun s' I' _ => h s' I') hf

theorem Inv.call' {s' : Shared} {ch : List Addr} (I : Inv X pins σ H s) (ho : s'.os = s.os) (u : Un (frs X.stack) ch H H' s.heap s'.heap) (hok : HOk X.prog X.w H' s'.heap) (hg : AllBare s'.gens)
    (hch : ∀ b ∈ ch, (b ∈ X.ex ∨ X.s₀.heap.objs.size ≤ b) ∧ b ≠ X.env.locals ∧ (∀ x c, X.env.cells.lookup x = some c → c ≠ b) ∧ ∀ p ∈ X.pn ++ pins, p.1 ≠ b) : Inv X pins σ H' s' := by
  obtain ⟨h', g', d', t', o'⟩ := s'
  have e : o' = s.os := ho
  subst e
  exact I.call (g' := g') (t' := t') (d' := d') u hok hg hch
end



abbrev XK := Value → Option Addr → Hp → Prop
abbrev St := List (Option V)
abbrev VK := V → Hp → Prop

abbrev TE := St → Hp → VK → Prop
abbrev TT := St → Hp → (Bool → Hp → Prop) → Prop
abbrev TA := St → Hp → (List V → Hp → Prop) → Prop

structure Ends where
  nx : St → Hp → Prop
  rt : VK
  bk : St → Hp → Prop := fun _ _ => False
  ct : St → Hp → Prop := fun _ _ => False
abbrev TS := Ends → St → Hp → Prop

def EP (X : Cx) (pins : List (Addr × Obj)) (σ : St) (Q : VK) (u : Value) (s' : Shared) : Prop := ∃ v H', Inv X pins σ H' s' ∧ RelV v u ∧ Q v H'
def TP (X : Cx) (pins : List (Addr × Obj)) (σ : St) (Q : Bool → Hp → Prop) (b : Bool) (s' : Shared) : Prop := ∃ H', Inv X pins σ H' s' ∧ Q b H'
def AP (X : Cx) (pins : List (Addr × Obj)) (σ : St) (Q : List V → Hp → Prop) (us : List Value) (s' : Shared) : Prop := ∃ vs H', Inv X pins σ H' s' ∧ Vals vs us ∧ Q vs H'
def SP (X : Cx) (pins : List (Addr × Obj)) (D : Ends) (f : Flow) (s' : Shared) : Prop :=
  match f with
  | .next => ∃ σ' H', Inv X pins σ' H' s' ∧ D.nx σ' H'
  | .brk => ∃ σ' H', Inv X pins σ' H' s' ∧ D.bk σ' H'
  | .cont => ∃ σ' H', Inv X pins σ' H' s' ∧ D.ct σ' H'
  | .ret u => ∃ v σ' H', Inv X pins σ' H' s' ∧ RelV v u ∧ D.rt v H'

def PE (X : Cx) (e : Expr) (t : TE) : Prop :=
  ∀ (pins : List (Addr × Obj)) (s : Shared) (σ : St) (H : Hp) (Q : VK), Inv X pins σ H s → t σ H Q → wpAny (model X.prog X.w) X.A (eval e X.env) (EP X pins σ Q) X.xe s
def PT (X : Cx) (e : Expr) (t : TT) : Prop :=
  ∀ (pins : List (Addr × Obj)) (s : Shared) (σ : St) (H : Hp) (Q : Bool → Hp → Prop), Inv X pins σ H s → t σ H Q → wpAny (model X.prog X.w) X.A (isTrue e X.env (eval e X.env)) (TP X pins σ Q) X.xe s

def PW (X : Cx) (e : Expr) (t : TT) : Prop :=
  ∀ (whole : Sem Value) (pins : List (Addr × Obj)) (s : Shared) (σ : St) (H : Hp) (Q : Bool → Hp → Prop), Inv X pins σ H s → t σ H Q → wpAny (model X.prog X.w) X.A (isTrue e X.env whole) (TP X pins σ Q) X.xe s
theorem PW.pt {X : Cx} {e : Expr} {t : TT} (h : PW X e t) : PT X e t := h _

def PA (X : Cx) (es : List Expr) (t : TA) : Prop :=
  ∀ (pos : Pos) (pins : List (Addr × Obj)) (s : Shared) (σ : St) (H : Hp) (Q : List V → Hp → Prop), Inv X pins σ H s → t σ H Q → wpAny (model X.prog X.w) X.A (spliced (backTo pos (starEach es X.env))) (AP X pins σ Q) X.xe s
def PS (X : Cx) (st : Stmt) (t : TS) : Prop :=
  ∀ (pins : List (Addr × Obj)) (s : Shared) (σ : St) (H : Hp) (D : Ends), Inv X pins σ H s → t D σ H → wpAny (model X.prog X.w) X.A (exec st X.env) (SP X pins D) X.xe s
def PSs (X : Cx) (st : List Stmt) (t : TS) : Prop :=
  ∀ (pins : List (Addr × Obj)) (s : Shared) (σ : St) (H : Hp) (D : Ends), Inv X pins σ H s → t D σ H → wpAny (model X.prog X.w) X.A (execs st X.env) (SP X pins D) X.xe s

theorem thn {α : Type} {t : Sem α} {Q Q' : α → Shared → Prop} {M : Model} {A : Around} {E : Value → Shared → Prop} {s : Shared} (h : wpAny M A t Q E s) (hQ : ∀ a s, Q a s → Q' a s) : wpAny M A t Q' E s := wpAny_mono h hQ fun _ _ x => x
end L2

namespace L2
open PySem PySem.Spec PyProof.Rows
section
variable {X : Cx}


def tVar (i : Nat) : TE := fun σ H Q => ∃ v, σ[i]? = some (some v) ∧ Q v H
def tC (v : V) : TE := fun _ H Q => Q v H
theorem pe_var {i : Nat} {x : Str} {pos : Pos} (hN : X.N[i]? = some x) (hv : Vis X.env.scope x) (hd : (x == ("__debug__" : Str)) = false := by decide) (hcd : (x == ("__classdict__" : Str)) = false := by decide) : PE X (.Name x pos) (tVar i) := by
  intro pins s σ H Q I h
  obtain ⟨v, e, h⟩ := h
  obtain ⟨m, hn, hl⟩ := I.loc
  obtain ⟨u, r, l⟩ := hl i x v hN e hv
  have fin : EP X pins σ Q u s := ⟨v, H, I, r, h⟩
  rcases l with ⟨hk, hm⟩ | ⟨hk, c, hc, hcell⟩
  · exact wpAny_Name (wpAny_loadName_local I.ok.kind hk hn hm fin) hd
  · rcases hk with hk | hk
    · exact wpAny_Name (wpAny_loadName_cell I.ok.kind hk hc hcell fin) hd
    · exact wpAny_Name (wpAny_loadName_free I.ok.kind hk hc hcell fin hcd) hd
theorem pe_int {i j pos} : PE X (.Constant (.int i) j pos) (tC (.int i)) := fun _ _ _ H _ I h => wpAny_Constant_int ⟨.int i, H, I.tok _, ⟨_, rfl⟩, h⟩
theorem pe_bl {b j pos} : PE X (.Constant (.bool b) j pos) (tC (.bl b)) := fun _ _ _ H _ I h => Constant_bool ⟨.bl b, H, I, rfl, h⟩
theorem pe_non {j pos} : PE X (.Constant .none j pos) (tC .non) := fun _ _ _ H _ I h => Constant_none ⟨.non, H, I, rfl, h⟩
theorem pe_str {x j pos} : PE X (.Constant (.str x) j pos) (tC (.str x)) := fun _ _ _ H _ I h => Calls.Constant_str ⟨.str x, H, I.tok _, ⟨_, rfl⟩, h⟩


def Gl (X : Cx) (x : Str) : Prop := X.env.kindOf x = some .globalImplicit
theorem ld_glob {E : Value → Shared → Prop} {pins : List (Addr × Obj)} {s : Shared} {σ : St} {H : Hp} {x : Str} {u : Value} {pos : Pos} {Q : Value → Shared → Prop} (I : Inv X pins σ H s) (hg : Gl X x) (hm : X.mg x = some u) (h : Q u s)
    (hd : (x == ("__debug__" : Str)) = false := by decide) : wpAny (model X.prog X.w) X.A (eval (.Name x pos) X.env) Q E s :=
  Calls.Name_function_global I.ok.kind hg (Calls.loadGlobal_global (by rw [I.ok.glob]; exact I.mod.glob.keeps I.bk) hm h) hd
theorem ld_blt {E : Value → Shared → Prop} {pins : List (Addr × Obj)} {s : Shared} {σ : St} {H : Hp} {x : Str} {u : Value} {pos : Pos} {Q : Value → Shared → Prop} (I : Inv X pins σ H s) (hg : Gl X x) (hm : X.mg x = none) (hv : bootBuiltins x = some u) (h : Q u s)
    (hn : x ≠ "__name__" := by decide) (hd : (x == ("__debug__" : Str)) = false := by decide) : wpAny (model X.prog X.w) X.A (eval (.Name x pos) X.env) Q E s := by
  obtain ⟨mb, h1, h2⟩ := I.mod.blt
  exact Calls.Name_function_global I.ok.kind hg (Calls.loadGlobal_builtin (by rw [I.ok.glob]; exact I.mod.glob.keeps I.bk) hm (by rw [I.ok.blt]; exact h1.keeps I.bk) ((h2 x hn).trans hv) h) hd

theorem pe_glob {x : Str} {v : V} {u : Value} {pos : Pos} (hg : Gl X x) (hm : X.mg x = some u) (r : RelV v u) (hd : (x == ("__debug__" : Str)) = false := by decide) : PE X (.Name x pos) (tC v) :=
  fun _ _ _ H _ I h => ld_glob I hg hm ⟨v, H, I, r, h⟩ hd
theorem pe_bltn {x : Str} {v : V} {u : Value} {pos : Pos} (hg : Gl X x) (hm : X.mg x = none) (hv : bootBuiltins x = some u) (r : RelV v u) (hn : x ≠ "__name__" := by decide) (hd : (x == ("__debug__" : Str)) = false := by decide) : PE X (.Name x pos) (tC v) :=
  fun _ _ _ H _ I h => ld_blt I hg hm hv ⟨v, H, I, r, h⟩ hn hd



variable {a b : Expr} {ta tb : TE} {pos : Pos}
def PC (X : Cx) (op : CmpOp) (a b : Expr) (t : TE) : Prop :=
  ∀ (pins : List (Addr × Obj)) (s : Shared) (σ : St) (H : Hp) (Q : VK), Inv X pins σ H s → t σ H Q →
    wpAny (model X.prog X.w) X.A (eval a X.env) (fun v s₁ => wpAny (model X.prog X.w) X.A (eval b X.env) (fun u s₂ => wpAny (model X.prog X.w) X.A (compareOp op v u) (EP X pins σ Q) X.xe s₂) X.xe s₁) X.xe s
theorem nobehind (b : Expr) {op : CmpOp} (h : op ≠ .In) (h2 : op ≠ .NotIn) : behindInMarks op b = false := by
  have e1 : (op == CmpOp.In) = false := by cases op <;> first | rfl | exact absurd rfl h
  have e2 : (op == CmpOp.NotIn) = false := by cases op <;> first | rfl | exact absurd rfl h2
  cases b <;> simp [behindInMarks, e1, e2]
def tIsN (ta : TE) : TE := fun σ H Q => ta σ H fun x H1 => Q (.bl (decide (x = .non))) H1
def tNotN (ta : TE) : TE := fun σ H Q => ta σ H fun x H1 => Q (.bl (!decide (x = .non))) H1
theorem RelV.none_iff {x : V} {v : Value} (r : RelV x v) : (v == Value.none) = decide (x = .non) := by
  cases x with
  | non => cases r; rfl
  | bl _ => cases r; rfl
  | int _ => obtain ⟨t, rfl⟩ := r; rfl
  | str _ => obtain ⟨t, rfl⟩ := r; rfl
  | byt _ => obtain ⟨t, rfl⟩ := r; rfl
  | flt _ => obtain ⟨t, rfl⟩ := r; rfl
  | ref _ => cases r; rfl
  | ty _ => cases r; rfl
theorem pc_isN {j pos'} (ha : PE X a ta) : PC X .Is a (.Constant .none j pos') (tIsN ta) := by
  intro pins s σ H Q I h
  refine thn (ha pins s σ H _ I h) fun v s1 ⟨x, H1, I1, r1, q1⟩ => ?_
  exact Constant_none (is_none_gen ⟨.bl _, H1, I1, by rw [r1.none_iff]; rfl, q1⟩)
theorem pc_notN {j pos'} (ha : PE X a ta) : PC X .IsNot a (.Constant .none j pos') (tNotN ta) := by
  intro pins s σ H Q I h
  refine thn (ha pins s σ H _ I h) fun v s1 ⟨x, H1, I1, r1, q1⟩ => ?_
  exact Constant_none (isnot_none_gen ⟨.bl _, H1, I1, by rw [r1.none_iff]; rfl, q1⟩)

def tB (t : TE) : TT := fun σ H Q => t σ H fun x H1 => ∃ c, x = .bl c ∧ Q c H1
theorem pt_cmp {op : CmpOp} {t : TE} (h : PC X op a b t) (h1 : behindInMarks op b = false := by first | exact nobehind _ (by decide) (by decide) | rfl) : PT X (.Compare a [op] [b] pos) (tB t) := by
  intro pins s σ H Q I hw
  refine wpAny_isTrue_Compare1 (thn (h pins s σ H _ I hw) fun v s1 h1 => thn h1 fun u s2 h2 => thn h2 fun c s3 ⟨x, H1, I1, r1, q1⟩ => ?_) h1
  obtain ⟨d, rfl, q⟩ := q1
  cases r1
  exact wpAny_truthy_bool ⟨H1, I1, q⟩

theorem pt_val {e : Expr} {t : TE} (h : PE X e t) (he : ∀ whole, isTrue e X.env whole = (do let v ← whole; standAt e.pos; holding [v] (truthy v)) := by intro _; rfl) : PT X e (tB t) := by
  intro pins s σ H Q I hw
  refine isTrue_plain (thn (h pins s σ H _ I hw) fun v s1 ⟨x, H1, I1, r1, q1⟩ => ?_) (he _)
  obtain ⟨d, rfl, q⟩ := q1
  cases r1
  exact wpAny_truthy_bool ⟨H1, I1, q⟩


variable {tA tB' : TT} {rest : List Expr}
def tAnd (t u : TT) : TT := fun σ H Q => t σ H fun c H1 => if c = true then u σ H1 Q else Q false H1
def tOr (t u : TT) : TT := fun σ H Q => t σ H fun c H1 => if c = true then Q true H1 else u σ H1 Q
def tNot (t : TT) : TT := fun σ H Q => t σ H fun c H1 => Q (!c) H1
theorem pw_and1 (ha : PT X a tA) : PW X (.BoolOp .And [a] pos) tA := by
  intro wh pins s σ H Q I h
  refine isTrue_and (thn (ha pins s σ H Q I h) fun c s1 e => ?_)
  cases c with
  | true => exact isTrue_and_nil e
  | false => exact e
theorem pw_or1 (ha : PT X a tA) : PW X (.BoolOp .Or [a] pos) tA := by
  intro wh pins s σ H Q I h
  refine isTrue_or (thn (ha pins s σ H Q I h) fun c s1 e => ?_)
  cases c with
  | false => exact isTrue_or_nil e
  | true => exact e
theorem pw_and (ha : PT X a tA) (hb : PW X (.BoolOp .And (b :: rest) pos) tB') : PW X (.BoolOp .And (a :: b :: rest) pos) (tAnd tA tB') := by
  intro wh pins s σ H Q I h
  refine isTrue_and (thn (ha pins s σ H _ I h) fun c s1 ⟨H1, I1, q1⟩ => ?_)
  cases c with
  | true => exact hb wh pins s1 σ H1 Q I1 q1
  | false => exact ⟨H1, I1, q1⟩
theorem pw_or (ha : PT X a tA) (hb : PW X (.BoolOp .Or (b :: rest) pos) tB') : PW X (.BoolOp .Or (a :: b :: rest) pos) (tOr tA tB') := by
  intro wh pins s σ H Q I h
  refine isTrue_or (thn (ha pins s σ H _ I h) fun c s1 ⟨H1, I1, q1⟩ => ?_)
  cases c with
  | true => exact ⟨H1, I1, q1⟩
  | false => exact hb wh pins s1 σ H1 Q I1 q1
theorem pt_not (ha : PT X a tA) : PT X (.UnaryOp .Not a pos) (tNot tA) := by
  intro pins s σ H Q I h
  exact isTrue_not (ha pins s σ H (fun c H1 => Q (!c) H1) I h)

def tAndV (ta tb : TE) : TE := fun σ H Q => ta σ H fun x H1 => ∃ c, x = .bl c ∧ if c = true then tb σ H1 Q else Q (.bl false) H1
def tOrV (ta tb : TE) : TE := fun σ H Q => ta σ H fun x H1 => ∃ c, x = .bl c ∧ if c = true then Q (.bl true) H1 else tb σ H1 Q
def tNotV (ta : TE) : TE := fun σ H Q => ta σ H fun x H1 => ∃ c, x = .bl c ∧ Q (.bl (!c)) H1
theorem pe_one {op} {t : TE} (h : PE X a t) : PE X (.BoolOp op [a] pos) t := fun pins s σ H Q I hw => BoolOp_one (h pins s σ H Q I hw)
theorem pe_and (ha : PE X a ta) (hb : PE X (.BoolOp .And (b :: rest) pos) tb) : PE X (.BoolOp .And (a :: b :: rest) pos) (tAndV ta tb) := by
  intro pins s σ H Q I h
  refine BoolOp_and (thn (ha pins s σ H _ I h) fun v s1 ⟨x, H1, I1, r1, q1⟩ => ?_)
  obtain ⟨c, rfl, q1⟩ := q1
  cases r1
  refine wpAny_truthy_bool ?_
  cases c with
  | true => exact hb pins s1 σ H1 Q I1 q1
  | false => exact ⟨.bl false, H1, I1, rfl, q1⟩
theorem pe_or (ha : PE X a ta) (hb : PE X (.BoolOp .Or (b :: rest) pos) tb) : PE X (.BoolOp .Or (a :: b :: rest) pos) (tOrV ta tb) := by
  intro pins s σ H Q I h
  refine BoolOp_or (thn (ha pins s σ H _ I h) fun v s1 ⟨x, H1, I1, r1, q1⟩ => ?_)
  obtain ⟨c, rfl, q1⟩ := q1
  cases r1
  refine wpAny_truthy_bool ?_
  cases c with
  | false => exact hb pins s1 σ H1 Q I1 q1
  | true => exact ⟨.bl true, H1, I1, rfl, q1⟩
theorem pe_not (ha : PE X a ta) : PE X (.UnaryOp .Not a pos) (tNotV ta) := by
  intro pins s σ H Q I h
  refine UnaryOp_ (thn (ha pins s σ H _ I h) fun v s1 ⟨x, H1, I1, r1, q1⟩ => ?_)
  obtain ⟨c, rfl, q1⟩ := q1
  cases r1
  exact not_of (wpAny_truthy_bool ⟨.bl (!c), H1, I1, rfl, q1⟩)

def tIf (t : TT) (ta tb : TE) : TE := fun σ H Q => t σ H fun c H1 => if c = true then ta σ H1 Q else tb σ H1 Q
theorem pe_ifExp {c : Expr} (hc : PT X c tA) (ha : PE X a ta) (hb : PE X b tb) : PE X (.IfExp c a b pos) (tIf tA ta tb) := by
  intro pins s σ H Q I h
  refine wpAny_IfExp (thn (hc pins s σ H _ I h) fun d s1 ⟨H1, I1, q1⟩ => ?_)
  cases d with
  | true => exact ha pins s1 σ H1 Q I1 q1
  | false => exact hb pins s1 σ H1 Q I1 q1
end
end L2

namespace L2
open PySem PySem.Spec PyProof.Rows


def SqL (K : PySem.W.Frag) (H : Hp) (a : Addr) (xs : List V) : Prop :=
  Rd H a (.lst xs) ∨
    ∃ (o : Obj) (its : Array Value) (n : Nat), K.lookup a = some o ∧ o.cls = .type "list" ∧ o.dict = none ∧ o.data = .seq its n ∧ its.size ≤ sizeLine ∧ Vals xs its.toList
def SqT (K : PySem.W.Frag) (H : Hp) (a : Addr) (xs : List V) : Prop :=
  Rd H a (.tup xs) ∨
    ∃ (o : Obj) (its : Array Value) (n : Nat), K.lookup a = some o ∧ o.cls = .type "tuple" ∧ o.data = .seq its n ∧ its.size ≤ sizeLine ∧ Vals xs its.toList
def absV : Value → Option V
  | .none => some .non
  | .bool b => some (.bl b)
  | .int i _ => some (.int i)
  | .str x _ => some (.str x)
  | .bytes b _ => some (.byt b)
  | .float b _ => some (.flt b)
  | .ref a => some (.ref a)
  | .type n => some (.ty n)
  | _ => none
theorem RelV.abs {x : V} {u : Value} (r : RelV x u) : absV u = some x := by
  cases x with
  | non => cases r; rfl
  | bl _ => cases r; rfl
  | int _ => obtain ⟨t, rfl⟩ := r; rfl
  | str _ => obtain ⟨t, rfl⟩ := r; rfl
  | byt _ => obtain ⟨t, rfl⟩ := r; rfl
  | flt _ => obtain ⟨t, rfl⟩ := r; rfl
  | ref _ => cases r; rfl
  | ty _ => cases r; rfl
theorem RelV.inj {x y : V} {u : Value} (r : RelV x u) (q : RelV y u) : x = y := Option.some.inj (r.abs.symm.trans q.abs)
theorem Vals.inj : ∀ {xs ys : List V} {us : List Value}, Vals xs us → Vals ys us → xs = ys
  | _, _, _, .nil, .nil => rfl
  | _, _, _, .cons r t, .cons r' t' => by rw [r.inj r', Vals.inj t t']
section
variable {X : Cx} {pins : List (Addr × Obj)} {σ : St} {H : Hp} {s : Shared} {a : Addr} {xs ys : List V}
theorem SqL.of {K : PySem.W.Frag} (h : H a = some (.lst xs)) : SqL K H a xs := .inl (.inl h)
theorem SqT.of {K : PySem.W.Frag} (h : H a = some (.tup xs)) : SqT K H a xs := .inl (.inl h)
theorem Inv.list (I : Inv X pins σ H s) (h : SqL X.K H a xs) : ∃ its : List Value, Vals xs its ∧ PlainL s.heap a its.toArray ∧ xs.length ≤ sizeLine := by
  rcases h with h | ⟨o, its, n, hk, hc, hd, hs, hz, r⟩
  · obtain ⟨z, its, n, r, e⟩ := h.ok I.hok
    exact ⟨its, r, ⟨_, n, e, rfl, rfl, rfl⟩, z⟩
  · refine ⟨its.toList, r, ⟨o, n, I.kIn a o hk, hc, hd, by simpa using hs⟩, ?_⟩
    have e := r.length
    simp only [Array.length_toList] at e
    omega
theorem Inv.tuple (I : Inv X pins σ H s) (h : SqT X.K H a xs) : ∃ its : List Value, Vals xs its ∧ IsTup s.heap a its.toArray ∧ xs.length ≤ sizeLine := by
  rcases h with h | ⟨o, its, n, hk, hc, hs, hz, r⟩
  · obtain ⟨z, its, r, p⟩ := h.ok I.hok
    exact ⟨its, r, p, z⟩
  · refine ⟨its.toList, r, ⟨o, I.kIn a o hk, hc, n, by simpa using hs⟩, ?_⟩
    have e := r.length
    simp only [Array.length_toList] at e
    omega
theorem Inv.list_inj (I : Inv X pins σ H s) (h : SqL X.K H a xs) (h' : SqL X.K H a ys) : xs = ys := by
  obtain ⟨its, r, ⟨o, n, e, _, _, d⟩, _⟩ := I.list h
  obtain ⟨its', r', ⟨o', n', e', _, _, d'⟩, _⟩ := I.list h'
  rw [e] at e'; cases e'
  rw [d] at d'
  injection d' with d1 _
  have : its = its' := by simpa using congrArg Array.toList d1
  subst this
  exact r.inj r'
theorem Inv.tuple_inj (I : Inv X pins σ H s) (h : SqT X.K H a xs) (h' : SqT X.K H a ys) : xs = ys := by
  obtain ⟨its, r, ⟨o, e, _, n, d⟩, _⟩ := I.tuple h
  obtain ⟨its', r', ⟨o', e', _, n', d'⟩, _⟩ := I.tuple h'
  rw [e] at e'; cases e'
  rw [d] at d'
  injection d' with d1 _
  have : its = its' := by simpa using congrArg Array.toList d1
  subst this
  exact r.inj r'
end


abbrev Cx.wish (X : Cx) (E : Value → Shared → Prop) : Cx := { X with xe := E }

abbrev Cx.nox (X : Cx) : Cx := X.wish fun _ _ => False
theorem Cx.Ok.wish {X : Cx} (ok : X.Ok) (E : Value → Shared → Prop) : (X.wish E).Ok :=
  ⟨ok.mod, ok.kind, ok.glob, ok.blt, ok.above, ok.inj, ok.has, ok.cab, ok.hd, ok.frames, ok.stk, ok.exf, ok.bs, ok.bsz, ok.noex, ok.exfs, ok.funs, ok.frf⟩
theorem Cx.Ok.unwish {X : Cx} {E : Value → Shared → Prop} (ok : (X.wish E).Ok) : X.Ok :=
  ⟨ok.mod, ok.kind, ok.glob, ok.blt, ok.above, ok.inj, ok.has, ok.cab, ok.hd, ok.frames, ok.stk, ok.exf, ok.bs, ok.bsz, ok.noex, ok.exfs, ok.funs, ok.frf⟩
section
variable {X : Cx} {pins : List (Addr × Obj)} {σ : St} {H : Hp} {s : Shared} {E : Value → Shared → Prop}
theorem Inv.wish (I : Inv X pins σ H s) (E : Value → Shared → Prop) : Inv (X.wish E) pins σ H s := ⟨I.ok.wish E, I.os, I.bare, I.base, I.loc, I.cell, I.free, I.freeC, I.pin, I.hok, I.len⟩
theorem Inv.unwish (I : Inv (X.wish E) pins σ H s) : Inv X pins σ H s := ⟨I.ok.unwish, I.os, I.bare, I.base, I.loc, I.cell, I.free, I.freeC, I.pin, I.hok, I.len⟩
theorem SP.unwish {D : Ends} {f : Flow} {s' : Shared} (h : SP (X.wish E) pins D f s') : SP X pins D f s' := by
  cases f with
  | next => obtain ⟨σ', H', I, q⟩ := h; exact ⟨σ', H', I.unwish, q⟩
  | brk => obtain ⟨σ', H', I, q⟩ := h; exact ⟨σ', H', I.unwish, q⟩
  | cont => obtain ⟨σ', H', I, q⟩ := h; exact ⟨σ', H', I.unwish, q⟩
  | ret u => obtain ⟨v, σ', H', I, r, q⟩ := h; exact ⟨v, σ', H', I.unwish, r, q⟩
theorem PSs.nox {st : List Stmt} {t : TS} (h : PSs X.nox st t) : PSs X st t := fun pins s σ H D I hw =>
  wpAny_mono (h pins s σ H D (I.wish _) hw) (fun _ _ q => q.unwish) fun _ _ z => False.elim z
end


section
variable {X : Cx} {st : Stmt} {rest : List Stmt} {t u : TS} {e : Expr} {te : TE} {pos : Pos}
def tNext : TS := fun D σ H => D.nx σ H
def tSeq (t u : TS) : TS := fun D σ H => t { D with nx := u D } σ H
theorem pss_nil : PSs X [] tNext := fun _ _ σ H _ I h => wpAny_execs_nil ⟨σ, H, I, h⟩
theorem pss_cons (h1 : PS X st t) (h2 : PSs X rest u) : PSs X (st :: rest) (tSeq t u) := by
  intro pins s σ H D I h
  refine wpAny_execs_cons (thn (h1 pins s σ H { D with nx := u D } I h) fun f s1 q => ?_)
  cases f with
  | next =>
    obtain ⟨σ', H', I', q⟩ := q
    exact h2 pins s1 σ' H' D I' q
  | ret v => exact q
  | brk => exact q
  | cont => exact q
theorem pss_one (h1 : PS X st t) : PSs X [st] t := by
  intro pins s σ H D I h
  refine wpAny_execs_cons (thn (h1 pins s σ H D I h) fun f s1 q => ?_)
  cases f with
  | next => exact wpAny_execs_nil q
  | ret v => exact q
  | brk => exact q
  | cont => exact q
theorem Inv.quiet {pins : List (Addr × Obj)} {σ : St} {H : Hp} {s : Shared} (I : Inv X pins σ H s) : interactive X.env = false := by simp [interactive, I.ok.kind]

def tDrop (te : TE) : TS := fun D σ H => te σ H fun _ H1 => D.nx σ H1
theorem ps_expr (he : PE X e te) (hs : swapsWith e none pos.line X.env = pure false := by rfl) : PS X (.Expr e pos) (tDrop te) := by
  intro pins s σ H D I h
  exact wpAny_Expr_any (thn (he pins s σ H _ I h) fun v s1 ⟨x, H1, I1, r1, q1⟩ => ⟨σ, H1, I1, q1⟩) I.quiet hs
def tRet (te : TE) : TS := fun D σ H => te σ H D.rt
theorem ps_ret (he : PE X e te) : PS X (.Return (some e) pos) (tRet te) := by
  intro pins s σ H D I h
  exact wpAny_Return_some (thn (he pins s σ H _ I h) fun v s1 ⟨x, H1, I1, r1, q1⟩ => ⟨x, σ, H1, I1, r1, q1⟩)
def tIfS (c : TT) (t u : TS) : TS := fun D σ H => c σ H fun b H1 => if b = true then t D σ H1 else u D σ H1
theorem ps_if {c : Expr} {a b : List Stmt} {tc : TT} (hc : PT X c tc) (ha : PSs X a t) (hb : PSs X b u) : PS X (.If c a b pos) (tIfS tc t u) := by
  intro pins s σ H D I h
  refine wpAny_If (thn (hc pins s σ H _ I h) fun d s1 ⟨H1, I1, q1⟩ => ?_)
  cases d with
  | true => exact ha pins s1 σ H1 D I1 q1
  | false => exact hb pins s1 σ H1 D I1 q1

end


abbrev TG := V → St → Hp → (St → Hp → Prop) → Prop
abbrev TGs := List V → St → Hp → (St → Hp → Prop) → Prop
def PG (X : Cx) (target : Expr) (t : TG) : Prop :=
  ∀ (pins : List (Addr × Obj)) (s : Shared) (σ : St) (H : Hp) (v : V) (u : Value) (Q : St → Hp → Prop), Inv X pins σ H s → RelV v u → t v σ H Q →
    wpAny (model X.prog X.w) X.A (assign target X.env u) (fun _ s' => ∃ σ' H', Inv X pins σ' H' s' ∧ Q σ' H') X.xe s

def PGs (X : Cx) (ts : List Expr) (t : TGs) : Prop :=
  ∀ (pins : List (Addr × Obj)) (s : Shared) (σ : St) (H : Hp) (vs : List V) (us : List Value) (Q : St → Hp → Prop), Inv X pins σ H s → Vals vs us → t vs σ H Q →
    wpAny (model X.prog X.w) X.A (assignInOrder ((assignEach ts X.env).map (·.2)) us) (fun _ s' => ∃ σ' H', Inv X pins σ' H' s' ∧ Q σ' H') X.xe s

abbrev TSet := V → V → V → Hp → (Hp → Prop) → Prop
def PSet (X : Cx) (t : TSet) : Prop :=
  ∀ (pins : List (Addr × Obj)) (s : Shared) (σ : St) (H : Hp) (o i v : V) (ov iv u : Value) (Q : Hp → Prop), Inv X pins σ H s → RelV o ov → RelV i iv → RelV v u → t o i v H Q →
    wpAny (model X.prog X.w) X.A (setItem ov iv u) (fun _ s' => ∃ H', Inv X pins σ H' s' ∧ Q H') X.xe s

section
variable {X : Cx} {pos : Pos}
def gName (i : Nat) : TG := fun v σ H Q => Q (σ.set i (some v)) H
theorem pg_name {i : Nat} {x : Str} (hN : X.N.Nodup) (hi : X.N[i]? = some x) (hx : Loc X.env.scope x) (hf : X.fn x = true ∨ X.env.scope.names.lookup x = some .local := by first | exact .inl rfl | exact .inr rfl | assumption) : PG X (.Name x pos) (gName i) := by
  intro pins s σ H v u Q I r h
  exact wpAny_assign_Name (store_ok I hN hi hx r (fun s' I' => ⟨_, H, I', h⟩) hf)
def gNil : TGs := fun vs σ H Q => vs = [] ∧ Q σ H
def gCons (t : TG) (u : TGs) : TGs := fun vs σ H Q => ∃ v r, vs = v :: r ∧ t v σ H fun σ' H' => u r σ' H' Q
theorem pgs_nil : PGs X [] gNil := by
  intro pins s σ H vs us Q I r h
  obtain ⟨e, h⟩ := h
  subst e
  cases r
  exact assignInOrder_nil ⟨σ, H, I, h⟩
theorem pgs_cons {e : Expr} {es : List Expr} {t : TG} {u : TGs} (h1 : PG X e t) (h2 : PGs X es u)
    (hs : (assignEach (e :: es) X.env).map (·.2) = assign e X.env :: (assignEach es X.env).map (·.2) := by rfl) : PGs X (e :: es) (gCons t u) := by
  intro pins s σ H vs us Q I r h
  obtain ⟨v, vr, e1, h⟩ := h
  subst e1
  cases r with
  | cons r rr =>
    rw [hs]
    refine assignInOrder_cons (thn (h1 pins s σ H _ _ _ I r h) fun _ s1 ⟨σ1, H1, I1, q1⟩ => ?_)
    exact h2 pins s1 σ1 H1 _ _ Q I1 rr q1

def gTup (K : PySem.W.Frag) (n : Nat) (t : TGs) : TG := fun v σ H Q => ∃ a xs, v = .ref a ∧ SqT K H a xs ∧ xs.length = n ∧ t xs σ H Q
theorem pg_tup {es : List Expr} {k : Nat} {t : TGs} {n : Nat} (hc : X.calm = true) (h : PGs X es t)
    (hn : (assignEach es X.env).length = n := by rfl) (hst : (assignEach es X.env).findIdx? (·.1) = none := by rfl) : PG X (.Tuple es k pos) (gTup X.K n t) := by
  intro pins s σ H v u Q I r hw
  obtain ⟨a, xs, e1, hq, hl, hw⟩ := hw
  subst e1
  cases r
  obtain ⟨its, rv, ht, hz⟩ := I.tuple hq
  refine assign_Tuple_tuple (I.ok.hd hc) ht (by simp [hn, ← hl, rv.length]) hst fun h' hx => ?_
  have I1 : Inv X pins σ H { s with heap := h' } := I.kept (t' := s.toks) fun b o e => hx b o (Nat.ne_of_lt (Heap.lt_size e)) e
  exact h pins _ σ H xs _ Q I1 (by simpa using rv) hw

def gSub (to ti : TE) (t : TSet) : TG := fun v σ H Q => to σ H fun o H1 => ti σ H1 fun i H2 => t o i v H2 fun H3 => Q σ H3
theorem pg_sub {o i : Expr} {to ti : TE} {t : TSet} (ho : PE X o to) (hi : PE X i ti) (hs : PSet X t)
    (ha : ∀ v, assign (.Subscript o i pos) X.env v = (do
      let ov ← holding [v] (eval o X.env)
      let iv ← holding [v, ov] (eval i X.env)
      standAt pos
      holding [v, ov, iv] (setItem ov iv v)
      release [v, ov, iv] []) := by intro _; rfl) : PG X (.Subscript o i pos) (gSub to ti t) := by
  intro pins s σ H v u Q I r h
  rw [ha]
  refine wpAny_bind (wpAny_holding (thn (ho pins s σ H _ I h) fun ov s1 ⟨x, H1, I1, r1, q1⟩ => ?_))
  refine wpAny_bind (wpAny_holding (thn (hi pins s1 σ H1 _ I1 q1) fun iv s2 ⟨y, H2, I2, r2, q2⟩ => ?_))
  refine wpAny_bind (wpAny_standAt (wpAny_bind (wpAny_holding (thn (hs pins s2 σ H2 x y v ov iv u _ I2 r1 r2 r q2) fun _ s3 ⟨H3, I3, q3⟩ => ?_))))
  exact wpAny_release ⟨σ, H3, I3, q3⟩

def tAsg (te : TE) (g : TG) : TS := fun D σ H => te σ H fun x H1 => g x σ H1 D.nx
theorem ps_asg {tg e : Expr} {te : TE} {g : TG} (he : PE X e te) (hg : PG X tg g) (hs : swapsWithSole [tg] e pos.line X.env = pure false := by rfl) (hw : swappedStores [tg] e X.env = pure none := by rfl)
    (h1 : (assignEach [tg] X.env).map (·.2) = [assign tg X.env] := by rfl) : PS X (.Assign [tg] e pos) (tAsg te g) := by
  intro pins s σ H D I h
  refine wpAny_Assign_stores (thn (he pins s σ H _ I h) fun v s1 ⟨x, H1, I1, r1, q1⟩ => ?_) hs hw
  rw [h1]
  exact thn (hg pins s1 σ H1 x v _ I1 r1 q1) fun _ s2 q => q

theorem ps_set {i : Nat} {x : Str} {e : Expr} {te : TE} {pos' : Pos} (hN : X.N.Nodup) (hi : X.N[i]? = some x) (hx : Loc X.env.scope x) (he : PE X e te) (hs : swapsWith e (some (.Name x pos')) pos.line X.env = pure false := by rfl) (hf : X.fn x = true ∨ X.env.scope.names.lookup x = some .local := by first | exact .inl rfl | exact .inr rfl | assumption) :
    PS X (.Assign [.Name x pos'] e pos) (tAsg te (gName i)) := by
  intro pins s σ H D I h
  refine wpAny_Assign_Name (thn (he pins s σ H _ I h) fun v s1 ⟨y, H1, I1, r1, q1⟩ => ?_) hs
  exact store_ok I1 hN hi hx r1 (fun s2 I2 => ⟨_, H1, I2, q1⟩) hf

end


section
variable {X : Cx} {pos : Pos}

end



structure It where
  go : Nat → Hp → Prop
  yld : Nat → Hp → V → Hp → Prop
  stop : Nat → Hp → Prop

def FpOk (X : Cx) (pins : List (Addr × Obj)) (H : Hp) (b : Addr) : Prop :=
  H b = none ∧ b ≠ X.env.locals ∧ b ∉ X.fs ∧ (b ∈ X.ex ∨ X.s₀.heap.objs.size ≤ b) ∧ (∀ x c, X.env.cells.lookup x = some c → c ≠ b) ∧ ∀ p ∈ X.pn ++ pins, p.1 ≠ b
theorem Inv.fpOk {X : Cx} {pins : List (Addr × Obj)} {σ : St} {H H' : Hp} {s : Shared} {b : Addr} (I : Inv X pins σ H s) (hb : s.heap.objs.size ≤ b) (hn : H' b = none) : FpOk X pins H' b := by
  refine ⟨hn, Nat.ne_of_gt (Nat.lt_of_lt_of_le I.lt hb), I.nofs hb, .inr (Nat.le_trans I.sz hb), fun x c e z => ?_, fun p hp z => ?_⟩
  · obtain ⟨v, q⟩ := I.cell x c e
    exact absurd (Nat.lt_of_lt_of_le q.lt (by rw [z]; exact hb)) (Nat.lt_irrefl _)
  · exact absurd (Nat.lt_of_lt_of_le (Heap.lt_size (I.pin p hp).1) (by rw [z]; exact hb)) (Nat.lt_irrefl _)
structure Turn (P : Program) (w : World) (K : PySem.W.Frag) (tg : Expr) (J : It) (fp : List Addr) (it : Addr) (tn : Nat → Heap → Prop) : Prop where
  mem : it ∈ fp
  obj : ∀ i h, tn i h → ∀ b ∈ fp, ∃ o, h.get? b = some o ∧ ∀ v, o.data ≠ .cell v
  keep : ∀ i h h', tn i h → (∀ b ∈ fp, ∀ o, h.get? b = some o → h'.get? b = some o) → tn i h'
  item : ∀ (X : Cx), X.prog = P → X.w = w → X.K = K → X.calm = true → ∀ (i : Nat) (pins : List (Addr × Obj)) (s : Shared) (σ : St) (H : Hp) (E : Value → Shared → Prop), Inv X pins σ H s → (∀ b ∈ fp, FpOk X pins H b) → tn i s.heap → J.go i H →
    wpAny (model P w) X.A (pyNext (.ref it)) (fun r s1 => ∃ u, r = some u ∧
      wpAny (model P w) X.A (letOwnedTupleGo tg (.ref it) u) (fun _ s2 => ∃ x H', Inv X pins σ H' s2 ∧ RelV x u ∧ J.yld i H x H' ∧ tn (i + 1) s2.heap ∧ ∀ b ∈ fp, H' b = none) E s1) E s
  done : ∀ (X : Cx), X.prog = P → X.w = w → X.K = K → X.calm = true → ∀ (i : Nat) (pins : List (Addr × Obj)) (s : Shared) (σ : St) (H : Hp) (E : Value → Shared → Prop), Inv X pins σ H s → (∀ b ∈ fp, FpOk X pins H b) → tn i s.heap → J.stop i H →
    wpAny (model P w) X.A (pyNext (.ref it)) (fun r s1 => r = none ∧ Inv X pins σ H s1) E s
  self : ∀ (A : Around) (i : Nat) (s : Shared) (Q : Value → Shared → Prop) (E : Value → Shared → Prop), tn i s.heap → Q (.ref it) s → wpAny (model P w) A (pyIter (.ref it)) Q E s
abbrev TI := St → Hp → (It → Hp → Prop) → Prop

def PIE (X : Cx) (pins : List (Addr × Obj)) (σ : St) (tg : Expr) (R : It → Hp → Prop) (itv : Value) (s2 : Shared) : Prop :=
  ∃ (it : Addr) (fp : List Addr) (tn : Nat → Heap → Prop) (J : It) (H' : Hp), itv = .ref it ∧ Inv X pins σ H' s2 ∧ Turn X.prog X.w X.K tg J fp it tn ∧ tn 0 s2.heap ∧ (∀ b ∈ fp, FpOk X pins H' b) ∧ R J H'
def PI (X : Cx) (tg iter : Expr) (wi : TI) : Prop :=
  ∀ (pins : List (Addr × Obj)) (s : Shared) (σ : St) (H : Hp) (R : It → Hp → Prop), Inv X pins σ H s → wi σ H R →
    wpAny (model X.prog X.w) X.A (eval iter X.env) (fun v s1 => wpAny (model X.prog X.w) X.A (pyIter v) (PIE X pins σ tg R) X.xe s1) X.xe s


theorem go_of {M : Model} {A : Around} {E : Value → Shared → Prop} {s : Shared} {tg : Expr} {it : Addr} {u : Value} {o : Obj} {n : String} {vs : Array Value} {Q : Unit → Shared → Prop} (ho : s.heap.get? it = some o) (hc : o.cls = .type n) (hd : o.data = .fields vs)
    (hn : ["enumerate", "zip", "dict_itemiterator", "dict_reverseitemiterator", "odict_iterator", "itertools.zip_longest", "itertools.pairwise"].contains n = false) (hQ : Q () s) : wpAny M A (letOwnedTupleGo tg (.ref it) u) Q E s := by
  unfold letOwnedTupleGo
  cases tg <;> first
    | exact wpAny_pure hQ
    | (cases u <;> first
        | exact wpAny_pure hQ
        | (refine wpAny_bind (wpAny_load ho ?_)
           rw [hc, hd]
           show wpAny M A (if (["enumerate", "zip", "dict_itemiterator", "dict_reverseitemiterator", "odict_iterator", "itertools.zip_longest", "itertools.pairwise"].contains n && vs[0]? == some (rawInt _)) = true then _ else _) Q E s
           rw [if_neg (by intro h; rw [hn, Bool.false_and] at h; cases h)]
           exact wpAny_pure hQ))


def Itl (K : PySem.W.Frag) (a : Addr) : It :=
  ⟨fun i H => ∃ xs x, SqL K H a xs ∧ xs[i]? = some x, fun i H x H' => H' = H ∧ ∀ xs, SqL K H a xs → xs[i]? = some x, fun i H => ∃ xs, SqL K H a xs ∧ xs.length ≤ i⟩
def Itt (K : PySem.W.Frag) (a : Addr) : It :=
  ⟨fun i H => ∃ xs x, SqT K H a xs ∧ xs[i]? = some x, fun i H x H' => H' = H ∧ ∀ xs, SqT K H a xs → xs[i]? = some x, fun i H => ∃ xs, SqT K H a xs ∧ xs.length ≤ i⟩

def Itr (lo : Int) (n : Nat) : It := ⟨fun i _ => i < n, fun i H x H' => H' = H ∧ x = .int (lo + i), fun i _ => n ≤ i⟩
theorem turn_list {P : Program} {w : World} {K : PySem.W.Frag} {tg : Expr} (a it : Addr) : Turn P w K tg (Itl K a) [it] it (fun i h => h.IsListIter it a i) where
  mem := by simp
  obj := fun i h st b hb => by
    have e : b = it := by simpa using hb
    subst e
    obtain ⟨o, e, c, d⟩ := st
    exact ⟨o, e, fun v z => by rw [d] at z; cases z⟩
  keep := fun i h h' st k => st.at fun o e => k it (by simp) o e
  item := by
    intro X hP hw hK hc i pins s σ H E I hf st hg
    subst hP hw hK
    obtain ⟨xs, x, hq, hx⟩ := hg
    obtain ⟨its, rv, p, hz⟩ := I.list hq
    obtain ⟨u, hu, ru⟩ := rv.get hx
    obtain ⟨f0, f1, f2, f3, f4, f5⟩ := hf it (by simp)
    refine wpAny_pyNext_list_item st p.isList (x := u) (by simpa using hu) fun h' st' sb => ?_
    have I1 : Inv X pins σ H { s with heap := h' } := I.turned (t' := s.toks) (fun b o hb e => (sb.2 b hb).trans e) f0 f1 f3 f4 f5
    obtain ⟨o, e, c, d⟩ := id st'
    exact ⟨u, rfl, go_of (s := { s with heap := h' }) e c d (by decide) ⟨x, H, I1, ru, ⟨rfl, fun ys hy => by rw [I.list_inj hy hq]; exact hx⟩, st', fun b hb => (hf b hb).1⟩⟩
  done := by
    intro X hP hw hK hc i pins s σ H E I hf st hg
    subst hP hw hK
    obtain ⟨xs, hq, hx⟩ := hg
    obtain ⟨its, rv, p, hz⟩ := I.list hq
    obtain ⟨f0, f1, f2, f3, f4, f5⟩ := hf it (by simp)
    have hl := rv.length
    exact wpAny_pyNext_list_end (I.ok.hd hc) st p.isList (by simp; omega) fun h' eb => ⟨rfl, I.turned (t' := s.toks) (fun b o hb e => eb b o hb e) f0 f1 f3 f4 f5⟩
  self := fun _ _ _ _ _ st h => wpAny_pyIter_listiter st h
theorem turn_tuple {P : Program} {w : World} {K : PySem.W.Frag} {tg : Expr} (a it : Addr) : Turn P w K tg (Itt K a) [it] it (fun i h => h.IsTupleIter it a i) where
  mem := by simp
  obj := fun i h st b hb => by
    have e : b = it := by simpa using hb
    subst e
    obtain ⟨o, e, c, d⟩ := st
    exact ⟨o, e, fun v z => by rw [d] at z; cases z⟩
  keep := fun i h h' st k => st.at fun o e => k it (by simp) o e
  item := by
    intro X hP hw hK hc i pins s σ H E I hf st hg
    subst hP hw hK
    obtain ⟨xs, x, hq, hx⟩ := hg
    obtain ⟨its, rv, p, hz⟩ := I.tuple hq
    obtain ⟨u, hu, ru⟩ := rv.get hx
    obtain ⟨f0, f1, f2, f3, f4, f5⟩ := hf it (by simp)
    refine wpAny_pyNext_tuple_item st (show s.heap.IsTuple a its.toArray from p) (x := u) (by simpa using hu) fun h' st' sb => ?_
    have I1 : Inv X pins σ H { s with heap := h' } := I.turned (t' := s.toks) (fun b o hb e => (sb.2 b hb).trans e) f0 f1 f3 f4 f5
    obtain ⟨o, e, c, d⟩ := id st'
    exact ⟨u, rfl, go_of (s := { s with heap := h' }) e c d (by decide) ⟨x, H, I1, ru, ⟨rfl, fun ys hy => by rw [I.tuple_inj hy hq]; exact hx⟩, st', fun b hb => (hf b hb).1⟩⟩
  done := by
    intro X hP hw hK hc i pins s σ H E I hf st hg
    subst hP hw hK
    obtain ⟨xs, hq, hx⟩ := hg
    obtain ⟨its, rv, p, hz⟩ := I.tuple hq
    obtain ⟨f0, f1, f2, f3, f4, f5⟩ := hf it (by simp)
    have hl := rv.length
    exact wpAny_pyNext_tuple_end (I.ok.hd hc) st (show s.heap.IsTuple a its.toArray from p) (by simp; omega) fun h' eb => ⟨rfl, I.turned (t' := s.toks) (fun b o hb e => eb b o hb e) f0 f1 f3 f4 f5⟩
  self := fun _ _ _ _ _ st h => wpAny_pyIter_tupleiter st h
theorem turn_range {P : Program} {w : World} {K : PySem.W.Frag} {tg : Expr} (it : Addr) (lo : Int) (n : Nat) : Turn P w K tg (Itr lo n) [it] it (fun i h => IsRangeIter h it (lo + (i : Nat) * 1) ((n : Int) - (i : Nat)) 1) where
  mem := by simp
  obj := fun i h st b hb => by
    have e : b = it := by simpa using hb
    subst e
    exact ⟨_, st, fun v z => by
      have z' : Data.fields _ = Data.cell v := z
      cases z'⟩
  keep := fun i h h' st k => k it (by simp) _ st
  item := by
    intro X hP hw hK hc i pins s σ H E I hf st hg
    subst hP hw hK
    obtain ⟨f0, f1, f2, f3, f4, f5⟩ := hf it (by simp)
    have W := Walks.range (prog := X.prog) (w := X.w) (I.ok.hd hc) it lo 1 n
    refine W.item i s _ _ hg st fun v h' tk hv st' kk => ?_
    obtain ⟨t, rfl⟩ := hv
    have I1 : Inv X pins σ H { s with heap := h', toks := tk } := I.turned (fun b o hb e => kk b o (by simpa using hb) e) f0 f1 f3 f4 f5
    refine ⟨_, rfl, go_of (s := { s with heap := h', toks := tk }) (n := "range_iterator") st' rfl rfl (by decide) ⟨.int (lo + i), H, I1, ⟨t, ?_⟩, ⟨rfl, rfl⟩, st', fun b hb => (hf b hb).1⟩⟩
    rw [Int.mul_one]
  done := by
    intro X hP hw hK hc i pins s σ H E I hf st hg
    subst hP hw hK
    obtain ⟨f0, f1, f2, f3, f4, f5⟩ := hf it (by simp)
    exact wpAny_pyNext_range_end (I.ok.hd hc) st (by have : n ≤ i := hg; omega) fun h' eb => ⟨rfl, I.turned (t' := s.toks) (fun b o hb e => eb b o hb e) f0 f1 f3 f4 f5⟩
  self := fun _ _ _ _ _ st h => wpAny_pyIter_rangeiter st h
end L2

namespace L2
open PySem PySem.Spec PyProof.Rows
section
variable {X : Cx} {tg : Expr}
def iList (K : PySem.W.Frag) (tl : TE) : TI := fun σ H R => tl σ H fun x H1 => ∃ a, x = .ref a ∧ (∃ xs, SqL K H1 a xs) ∧ R (Itl K a) H1
def iTup (K : PySem.W.Frag) (tl : TE) : TI := fun σ H R => tl σ H fun x H1 => ∃ a, x = .ref a ∧ (∃ xs, SqT K H1 a xs) ∧ R (Itt K a) H1
theorem pi_list {l : Expr} {tl : TE} (hl : PE X l tl) : PI X tg l (iList X.K tl) := by
  intro pins s σ H R I h
  refine thn (hl pins s σ H _ I h) fun v s1 ⟨x, H1, I1, r1, q1⟩ => ?_
  obtain ⟨a, e, ⟨xs, hq⟩, q⟩ := q1
  subst e
  cases r1
  obtain ⟨its, rv, p, hz⟩ := I1.list hq
  refine wpAny_pyIter_list p.isList ?_
  refine ⟨s1.heap.objs.size, [s1.heap.objs.size], _, _, H1, rfl, I1.kept (t' := s1.toks) fun b o e => Heap.get?_push_of_some _ e, turn_list a _, ⟨_, Heap.get?_push_size _ rfl, rfl, rfl⟩, fun b hb => ?_, q⟩
  have e : b = s1.heap.objs.size := by simpa using hb
  subst e
  exact I1.fpOk (Nat.le_refl _) (I1.hok.fresh (Nat.le_refl _))
theorem pi_tup {l : Expr} {tl : TE} (hl : PE X l tl) : PI X tg l (iTup X.K tl) := by
  intro pins s σ H R I h
  refine thn (hl pins s σ H _ I h) fun v s1 ⟨x, H1, I1, r1, q1⟩ => ?_
  obtain ⟨a, e, ⟨xs, hq⟩, q⟩ := q1
  subst e
  cases r1
  obtain ⟨its, rv, p, hz⟩ := I1.tuple hq
  refine wpAny_pyIter_tuple (show s1.heap.IsTuple a its.toArray from p) ?_
  refine ⟨s1.heap.objs.size, [s1.heap.objs.size], _, _, H1, rfl, I1.kept (t' := s1.toks) fun b o e => Heap.get?_push_of_some _ e, turn_tuple a _, ⟨_, Heap.get?_push_size _ rfl, rfl, rfl⟩, fun b hb => ?_, q⟩
  have e : b = s1.heap.objs.size := by simpa using hb
  subst e
  exact I1.fpOk (Nat.le_refl _) (I1.hok.fresh (Nat.le_refl _))

theorem range_it {pins : List (Addr × Obj)} {σ : St} {H : Hp} {s : Shared} {R : It → Hp → Prop} {E : Value → Shared → Prop} {lo hi : Int} {t u v : Tok} {tk : Nat} (I : Inv X pins σ H s) (h1 : -(2 ^ 62) ≤ lo) (h2 : lo < 2 ^ 62) (h3 : -(2 ^ 62) ≤ hi) (h4 : hi < 2 ^ 62)
    (q : R (Itr lo (hi - lo).toNat) H) : wpAny (model X.prog X.w) X.A (pyIter (.ref s.heap.objs.size)) (PIE X pins σ tg R) E { s with heap := s.heap.push { cls := .type "range", data := .fields #[.int lo t, .int hi u, .int 1 v] }, toks := tk } := by
  refine wpAny_pyIter_range (IsRange.new ..) (small_one h1 h2 h3 h4) ?_
  have I1 : Inv X pins σ H { s with heap := s.heap.push { cls := .type "range", data := .fields #[.int lo t, .int hi u, .int 1 v] }, toks := tk } := I.kept fun b o e => Heap.get?_push_of_some _ e
  refine ⟨(s.heap.push { cls := .type "range", data := .fields #[.int lo t, .int hi u, .int 1 v] }).objs.size, [(s.heap.push { cls := .type "range", data := .fields #[.int lo t, .int hi u, .int 1 v] }).objs.size], _, _, H, rfl,
    I1.kept (t' := tk) fun b o e => Heap.get?_push_of_some _ e, turn_range _ lo (hi - lo).toNat, ?_, fun b hb => ?_, q⟩
  · have e1 : lo + ((0 : Nat) : Int) * 1 = lo := by simp
    have e2 : (((hi - lo).toNat : Nat) : Int) - ((0 : Nat) : Int) = Builtin.Range.rangeSize lo hi 1 := by rw [rangeSize_one]; split <;> omega
    show IsRangeIter _ _ (lo + ((0 : Nat) : Int) * 1) ((((hi - lo).toNat : Nat) : Int) - ((0 : Nat) : Int)) 1
    rw [e1, e2]
    exact Heap.get?_push_size _ rfl
  · have e : b = (s.heap.push { cls := .type "range", data := .fields #[.int lo t, .int hi u, .int 1 v] }).objs.size := by simpa using hb
    subst e
    exact I1.fpOk (Nat.le_refl _) (I1.hok.fresh (Nat.le_refl _))
def iRng1 (ta : TA) : TI := fun σ H R => ta σ H fun vs H1 => ∃ j : Int, vs = [.int j] ∧ -(2 ^ 62) ≤ j ∧ j < 2 ^ 62 ∧ R (Itr 0 j.toNat) H1
theorem pi_range1 {a : Expr} {ta : TA} {p pos : Pos} (hg : Gl X "range") (hm : X.mg "range" = none) (ha : PA X [a] ta) (hs : starEach [a] X.env = [(false, eval a X.env)] := by rfl) : PI X tg (.Call (.Name "range" p) [a] [] pos) (iRng1 ta) := by
  intro pins s σ H R I h
  refine Call_ (ld_blt I hg hm boot_range (PyProof.Rows.callWith_type1 (thn (ha pos pins s σ H _ I h) fun us s1 ⟨vs, H1, I1, r1, q1⟩ => ?_) hs rfl))
  obtain ⟨j, e, q1, q2, q⟩ := q1
  subst e
  cases r1 with
  | cons r rr =>
    cases rr
    obtain ⟨t, rfl⟩ := r
    exact call_range_1 (range_it I1 (by omega) (by omega) q1 q2 (by simpa using q))
def tFor (wi : TI) (g : TG) (tb : TS) : TS := fun D σ H => wi σ H fun J H1 => ∃ W : Nat → Nat → St → Hp → Prop, (∃ m, W 0 m σ H1) ∧ ∀ i m σ H, W i m σ H →
  (J.stop i H ∧ D.nx σ H) ∨ (J.go i H ∧ ∃ N : St → Hp → Prop, (∀ σ' H', N σ' H' → ∃ m', m' < m ∧ W (i + 1) m' σ' H') ∧ ∀ x H', J.yld i H x H' → g x σ H' fun σ2 H2 => tb { D with nx := N, ct := N, bk := D.nx } σ2 H2)

def pinsAt (fp : List Addr) (h : Heap) : List (Addr × Obj) := fp.filterMap fun b => (h.get? b).map fun o => (b, o)
theorem mem_pinsAt {fp : List Addr} {h : Heap} {b : Addr} {o : Obj} (hb : b ∈ fp) (e : h.get? b = some o) : (b, o) ∈ pinsAt fp h := List.mem_filterMap.mpr ⟨b, hb, by rw [e]; rfl⟩
theorem of_pinsAt {fp : List Addr} {h : Heap} {p : Addr × Obj} (hp : p ∈ pinsAt fp h) : p.1 ∈ fp ∧ h.get? p.1 = some p.2 := by
  obtain ⟨b, hb, e⟩ := List.mem_filterMap.mp hp
  cases q : h.get? b with
  | none => rw [q] at e; cases e
  | some o =>
    rw [q] at e
    have e' : (b, o) = p := Option.some.inj e
    subst e'
    exact ⟨hb, q⟩
theorem Inv.pinned {pins : List (Addr × Obj)} {σ : St} {H : Hp} {s : Shared} {fp : List Addr} (I : Inv X pins σ H s) (hf : ∀ b ∈ fp, FpOk X pins H b) (ho : ∀ b ∈ fp, ∃ o, s.heap.get? b = some o ∧ ∀ v, o.data ≠ .cell v) : Inv X (pins ++ pinsAt fp s.heap) σ H s :=
  I.pins_of fun p hp => (List.mem_append.mp hp).elim (fun z => I.pin p (List.mem_append_right _ z)) fun z => by
    obtain ⟨hb, e⟩ := of_pinsAt z
    obtain ⟨f0, f1, f2, _⟩ := hf p.1 hb
    obtain ⟨o, e', d⟩ := ho p.1 hb
    rw [e] at e'; cases e'
    exact ⟨e, f0, f1, f2, d⟩
theorem Inv.unpinned {pins pl : List (Addr × Obj)} {σ : St} {H : Hp} {s : Shared} (I : Inv X (pins ++ pl) σ H s) : Inv X pins σ H s := I.pins_of fun p hp => I.pin p (List.mem_append_right _ (List.mem_append_left _ hp))
theorem ps_for {iter : Expr} {body : List Stmt} {wi : TI} {g : TG} {tb : TS} {pos : Pos} (hp : PassesOwn (model X.prog X.w) X.A X.env X.xe) (hc : X.calm = true) (hi : PI X tg iter wi) (hg : PG X tg g) (hb : PSs X body tb)
    (hs : ∀ x, foldedSetIterable iter X.env x = pure x := by intro _; rfl) : PS X (.For tg iter body [] pos) (tFor wi g tb) := by
  intro pins s σ H D I h
  refine wpAny_For (thn (hi pins s σ H _ I h) fun v s1 h1 => thn h1 fun itv s2 h2 => ?_) hs
  obtain ⟨it, fp, tn, J, H2, e, I2, T, st2, f2, W, ⟨m0, w0⟩, turn⟩ := h2
  subst e
  -- what stays true of the iterator's objects through the loop
  have stat : ∀ {H' : Hp}, (∀ b ∈ fp, H' b = none) → ∀ b ∈ fp, FpOk X pins H' b := fun hn b hb => ⟨hn b hb, (f2 b hb).2⟩
  refine codeAny_forLoop_any (fun n s' => ∃ i σ' H', Inv X pins σ' H' s' ∧ tn i s'.heap ∧ (∀ b ∈ fp, H' b = none) ∧ W i n σ' H') ?_ m0 ⟨0, σ, H2, I2, st2, fun b hb => (f2 b hb).1, w0⟩
  rintro n s3 ⟨i, σ3, H3, I3, st3, fr3, w3⟩
  rcases turn i n σ3 H3 w3 with ⟨stop, qn⟩ | ⟨go, N, hN, step⟩
  · refine wpAny_passesOwn hp (thn (T.done X rfl rfl rfl hc i pins s3 σ3 H3 X.xe I3 (stat fr3) st3 stop) fun r s4 ⟨hr, I4⟩ => ?_)
    subst hr
    exact wpAny_execs_nil ⟨σ3, H3, I4, qn⟩
  · refine wpAny_passesOwn hp (thn (T.item X rfl rfl rfl hc i pins s3 σ3 H3 X.xe I3 (stat fr3) st3 go) fun r s4 ⟨u, hr, h4⟩ => ?_)
    subst hr
    refine wpAny_passesOwn hp (thn h4 fun _ s5 ⟨x, H5, I5, r5, y5, st5, fr5⟩ => ?_)
    have I5' := I5.pinned (stat fr5) (T.obj _ _ st5)
    refine wpAny_passesOwn hp (thn (hg _ s5 σ3 H5 x u _ I5' r5 (step x H5 y5)) fun _ s6 ⟨σ6, H6, I6, q6⟩ => ?_)
    refine wpAny_passesOwn hp (thn (hb _ s6 σ6 H6 _ I6 q6) fun f s7 q7 => ?_)
    have again : ∀ {σ7 : St} {H7 : Hp}, Inv X (pins ++ pinsAt fp s5.heap) σ7 H7 s7 → N σ7 H7 → ∃ m, m < n ∧ ∃ i σ' H', Inv X pins σ' H' s7 ∧ tn i s7.heap ∧ (∀ b ∈ fp, H' b = none) ∧ W i m σ' H' := fun {σ7 H7} I7 n7 => by
      obtain ⟨m', hm, w7⟩ := hN σ7 H7 n7
      refine ⟨m', hm, i + 1, σ7, H7, I7.unpinned, T.keep _ _ _ st5 fun b hb o e => (I7.pin (b, o) (List.mem_append_right _ (List.mem_append_right _ (mem_pinsAt hb e)))).1, fun b hb => ?_, w7⟩
      obtain ⟨o, e, d⟩ := T.obj _ _ st5 b hb
      exact (I7.pin (b, o) (List.mem_append_right _ (List.mem_append_right _ (mem_pinsAt hb e)))).2.1
    cases f with
    | next => obtain ⟨σ7, H7, I7, n7⟩ := q7; exact again I7 n7
    | cont => obtain ⟨σ7, H7, I7, n7⟩ := q7; exact again I7 n7
    | brk => obtain ⟨σ7, H7, I7, q7⟩ := q7; exact ⟨σ7, H7, I7.unpinned, q7⟩
    | ret v => obtain ⟨x7, σ7, H7, I7, r7, q7⟩ := q7; exact ⟨x7, σ7, H7, I7.unpinned, r7, q7⟩
end



theorem for_list {K : PySem.W.Frag} {a : Addr} {xs : List V} {g : TG} {tb : TS} {D : Ends} {σ : St} {H : Hp} (Pv : Nat → St → Hp → Prop) (h0 : Pv 0 σ H) (hl : ∀ i σ H, i ≤ xs.length → Pv i σ H → SqL K H a xs)
    (hs : ∀ i x σ H, xs[i]? = some x → Pv i σ H → g x σ H fun σ2 H2 => tb { D with nx := Pv (i + 1), ct := Pv (i + 1), bk := D.nx } σ2 H2) (hd : ∀ σ H, Pv xs.length σ H → D.nx σ H) :
    ∃ W : Nat → Nat → St → Hp → Prop, (∃ m, W 0 m σ H) ∧ ∀ i m σ H, W i m σ H →
      ((Itl K a).stop i H ∧ D.nx σ H) ∨ ((Itl K a).go i H ∧ ∃ N : St → Hp → Prop, (∀ σ' H', N σ' H' → ∃ m', m' < m ∧ W (i + 1) m' σ' H') ∧ ∀ x H', (Itl K a).yld i H x H' → g x σ H' fun σ2 H2 => tb { D with nx := N, ct := N, bk := D.nx } σ2 H2) := by
  refine ⟨fun i m σ H => m = xs.length - i ∧ i ≤ xs.length ∧ Pv i σ H, ⟨xs.length, by simp, Nat.zero_le _, h0⟩, ?_⟩
  rintro i m σ H ⟨rfl, hi, p⟩
  have q := hl i σ H hi p
  by_cases hlt : i < xs.length
  · refine .inr ⟨⟨xs, xs[i], q, by simp [hlt]⟩, Pv (i + 1), fun σ' H' p' => ⟨xs.length - (i + 1), by omega, rfl, hlt, p'⟩, fun x H' y => ?_⟩
    obtain ⟨e, y⟩ := y
    subst e
    exact hs i x σ _ (y xs q) p
  · have e : i = xs.length := by omega
    subst e
    exact .inl ⟨⟨xs, q, Nat.le_refl _⟩, hd σ H p⟩
theorem for_tup {K : PySem.W.Frag} {a : Addr} {xs : List V} {g : TG} {tb : TS} {D : Ends} {σ : St} {H : Hp} (Pv : Nat → St → Hp → Prop) (h0 : Pv 0 σ H) (hl : ∀ i σ H, i ≤ xs.length → Pv i σ H → SqT K H a xs)
    (hs : ∀ i x σ H, xs[i]? = some x → Pv i σ H → g x σ H fun σ2 H2 => tb { D with nx := Pv (i + 1), ct := Pv (i + 1), bk := D.nx } σ2 H2) (hd : ∀ σ H, Pv xs.length σ H → D.nx σ H) :
    ∃ W : Nat → Nat → St → Hp → Prop, (∃ m, W 0 m σ H) ∧ ∀ i m σ H, W i m σ H →
      ((Itt K a).stop i H ∧ D.nx σ H) ∨ ((Itt K a).go i H ∧ ∃ N : St → Hp → Prop, (∀ σ' H', N σ' H' → ∃ m', m' < m ∧ W (i + 1) m' σ' H') ∧ ∀ x H', (Itt K a).yld i H x H' → g x σ H' fun σ2 H2 => tb { D with nx := N, ct := N, bk := D.nx } σ2 H2) := by
  refine ⟨fun i m σ H => m = xs.length - i ∧ i ≤ xs.length ∧ Pv i σ H, ⟨xs.length, by simp, Nat.zero_le _, h0⟩, ?_⟩
  rintro i m σ H ⟨rfl, hi, p⟩
  have q := hl i σ H hi p
  by_cases hlt : i < xs.length
  · refine .inr ⟨⟨xs, xs[i], q, by simp [hlt]⟩, Pv (i + 1), fun σ' H' p' => ⟨xs.length - (i + 1), by omega, rfl, hlt, p'⟩, fun x H' y => ?_⟩
    obtain ⟨e, y⟩ := y
    subst e
    exact hs i x σ _ (y xs q) p
  · have e : i = xs.length := by omega
    subst e
    exact .inl ⟨⟨xs, q, Nat.le_refl _⟩, hd σ H p⟩
theorem for_range {lo : Int} {n : Nat} {g : TG} {tb : TS} {D : Ends} {σ : St} {H : Hp} (Pv : Nat → St → Hp → Prop) (h0 : Pv 0 σ H)
    (hs : ∀ i σ H, i < n → Pv i σ H → g (.int (lo + i)) σ H fun σ2 H2 => tb { D with nx := Pv (i + 1), ct := Pv (i + 1), bk := D.nx } σ2 H2) (hd : ∀ σ H, Pv n σ H → D.nx σ H) :
    ∃ W : Nat → Nat → St → Hp → Prop, (∃ m, W 0 m σ H) ∧ ∀ i m σ H, W i m σ H →
      ((Itr lo n).stop i H ∧ D.nx σ H) ∨ ((Itr lo n).go i H ∧ ∃ N : St → Hp → Prop, (∀ σ' H', N σ' H' → ∃ m', m' < m ∧ W (i + 1) m' σ' H') ∧ ∀ x H', (Itr lo n).yld i H x H' → g x σ H' fun σ2 H2 => tb { D with nx := N, ct := N, bk := D.nx } σ2 H2) := by
  refine ⟨fun i m σ H => m = n - i ∧ i ≤ n ∧ Pv i σ H, ⟨n, by simp, Nat.zero_le _, h0⟩, ?_⟩
  rintro i m σ H ⟨rfl, hi, p⟩
  by_cases hlt : i < n
  · refine .inr ⟨hlt, Pv (i + 1), fun σ' H' p' => ⟨n - (i + 1), by omega, rfl, hlt, p'⟩, fun x H' y => ?_⟩
    obtain ⟨e, y⟩ := y
    subst e y
    exact hs i σ _ hlt p
  · have e : i = n := by omega
    subst e
    exact .inl ⟨Nat.le_refl _, hd σ H p⟩

end L2

namespace L2
open PySem PySem.Spec PyProof.Rows

abbrev R2 := V → V → Hp → VK → Prop

def OpR (X : Cx) (f : Value → Value → Sem Value) (r : R2) : Prop :=
  ∀ (pins : List (Addr × Obj)) (s : Shared) (σ : St) (H : Hp) (x y : V) (v u : Value) (Q : VK), Inv X pins σ H s → RelV x v → RelV y u → r x y H Q →
    wpAny (model X.prog X.w) X.A (f v u) (EP X pins σ Q) X.xe s

def UnR (X : Cx) (f : Value → Sem Value) (r : V → Hp → VK → Prop) : Prop :=
  ∀ (pins : List (Addr × Obj)) (s : Shared) (σ : St) (H : Hp) (x : V) (v : Value) (Q : VK), Inv X pins σ H s → RelV x v → r x H Q →
    wpAny (model X.prog X.w) X.A (f v) (EP X pins σ Q) X.xe s

def CallR (X : Cx) (f : Value) (r : List V → Hp → VK → Prop) : Prop :=
  ∀ (pins : List (Addr × Obj)) (s : Shared) (σ : St) (H : Hp) (xs : List V) (us : List Value) (Q : VK), Inv X pins σ H s → Vals xs us → r xs H Q →
    wpAny (model X.prog X.w) X.A (call f us) (EP X pins σ Q) X.xe s

def tOp (r : R2) (ta tb : TE) : TE := fun σ H Q => ta σ H fun x H1 => tb σ H1 fun y H2 => r x y H2 Q
def tUn (r : V → Hp → VK → Prop) (ta : TE) : TE := fun σ H Q => ta σ H fun x H1 => r x H1 Q

def rI (C : Int → Int → Prop) (g : Int → Int → V) : R2 := fun x y H Q => ∃ i j, x = .int i ∧ y = .int j ∧ C i j ∧ Q (g i j) H
def rI0 (g : Int → Int → V) : R2 := fun x y H Q => ∃ i j, x = .int i ∧ y = .int j ∧ Q (g i j) H
def rU (g : Int → V) : V → Hp → VK → Prop := fun x H Q => ∃ i, x = .int i ∧ Q (g i) H

section
variable {X : Cx} {a b c : Expr} {ta tb tc : TE} {pos : Pos}

theorem binT (ha : PE X a ta) (hb : PE X b tb) {pins : List (Addr × Obj)} {s : Shared} {σ : St} {H : Hp} {R : V → V → Hp → Prop} (I : Inv X pins σ H s)
    (h : ta σ H fun x H1 => tb σ H1 fun y H2 => R x y H2) {Q : Value → Shared → Prop} {f : Value → Value → Sem Value}
    (hf : ∀ v u s2 x y H2, Inv X pins σ H2 s2 → RelV x v → RelV y u → R x y H2 → wpAny (model X.prog X.w) X.A (f v u) Q X.xe s2) :
    wpAny (model X.prog X.w) X.A (eval a X.env) (fun v s₁ => wpAny (model X.prog X.w) X.A (eval b X.env) (fun u s₂ => wpAny (model X.prog X.w) X.A (f v u) Q X.xe s₂) X.xe s₁) X.xe s := by
  refine thn (ha pins s σ H _ I h) fun v s1 ⟨x, H1, I1, r1, q1⟩ => ?_
  refine thn (hb pins s1 σ H1 _ I1 q1) fun u s2 ⟨y, H2, I2, r2, q2⟩ => ?_
  exact hf v u s2 x y H2 I2 r1 r2 q2

theorem pe_op {op : Operator} {r : R2} (ho : OpR X (binaryOp op) r) (ha : PE X a ta) (hb : PE X b tb) : PE X (.BinOp a op b pos) (tOp r ta tb) := by
  intro pins s σ H Q I h
  exact wpAny_BinOp (binT ha hb I h fun v u s2 x y H2 I2 rx ry q => ho pins s2 σ H2 x y v u Q I2 rx ry q)
theorem pe_un {op : UnaryOp} {r : V → Hp → VK → Prop} (ho : UnR X (unaryOp op) r) (ha : PE X a ta) : PE X (.UnaryOp op a pos) (tUn r ta) := by
  intro pins s σ H Q I h
  exact UnaryOp_ (thn (ha pins s σ H _ I h) fun v s1 ⟨x, H1, I1, r1, q1⟩ => ho pins s1 σ H1 x v Q I1 r1 q1)

theorem opI {f : Value → Value → Sem Value} {C : Int → Int → Prop} {g : Int → Int → Int}
    (rule : ∀ (i j : Int) (t u : Tok) (s : Shared) (Q : Value → Shared → Prop) (E : Value → Shared → Prop), C i j → Q (.int (g i j) s.toks) { s with toks := s.toks + 1 } → wpAny (model X.prog X.w) X.A (f (.int i t) (.int j u)) Q E s) :
    OpR X f (rI C fun i j => .int (g i j)) := by
  intro pins s σ H x y v u Q I rx ry h
  obtain ⟨i, j, rfl, rfl, hc, q⟩ := h
  obtain ⟨t, rfl⟩ := rx
  obtain ⟨t', rfl⟩ := ry
  exact rule i j t t' s _ _ hc ⟨.int (g i j), H, I.tok _, ⟨_, rfl⟩, q⟩
theorem opI0 {f : Value → Value → Sem Value} {g : Int → Int → Int}
    (rule : ∀ (i j : Int) (t u : Tok) (s : Shared) (Q : Value → Shared → Prop) (E : Value → Shared → Prop), Q (.int (g i j) s.toks) { s with toks := s.toks + 1 } → wpAny (model X.prog X.w) X.A (f (.int i t) (.int j u)) Q E s) :
    OpR X f (rI0 fun i j => .int (g i j)) := by
  intro pins s σ H x y v u Q I rx ry h
  obtain ⟨i, j, rfl, rfl, q⟩ := h
  obtain ⟨t, rfl⟩ := rx
  obtain ⟨t', rfl⟩ := ry
  exact rule i j t t' s _ _ ⟨.int (g i j), H, I.tok _, ⟨_, rfl⟩, q⟩
theorem opB0 {f : Value → Value → Sem Value} {g : Int → Int → Bool}
    (rule : ∀ (i j : Int) (t u : Tok) (s : Shared) (Q : Value → Shared → Prop) (E : Value → Shared → Prop), Q (.bool (g i j)) s → wpAny (model X.prog X.w) X.A (f (.int i t) (.int j u)) Q E s) :
    OpR X f (rI0 fun i j => .bl (g i j)) := by
  intro pins s σ H x y v u Q I rx ry h
  obtain ⟨i, j, rfl, rfl, q⟩ := h
  obtain ⟨t, rfl⟩ := rx
  obtain ⟨t', rfl⟩ := ry
  exact rule i j t t' s _ _ ⟨.bl (g i j), H, I, rfl, q⟩

def CDiv (i j : Int) : Prop := 0 < j ∧ j < 1073741824
def CMul (i j : Int) : Prop := (-(2 ^ 64) < i ∧ i < 2 ^ 64) ∨ (-(2 ^ 64) < j ∧ j < 2 ^ 64)
theorem CMul.ok {i j : Int} (h : CMul i j) : IntMulOk i j := by
  rcases h with ⟨h1, h2⟩ | ⟨h1, h2⟩
  · exact .of_left (intBits_le_64 h1 h2)
  · exact .of_right (intBits_le_64 h1 h2)
theorem two_pow_nn (k : Nat) : (0 : Int) ≤ 2 ^ k := by
  rw [two_pow_cast]
  exact Int.natCast_nonneg _

theorem op_add : OpR X (binaryOp .Add) (rI0 fun i j => .int (i + j)) := opI0 fun _ _ _ _ _ _ _ q => add_int q
theorem op_sub : OpR X (binaryOp .Sub) (rI0 fun i j => .int (i - j)) := opI0 fun _ _ _ _ _ _ _ q => sub_int q
theorem op_mul : OpR X (binaryOp .Mult) (rI CMul fun i j => .int (i * j)) := opI fun _ _ _ _ _ _ _ hc q => mul_int q hc.ok

theorem op_fdiv : OpR X (binaryOp .FloorDiv) (rI CDiv fun i j => .int (i / j)) := opI fun i j _ _ _ _ _ hc q => by
  have h1 : (0 : Int) < j := hc.1
  have h2 : j < 1073741824 := hc.2
  exact floordiv_int (by omega) (by rw [Int.fdiv_eq_ediv_of_nonneg i (by omega)]; exact q) (.inl (PyProof.noPylong_small (by omega)))
theorem op_mod : OpR X (binaryOp .Mod) (rI (fun _ j => 0 < j) fun i j => .int (i % j)) := opI fun i j _ _ _ _ _ hc q => by
  have h1 : (0 : Int) < j := hc
  exact mod_int' (by omega) (by rw [Int.fmod_eq_emod_of_nonneg i (by omega)]; exact q)
theorem op_shr : OpR X (binaryOp .RShift) (rI (fun _ j => 0 ≤ j) fun i j => .int (i / 2 ^ j.toNat)) := opI fun i j _ _ _ _ _ hc q =>
  rshift_int hc (by rw [Int.fdiv_eq_ediv_of_nonneg i (two_pow_nn _)]; exact q)
theorem op_and : OpR X (binaryOp .BitAnd) (rI0 fun i j => .int (Builtin.bitAnd i j)) := opI0 fun _ _ _ _ _ _ _ q => and_int q
theorem unI {f : Value → Sem Value} {g : Int → Int}
    (rule : ∀ (i : Int) (t : Tok) (s : Shared) (Q : Value → Shared → Prop) (E : Value → Shared → Prop), Q (.int (g i) s.toks) { s with toks := s.toks + 1 } → wpAny (model X.prog X.w) X.A (f (.int i t)) Q E s) :
    UnR X f (rU fun i => .int (g i)) := by
  intro pins s σ H x v Q I rx h
  obtain ⟨i, rfl, q⟩ := h
  obtain ⟨t, rfl⟩ := rx
  exact rule i t s _ _ ⟨.int (g i), H, I.tok _, ⟨_, rfl⟩, q⟩
theorem un_neg : UnR X (unaryOp .USub) (rU fun i => .int (-i)) := unI fun _ _ _ _ _ q => neg_int q
end



def scal : V → V → Bool
  | .non, .non => true | .non, .int _ => true | .int _, .non => true | .non, .bl _ => true | .bl _, .non => true | .non, .str _ => true | .str _, .non => true
  | .int _, .int _ => true | .bl _, .bl _ => true | .str _, .str _ => true | .byt _, .byt _ => true
  | .int _, .str _ => true | .str _, .int _ => true | .bl _, .str _ => true | .str _, .bl _ => true
  | _, _ => false
def rEq : R2 := fun x y H Q => scal x y = true ∧ Q (.bl (decide (x = y))) H
def rNe : R2 := fun x y H Q => scal x y = true ∧ Q (.bl (!decide (x = y))) H

theorem dec_int {i j : Int} : decide (V.int i = V.int j) = (i == j) := by
  rw [Bool.eq_iff_iff]
  simp
theorem dec_bl {i j : Bool} : decide (V.bl i = V.bl j) = (i == j) := by
  rw [Bool.eq_iff_iff]
  simp
theorem dec_str {i j : Str} : decide (V.str i = V.str j) = (i == j) := by
  rw [Bool.eq_iff_iff]
  simp
theorem dec_byt {i j : Array UInt8} : decide (V.byt i = V.byt j) = (i.toList == j.toList) := by
  rw [Bool.eq_iff_iff]
  cases i
  cases j
  simp

section
variable {X : Cx} {a b c : Expr} {ta tb tc : TE} {pos : Pos}
theorem fin_bl {pins : List (Addr × Obj)} {σ : St} {H : Hp} {s : Shared} {Q : VK} {k k' : Bool} (I : Inv X pins σ H s) (q : Q (.bl k) H) (e : k = k') : EP X pins σ Q (.bool k') s := by
  subst e
  exact ⟨.bl k, H, I, rfl, q⟩
theorem op_eq : OpR X (compareOp .Eq) rEq := by
  intro pins s σ H x y v u Q I rx ry h
  obtain ⟨hs, q⟩ := h
  cases x with
  | non =>
    cases rx
    cases y with
    | non => cases ry; exact PySem.EqNone.eq_none_none (fin_bl I q (by simp))
    | bl j => cases ry; exact PySem.EqNone.eq_none_bool (fin_bl I q (by simp))
    | int j => obtain ⟨t', rfl⟩ := ry; exact PySem.EqNone.eq_none_int (fin_bl I q (by simp))
    | str j => obtain ⟨t', rfl⟩ := ry; exact PySem.EqNone.eq_none_str (fin_bl I q (by simp))
    | _ => exact absurd (show false = true from hs) Bool.false_ne_true
  | bl i =>
    cases rx
    cases y with
    | non => cases ry; exact PySem.EqNone.eq_bool_none (fin_bl I q (by simp))
    | bl j => cases ry; exact eq_bool (fin_bl I q dec_bl)
    | str j => obtain ⟨t', rfl⟩ := ry; exact PySem.EqMixed.eq_bool_str (fin_bl I q (by simp))
    | _ => exact absurd (show false = true from hs) Bool.false_ne_true
  | int i =>
    obtain ⟨t, rfl⟩ := rx
    cases y with
    | non => cases ry; exact PySem.EqNone.eq_int_none (fin_bl I q (by simp))
    | int j => obtain ⟨t', rfl⟩ := ry; exact eq_int (fin_bl I q dec_int)
    | str j => obtain ⟨t', rfl⟩ := ry; exact PySem.EqMixed.eq_int_str (fin_bl I q (by simp))
    | _ => exact absurd (show false = true from hs) Bool.false_ne_true
  | str i =>
    obtain ⟨t, rfl⟩ := rx
    cases y with
    | non => cases ry; exact PySem.EqNone.eq_str_none (fin_bl I q (by simp))
    | bl j => cases ry; exact PySem.EqMixed.eq_str_bool (fin_bl I q (by simp))
    | int j => obtain ⟨t', rfl⟩ := ry; exact PySem.EqMixed.eq_str_int (fin_bl I q (by simp))
    | str j => obtain ⟨t', rfl⟩ := ry; exact eq_str (fin_bl I q dec_str)
    | _ => exact absurd (show false = true from hs) Bool.false_ne_true
  | byt i =>
    obtain ⟨t, rfl⟩ := rx
    cases y with
    | byt j => obtain ⟨t', rfl⟩ := ry; exact PySem.W.eq_bytes (fin_bl I q dec_byt)
    | _ => exact absurd (show false = true from hs) Bool.false_ne_true
  | _ => cases y <;> exact absurd (show false = true from hs) Bool.false_ne_true
theorem op_ne : OpR X (compareOp .NotEq) rNe := by
  intro pins s σ H x y v u Q I rx ry h
  obtain ⟨hs, q⟩ := h
  cases x with
  | non =>
    cases rx
    cases y with
    | non => cases ry; exact PySem.EqNone.ne_none_none (fin_bl I q (by simp))
    | bl j => cases ry; exact PySem.EqNone.ne_none_bool (fin_bl I q (by simp))
    | int j => obtain ⟨t', rfl⟩ := ry; exact PySem.EqNone.ne_none_int (fin_bl I q (by simp))
    | str j => obtain ⟨t', rfl⟩ := ry; exact PySem.EqNone.ne_none_str (fin_bl I q (by simp))
    | _ => exact absurd (show false = true from hs) Bool.false_ne_true
  | bl i =>
    cases rx
    cases y with
    | non => cases ry; exact PySem.EqNone.ne_bool_none (fin_bl I q (by simp))
    | bl j => cases ry; exact ne_bool (fin_bl I q (congrArg not dec_bl))
    | str j => obtain ⟨t', rfl⟩ := ry; exact PySem.EqMixed.ne_bool_str (fin_bl I q (by simp))
    | _ => exact absurd (show false = true from hs) Bool.false_ne_true
  | int i =>
    obtain ⟨t, rfl⟩ := rx
    cases y with
    | non => cases ry; exact PySem.EqNone.ne_int_none (fin_bl I q (by simp))
    | int j => obtain ⟨t', rfl⟩ := ry; exact ne_int (fin_bl I q (congrArg not dec_int))
    | str j => obtain ⟨t', rfl⟩ := ry; exact PySem.EqMixed.ne_int_str (fin_bl I q (by simp))
    | _ => exact absurd (show false = true from hs) Bool.false_ne_true
  | str i =>
    obtain ⟨t, rfl⟩ := rx
    cases y with
    | non => cases ry; exact PySem.EqNone.ne_str_none (fin_bl I q (by simp))
    | bl j => cases ry; exact PySem.EqMixed.ne_str_bool (fin_bl I q (by simp))
    | int j => obtain ⟨t', rfl⟩ := ry; exact PySem.EqMixed.ne_str_int (fin_bl I q (by simp))
    | str j => obtain ⟨t', rfl⟩ := ry; exact ne_str (fin_bl I q (congrArg not dec_str))
    | _ => exact absurd (show false = true from hs) Bool.false_ne_true
  | byt i =>
    obtain ⟨t, rfl⟩ := rx
    cases y with
    | byt j => obtain ⟨t', rfl⟩ := ry; exact PySem.W.ne_bytes (fin_bl I q (congrArg not dec_byt))
    | _ => exact absurd (show false = true from hs) Bool.false_ne_true
  | _ => cases y <;> exact absurd (show false = true from hs) Bool.false_ne_true

theorem op_lt : OpR X (compareOp .Lt) (rI0 fun i j => .bl (decide (i < j))) := opB0 fun _ _ _ _ _ _ _ q => lt_int q
theorem op_le : OpR X (compareOp .LtE) (rI0 fun i j => .bl (decide (i ≤ j))) := opB0 fun _ _ _ _ _ _ _ q => le_int q
theorem op_gt : OpR X (compareOp .Gt) (rI0 fun i j => .bl (decide (j < i))) := opB0 fun _ _ _ _ _ _ _ q => gt_int q
theorem op_in_str : OpR X (compareOp .In) (fun x y H Q => ∃ i j, x = .str i ∧ y = .str j ∧ Q (.bl (!(Builtin.Str.occurrences j i 0 j.length 1).isEmpty)) H) := by
  intro pins s σ H x y v u Q I rx ry h
  obtain ⟨i, j, rfl, rfl, q⟩ := h
  obtain ⟨t, rfl⟩ := rx
  obtain ⟨t', rfl⟩ := ry
  exact in_str (fin_bl I q rfl)


theorem nomark (b : Expr) {op : CmpOp} (h : op ≠ .In := by decide) (h2 : op ≠ .NotIn := by decide) : behindInMarks op b = false := by
  have e1 : (op == CmpOp.In) = false := by cases op <;> first | rfl | exact absurd rfl h
  have e2 : (op == CmpOp.NotIn) = false := by cases op <;> first | rfl | exact absurd rfl h2
  cases b <;> simp [behindInMarks, e1, e2]

theorem pe_cmpR {op : CmpOp} {r : R2} (ho : OpR X (compareOp op) r) (ha : PE X a ta) (hb : PE X b tb) (hm : behindInMarks op b = false) : PE X (.Compare a [op] [b] pos) (tOp r ta tb) := by
  intro pins s σ H Q I h
  exact wpAny_Compare1 (binT ha hb I h fun v u s2 x y H2 I2 rx ry q => ho pins s2 σ H2 x y v u Q I2 rx ry q) hm

def tTest (t : TE) : TT := fun σ H Q => t σ H fun x H' => ∃ k, x = .bl k ∧ Q k H'
theorem pt_cmpR {op : CmpOp} {r : R2} (ho : OpR X (compareOp op) r) (ha : PE X a ta) (hb : PE X b tb) (hm : behindInMarks op b = false) : PT X (.Compare a [op] [b] pos) (tTest (tOp r ta tb)) := by
  intro pins s σ H Q I h
  refine wpAny_isTrue_Compare1 (thn (ha pins s σ H _ I h) fun v s1 ⟨x, H1, I1, r1, q1⟩ => thn (hb pins s1 σ H1 _ I1 q1) fun u s2 ⟨y, H2, I2, r2, q2⟩ =>
    thn (ho pins s2 σ H2 x y v u _ I2 r1 r2 q2) fun c s3 ⟨z, H3, I3, r3, k, e, q3⟩ => ?_) hm
  subst e
  cases r3
  exact wpAny_truthy_bool ⟨H3, I3, q3⟩

def tChain (r r' : R2) (ta tb tc : TE) : TE := fun σ H Q => ta σ H fun x H1 => tb σ H1 fun y H2 => r x y H2 fun z H3 => ∃ k, z = .bl k ∧
  (if k = true then tc σ H3 fun w' H4 => r' y w' H4 Q else Q (.bl false) H3)
theorem pt_chain {op op' : CmpOp} {r r' : R2} (ho : OpR X (compareOp op) r) (ho' : OpR X (compareOp op') r') (ha : PE X a ta) (hb : PE X b tb) (hc : PE X c tc)
    (hm : lastMarks [op, op'] [b, c] = false := by with_unfolding_all rfl) : PT X (.Compare a [op, op'] [b, c] pos) (tTest (tChain r r' ta tb tc)) := by
  intro pins s σ H Q I h
  refine isTrue_chain (thn (ha pins s σ H _ I h) fun v s1 ⟨x, H1, I1, r1, q1⟩ => test_link (thn (hb pins s1 σ H1 _ I1 q1) fun u s2 ⟨y, H2, I2, r2, q2⟩ =>
    thn (ho pins s2 σ H2 x y v u _ I2 r1 r2 q2) fun d s3 ⟨z, H3, I3, r3, k, e, q3⟩ => ?_)) hm
  subst e
  cases r3
  refine wpAny_truthy_bool ?_
  cases k with
  | false =>
    obtain ⟨k', e', q'⟩ := q3
    cases e'
    exact ite_ff ⟨H3, I3, q'⟩
  | true =>
    refine ite_tt (test_last (thn (hc pins s3 σ H3 _ I3 q3) fun w' s4 ⟨z', H4, I4, r4, q4⟩ => thn (ho' pins s4 σ H4 y z' u w' _ I4 r2 r4 q4) fun d' s5 ⟨z2, H5, I5, r5, k2, e2, q5⟩ => ?_))
    subst e2
    cases r5
    exact wpAny_truthy_bool ⟨H5, I5, q5⟩



theorem line63 : (sizeLine : Nat) < 2 ^ 63 := by rw [sizeLine_eq]; decide
theorem op_add_str : OpR X (binaryOp .Add) (fun x y H Q => ∃ i j, x = .str i ∧ y = .str j ∧ i.length + j.length ≤ sizeLine ∧ Q (.str (i ++ j)) H) := by
  intro pins s σ H x y v u Q I rx ry h
  obtain ⟨i, j, rfl, rfl, hz, q⟩ := h
  obtain ⟨t, rfl⟩ := rx
  obtain ⟨t', rfl⟩ := ry
  exact add_str (fun t' tk => ⟨.str (i ++ j), H, I.tok _, ⟨_, rfl⟩, q⟩) hz
theorem vals1 {x : V} {us : List Value} (r : Vals [x] us) : ∃ u, us = [u] ∧ RelV x u := by
  cases r with
  | cons r1 r2 => cases r2; exact ⟨_, rfl, r1⟩
theorem vals2 {x y : V} {us : List Value} (r : Vals [x, y] us) : ∃ u w', us = [u, w'] ∧ RelV x u ∧ RelV y w' := by
  cases r with
  | cons r1 r2 =>
    cases r2 with
    | cons r3 r4 => cases r4; exact ⟨_, _, rfl, r1, r3⟩
theorem call_max2 (hc : X.calm = true) : CallR X (.builtin "max") (fun xs H Q => ∃ i j, xs = [.int i, .int j] ∧ Q (.int (if j > i then j else i)) H) := by
  intro pins s σ H xs us Q I r h
  obtain ⟨i, j, rfl, q⟩ := h
  obtain ⟨u, w', rfl, ⟨t, rfl⟩, ⟨t', rfl⟩⟩ := vals2 r
  refine max_two_ints (I.ok.hd hc) fun h' tk k => ⟨_, H, I.kept k, ?_, q⟩
  by_cases hj : j > i
  · rw [if_pos hj, if_pos hj]; exact ⟨_, rfl⟩
  · rw [if_neg hj, if_neg hj]; exact ⟨_, rfl⟩
theorem call_min2 (hc : X.calm = true) : CallR X (.builtin "min") (fun xs H Q => ∃ i j, xs = [.int i, .int j] ∧ Q (.int (if j < i then j else i)) H) := by
  intro pins s σ H xs us Q I r h
  obtain ⟨i, j, rfl, q⟩ := h
  obtain ⟨u, w', rfl, ⟨t, rfl⟩, ⟨t', rfl⟩⟩ := vals2 r
  refine min_two_ints (I.ok.hd hc) fun h' tk k => ⟨_, H, I.kept k, ?_, q⟩
  by_cases hj : j < i
  · rw [if_pos hj, if_pos hj]; exact ⟨_, rfl⟩
  · rw [if_neg hj, if_neg hj]; exact ⟨_, rfl⟩
end
end L2

namespace L2
open PySem PySem.Spec PyProof.Rows


structure ObjM (h : Heap) (x dx C : Addr) (mA : Str → Option Value) : Prop where
  obj : h.get? x = some (PySem.W.instObj C dx)
  ns : h.Ns1 dx mA
  ne : dx ≠ x

theorem lookIn_ns {h : Heap} {dx : Addr} {mA : Str → Option Value} (n : h.Ns1 dx mA) : ∃ od, h.get? dx = some od ∧ ∀ name, PySem.W.lookIn name od = some (mA name) := by
  obtain ⟨o, es, ep, ho, hd, hk, _, hm⟩ := n
  refine ⟨o, ho, fun name => ?_⟩
  have e := hm name
  unfold nsFind findBy at e
  rw [← Array.find?_toList] at e
  unfold PySem.W.lookIn
  rw [hd]
  dsimp only
  split
  · rename_i y q
    rw [q] at e
    exact congrArg some e
  · rename_i q
    rw [q] at e
    have a : es.toList.any (·.refKey) = false := by
      rw [List.any_eq_false]
      intro y hy
      obtain ⟨z, t, hkey⟩ := hk y (Array.mem_toList_iff.mp hy)
      simp [DictEntry.refKey, hkey]
    have a' : ¬ es.toList.any (·.refKey) = true := by rw [a]; exact Bool.false_ne_true
    rw [if_neg a']
    exact congrArg some e

theorem ObjM.look {h : Heap} {x dx C : Addr} {mA : Str → Option Value} (I : ObjM h x dx C mA) : ∃ od, PySem.W.InstAt h x (PySem.W.instObj C dx) C (some od) ∧ ∀ name, PySem.W.lookIn name od = some (mA name) :=
  let ⟨od, ho, hl⟩ := lookIn_ns I.ns
  ⟨od, ⟨I.obj, rfl, rfl, ho⟩, hl⟩

section
variable {prog : Program} {w : World} {A : Around} {E : Value → Shared → Prop} {s : Shared} {K : PySem.W.Frag} {x dx C f : Addr} {mA : Str → Option Value} {name : Str} {v : Value}

theorem get_meth {pl : Sem Bool} {Q : Value × List Value → Shared → Prop} (X : K.In s.heap) (I : ObjM s.heap x dx C mA) (hg : PySem.W.plainGet K C name = true)
    (hf : PySem.W.findIn K (.ref C) name = some (some (.ref f))) (ht : PySem.W.isFn K (.ref f) = true) (hv : mA name = none) (h : Q (.ref f, [.ref x]) s) :
    wpAny (model prog w) A (getMethod (.ref x) name pl) Q E s := by
  obtain ⟨od, J, hl⟩ := I.look
  exact PySem.W.method_fn X J (PySem.W.plainGet_of hg).1 (PySem.W.plainGet_of hg).2 hf (beq_iff_eq.mp ht) (by show (PySem.W.lookIn name od).map (·.isSome) = some false; rw [hl, hv]; rfl) h

theorem make_map0 {R : Result → Shared → Prop} (X : K.In s.heap) (hm : PySem.W.makesIn K C = true)
    (hi : PySem.W.findIn K (.ref C) "__init__" = some (some (.builtin "object.__init__")))
    (hb : ∀ self, PySem.W.Looks (model prog w) s.heap (bindSpecial (.builtin "object.__init__") self) (.builtin "object.__init__", [self]))
    (h : codeAny (model prog w) (A.under (.builtin "type.__call__" ⟨[.ref C], []⟩)) (.call (.builtin "object.__init__") ⟨[.ref (s.heap.objs.size + 1)], []⟩) (PySem.W.InitBack (s.heap.objs.size + 1) R)
      { s with heap := (s.heap.push PySem.W.emptyDict).push (PySem.W.instObj C s.heap.objs.size) }) :
    codeAny (model prog w) A (.call (.ref C) ⟨[], []⟩) R s := by
  obtain ⟨hh, g, d, t, os⟩ := s
  exact PySem.W.make_core (PySem.W.makes_of X hm) (PySem.W.looks_findIn X hi) hb (.inr ⟨rfl, rfl⟩) h
end


theorem RelO.some_of {v : V} {o : Option Value} (r : RelO (some v) o) : ∃ u, o = some u ∧ RelV v u := by
  cases o with
  | none => exact (show False from r).elim
  | some u => exact ⟨u, rfl, r⟩
theorem RelO.none_of {o : Option Value} (r : RelO none o) : o = none := by
  cases o with
  | none => rfl
  | some u => exact (show False from r).elim
theorem handed_of {v : V} {u : Value} (r : RelV v u) : PySem.W.handedIn u = true := by
  cases v with
  | non => cases (show u = Value.none from r); rfl
  | bl b => cases (show u = Value.bool b from r); rfl
  | int i => obtain ⟨t, e⟩ := (show ∃ t, u = Value.int i t from r); cases e; rfl
  | str x => obtain ⟨t, e⟩ := (show ∃ t, u = Value.str x t from r); cases e; rfl
  | byt b => obtain ⟨t, e⟩ := (show ∃ t, u = Value.bytes b t from r); cases e; rfl
  | flt b => obtain ⟨t, e⟩ := (show ∃ t, u = Value.float b t from r); cases e; rfl
  | ref a => cases (show u = Value.ref a from r); rfl
  | ty n => cases (show u = Value.type n from r); rfl

section
variable {P : Program} {w : World} {H H' : Hp} {h h' : Heap} {a C dx : Addr} {fs fs' : List (Str × V)}
theorem ins_get (hok : HOk P w H h) (e : H a = some (.ins C dx fs)) : ∃ mA, ObjM h a dx C mA ∧ (∀ f, RelO (fs.lookup f) (mA f)) ∧ PySem.Within mA (fs.map (·.1)) ∧ fs.length ≤ 1000 ∧ H dx = some (.own a) := by
  obtain ⟨d, z, ne, ob, mA, n, r, q⟩ := (show ObjOk P w H h a (.ins C dx fs) from hok a _ e)
  exact ⟨mA, ⟨ob, n, ne⟩, r, q, z, d⟩
end


structure Cls (K : PySem.W.Frag) (C : Addr) : Prop where
  pg : PySem.W.plainGet K C Str.empty = true
  hd : PySem.W.hasDictIn K C = true
  po : PySem.W.plainOver K C = true
  sa : PySem.W.findIn K (.ref C) "__setattr__" = some (some (.builtin "object.__setattr__"))
theorem Cls.get {K : PySem.W.Frag} {C : Addr} (c : Cls K C) (f : Str) : PySem.W.plainGet K C f = true := c.pg

structure Con (K : PySem.W.Frag) (C : Addr) (f : Str) (v : V) (u : Value) : Prop where
  at_ : PySem.W.findIn K (.ref C) f = some (some u)
  rel : RelV v u
  get : PySem.W.specialIn K u "__get__" = some none
  cp : PySem.W.copiedNames.contains f = false

structure Meth (K : PySem.W.Frag) (C : Addr) (m : Str) (f : Addr) : Prop where
  at_ : PySem.W.findIn K (.ref C) m = some (some (.ref f))
  fn : PySem.W.isFn K (.ref f) = true
  kp : PySem.W.keepIn K (.ref f) = true

section
variable {X : Cx} {pins : List (Addr × Obj)} {σ : St} {H : Hp} {s : Shared} {a C dx : Addr} {fs : List (Str × V)} {f : Str} {v : V} {A : Around} {E : Value → Shared → Prop}

theorem getmeth_ok {m : Str} {g : Addr} {pl : Sem Bool} {Q : Value × List Value → Shared → Prop} (I : Inv X pins σ H s) (e : H a = some (.ins C dx fs)) (c : Cls X.K C) (k : Meth X.K C m g) (l : fs.lookup m = none)
    (h : Q (.ref g, [.ref a]) s) : wpAny (model X.prog X.w) A (getMethod (.ref a) m pl) Q E s := by
  obtain ⟨mA, O, r, _, _, _⟩ := ins_get I.hok e
  have hn : mA m = none := RelO.none_of (by rw [← l]; exact r m)
  exact get_meth I.kIn O (c.get m) k.at_ k.fn hn h

theorem Inv.made (I : Inv X pins σ H s) : Inv X pins σ (upd (upd H s.heap.objs.size (.own (s.heap.objs.size + 1))) (s.heap.objs.size + 1) (.ins C s.heap.objs.size []))
    { s with heap := (s.heap.push PySem.W.emptyDict).push (PySem.W.instObj C s.heap.objs.size) } := by
  have e1 : (s.heap.push PySem.W.emptyDict).get? s.heap.objs.size = some PySem.W.emptyDict := Heap.get?_push_size s.heap rfl
  have e2 : ((s.heap.push PySem.W.emptyDict).push (PySem.W.instObj C s.heap.objs.size)).get? (s.heap.objs.size + 1) = some (PySem.W.instObj C s.heap.objs.size) := by
    have := Heap.get?_push_size (s.heap.push PySem.W.emptyDict) (o := PySem.W.instObj C s.heap.objs.size) rfl
    rwa [Heap.size_push] at this
  have e3 : (s.heap.push PySem.W.emptyDict).Ns s.heap.objs.size (fun _ => none) := ⟨PySem.W.emptyDict, #[], _, e1, rfl, (fun e he => absurd he (by simp)), fun _ => rfl⟩
  have I1 := I.laid (a := s.heap.objs.size) (o := .own (s.heap.objs.size + 1)) (h' := s.heap.push PySem.W.emptyDict) (t' := s.toks) (fun b u q => Heap.get?_push_of_some _ q) (Nat.le_refl _) ⟨_, e1⟩
  refine I1.laid (a := s.heap.objs.size + 1) (o := .ins C s.heap.objs.size []) (t' := s.toks) (fun b u q => Heap.get?_push_of_some _ q) (Nat.le_of_eq (Heap.size_push _ _)) ?_
  have ne : s.heap.objs.size ≠ s.heap.objs.size + 1 := Nat.ne_of_lt (Nat.lt_succ_self _)
  refine ⟨by rw [upd_ne ne, upd_same], Nat.zero_le _, ne, e2, fun _ => none, (Heap.Ns1.of_empty e3).at fun o q => Heap.get?_push_of_some _ q, fun _ => True.intro, fun y hy => absurd rfl hy⟩


theorem attr_of {prog : Program} {w : World} {env : Env} {e : Expr} {f : Str} {pos : Pos} {s : Shared} {Q : Value → Shared → Prop} (hb : attributeBase e f env (eval e env) = eval e env)
    (h : wpAny (model prog w) A (eval e env) (fun o s₁ => wpAny (model prog w) A (getAttr o f true) Q E s₁) E s) : wpAny (model prog w) A (eval (.Attribute e f pos) env) Q E s :=
  Attribute_any_ h (by rw [arm_eval_Attribute, hb])
end



section
variable {X : Cx} {o e value : Expr} {f : Str} {pos pos' tpos : Pos} {ta tv : TE}
end


section
variable {X : Cx} {pins : List (Addr × Obj)} {σ : St} {H : Hp} {s : Shared} {A : Around} {E : Value → Shared → Prop} {Q : Value → Shared → Prop} {c : Value} {b : Bool}

inductive TyOf (K : PySem.W.Frag) (H : Hp) : V → Value → Prop where
  | non : TyOf K H .non (.type "NoneType")
  | bl (x : Bool) : TyOf K H (.bl x) (.type "bool")
  | int (i : Int) : TyOf K H (.int i) (.type "int")
  | str (x : Str) : TyOf K H (.str x) (.type "str")
  | flt (x : UInt64) : TyOf K H (.flt x) (.type "float")
  | lst {a : Addr} {xs : List V} (e : H a = some (.lst xs)) : TyOf K H (.ref a) (.type "list")
  | frz {a : Addr} {o : Obj} {xs : List V} (e : H a = some (.frz o (.lst xs))) : TyOf K H (.ref a) (.type "list")
  | tup {a : Addr} {xs : List V} (e : H a = some (.tup xs)) : TyOf K H (.ref a) (.type "tuple")
  | dK {a : Addr} {kvs : List (Key × V)} (e : H a = some (.dK kvs)) : TyOf K H (.ref a) (.type "dict")
  | dT {a : Addr} {kvs : List (List Key × V)} (e : H a = some (.dT kvs)) : TyOf K H (.ref a) (.type "dict")
  | ins {a C dx : Addr} {fs : List (Str × V)} (e : H a = some (.ins C dx fs)) (cl : Cls K C) (ha : PySem.W.findIn K (.ref C) "__class__" = some (some (.builtin "object.__class__")))
      (hn : PySem.W.specialIn K (.builtin "object.__class__") "__get__" = some (some (.builtin "getset_descriptor.__get__"))) (htk : PySem.W.takesIn K (.builtin "object.__class__") = some true)
      (hm : PySem.W.mroIn K C (.type "object") = some true) : TyOf K H (.ref a) (.ref C)

theorem isinst_ok {x : V} {u t : Value} (I : Inv X pins σ H s) (rx : RelV x u) (ty : TyOf X.K H x t) (e : PySem.W.kitOne X.K t c = some b) (h : ∀ tk, Q (.bool b) { s with toks := tk }) :
    wpAny (model X.prog X.w) A (call (.builtin "isinstance") [u, c]) Q E s := by
  cases ty with
  | non => cases (show u = Value.none from rx); exact PySem.W.kia_one PySem.W.kitx_none I.kIn True.intro e (fun z => nomatch z) h
  | bl y => cases (show u = Value.bool y from rx); exact PySem.W.kia_one PySem.W.kitx_bool I.kIn True.intro e (fun z => nomatch z) h
  | int i => obtain ⟨t, q⟩ := (show ∃ t, u = Value.int i t from rx); cases q; exact PySem.W.kia_one PySem.W.kitx_int I.kIn True.intro e (fun z => nomatch z) h
  | str y => obtain ⟨t, q⟩ := (show ∃ t, u = Value.str y t from rx); cases q; exact PySem.W.kia_one PySem.W.kitx_str I.kIn True.intro e (fun z => nomatch z) h
  | flt y => obtain ⟨t, q⟩ := (show ∃ t, u = Value.float y t from rx); cases q; exact PySem.W.kia_one PySem.W.kitx_float I.kIn True.intro e (fun z => nomatch z) h
  | @lst a xs ea =>
    cases (show u = Value.ref a from rx)
    obtain ⟨_, _, n, _, h1⟩ := (show ObjOk X.prog X.w H s.heap a (.lst xs) from I.hok a _ ea)
    exact PySem.W.kia_one PySem.W.kitx_list I.kIn ⟨_, h1, rfl⟩ e (fun z => nomatch z) h
  | @frz a ob xs ea =>
    cases (show u = Value.ref a from rx)
    obtain ⟨_, _, _, n, _, h1⟩ := (show ObjOk X.prog X.w H s.heap a (.frz ob (.lst xs)) from I.hok a _ ea)
    exact PySem.W.kia_one PySem.W.kitx_list I.kIn ⟨_, h1, rfl⟩ e (fun z => nomatch z) h
  | @tup a xs ea =>
    cases (show u = Value.ref a from rx)
    obtain ⟨_, _, _, p⟩ := (show ObjOk X.prog X.w H s.heap a (.tup xs) from I.hok a _ ea)
    obtain ⟨o, h1, h2, _⟩ := p
    exact PySem.W.kia_one PySem.W.kitx_tuple I.kIn ⟨o, h1, h2⟩ e (fun z => nomatch z) h
  | @dK a kvs ea =>
    cases (show u = Value.ref a from rx)
    obtain ⟨_, _, vs, _, p⟩ := (show ObjOk X.prog X.w H s.heap a (.dK kvs) from I.hok a _ ea)
    obtain ⟨o, es, ep, h1, h2, _⟩ := p
    exact PySem.W.kia_one PySem.W.kitx_dict I.kIn ⟨o, h1, h2.1⟩ e (fun z => nomatch z) h
  | @dT a kvs ea =>
    cases (show u = Value.ref a from rx)
    obtain ⟨_, _, xs, _, o, es, ep, h1, h2, _⟩ := (show ObjOk X.prog X.w H s.heap a (.dT kvs) from I.hok a _ ea)
    exact PySem.W.kia_one PySem.W.kitx_dict I.kIn ⟨o, h1, h2.1⟩ e (fun z => nomatch z) h
  | @ins a C dx fs ea cl ha hn htk hm =>
    cases (show u = Value.ref a from rx)
    obtain ⟨mA, O, _⟩ := ins_get I.hok ea
    obtain ⟨od, J, _⟩ := O.look
    exact PySem.W.kia_one (PySem.W.kitx_own (cl.get _) cl.hd ha hn htk hm) I.kIn J e (fun z => nomatch z) h
end
end L2

namespace L2
open PySem PySem.Spec PyProof.Rows


structure Room (k : Nat) (A : Around) : Prop where
  hd : A.handled = none
  dp : A.depth + 3 * k + 5 < recursionLimit
  un : A.units + 16 * k + 200 < cLine
theorem Room.mono {j k : Nat} {A : Around} (r : Room k A) (h : j ≤ k) : Room j A := ⟨r.hd, by have := r.dp; omega, by have := r.un; omega⟩
theorem Room.deeper {k : Nat} {A : Around} (r : Room (k + 1) A) (env : Env) : Room k (A.deeper env) :=
  ⟨r.hd, by have := r.dp; show A.depth + 1 + 3 * k + 5 < _; omega, by have := r.un; show A.units + 3 + 16 * k + 200 < _; omega⟩
theorem make_depth {A : Around} {C : Addr} {us : List Value} {kw : List (Str × Value)} : (A.under (.builtin "type.__call__" ⟨.ref C :: us, kw⟩)).depth = A.depth + 1 := by
  first | rfl | simp [Around.under, Code.weight, Code.isCreation, Code.isGuard, Code.isCaller, Code.frames, Code.isFrame, guardIds]
theorem make_units {A : Around} {C : Addr} {us : List Value} {kw : List (Str × Value)} : (A.under (.builtin "type.__call__" ⟨.ref C :: us, kw⟩)).units = A.units + 1 := by
  first | rfl | simp [Around.under, Code.cUnits, Code.frames, Code.isFrame]
theorem Room.make {k : Nat} {A : Around} (r : Room (k + 1) A) (C : Addr) (us : List Value) (kw : List (Str × Value)) : Room k (A.under (.builtin "type.__call__" ⟨.ref C :: us, kw⟩)) :=
  ⟨r.hd, by have := r.dp; rw [make_depth]; omega, by have := r.un; rw [make_units]; omega⟩
theorem Room.depth {k : Nat} {A : Around} (r : Room k A) : A.depth < recursionLimit := by have := r.dp; omega
theorem Room.units {k : Nat} {A : Around} (r : Room k A) : A.units + 64 < cLine := by have := r.un; omega
def tNil : TA := fun _ H Q => Q [] H
def tCons (ta : TE) (tr : TA) : TA := fun σ H Q => ta σ H fun x H1 => tr σ H1 fun xs H2 => Q (x :: xs) H2
section
variable {X : Cx} {e : Expr} {es : List Expr} {te : TE} {t : TA} {pos : Pos}
theorem pa_nil : PA X [] tNil := fun _ _ _ _ H Q I h => Calls.spliced_nil ⟨[], H, I, .nil, h⟩
theorem pa_cons (ha : PE X e te) (hr : PA X es t) (hs : starEach (e :: es) X.env = (false, eval e X.env) :: starEach es X.env := by rfl) : PA X (e :: es) (tCons te t) := by
  intro pos pins s σ H Q I h
  rw [hs]
  show wpAny _ _ (spliced ((false, eval e X.env) :: backTo pos (starEach es X.env))) _ _ s
  refine Calls.spliced_cons (thn (ha pins s σ H _ I h) fun u s1 ⟨x, H1, I1, r1, q1⟩ => ?_)
  exact thn (hr pos pins s1 σ H1 _ I1 q1) fun us s2 ⟨xs, H2, I2, r2, q2⟩ => ⟨x :: xs, H2, I2, .cons r1 r2, q2⟩


def tTup (t : TA) : TE := fun σ H Q => t σ H fun xs H1 => xs.length ≤ sizeLine ∧ ∀ p, H1 p = none → Q (.ref p) (upd H1 p (.tup xs))
def tLst (t : TA) : TE := fun σ H Q => t σ H fun xs H1 => xs.length ≤ sizeLine ∧ ∀ p, H1 p = none → Q (.ref p) (upd H1 p (.lst xs))
theorem pe_tup {x1} (h : PA X es t) : PE X (.Tuple es x1 pos) (tTup t) := by
  intro pins s σ H Q I hq
  refine wpAny_Tuple_spliced (thn (h pos pins s σ H _ I hq) fun us s1 ⟨xs, H1, I1, r, z, q⟩ => ⟨by rw [← r.length]; exact z, ?_⟩)
  have hf : H1 s1.heap.objs.size = none := I1.hok.fresh (Nat.le_refl _)
  refine ⟨.ref s1.heap.objs.size, upd H1 s1.heap.objs.size (.tup xs), I1.laid (t' := s1.toks) (fun b u e => Heap.get?_push_of_some _ e) (Nat.le_refl _) ?_, rfl, q _ hf⟩
  exact ⟨z, us, r, ⟨_, Heap.get?_push_size _ rfl, rfl, _, rfl⟩⟩
theorem pe_lst (h : PA X es t) : PE X (.List es pos) (tLst t) := by
  intro pins s σ H Q I hq
  refine wpAny_List_spliced (thn (h pos pins s σ H _ I hq) fun us s1 ⟨xs, H1, I1, r, z, q⟩ => ⟨by rw [← r.length]; exact z, ?_⟩)
  have hf : H1 s1.heap.objs.size = none := I1.hok.fresh (Nat.le_refl _)
  refine ⟨.ref s1.heap.objs.size, upd H1 s1.heap.objs.size (.lst xs), I1.laid (t' := s1.toks) (fun b u e => Heap.get?_push_of_some _ e) (Nat.le_refl _) ?_, rfl, q _ hf⟩
  exact ⟨z, us, 0, r, Heap.get?_push_size _ rfl⟩
end



abbrev Sp := List V → Hp → VK → XK → Prop

abbrev CXT := List Env → Hp → Shared → XK → Value → Shared → Prop


structure Env0 (P : Program) (w : World) (K : PySem.W.Frag) (mg : Str → Option Value) (base : Heap) (A : Around) (outer : List Env) (s : Shared) (H : Hp) : Prop where
  frames : A.frames = some outer
  mod : Mod K mg base
  bs : ∀ b o, base.get? b = some o → s.heap.get? b = some o ∧ H b = none
  bsz : base.objs.size ≤ s.heap.objs.size
  funs : s.heap.FunFrames base outer
  frf : ∀ b ∈ frs outer, H b = none
  hok : HOk P w H s.heap
  bare : AllBare s.gens

def CE (outer : List Env) (P : Program) (w : World) (H : Hp) (s : Shared) (Q : VK) (u : Value) (s' : Shared) : Prop :=
  ∃ v H', s'.os = s.os ∧ AllBare s'.gens ∧ Un (frs outer) [] H H' s.heap s'.heap ∧ HOk P w H' s'.heap ∧ RelV v u ∧ Q v H'
def CR (CX : CXT) (outer : List Env) (P : Program) (w : World) (H : Hp) (s : Shared) (Q : VK) (E : XK) (r : Result) (s' : Shared) : Prop :=
  match r with
  | .ok (.ret u) => CE outer P w H s Q u s'
  | .ok _ => False
  | .error e => CX outer H s E e s'
structure FnOk (P : Program) (w : World) (K : PySem.W.Frag) (mg : Str → Option Value) (base : Heap) (CX : CXT) (k : Nat) (f : Addr) (fd : FuncData) (ps : List Str) (sp : Sp) : Prop where
  len : ∀ vs H Q E, sp vs H Q E → vs.length = ps.length
  run : ∀ (A : Around) (outer : List Env) (s : Shared) (H : Hp) (args : Args) (us : List Value) (vs : List V) (Q : VK) (E : XK), Room k A → Env0 P w K mg base A outer s H → BindsTo s fd args (ps.zip us) → Vals vs us → sp vs H Q E →
    codeAny (model P w) A (.call (.ref f) args) (CR CX outer P w H s Q E) s
theorem FnOk.mono {P : Program} {w : World} {K : PySem.W.Frag} {mg : Str → Option Value} {base : Heap} {CX : CXT} {j k : Nat} {f : Addr} {fd : FuncData} {ps : List Str} {sp : Sp} (F : FnOk P w K mg base CX j f fd ps sp) (h : j ≤ k) :
    FnOk P w K mg base CX k f fd ps sp := ⟨F.len, fun A outer s H args us vs Q E hr => F.run A outer s H args us vs Q E (hr.mono h)⟩

theorem Env0.make {P : Program} {w : World} {K : PySem.W.Frag} {mg : Str → Option Value} {base : Heap} {A : Around} {outer : List Env} {s : Shared} {H : Hp} (e : Env0 P w K mg base A outer s H) (C : Addr) (us : List Value) (kw : List (Str × Value)) :
    Env0 P w K mg base (A.under (.builtin "type.__call__" ⟨.ref C :: us, kw⟩)) outer s H := ⟨by first | exact e.frames | (simpa [Around.under, Code.envs, Code.isFrame, pushEnvs] using e.frames), e.mod, e.bs, e.bsz, e.funs, e.frf, e.hok, e.bare⟩
section
variable {X : Cx} {pins : List (Addr × Obj)} {σ : St} {H : Hp} {s s' : Shared}

theorem Inv.env0 (I : Inv X pins σ H s) : Env0 X.prog X.w X.K X.mg X.base X.A X.stack s H :=
  ⟨I.ok.frames, I.ok.mod, I.bs, Nat.le_trans I.ok.bsz I.sz, I.stack, I.stkFree, I.hok, I.bare⟩

theorem Inv.after {Q : VK} {u : Value} (I : Inv X pins σ H s) (h : CE X.stack X.prog X.w H s Q u s') : EP X pins σ Q u s' := by
  obtain ⟨v, H', os, bare, un, hok, r, q⟩ := h
  obtain ⟨hh, g, d, t, os'⟩ := s'
  obtain rfl : os' = s.os := os
  exact ⟨v, H', I.call (h' := hh) (g' := g) (d' := d) (t' := t) (ch := []) un hok bare (fun b z => absurd z (by simp)), r, q⟩
end



def tCall (sp : Sp) (dvs : List V) (E : XK) (t : TA) : TE := fun σ H Q => t σ H fun vs H1 => sp (vs ++ dvs) H1 Q E

def Binds (K : PySem.W.Frag) (fd : FuncData) (ps : List Str) (ds : List Value) : Prop :=
  ∀ (s : Shared) (us : List Value), K.In s.heap → (us ++ ds).length = ps.length → BindsTo s fd ⟨us, []⟩ (ps.zip (us ++ ds))

theorem Binds.all {K : PySem.W.Frag} {fd : FuncData} {ps : List Str} (h : ∀ us : List Value, us.length = ps.length → bindArgs fd ⟨us, []⟩ = pure (ps.zip us)) : Binds K fd ps [] := fun s us _ hl => by
  rw [List.append_nil] at hl ⊢
  exact .of_eq (h us hl)


def Passes (CX : CXT) (X : Cx) (E : XK) : Prop := ∀ (pins : List (Addr × Obj)) (σ : St) (H : Hp) (s : Shared) (e : Value) (s' : Shared), Inv X pins σ H s → CX X.stack H s E e s' → X.xe e s'

section
variable {X : Cx} {CX : CXT} {k : Nat} {f C : Addr} {fd : FuncData} {ps : List Str} {sp : Sp} {dvs : List V} {ds : List Value} {E : XK} {x m : Str} {p pos apos : Pos} {e o : Expr} {es : List Expr} {ta : TE} {t : TA}


theorem run_fn {pins : List (Addr × Obj)} {σ : St} {H : Hp} {s : Shared} {Q : VK} {us : List Value} {vs : List V} (F : FnOk X.prog X.w X.K X.mg X.base CX k f fd ps sp) (hr : Room k X.A) (hb : Binds X.K fd ps ds) (hd : Vals dvs ds) (hx : Passes CX X E)
    (I : Inv X pins σ H s) (r : Vals vs us) (h : sp (vs ++ dvs) H Q E) : wpAny (model X.prog X.w) X.A (call (.ref f) us) (EP X pins σ Q) X.xe s := by
  have r2 : Vals (vs ++ dvs) (us ++ ds) := r.append hd
  have hl : (us ++ ds).length = ps.length := by rw [← r2.length]; exact F.len _ _ _ _ h
  refine wpAny_call (codeAny_mono (F.run X.A X.stack s H ⟨us, []⟩ (us ++ ds) (vs ++ dvs) Q E hr I.env0 (hb s us I.kIn hl) r2 h) fun r s' hq => ?_)
  cases r with
  | error e => exact hx pins σ H s e s' I hq
  | ok fl =>
    cases fl with
    | ret u => exact I.after hq
    | next => exact False.elim hq
    | brk => exact False.elim hq
    | cont => exact False.elim hq

theorem pe_call (F : FnOk X.prog X.w X.K X.mg X.base CX k f fd ps sp) (hr : Room k X.A) (hg : Gl X x) (hm : X.mg x = some (.ref f)) (hk : PySem.W.keepIn X.K (.ref f) = true) (hb : Binds X.K fd ps ds) (hd : Vals dvs ds) (hx : Passes CX X E)
    (ha : PA X (e :: es) t) (hdb : (x == ("__debug__" : Str)) = false := by decide) (he : starEach (e :: es) X.env = (false, eval e X.env) :: starEach es X.env := by rfl) (hpl : (backTo pos (starEach es X.env)).any (·.1) = false := by rfl) :
    PE X (.Call (.Name x p) (e :: es) [] pos) (tCall sp dvs E t) := by
  intro pins s σ H Q I h
  refine wpAny_Call_Name_kw (ld_glob I hg hm ?_ hdb)
  refine PySem.W.callWith_K (h₀ := X.base) I.ok.mod.kin hk (thn (ha pos pins s σ H _ I h) fun us s1 ⟨vs, H1, I1, r, q⟩ => ⟨I1.kIn, ?_⟩) he hpl
  exact run_fn F hr hb hd hx I1 r q
theorem pe_call0 (F : FnOk X.prog X.w X.K X.mg X.base CX k f fd ps sp) (hr : Room k X.A) (hg : Gl X x) (hm : X.mg x = some (.ref f)) (hk : PySem.W.keepIn X.K (.ref f) = true) (hb : Binds X.K fd ps ds) (hd : Vals dvs ds) (hx : Passes CX X E)
    (hdb : (x == ("__debug__" : Str)) = false := by decide) : PE X (.Call (.Name x p) [] [] pos) (tCall sp dvs E tNil) := by
  intro pins s σ H Q I h
  refine wpAny_Call_Name_kw (ld_glob I hg hm ?_ hdb)
  exact PySem.W.callWith_K0 I.kIn hk (run_fn (us := []) F hr hb hd hx I .nil h)


structure Mk (K : PySem.W.Frag) (C f : Addr) : Prop where
  makes : PySem.W.makesIn K C = true
  init : PySem.W.findIn K (.ref C) "__init__" = some (some (.ref f))
  fn : PySem.W.isFn K (.ref f) = true
  kp : PySem.W.keepIn K (.ref C) = true

end



section
variable {X : Cx} {CX : CXT} {k : Nat} {f C : Addr} {fd : FuncData} {ps ks : List Str} {sp : Sp} {E : XK} {x m : Str} {p pos apos kpos : Pos} {e o : Expr} {es : List Expr} {kws : List Keyword} {te ta : TE} {t tk : TA} {nm : Option Str}
structure KBinds (K : PySem.W.Frag) (fd : FuncData) (ps ks : List Str) (g : List Value → List Value → List Value) (gV : List V → List V → List V) : Prop where
  to : ∀ (s : Shared) (us ws : List Value), K.In s.heap → (g us ws).length = ps.length → BindsTo s fd ⟨us, ks.zip ws⟩ (ps.zip (g us ws))
  rel : ∀ {vs : List V} {us : List Value} {zs : List V} {ws : List Value}, Vals vs us → Vals zs ws → Vals (gV vs zs) (g us ws)
variable {g : List Value → List Value → List Value} {gV : List V → List V → List V}
end



structure FnScope (N P : List Str) (sc : Scope) : Prop where
  kind : sc.kind = .function
  co : sc.isCoroutine = false
  gen : sc.isGenerator = false
  nd : N.Nodup
  pre : N.take P.length = P
  par : ∀ x ∈ P, sc.names.lookup x = some .local ∨ sc.names.lookup x = some .cell
  nofree : ∀ y ∈ sc.names, y.2 ≠ .free

theorem bindL_out {kindOf : Str → Option NameKind} {x : Str} : ∀ {binds : List (Str × Value)} {m : Str → Option Value}, (∀ v, (x, v) ∉ binds) → bindL kindOf binds m x = m x
  | [], _, _ => rfl
  | (n, v) :: r, m, h => by
    unfold bindL
    rw [bindL_out fun w hw => h w (List.mem_cons_of_mem _ hw)]
    split
    · have : x ≠ n := by rintro rfl; exact h v List.mem_cons_self
      simp [this]
    · rfl
theorem bindC_out {kindOf : Str → Option NameKind} {x : Str} : ∀ {binds : List (Str × Value)} {m : Str → Option Value}, (∀ v, (x, v) ∉ binds) → bindC kindOf binds m x = m x
  | [], _, _ => rfl
  | (n, v) :: r, m, h => by
    unfold bindC
    rw [bindC_out fun w hw => h w (List.mem_cons_of_mem _ hw)]
    split
    · rfl
    · have : x ≠ n := by rintro rfl; exact h v List.mem_cons_self
      simp [this]
theorem bindL_get {kindOf : Str → Option NameKind} {x : Str} {v : Value} : ∀ {P : List Str} {vs : List Value} {i : Nat} {m : Str → Option Value}, P.Nodup → P[i]? = some x → vs[i]? = some v → kindOf x = some .local →
    bindL kindOf (P.zip vs) m x = some v
  | [], _, _, _, _, h, _, _ => by simp at h
  | _ :: _, [], _, _, _, _, h, _ => by simp at h
  | p :: P, w :: vs, 0, m, nd, h1, h2, hk => by
    simp at h1 h2; subst h1; subst h2
    show bindL kindOf ((p, w) :: P.zip vs) m p = _
    unfold bindL
    rw [bindL_out fun v hv => (List.nodup_cons.mp nd).1 (List.of_mem_zip hv).1, if_pos hk]
    simp
  | p :: P, w :: vs, i + 1, m, nd, h1, h2, hk => by
    show bindL kindOf ((p, w) :: P.zip vs) m x = _
    unfold bindL
    exact bindL_get (i := i) (List.nodup_cons.mp nd).2 (by simpa using h1) (by simpa using h2) hk
theorem bindC_get {kindOf : Str → Option NameKind} {x : Str} {v : Value} : ∀ {P : List Str} {vs : List Value} {i : Nat} {m : Str → Option Value}, P.Nodup → P[i]? = some x → vs[i]? = some v → kindOf x ≠ some .local →
    bindC kindOf (P.zip vs) m x = some v
  | [], _, _, _, _, h, _, _ => by simp at h
  | _ :: _, [], _, _, _, _, h, _ => by simp at h
  | p :: P, w :: vs, 0, m, nd, h1, h2, hk => by
    simp at h1 h2; subst h1; subst h2
    show bindC kindOf ((p, w) :: P.zip vs) m p = _
    unfold bindC
    rw [bindC_out fun v hv => (List.nodup_cons.mp nd).1 (List.of_mem_zip hv).1, if_neg hk]
    simp
  | p :: P, w :: vs, i + 1, m, nd, h1, h2, hk => by
    show bindC kindOf ((p, w) :: P.zip vs) m x = _
    unfold bindC
    exact bindC_get (i := i) (List.nodup_cons.mp nd).2 (by simpa using h1) (by simpa using h2) hk


def start (N : List Str) (vs : List V) : St := vs.map some ++ List.replicate (N.length - vs.length) none


def cxOf (CX : CXT) (P : Program) (w : World) (K : PySem.W.Frag) (mg : Str → Option Value) (base : Heap) (N : List Str) (qual : Str) (scope : Scope) (f : Addr) (cd : Value) (A : Around) (outer : List Env) (s : Shared) (H : Hp) (E : XK) : Cx where
  prog := P
  w := w
  K := K
  mg := mg
  base := base
  A := A.deeper (envOfC qual scope s.heap.objs.size f cd)
  N := N
  s₀ := s
  H₀ := H
  env := envOfC qual scope s.heap.objs.size f cd
  outer := outer
  stack := envOfC qual scope s.heap.objs.size f cd :: outer
  ex := []
  calm := true
  fn := fun _ => true
  pn := []
  xe := fun e s' => wpAny (model P w) (A.deeper (envOfC qual scope s.heap.objs.size f cd)) (leaving (envOfC qual scope s.heap.objs.size f cd) e) (fun _ s'' => CX outer H s E e s'') (fun e' s'' => CX outer H s E e' s'') s'

theorem cell_has {sc : Scope} {n : Nat} {x : Str} (h : sc.names.lookup x = some .cell) : ∃ c, (cellsFrom n sc.names []).lookup x = some c := by
  have q := PySem.W.cellsFrom_some sc.names n [] (.inl h)
  exact Option.isSome_iff_exists.mp q

theorem inv_start {CX : CXT} {P : Program} {w : World} {K : PySem.W.Frag} {mg : Str → Option Value} {base : Heap} {N ps : List Str} {qual : Str} {scope : Scope} {f : Addr} {cd : Value} {A : Around} {outer : List Env} {s s1 : Shared} {H : Hp} {E : XK} {us : List Value} {vs : List V}
    (S : FnScope N ps scope) (hd : A.handled = none) (e0 : Env0 P w K mg base A outer s H) (hl : vs.length = ps.length) (r : Vals vs us)
    (x : InCallC s s.heap.objs.size (bindL (envOfC qual scope s.heap.objs.size f cd).kindOf (ps.zip us) fun _ => none) (cellsFrom (s.heap.objs.size + 1) scope.names []) (bindC (envOfC qual scope s.heap.objs.size f cd).kindOf (ps.zip us) fun _ => none) s1) :
    Inv (cxOf CX P w K mg base N qual scope f cd A outer s H E) [] (start N vs) H s1 := by
  have hpl : ps.length ≤ N.length := by have := congrArg List.length S.pre; rw [List.length_take] at this; omega
  obtain ⟨h1, tk, rfl, hk⟩ := x.done
  have noA : ∀ b : Addr, b ∉ (cxOf CX P w K mg base N qual scope f cd A outer s H E).ex := fun b z => absurd (show b ∈ ([] : List Addr) from z) (by simp)
  refine ⟨⟨e0.mod, S.kind, rfl, rfl, Nat.le_refl _, fun y z c h1 h2 => ?_, fun y hy => ?_, fun y c _ h => ?_, fun _ => hd, Around.frames_deeper e0.frames, .inr ⟨rfl, rfl⟩, fun b z => absurd z (noA b), e0.bs, e0.bsz, fun b _ _ => noA b, fun b z => absurd z (noA b), e0.funs, e0.frf⟩,
    rfl, e0.bare, Un.kept hk, ⟨_, x.toInCall.ns, fun i y v h1 h2 h3 => ?_⟩, fun y c h => ⟨_, x.cell y c h⟩, e0.hok.fresh (Nat.le_refl _), fun y c h => ?_, fun p hp => absurd (show p ∈ ([] : List (Addr × Obj)) from hp) (by simp), e0.hok.kept hk, ?_⟩
  · exact name_of_addr x.apart (PySem.mem_of_lookup h1) (PySem.mem_of_lookup h2)
  · have hy : scope.names.lookup y = some .cell ∨ scope.names.lookup y = some .free := hy
    rcases hy with hy | hy
    · exact cell_has hy
    · exact absurd rfl (S.nofree _ (PySem.mem_of_lookup hy))
  · exact Nat.le_of_lt (x.above y c (PySem.mem_of_lookup h))
  · have hi : i < vs.length := by
      unfold start at h2
      by_cases hi : i < vs.length
      · exact hi
      · rw [List.getElem?_append_right (by simpa using hi)] at h2
        rw [List.getElem?_replicate] at h2
        split at h2 <;> cases h2
    have ha : vs[i]? = some v := by
      unfold start at h2
      rw [List.getElem?_append_left (by simpa using hi), List.getElem?_map] at h2
      cases e : vs[i]? with
      | none => rw [e] at h2; cases h2
      | some a => rw [e] at h2; cases h2; rfl
    obtain ⟨u, hu, rv⟩ := r.get ha
    have hp : ps[i]? = some y := by
      rw [← S.pre, List.getElem?_take_of_lt (by omega)]; exact h1
    have ndP : ps.Nodup := by rw [← S.pre]; exact S.nd.sublist (List.take_sublist _ _)
    refine ⟨u, rv, ?_⟩
    rcases S.par y (List.mem_of_getElem? hp) with k | k
    · exact .inl ⟨k, bindL_get ndP hp hu k⟩
    · obtain ⟨c, e⟩ := cell_has (n := s.heap.objs.size + 1) k
      refine .inr ⟨.inl k, c, e, ?_⟩
      have q := x.cell y c e
      rw [bindC_get ndP hp hu (by show scope.names.lookup y ≠ _; rw [k]; decide)] at q
      exact q
  · exact e0.hok.fresh (Nat.le_of_lt (x.above y c (PySem.mem_of_lookup h)))
  · unfold start
    show _ = N.length
    rw [List.length_append, List.length_map, List.length_replicate]
    omega


theorem fn_of {CX : CXT} {P : Program} {w : World} {K : PySem.W.Frag} {mg : Str → Option Value} {base : Heap} {k : Nat} {f : Addr} {name qual : Str} {params : Arguments} {body : List Stmt} {scope : Scope} {dV kV doc pm cdv ct oc : Value} {an od : Option Addr}
    {osl : Array (Option Value)} {N ps : List Str} {sp : Sp} (lk : K.lookup f = some ⟨oc, od, .func (PySem.W.fnOf name qual params body scope dV kV doc pm an cdv ct), osl⟩) (hcd : PySem.W.codeIn K cdv qual = true) (S : FnScope N ps scope)
    (len : ∀ vs H Q E, sp vs H Q E → vs.length = ps.length)
    (hbody : ∀ (A : Around) (outer : List Env) (s : Shared) (H : Hp) (vs : List V) (Q : VK) (E : XK), Room k (A.deeper (envOfC qual scope s.heap.objs.size f cdv)) → sp vs H Q E →
      ∃ t, PSs (cxOf CX P w K mg base N qual scope f cdv A outer s H E) body t ∧ t { nx := fun _ H' => Q .non H', rt := Q } (start N vs) H) :
    FnOk P w K mg base CX (k + 1) f (PySem.W.fnOf name qual params body scope dV kV doc pm an cdv ct) ps sp := by
  refine ⟨len, fun A outer s H args us vs Q E hr e0 hb r hsp => ?_⟩
  have hl := len _ _ _ _ hsp
  have KX : K.In s.heap := e0.mod.kin.keeps fun b o e => (e0.bs b o e).1
  have lim : s.heap.NoLimit := e0.mod.nolimit.keeps fun b o e => (e0.bs b o e).1
  have hkind : ∀ y ∈ ps.zip us, scope.names.lookup y.1 = some .local ∨ (scope.names.lookup y.1 = some .cell ∧ ((cellsFrom (s.heap.objs.size + 1) scope.names []).lookup y.1).isSome = true) := fun ⟨n, v⟩ hy => by
    rcases S.par n (List.of_mem_zip hy).1 with q | q
    · exact .inl q
    · exact .inr ⟨q, PySem.W.cellsFrom_some _ _ _ (.inl q)⟩
  refine codeAny_call_function hr.depth (KX _ _ lk) rfl S.co S.gen rfl (PySem.W.codeRec_of KX hcd) (hb _ _ _ _ ?_)
  refine wpAny_newFunctionEnv_cells S.kind hkind fun env he s1 x => ?_
  subst he
  refine ⟨lim.keeps x.toInCall.keep, codeAny_func ?_⟩
  obtain ⟨t, ht, hq⟩ := hbody A outer s H vs Q E (hr.deeper _) hsp
  have I : Inv (cxOf CX P w K mg base N qual scope f cdv A outer s H E) [] (start N vs) H s1 := inv_start S hr.hd e0 hl r x
  refine wpAny_mono (ht [] s1 (start N vs) H _ I hq) (fun fl s' hs => ?_) fun e s' hs => hs
  have fin : ∀ {σ' : St} {H' : Hp} {v : V} {u : Value}, Inv (cxOf CX P w K mg base N qual scope f cdv A outer s H E) [] σ' H' s' → RelV v u → Q v H' → CE outer P w H s Q u s' :=
    fun {σ' H' v u} J rv q => ⟨v, H', J.os, J.bare, J.base, J.hok, rv, q⟩
  cases fl with
  | ret u =>
    obtain ⟨v, σ', H', J, rv, q⟩ := hs
    exact fin J rv q
  | next =>
    obtain ⟨σ', H', J, q⟩ := hs
    exact fin (v := V.non) (u := Value.none) J rfl q
  | brk =>
    obtain ⟨_, _, _, q⟩ := hs
    exact False.elim q
  | cont =>
    obtain ⟨_, _, _, q⟩ := hs
    exact False.elim q
end L2

namespace L2
open PySem PySem.Spec PyProof.Rows
section
variable {X : Cx} {x : Str} {p pos : Pos} {e : Expr} {es : List Expr} {t : TA} {id T : String} {r : List V → Hp → VK → Prop}

def tCB (r : List V → Hp → VK → Prop) (t : TA) : TE := fun σ H Q => t σ H fun vs H1 => r vs H1 Q

theorem pe_callB (hc : CallR X (.builtin id) r) (hg : Gl X x) (hm : X.mg x = none) (hv : bootBuiltins x = some (.builtin id)) (ha : PA X (e :: es) t) (hn : x ≠ "__name__" := by decide) (hdb : (x == ("__debug__" : Str)) = false := by decide)
    (he : starEach (e :: es) X.env = (false, eval e X.env) :: starEach es X.env := by rfl) (hpl : (backTo pos (starEach es X.env)).any (·.1) = false := by rfl) : PE X (.Call (.Name x p) (e :: es) [] pos) (tCB r t) := by
  intro pins s σ H Q I h
  refine wpAny_Call_Name_kw (ld_blt I hg hm hv ?_ hn hdb)
  exact PyProof.Rows.callWith_builtin1 (thn (ha pos pins s σ H _ I h) fun us s1 ⟨vs, H1, I1, r1, q1⟩ => hc pins s1 σ H1 vs us Q I1 r1 q1) he hpl

theorem pe_callTy (hc : CallR X (.type T) r) (hg : Gl X x) (hm : X.mg x = none) (hv : bootBuiltins x = some (.type T)) (ha : PA X (e :: es) t) (hn : x ≠ "__name__" := by decide) (hdb : (x == ("__debug__" : Str)) = false := by decide)
    (he : starEach (e :: es) X.env = (false, eval e X.env) :: starEach es X.env := by rfl) (hpl : (backTo pos (starEach es X.env)).any (·.1) = false := by rfl) : PE X (.Call (.Name x p) (e :: es) [] pos) (tCB r t) := by
  intro pins s σ H Q I h
  refine wpAny_Call_Name_kw (ld_blt I hg hm hv ?_ hn hdb)
  exact PyProof.Rows.callWith_type1 (thn (ha pos pins s σ H _ I h) fun us s1 ⟨vs, H1, I1, r1, q1⟩ => hc pins s1 σ H1 vs us Q I1 r1 q1) he hpl

end
end L2

namespace HT
open PySem PyProof.Rows


section
open PySem.SeqAt
open PySem.AutoSeq1 (wpAny_loadPart')
open PySem.MeetsSeq PySem.MeetsSeq2 PySem.MeetsSeq3

end

section
variable {prog : Program} {w : World} {A : Around} {E : Value → Shared → Prop} {s : Shared}

def sIx (n d : Nat) : Option Int → Nat
  | none => d
  | some v => if v < 0 then (v + (n : Int)).toNat else min v.toNat n
theorem sIx_none (n d : Nat) : sIx n d none = d := rfl
theorem sIx_nat (n d k : Nat) : sIx n d (some (k : Int)) = min k n := by
  show (if (k : Int) < 0 then ((k : Int) + (n : Int)).toNat else min (k : Int).toNat n) = min k n
  rw [if_neg (by omega), Int.toNat_natCast]
end
end HT

namespace L2
open PySem PySem.Spec PyProof.Rows


abbrev TO := St → Hp → (Option Int → Hp → Prop) → Prop

def PO (X : Cx) (e : Option Expr) (t : TO) : Prop :=
  ∀ (pins : List (Addr × Obj)) (s : Shared) (σ : St) (H : Hp) (Q : Option Int → Hp → Prop), Inv X pins σ H s → t σ H Q →
    wpAny (model X.prog X.w) X.A (evalPart e X.env) (fun u s' => ∃ o H', Inv X pins σ H' s' ∧ IsPart u o ∧ Q o H') X.xe s
def tNoPart : TO := fun _ H Q => Q none H
def tPart (t : TE) : TO := fun σ H Q => t σ H fun x H1 => ∃ i, x = .int i ∧ Q (some i) H1

section
variable {X : Cx} {e : Expr} {te : TE} {lo hi : Option Expr} {tl th : TO} {pos p2 : Pos}

theorem po_none : PO X none tNoPart := by
  intro pins s σ H Q I h
  rw [evalPart_none]
  exact wpAny_pure ⟨none, H, I, .none, h⟩
theorem po_some (h : PE X e te) : PO X (some e) (tPart te) := by
  intro pins s σ H Q I hw
  rw [evalPart_some]
  refine thn (h pins s σ H _ I hw) fun u s1 ⟨x, H1, I1, r1, q1⟩ => ?_
  obtain ⟨i, rfl, q⟩ := q1
  obtain ⟨t, rfl⟩ := r1
  exact ⟨some i, H1, I1, .int i t, q⟩


def SlR (X : Cx) (r : V → Option Int → Option Int → Hp → VK → Prop) : Prop :=
  ∀ (pins : List (Addr × Obj)) (s : Shared) (σ : St) (H : Hp) (x : V) (v vl vu : Value) (lo hi : Option Int) (sl : Addr) (Q : VK), Inv X pins σ H s → RelV x v → s.heap.IsSliceOf sl vl vu .none → IsPart vl lo → IsPart vu hi → r x lo hi H Q →
    ∃ T id, typeLookup (.type T) "__getitem__" = pure (some (.builtin id)) ∧ s.TypeIs v T ∧ wpAny (model X.prog X.w) X.A (getItem v (.ref sl)) (EP X pins σ Q) X.xe s
def tSl (r : V → Option Int → Option Int → Hp → VK → Prop) (te : TE) (tl th : TO) : TE := fun σ H Q => te σ H fun x H1 => tl σ H1 fun l H2 => th σ H2 fun u H3 => r x l u H3 Q

theorem pe_slice {r : V → Option Int → Option Int → Hp → VK → Prop} (hr : SlR X r) (he : PE X e te) (hl : PO X lo tl) (hu : PO X hi th) : PE X (.Subscript e (.Slice lo hi none p2) pos) (tSl r te tl th) := by
  intro pins s σ H Q I h
  refine Subscript_ (thn (he pins s σ H _ I h) fun v s1 ⟨x, H1, I1, r1, q1⟩ => ?_)
  refine wpAny_Slice (thn (hl pins s1 σ H1 _ I1 q1) fun vl s2 ⟨l, H2, I2, pl, q2⟩ => thn (hu pins s2 σ H2 _ I2 q2) fun vu s3 ⟨u, H3, I3, pu, q3⟩ => ?_)
  rw [evalPart_none]
  refine wpAny_pure ?_
  have I4 : Inv X pins σ H3 { s3 with heap := s3.heap.push { cls := .type "slice", data := .fields #[vl, vu, .none] } } := I3.kept (t' := s3.toks) fun b ob q => Heap.get?_push_of_some _ q
  obtain ⟨T, id, hT, ht, hg⟩ := hr pins { s3 with heap := s3.heap.push { cls := .type "slice", data := .fields #[vl, vu, .none] } } σ H3 x v vl vu l u s3.heap.objs.size Q I4 r1 (Heap.IsSliceOf.new ..) pl pu q3
  show wpAny (model X.prog X.w) X.A (subscriptTail e (.Slice lo hi none p2) v (.ref s3.heap.objs.size)) (EP X pins σ Q) X.xe { s3 with heap := s3.heap.push { cls := .type "slice", data := .fields #[vl, vu, .none] } }
  exact tail_any (ops := [.ref s3.heap.objs.size, v]) ht hT hg (by with_unfolding_all rfl)


def cutV (xs : List V) (lo hi : Option Int) : List V := (xs.drop (HT.sIx xs.length 0 lo)).take (HT.sIx xs.length xs.length hi - HT.sIx xs.length 0 lo)
theorem cutV_length (xs : List V) (lo hi : Option Int) : (cutV xs lo hi).length ≤ xs.length := by
  unfold cutV
  rw [List.length_take, List.length_drop]
  omega

end
end L2

namespace L2
open PySem PySem.Spec PyProof.Rows



def ixN (n : Nat) (i : Int) : Option Nat := if 0 ≤ i then (if i < n then some i.toNat else none) else if -(n : Int) ≤ i then some (i + n).toNat else none
def atI {α : Type} (xs : List α) (i : Int) : Option α := (ixN xs.length i).bind fun j => xs[j]?
theorem ixN_seq {n : Nat} {i : Int} {j : Nat} (h : ixN n i = some j) : seqIndex? i n = some j ∧ j < n ∧ -(n : Int) ≤ i ∧ i < n := by
  unfold ixN at h
  by_cases h0 : 0 ≤ i
  · rw [if_pos h0] at h
    by_cases h1 : i < n
    · rw [if_pos h1] at h
      have e : i.toNat = j := Option.some.inj h
      exact ⟨by rw [seqIndex_of h0 h1, e], by omega, by omega, h1⟩
    · rw [if_neg h1] at h; cases h
  · rw [if_neg h0] at h
    by_cases h1 : -(n : Int) ≤ i
    · rw [if_pos h1] at h
      have e : (i + n).toNat = j := Option.some.inj h
      exact ⟨by rw [seqIndex_neg (by omega) h1, e], by omega, h1, by omega⟩
    · rw [if_neg h1] at h; cases h
theorem atI_get {α : Type} {xs : List α} {i : Int} {v : α} (h : atI xs i = some v) : ∃ j, seqIndex? i xs.length = some j ∧ xs[j]? = some v ∧ j < xs.length ∧ -(xs.length : Int) ≤ i ∧ i < xs.length := by
  unfold atI at h
  cases e : ixN xs.length i with
  | none => rw [e] at h; cases h
  | some j =>
    rw [e] at h
    obtain ⟨h1, h2, h3, h4⟩ := ixN_seq e
    exact ⟨j, h1, h, h2, h3, h4⟩
theorem atI_nat {α : Type} {xs : List α} {j : Nat} {v : α} (h : xs[j]? = some v) : atI xs (j : Int) = some v := by
  have hj : j < xs.length := (List.getElem?_eq_some_iff.mp h).1
  have e : ixN xs.length (j : Int) = some j := by
    unfold ixN
    rw [if_pos (by omega), if_pos (by omega)]; simp
  unfold atI; rw [e]; exact h
def PlainIx (b : Expr) : Prop := ∀ o i, subscripted b false o i = operate [o, i] (getItem o i)

def IxR (X : Cx) (r : R2) : Prop :=
  ∀ (value slice : Expr) (pins : List (Addr × Obj)) (s : Shared) (σ : St) (H : Hp) (x y : V) (v u : Value) (Q : VK), Inv X pins σ H s → RelV x v → RelV y u → r x y H Q →
    subscripted slice false v u = operate [v, u] (getItem v u) → wpAny (model X.prog X.w) X.A (subscriptTail value slice v u) (EP X pins σ Q) X.xe s

def MtR (X : Cx) (id : String) (r : V → List V → Hp → VK → Prop) : Prop :=
  ∀ (pins : List (Addr × Obj)) (s : Shared) (σ : St) (H : Hp) (x : V) (xs : List V) (v : Value) (us : List Value) (Q : VK), Inv X pins σ H s → RelV x v → Vals xs us → r x xs H Q →
    wpAny (model X.prog X.w) X.A (call (.builtin id) (v :: us)) (EP X pins σ Q) X.xe s
section
variable {X : Cx} {a b : Expr} {ta tb : TE} {pos : Pos}
theorem pe_ix {r : R2} (hr : IxR X r) (ha : PE X a ta) (hb : PE X b tb) (hs : PlainIx b) : PE X (.Subscript a b pos) (tOp r ta tb) := by
  intro pins s σ H Q I h
  exact Subscript_ (binT ha hb I h fun v u s2 x y H2 I2 rx ry q => hr a b pins s2 σ H2 x y v u Q I2 rx ry q (hs _ _))

def rIxL (K : PySem.W.Frag) : R2 := fun x y H Q => ∃ p xs i v, x = .ref p ∧ y = .int i ∧ SqL K H p xs ∧ atI xs i = some v ∧ Q v H
def rIxT (K : PySem.W.Frag) : R2 := fun x y H Q => ∃ p xs i v, x = .ref p ∧ y = .int i ∧ SqT K H p xs ∧ atI xs i = some v ∧ Q v H
def rIxS : R2 := fun x y H Q => ∃ z i c, x = .str z ∧ y = .int i ∧ z.length ≤ sizeLine ∧ atI z.cps.toList i = some c ∧ Q (.str ⟨#[c]⟩) H
theorem ix_list : IxR X (rIxL X.K) := by
  intro value slice pins s σ H x y v u Q I rx ry h hs
  obtain ⟨p, xs, i, z, rfl, rfl, hq, he, q⟩ := h
  cases rx
  obtain ⟨t, rfl⟩ := ry
  obtain ⟨its, r, pl, hz⟩ := I.list hq
  obtain ⟨j, h1, h2, h3, h4, h5⟩ := atI_get he
  obtain ⟨w, ew, rw'⟩ := r.get h2
  have hl := r.length
  have hn := line63
  have fin : EP X pins σ Q w s := ⟨z, H, I, rw', q⟩
  by_cases h0 : 0 ≤ i
  · have hj : i.toNat = j := by
      rw [seqIndex_of h0 h5] at h1
      exact Option.some.inj h1
    exact item_listR pl.isList h0 (by omega) (by rw [hj]; simpa using ew) fin hs
  · have hj : (i + (its.toArray.size : Int)).toNat = j := by
      rw [seqIndex_neg (by omega) h4] at h1
      rw [List.size_toArray, ← hl]
      exact Option.some.inj h1
    exact subscriptTail_builtinR (x := w) pl.isList.typeIs slot_list_getitem.lookup
      (wpAny_getItem_list_neg (Q := fun r s' => r = w ∧ EP X pins σ Q r s') pl.isList (by omega) (by rw [List.size_toArray] <;> omega) (by omega) (by rw [hj]; simpa using ew) ⟨rfl, fin⟩) hs
theorem ix_tup : IxR X (rIxT X.K) := by
  intro value slice pins s σ H x y v u Q I rx ry h hs
  obtain ⟨p, xs, i, z, rfl, rfl, hq, he, q⟩ := h
  cases rx
  obtain ⟨t, rfl⟩ := ry
  obtain ⟨its, r, pl, hz⟩ := I.tuple hq
  obtain ⟨j, h1, h2, h3, h4, h5⟩ := atI_get he
  obtain ⟨w, ew, rw'⟩ := r.get h2
  have hl := r.length
  have hn := line63
  have fin : EP X pins σ Q w s := ⟨z, H, I, rw', q⟩
  exact subscriptTail_builtinR (x := w) pl.typeIs slot_tuple_getitem.lookup
    (getItem_tuple (j := j) (Q := fun r s' => r = w ∧ EP X pins σ Q r s') pl (by omega) (by omega) (by rw [List.size_toArray, ← hl]; exact h1) (by simpa using ew) ⟨rfl, fin⟩) hs
theorem ix_str : IxR X rIxS := by
  intro value slice pins s σ H x y v u Q I rx ry h hs
  obtain ⟨z, i, c, rfl, rfl, hz, he, q⟩ := h
  obtain ⟨t, rfl⟩ := rx
  obtain ⟨t', rfl⟩ := ry
  obtain ⟨j, h1, h2, h3, h4, h5⟩ := atI_get he
  have hl : z.cps.toList.length = z.length := by simp [Str.length]
  rw [hl] at h1 h4 h5
  have hn := line63
  exact tail_any (typeIs_str s z t) slot_str_getitem.lookup (getItem_str (c := c) (by
    have e1 : decide (i < -(2 ^ 63 : Int)) = false := decide_eq_false (by omega)
    have e2 : decide (i ≥ 2 ^ 63) = false := decide_eq_false (by omega)
    rw [e1, e2, Bool.or_false]) (by rw [h1]; simpa using h2) ⟨.str ⟨#[c]⟩, H, I.tok _, ⟨_, rfl⟩, q⟩) hs

theorem mapSeq_set (its : List Value) (n j : Nat) (u : Value) : Obj.mapSeq (·.setIfInBounds j u) { cls := .type "list", data := .seq its.toArray n } = { cls := .type "list", data := .seq (its.set j u).toArray n } := by
  simp [Obj.mapSeq]
theorem Inv.lst {pins : List (Addr × Obj)} {σ : St} {H : Hp} {s : Shared} {p : Addr} {xs : List V} (I : Inv X pins σ H s) (h : H p = some (.lst xs)) :
    ∃ (its : List Value) (n : Nat), Vals xs its ∧ s.heap.get? p = some { cls := .type "list", data := .seq its.toArray n } ∧ xs.length ≤ sizeLine := by
  obtain ⟨z, its, n, r, e⟩ := I.hok p _ h
  exact ⟨its, n, r, e, z⟩

theorem Inv.lstUpd {pins : List (Addr × Obj)} {σ : St} {H : Hp} {s : Shared} {p : Addr} {xs ys : List V} {its its' : List Value} {n n' : Nat} {f : Obj → Obj} (I : Inv X pins σ H s) (h : H p = some (.lst xs))
    (ho : s.heap.get? p = some { cls := .type "list", data := .seq its.toArray n }) (hf : f { cls := .type "list", data := .seq its.toArray n } = { cls := .type "list", data := .seq its'.toArray n' }) (r : Vals ys its') (hz : ys.length ≤ sizeLine) (t : Nat) :
    Inv X pins σ (upd H p (.lst ys)) { s with heap := s.heap.update p f, toks := t } := by
  have e : (s.heap.update p f).get? p = some { cls := .type "list", data := .seq its'.toArray n' } := by
    rw [Heap.get?_update_self f ho (by rw [hf] <;> rfl), hf]
  refine I.write (x := p) (e := p) (by rw [h]; trivial) (.inl rfl) (fun b u hb q => (Heap.get?_update_other _ _ (Ne.symm hb)).trans q) ⟨_, e⟩ ?_
  exact ⟨hz, its', n', r, e⟩
def rSetL : V → V → V → Hp → (Hp → Prop) → Prop := fun o i v H Q => ∃ p xs k j, o = .ref p ∧ i = .int k ∧ H p = some (.lst xs) ∧ ixN xs.length k = some j ∧ Q (upd H p (.lst (xs.set j v)))
theorem set_list : PSet X rSetL := by
  intro pins s σ H o i v ov iv u Q I ro ri rv h
  obtain ⟨p, xs, k, j, rfl, rfl, hp, hj, q⟩ := h
  cases ro
  obtain ⟨t, rfl⟩ := ri
  obtain ⟨its, n, r, ho, hz⟩ := I.lst hp
  obtain ⟨h1, h2, h3, h4⟩ := ixN_seq hj
  have hl := r.length
  have hn := line63
  have I' : Inv X pins σ (upd H p (.lst (xs.set j v))) { s with heap := s.heap.update p (Obj.mapSeq (·.setIfInBounds j u)) } :=
    I.lstUpd hp ho (mapSeq_set its n j u) (r.set rv j) (by rw [List.length_set]; exact hz) s.toks
  by_cases h0 : 0 ≤ k
  · have hk : k.toNat = j := by
      rw [seqIndex_of h0 h4] at h1
      exact Option.some.inj h1
    exact PySem.W.ki_setAt ho h0 (by omega) (by rw [List.size_toArray, ← hl]; exact h4) (by rw [hk]; exact ⟨_, I', q⟩)
  · have hk : (k + (its.toArray.size : Int)).toNat = j := by
      rw [seqIndex_neg (by omega) h3] at h1
      rw [List.size_toArray, ← hl]
      exact Option.some.inj h1
    exact PySem.W.ki_setBack ho (by omega) (by rw [List.size_toArray, ← hl]; exact h3) (by omega) (by rw [hk]; exact ⟨_, I', q⟩)


theorem slice_bounds (lo hi : Option Int) (n : Nat) : (sliceBounds lo hi none n).1 = ((HT.sIx n 0 lo : Nat) : Int) ∧ (sliceBounds lo hi none n).2.1 = ((HT.sIx n n hi : Nat) : Int) ∧ (sliceBounds lo hi none n).2.2 = 1 := by
  refine ⟨?_, ?_, rfl⟩
  · cases lo with
    | none => simp [sliceBounds, HT.sIx]
    | some i =>
      simp only [sliceBounds, HT.sIx, Option.getD_none, show (1 : Int) > 0 by decide, if_true]
      by_cases h : i < 0
      · simp only [h, if_true] <;> omega
      · simp only [h, if_false] <;> omega
  · cases hi with
    | none => simp [sliceBounds, HT.sIx]
    | some i =>
      simp only [sliceBounds, HT.sIx, Option.getD_none, show (1 : Int) > 0 by decide, if_true]
      by_cases h : i < 0
      · simp only [h, if_true] <;> omega
      · simp only [h, if_false] <;> omega
theorem slicePick_cut (its : List Value) (lo hi : Option Int) : slicePick its.toArray lo hi none = ((its.drop (HT.sIx its.length 0 lo)).take (HT.sIx its.length its.length hi - HT.sIx its.length 0 lo)).toArray := by
  obtain ⟨h1, h2, h3⟩ := slice_bounds lo hi its.toArray.size
  unfold slicePick
  rw [h1, h2, h3]
  simp only [sliceRange_one, pick_run, List.size_toArray] <;> rfl

def rSlL (K : PySem.W.Frag) : V → Option Int → Option Int → Hp → VK → Prop := fun x lo hi H Q => ∃ a xs, x = .ref a ∧ SqL K H a xs ∧ ∀ p, H p = none → Q (.ref p) (upd H p (.lst (cutV xs lo hi)))
theorem sl_list : SlR X (rSlL X.K) := by
  intro pins s σ H x v vl vu lo hi sl Q I rx hs pl pu h
  obtain ⟨a, xs, rfl, hx, q⟩ := h
  cases rx
  obtain ⟨its, r, ht, hz⟩ := I.list hx
  have hlen := r.length
  refine ⟨"list", _, slot_list_getitem.lookup, ht.isList.typeIs, ?_⟩
  refine wpAny_getItem_list_slice ht.isList hs pl pu .none (by simp) ?_ (by rw [List.size_toArray] <;> omega)
  rw [slicePick_cut, ← hlen]
  refine ⟨.ref s.heap.objs.size, _, I.laid (t' := s.toks) (o := .lst (cutV xs lo hi)) (fun b ob q => Heap.get?_push_of_some _ q) (Nat.le_refl _) ?_, rfl, q _ (I.hok.fresh (Nat.le_refl _))⟩
  exact ⟨Nat.le_trans (cutV_length xs lo hi) hz, _, 0, (r.drop (HT.sIx xs.length 0 lo)).take (HT.sIx xs.length xs.length hi - HT.sIx xs.length 0 lo), Heap.get?_push_size _ rfl⟩


def flatV : V → Bool
  | .non => true
  | .bl _ => true
  | .int _ => true
  | .str _ => true
  | _ => false

def eqV : V → V → Bool
  | .non, .non => true
  | .bl a, .bl b => a == b
  | .bl a, .int b => (if a then 1 else 0) == b
  | .int a, .bl b => a == (if b then 1 else 0)
  | .int a, .int b => a == b
  | .str a, .str b => a == b
  | _, _ => false
theorem eqAt_V {A : Around} {s : Shared} {y x : V} {u v : Value} (ry : RelV y u) (rx : RelV x v) (fy : flatV y = true) (fx : flatV x = true) : SeqAt.EqAt A s u v (eqV y x) := by
  cases y with
  | non =>
    cases ry
    cases x with
    | non => cases rx; exact SeqAt.EqAt.same _
    | bl b => cases rx; exact SeqAt.EqAt.none_bool b
    | int b => obtain ⟨t, rfl⟩ := rx; exact SeqAt.EqAt.none_int b t
    | str b => obtain ⟨t, rfl⟩ := rx; exact SeqAt.EqAt.none_str b t
    | _ => exact absurd (show false = true from fx) Bool.false_ne_true
  | bl a =>
    cases ry
    cases x with
    | non => cases rx; exact SeqAt.EqAt.bool_none a
    | bl b => cases rx; exact SeqAt.EqAt.bool_bool a b
    | int b => obtain ⟨t, rfl⟩ := rx; exact SeqAt.EqAt.bool_int a b t
    | str b => obtain ⟨t, rfl⟩ := rx; exact SeqAt.EqAt.bool_str a b t
    | _ => exact absurd (show false = true from fx) Bool.false_ne_true
  | int a =>
    obtain ⟨t', rfl⟩ := ry
    cases x with
    | non => cases rx; exact SeqAt.EqAt.int_none a t'
    | bl b => cases rx; exact SeqAt.EqAt.int_bool a t' b
    | int b => obtain ⟨t, rfl⟩ := rx; exact SeqAt.EqAt.int_int a t' b t
    | str b => obtain ⟨t, rfl⟩ := rx; exact SeqAt.EqAt.int_str a t' b t
    | _ => exact absurd (show false = true from fx) Bool.false_ne_true
  | str a =>
    obtain ⟨t', rfl⟩ := ry
    cases x with
    | non => cases rx; exact SeqAt.EqAt.str_none a t'
    | bl b => cases rx; exact SeqAt.EqAt.str_bool a t' b
    | int b => obtain ⟨t, rfl⟩ := rx; exact SeqAt.EqAt.str_int a t' b t
    | str b => obtain ⟨t, rfl⟩ := rx; exact SeqAt.EqAt.str_str a t' b t
    | _ => exact absurd (show false = true from fx) Bool.false_ne_true
  | _ => exact absurd (show false = true from fy) Bool.false_ne_true

theorem op_notIn_str : OpR X (compareOp .NotIn) (fun x y H Q => ∃ i j, x = .str i ∧ y = .str j ∧ Q (.bl (!(!(Builtin.Str.occurrences j i 0 j.length 1).isEmpty))) H) := by
  intro pins s σ H x y v u Q I rx ry h
  obtain ⟨i, j, rfl, rfl, q⟩ := h
  obtain ⟨t, rfl⟩ := rx
  obtain ⟨t', rfl⟩ := ry
  exact notIn_str ⟨.bl _, H, I, rfl, q⟩


theorem call_len_seq : CallR X (.builtin "len") (fun xs H Q => ∃ p ys, xs = [.ref p] ∧ (SqL X.K H p ys ∨ SqT X.K H p ys) ∧ Q (.int ys.length) H) := by
  intro pins s σ H xs us Q I r h
  obtain ⟨p, ys, rfl, hq, q⟩ := h
  obtain ⟨u, rfl, rx⟩ := vals1 r
  cases rx
  have hn := line63
  rcases hq with hq | hq
  · obtain ⟨its, r', pl, hz⟩ := I.list hq
    have hlen := r'.length
    exact Calls.call_len_list pl.isList (by simp only [List.size_toArray] <;> omega) ⟨.int ys.length, H, I.tok _, ⟨s.toks + 1, by rw [List.size_toArray, hlen]⟩, q⟩
  · obtain ⟨its, r', pl, hz⟩ := I.tuple hq
    have hlen := r'.length
    exact len_tuple pl (by simp only [List.size_toArray] <;> omega) ⟨.int ys.length, H, I.tok _, ⟨s.toks + 1, by rw [List.size_toArray, hlen]⟩, q⟩
theorem call_len_str : CallR X (.builtin "len") (fun xs H Q => ∃ z, xs = [.str z] ∧ z.length ≤ sizeLine ∧ Q (.int z.length) H) := by
  intro pins s σ H xs us Q I r h
  obtain ⟨z, rfl, hz, q⟩ := h
  obtain ⟨u, rfl, t, rfl⟩ := vals1 r
  have hn := line63
  exact len_str (by omega) ⟨.int z.length, H, I.tok _, ⟨_, rfl⟩, q⟩
theorem call_tuple_of : CallR X (.type "tuple") (fun xs H Q => ∃ p ys, xs = [.ref p] ∧ ((SqL X.K H p ys ∧ ∀ l, H l = none → Q (.ref l) (upd H l (.tup ys))) ∨ (SqT X.K H p ys ∧ Q (.ref p) H))) := by
  intro pins s σ H xs us Q I r h
  obtain ⟨p, ys, rfl, h⟩ := h
  obtain ⟨u, rfl, rx⟩ := vals1 r
  cases rx
  rcases h with ⟨hq, q⟩ | ⟨hq, q⟩
  · obtain ⟨its, r', pl, hz⟩ := I.list hq
    have hlen := r'.length
    refine call_tuple_list pl.isList (fun h' kp => ?_) (by simp only [List.size_toArray] <;> omega)
    have I1 : Inv X pins σ H { s with heap := h' } := I.kept (t' := s.toks) kp
    have I2 : Inv X pins σ (upd H h'.objs.size (.tup ys)) { s with heap := h'.push { cls := .type "tuple", data := .seq its.toArray } } :=
      I1.laid (t' := s.toks) (fun b o e => Heap.get?_push_of_some _ e) (Nat.le_refl _) (show ObjOk X.prog X.w _ _ _ (.tup ys) from ⟨hz, its, r', IsTup.new _ _⟩)
    exact ⟨.ref h'.objs.size, _, I2, rfl, q _ (I1.hok.fresh (Nat.le_refl _))⟩
  · obtain ⟨its, r', pl, hz⟩ := I.tuple hq
    exact call_tuple_same pl ⟨.ref p, H, I, rfl, q⟩



def tyV (K : PySem.W.Frag) (T : String) (x : V) (H : Hp) : Prop := match x with
  | .str _ => T = "str"
  | .int _ => T = "int"
  | .ref p => (T = "list" ∧ ∃ xs, SqL K H p xs) ∨ (T = "tuple" ∧ ∃ o, K.lookup p = some o ∧ o.cls = .type "tuple" ∧ o.dict = none) ∨
      (T = "dict" ∧ ((∃ kvs, H p = some (.dK kvs)) ∨ ∃ kvs, H p = some (.dT kvs))) ∨ (T = "set" ∧ ∃ S n, H p = some (.set S n))
  | _ => False
theorem tyV_is {pins : List (Addr × Obj)} {σ : St} {H : Hp} {s : Shared} {T : String} {x : V} {v : Value} (I : Inv X pins σ H s) (r : RelV x v) (ty : tyV X.K T x H) :
    s.TypeIs v T ∧ ∀ a, v = .ref a → ∃ ob, s.heap.get? a = some ob ∧ ob.dict = none := by
  cases x with
  | str z =>
    obtain ⟨t, rfl⟩ := r
    cases (show T = "str" from ty)
    exact ⟨typeIs_str s z t, fun _ e => nomatch e⟩
  | int i =>
    obtain ⟨t, rfl⟩ := r
    cases (show T = "int" from ty)
    exact ⟨typeIs_int s i t, fun _ e => nomatch e⟩
  | ref p =>
    cases r
    rcases ty with ⟨rfl, xs, hq⟩ | ⟨rfl, o, hk, hc, hd⟩ | ⟨rfl, hk⟩ | ⟨rfl, S, n, hk⟩
    · obtain ⟨its, _, pl, _⟩ := I.list hq
      refine ⟨pl.isList.typeIs, fun a e => ?_⟩
      cases e
      obtain ⟨o, n, e, c, hd, _⟩ := pl
      exact ⟨o, e, hd⟩
    · refine ⟨⟨o, I.kIn p o hk, hc⟩, fun a e => ?_⟩
      cases e
      exact ⟨o, I.kIn _ o hk, hd⟩
    · have z : ∃ o, s.heap.get? p = some o ∧ o.ExactDict := by
        rcases hk with ⟨kvs, hk⟩ | ⟨kvs, hk⟩
        · obtain ⟨_, _, _, _, o, _, _, e, ex, _⟩ := I.hok p _ hk
          exact ⟨o, e, ex⟩
        · obtain ⟨_, _, _, _, o, _, _, e, ex, _⟩ := I.hok p _ hk
          exact ⟨o, e, ex⟩
      obtain ⟨o, e, ex⟩ := z
      refine ⟨⟨o, e, ex.1⟩, fun a e2 => ?_⟩
      cases e2
      exact ⟨o, e, ex.2.1⟩
    · obtain ⟨o, _, _, _, e, ex, _⟩ := I.hok p _ hk
      refine ⟨⟨o, e, ex.1⟩, fun a e2 => ?_⟩
      cases e2
      exact ⟨o, e, ex.2.1⟩
  | _ => exact False.elim ty
def tBM (K : PySem.W.Frag) (T : String) (r : V → List V → Hp → VK → Prop) (to : TE) (t : TA) : TE := fun σ H Q => to σ H fun x H1 => tyV K T x H1 ∧ t σ H1 fun xs H2 => r x xs H2 Q
variable {o e : Expr} {es : List Expr} {to : TE} {t : TA} {name : Str} {apos cpos : Pos} {T id : String} {r : V → List V → Hp → VK → Prop}
theorem pe_bm (pa : PlainAttrs T) (slot : Slot T name id) (hty : typeOf (.builtin id) = pure (.type "method_descriptor")) (hm : MtR X id r) (ho : PE X o to) (ha : PA X (e :: es) t)
    (hbase : attributeBase o name X.env (eval o X.env) = eval o X.env := by rfl)
    (hfew : ((backTo cpos (starEach (e :: es) X.env)).all (fun x => !x.1) && (backToKw cpos (keywordEach [] X.env)).all (fun x => x.1.isSome)
      && decide ((e :: es).length + ([] : List Keyword).length + (if ([] : List Keyword).isEmpty then 0 else 1) < 30)) = true := by rfl)
    (hline : (apos.endLine == cpos.line) = true := by rfl) (hs : starEach (e :: es) X.env = (false, eval e X.env) :: starEach es X.env := by rfl) (hplain : (backTo cpos (starEach es X.env)).any (·.1) = false := by rfl) :
    PE X (.Call (.Attribute o name apos) (e :: es) [] cpos) (tBM X.K T r to t) := by
  intro pins s σ H Q I h
  refine wpAny_Call_method_late hbase hfew hline rfl (thn (ho pins s σ H _ I h) fun v s1 ⟨x, H1, I1, r1, ty, q1⟩ => ?_)
  obtain ⟨h1, h2⟩ := tyV_is I1 r1 ty
  refine ⟨T, id, pa, slot, hty, h1, h2, ?_⟩
  have hA := ha cpos pins s1 σ H1 _ I1 q1
  rw [hs] at hA ⊢
  refine Calls.callWith_builtin (by show (false || (backTo cpos (starEach es X.env)).any (·.1)) = false; rw [hplain] <;> rfl) (Calls.evalArgs_plain ?_)
  exact thn hA fun us s2 ⟨vs, H2, I2, r2, q2⟩ => hm pins s2 σ H2 x vs v us Q I2 r1 r2 q2

end
end L2

namespace L2
open PySem PySem.Spec PyProof.Rows

def MtM (X : Cx) (id : String) (r : V → List V → Hp → VK → Prop) : Prop :=
  ∀ (pins : List (Addr × Obj)) (s : Shared) (σ : St) (H : Hp) (x : V) (xs : List V) (v : Value) (us : List Value) (Q : VK), Inv X pins σ H s → RelV x v → Vals xs us → r x xs H Q →
    wpAny (model X.prog X.w) X.A (call (.builtin id) (v :: us)) (EP X pins σ Q) X.xe s


theorem Vals.one : ∀ {x : V} {us : List Value}, Vals [x] us → ∃ u, us = [u] ∧ RelV x u
  | _, _, .cons r .nil => ⟨_, rfl, r⟩
theorem Vals.two : ∀ {x y : V} {us : List Value}, Vals [x, y] us → ∃ u v, us = [u, v] ∧ RelV x u ∧ RelV y v
  | _, _, _, .cons r (.cons q .nil) => ⟨_, _, rfl, r, q⟩
theorem Vals.rep {xs : List V} {us : List Value} (h : Vals xs us) : ∀ k : Nat, Vals (List.replicate k xs).flatten (List.replicate k us).flatten
  | 0 => .nil
  | k + 1 => by
    rw [List.replicate_succ, List.replicate_succ, List.flatten_cons, List.flatten_cons]
    exact Vals.append h (Vals.rep h k)
theorem foldl_rep (its : List Value) : ∀ (k : Nat) (acc : List Value),
    List.foldl (fun x1 x2 => x1 ++ x2) acc.toArray (List.replicate k its.toArray) = (acc ++ (List.replicate k its).flatten).toArray
  | 0, acc => by simp
  | k + 1, acc => by
    have e : acc.toArray ++ its.toArray = (acc ++ its).toArray := by simp
    have e2 : (acc ++ its) ++ (List.replicate k its).flatten = acc ++ (List.replicate (k + 1) its).flatten := by
      rw [List.replicate_succ, List.flatten_cons, List.append_assoc]
    rw [← e2, ← foldl_rep its k (acc ++ its), ← e, List.replicate_succ, List.foldl_cons]

section
variable {X : Cx} {pins : List (Addr × Obj)} {σ : St} {H : Hp} {s : Shared} {l b : Addr} {xs ys zs : List V}


theorem Inv.lset {its its' : List Value} {n : Nat} {f : Array Value → Array Value} {t' : Nat} (I : Inv X pins σ H s) (hH : H l = some (.lst xs))
    (e : s.heap.get? l = some { cls := .type "list", data := .seq its.toArray n }) (hf : f its.toArray = its'.toArray) (hv : Vals ys its') (hz : ys.length ≤ sizeLine) :
    Inv X pins σ (upd H l (.lst ys)) { s with heap := s.heap.update l (Obj.mapSeq f), toks := t' } := by
  have q := PySem.IsL.update e f
  rw [hf] at q
  refine I.write (x := l) (e := l) (by rw [hH]; exact trivial) (.inl rfl) (fun b' u hb hu => (Heap.get?_update_other s.heap (Obj.mapSeq f) (Ne.symm hb)).trans hu) ⟨_, q⟩ ?_
  exact ⟨hz, its', _, hv, q⟩
theorem Inv.lnew {its : List Value} {t' : Nat} (I : Inv X pins σ H s) (hv : Vals ys its) (hz : ys.length ≤ sizeLine) :
    Inv X pins σ (upd H s.heap.objs.size (.lst ys)) { s with heap := s.heap.push { cls := .type "list", data := .seq its.toArray }, toks := t' } :=
  I.laid (fun _ _ q => Heap.get?_push_of_some _ q) (Nat.le_refl _) ⟨hz, its, 0, hv, Heap.get?_push_size _ rfl⟩
theorem Inv.fresh (I : Inv X pins σ H s) : H s.heap.objs.size = none := I.hok.fresh (Nat.le_refl _)
theorem Inv.lstM (I : Inv X pins σ H s) (hH : H l = some (.lst xs)) : xs.length ≤ sizeLine ∧ ∃ (its : List Value) (n : Nat), Vals xs its ∧ xs.length = its.length ∧ s.heap.get? l = some { cls := .type "list", data := .seq its.toArray n } := by
  obtain ⟨z, its, n, r, e⟩ := I.hok l _ hH
  exact ⟨z, its, n, r, r.length, e⟩

theorem notLongL {n : Nat} (h : n ≤ sizeLine) : Builtin.List.listTooLong n = false := by
  unfold Builtin.List.listTooLong
  exact decide_eq_false (by omega)
end

section
variable {X : Cx}


def rAppend : V → List V → Hp → VK → Prop := fun x vs H Q => ∃ l xs y, x = .ref l ∧ vs = [y] ∧ H l = some (.lst xs) ∧ xs.length < sizeLine ∧ Q .non (upd H l (.lst (xs ++ [y])))
theorem mt_append : MtM X "list.append" rAppend := by
  intro pins s σ H x vs v us Q I rx rv h
  obtain ⟨l, xs, y, rfl, rfl, hH, hz, q⟩ := h
  cases rx
  obtain ⟨u, rfl, ru⟩ := rv.one
  obtain ⟨z, its, n, r, hl, e⟩ := I.lstM hH
  refine call_meets F.slot_list_append ⟨_, e, rfl⟩ F.entry_list_append (F.args_list_append_2 _ _) (PySem.list_append l its.toArray n u (by rw [List.size_toArray]; omega)) ⟨e, ?_⟩
  refine ⟨.non, _, I.lset (its' := its ++ [u]) hH e (by simp) (r.append (.cons ru .nil)) ?_, rfl, q⟩
  rw [List.length_append, List.length_singleton]
  omega

def rRep : R2 := fun x y H Q => ∃ l k xs, x = .ref l ∧ y = .int k ∧ H l = some (.lst xs) ∧ -(2 ^ 63) ≤ k ∧ k < 2 ^ 63 ∧ xs.length * k.toNat ≤ sizeLine ∧
  ∀ p, H p = none → Q (.ref p) (upd H p (.lst (List.replicate k.toNat xs).flatten))
theorem len_rep {α : Type} (xs : List α) (k : Nat) : (List.replicate k xs).flatten.length = k * xs.length := by
  induction k with
  | zero => simp
  | succ k ih => rw [List.replicate_succ, List.flatten_cons, List.length_append, ih, Nat.succ_mul, Nat.add_comm]
theorem op_rep : OpR X (binaryOp .Mult) rRep := by
  intro pins s σ H x y v u Q I rx ry h
  obtain ⟨l, k, xs, rfl, rfl, hH, h1, h2, hz, q⟩ := h
  cases rx
  obtain ⟨t, rfl⟩ := ry
  obtain ⟨z, its, n, r, hl, e⟩ := I.lstM hH
  have hlen : its.toArray.size * k.toNat ≤ sizeLine := by rw [List.size_toArray, ← hl]; exact hz
  have hcap : ¬ its.toArray.size * k.toNat > (2 ^ 63 - 1) / 8 := by
    have : (sizeLine : Nat) ≤ (2 ^ 63 - 1) / 8 := by decide
    omega
  have hfit : ¬ (!Builtin.List.listFitsIndex k) = true := by
    rw [fitsIndex_both h1 h2]
    exact Bool.false_ne_true
  have hlong : ¬ Builtin.List.listTooLong (its.toArray.size * k.toNat) = true := by
    rw [notLongL hlen]
    exact Bool.false_ne_true
  have hnew : List.foldl (fun x1 x2 => x1 ++ x2) #[] (List.replicate (if its.toArray.isEmpty = true then 0 else k.toNat) its.toArray) = (List.replicate k.toNat its).flatten.toArray := by
    have f0 : ∀ m : Nat, List.foldl (fun x1 x2 => x1 ++ x2) #[] (List.replicate m its.toArray) = (List.replicate m its).flatten.toArray := fun m => by
      have := foldl_rep its m []
      rw [List.nil_append] at this
      exact this
    rw [f0]
    cases its with
    | nil => simp
    | cons a r' => rw [if_neg (by simp)]
  refine wpAny_binaryOp_repeat_ref (T := "list") (U := "int") (by decide) ⟨_, e, rfl⟩ (fun s' => typeIs_int s' k t) noFill_list_mul F.fills_int_mul F.slot_int_rmul repeat_list F.slot_int_index.lookup
    (call_meets F.slot_int_rmul (typeIs_int s k t) F.entry_int_rmul (F.args_int_rmul_2 _ _) (int___rmul___int_list k t l its.toArray n)
      ⟨e, rfl, ⟨_, e, rfl⟩, call_meets F.slot_list_mul ⟨_, e, rfl⟩ F.entry_list_mul (F.args_list_mul_2 _ _) (AutoListH.list___mul___list_int_3 l its.toArray n k t hfit hcap hlong) ⟨e, ?_⟩⟩)
  rw [hnew]
  exact ⟨.ref _, _, I.lnew (t' := s.toks) (r.rep k.toNat) (by rw [len_rep, Nat.mul_comm]; exact hz), rfl, q _ I.fresh⟩


end


section
variable {prog : Program} {w : World} {A : Around} {E : Value → Shared → Prop} {s : Shared}
end

section
variable {X : Cx}

end
end L2

namespace Att
open PySem PySem.W PySem.Calls PyProof.Rows


theorem ints_of_wellAll {P : Params} {h : Heap} : ∀ (ns : List Int) (vs : List Value), WellAll P h vs (ns.map WData.int) → IntsAre vs ns := by
  intro ns
  induction ns with
  | nil =>
    intro vs w
    rw [List.map_nil] at w
    cases w
    exact .nil
  | cons n ns ih =>
    intro vs w
    rw [List.map_cons] at w
    cases w with
    | cons a b =>
      cases a
      exact .cons _ _ (ih _ b)

theorem script_of {l : OpenLaw} {n : Nat} (hn : l.most = some n) {P : Params} {h : Heap} {args : List WData} {vals : List Value}
    (hpre : l.row.toRowW.claim.pre args = true) (hwl : WellAll P h vals args) :
    ∃ a vs ns, vals = [Value.ref a] ∧ args = [WData.list (ns.map WData.int)] ∧ h.get? a = some { cls := .type "list", data := .seq vs.toArray } ∧ IntsAre vs ns ∧ ns.length ≤ n := by
  have hsh : WShape.hasAll [] args [.list .int] = true := (pre_splitW hpre).1
  have hc : l.pre.holds [] { args := args } = true := (pre_splitW hpre).2
  obtain ⟨d, r, rfl, h1, h2⟩ := hasAllW_cons hsh
  obtain rfl := hasAllW_nil h2
  obtain ⟨xs, rfl, h3⟩ := hasW_list h1
  obtain ⟨ns, rfl⟩ := items_int h3
  have hlen : ns.length ≤ n := by
    unfold OpenLaw.pre at hc
    have h4 : (WTm.not (.lt (.lit (.int (n : Int))) (.len (.arg 0)))).holds [] { args := [.list (ns.map .int)] } = true := by
      have h4 := (holds_andW hc).1
      rw [hn] at h4
      exact h4
    have h5 := condW_of h4 (w_not (w_lt w_lit (w_len_list (w_arg rfl))))
    rw [List.length_map] at h5
    refine Nat.le_of_not_lt fun q => ?_
    have q' : (n : Int) < ((ns.length : Nat) : Int) := by omega
    first
      | (rw [decide_eq_true q'] at h5; exact absurd h5 (by decide))
      | (simp at h5; omega)
  cases hwl with
  | cons w1 w2 =>
    cases w2
    cases w1 with
    | list ho hall => exact ⟨_, _, ns, rfl, rfl, ho, ints_of_wellAll ns _ hall, hlen⟩

theorem post_true (l : OpenLaw) (args : List WData) : l.row.toRowW.claim.post args (.bool true) args = true :=
  postW_of (r := l.row.toRowW) (X := (true == true))
    (show WShape.has [] (.bool true) .bool = true by first | rfl | decide | simp [WShape.has, WShape.arms, WShape.armsAll])
    (show (WTm.eq .res (.lit (.bool true))).value [] { args := args, res := some (.bool true), after := args } = some (.bool (true == true)) from w_eq_bool (w_res rfl) w_lit) rfl


theorem attach_call {l : OpenLaw} {n : Nat} {q : Program} {loose : List Str} {XP : (Str → Option Value) → Heap → Prop} {YP : World → Heap → Prop} {d : DefRec}
    (hn : l.most = some n) (hdf : d.params.defaults = [])
    (call : ∀ (w : World) (s₀ s₁ : Shared) (mg mb : Str → Option Value) (fa : Addr) (o : Obj) (pm cd doc : Value) (a : Addr) (vs : List Value) (ns : List Int),
      Ground q loose [] XP w s₀ mg mb s₁.heap → YP w s₁.heap →
      s₁.heap.get? fa = some o → o.data = .func (docDef d.name d.params d.body d.scope pm cd doc) → s₁.heap.CodeRec cd d.name → mg d.name = some (.ref fa) →
      s₁.heap.get? a = some { cls := .type "list", data := .seq vs.toArray } → IntsAre vs ns → ns.length ≤ n → s₁.gens = #[] →
      codeAny (model l.prog w) callerA (.call (.ref fa) ⟨[.ref a], []⟩) (fun r s' => r = .ok (.ret (.bool true)) ∧ OldK s₁.heap s'.heap ∧ s'.os = s₁.os ∧ AllBare s'.gens) s₁) :
    WalkO q loose XP YP l.row.toRowW d [] (fun f vs => PySem.call f vs) := by
  intro w s₀ s₁ mg mb G Y fa o pm cd doc dV kV ho hd hcd hD hmg hg args vals as hpre hlay hrd hwl hlo
  obtain rfl : dV = .none := Dflts.none hD hdf
  obtain rfl : kV = .none := Dflts.noKw hD
  obtain ⟨a, vs, ns, rfl, rfl, hobj, hints, hlen⟩ := script_of hn hpre hwl
  refine enter_call (codeAny_mono (call w s₀ s₁ mg mb fa o pm cd doc a vs ns G Y ho (fd_plain hd) hcd hmg hobj hints hlen hg) fun r s' hq => ?_)
  obtain ⟨rfl, h2, h3, h4⟩ := hq
  exact ⟨.inl ⟨.bool true, .bool true, [], rfl, fun _ => rfl, .bool true, post_true l _, fun _ => ⟨List.Pairwise.nil, fun _ hm => (nomatch hm)⟩⟩, h2, h3, h4⟩


section
variable {prog : Program} {w : World} {A : Around} {E : Value → Shared → Prop} {s : Shared} {K : Frag}


end
end Att

namespace L2
open PySem PySem.Spec PyProof.Rows

theorem vals_ints : ∀ {vs : List Value} {ns : List Int}, IntsAre vs ns → Vals (ns.map V.int) vs
  | _, _, .nil => .nil
  | _, _, .cons n t h => .cons ⟨t, rfl⟩ (vals_ints h)


def Only (H : Hp) : Prop := ∀ b, H b = none ∨ ∃ o xs, H b = some (.frz o (.lst xs))


theorem law_call {P : Program} {w : World} {K : PySem.W.Frag} {mg mb : Str → Option Value} {CX : CXT} {k : Nat} {fa a : Addr} {fd : FuncData} {x : Str} {sp : Sp} {s₁ : Shared} {vs : List Value} {ns : List Int}
    (KX : K.In s₁.heap) (hns : s₁.heap.Ns mainGlobals mg) (hb : s₁.heap.Ns builtinsNs mb) (hbb : ∀ x : Str, x ≠ "__name__" → mb x = bootBuiltins x) (hlim : s₁.heap.NoLimit) (hg : s₁.gens = #[])
    (ha : s₁.heap.get? a = some { cls := .type "list", data := .seq vs.toArray }) (hi : IntsAre vs ns) (hl : ns.length ≤ sizeLine) (hr : Room k callerA)
    (F : ∀ base : Heap, K.In base → base.Ns mainGlobals mg → FnOk P w K mg base CX k fa fd [x] sp) (hbind : ∀ (s : Shared) (u : Value), BindsTo s fd ⟨[u], []⟩ [(x, u)])
    (hsp : ∀ H : Hp, Only H → SqL K H a (ns.map V.int) → sp [.ref a] H (fun v _ => v = .bl true) fun _ _ _ => False)
    (hCX : ∀ H e s', CX [] H s₁ (fun _ _ _ => False) e s' → False) :
    codeAny (model P w) callerA (.call (.ref fa) ⟨[.ref a], []⟩) (fun r s' => r = .ok (.ret (.bool true)) ∧ OldK s₁.heap s'.heap ∧ s'.os = s₁.os ∧ AllBare s'.gens) s₁ := by
  have rv := vals_ints hi
  have lenV := hi.length
  -- from an abstract heap in which nothing but the script may be tracked
  have core : ∀ H : Hp, Only H → SqL K H a (ns.map V.int) → HOk P w H s₁.heap → (∀ b, H b ≠ none → b = a) → (H a ≠ none → K.lookup a = none) →
      codeAny (model P w) callerA (.call (.ref fa) ⟨[.ref a], []⟩) (fun r s' => r = .ok (.ret (.bool true)) ∧ OldK s₁.heap s'.heap ∧ s'.os = s₁.os ∧ AllBare s'.gens) s₁ := by
    intro H hO hS hok hA hK
    have base_of : ∀ {b : Addr} {o : Obj}, s₁.heap.get? b = some o → H b = none → (hidT s₁.heap H).get? b = some o := fun e n => hidT_get e n
    have noA : ∀ {b : Addr} {o : Obj} {es : Array DictEntry} {ep : Nat}, s₁.heap.get? b = some o → o.data = .dict es ep → H b = none := fun {b o es ep} e d => by
      cases q : H b with
      | none => rfl
      | some u =>
        have e' : b = a := hA b (by rw [q]; simp)
        subst e'
        rw [ha] at e; cases e
        have d' : Data.seq vs.toArray _ = Data.dict es ep := d
        cases d'
    have nsK : ∀ {b : Addr} {m : Str → Option Value}, s₁.heap.Ns b m → (hidT s₁.heap H).Ns b m := fun {b m} ⟨o, es, ep, e, d, r⟩ => ⟨o, es, ep, base_of e (noA e d), d, r⟩
    have hKb : K.In (hidT s₁.heap H) := fun b o e => base_of (KX b o e) (by
      cases q : H b with
      | none => rfl
      | some u =>
        have e' : b = a := hA b (by rw [q]; simp)
        subst e'
        rw [hK (by rw [q]; simp)] at e; cases e)
    have hM : Mod K mg (hidT s₁.heap H) := ⟨hKb, nsK hns, ⟨mb, nsK hb, hbb⟩, let ⟨mc, h1, h2⟩ := hlim; ⟨mc, nsK h1, h2⟩⟩
    have e0 : Env0 P w K mg (hidT s₁.heap H) callerA [] s₁ H := ⟨rfl, hM, fun b o e => of_hidT e, Nat.le_of_eq (hidT_size _ _), trivial, fun b hb => absurd (show b ∈ ([] : List Addr) from hb) (by simp), hok, .of_eq hg⟩
    refine codeAny_mono ((F _ hKb (nsK hns)).run callerA [] s₁ H ⟨[.ref a], []⟩ [.ref a] [.ref a] _ _ hr e0 (hbind s₁ (.ref a)) (.cons rfl .nil) (hsp H hO hS)) fun r s' h => ?_
    cases r with
    | error e => exact (hCX H e s' h).elim
    | ok fl =>
      cases fl with
      | next => exact False.elim h
      | brk => exact False.elim h
      | cont => exact False.elim h
      | ret u =>
        obtain ⟨v, H', os, bare, un, hok', r', q⟩ := h
        have q' : v = .bl true := q
        subst q'
        obtain rfl : u = Value.bool true := r'
        refine ⟨rfl, OldK.of_keep fun b o e => ?_, os, bare⟩
        cases q : H b with
        | none => exact un.keep b o e q (by intro z; exact absurd (show b ∈ ([] : List Addr) from z) (by simp)) (by simp)
        | some u =>
          rcases hO b with z | ⟨ob, xs, z⟩
          · rw [q] at z; cases z
          · have z2 := un.frzs b ob _ z
            obtain ⟨e1, _⟩ := hok b _ z
            obtain ⟨e2, _⟩ := hok' b _ z2
            rw [e] at e1; cases e1
            exact e2
  cases hk : K.lookup a with
  | some o =>
    -- the script is one of the module's own objects
    have e := KX a o hk
    rw [ha] at e
    cases e
    refine core (fun _ => none) (fun _ => .inl rfl) (.inr ⟨_, vs.toArray, _, hk, rfl, rfl, rfl, by rw [List.size_toArray, lenV]; exact hl, by simpa using rv⟩) (fun b u z => by have z' : (none : Option HO) = some u := z; cases z') (fun b z => absurd rfl z) fun z => absurd rfl z
  | none =>
    refine core (fun b => if b = a then some (.frz { cls := .type "list", data := .seq vs.toArray } (.lst (ns.map V.int))) else none) (fun b => ?_) (.inl (.inr ⟨{ cls := .type "list", data := .seq vs.toArray }, if_pos rfl⟩)) (fun b u z => ?_) (fun b z => ?_) fun _ => hk
    · by_cases hb : b = a
      · exact .inr ⟨_, _, if_pos hb⟩
      · exact .inl (if_neg hb)
    · by_cases hb : b = a
      · have z' := (if_pos hb).symm.trans z
        cases z'
        subst hb
        exact ⟨ha, by rw [List.length_map]; exact hl, vs, _, rv, ha⟩
      · have z' := (if_neg hb).symm.trans z
        cases z'
    · by_cases hb : b = a
      · exact hb
      · exact absurd (if_neg hb) z
end L2

namespace L2
open PySem PySem.Spec PyProof.Rows

theorem walk_of {l : PySem.W.OpenLaw} {n k : Nat} {q : Program} {loose : List Str} {XP : (Str → Option Value) → Heap → Prop} {YP : World → Heap → Prop} {d : DefRec} {K : Params → PySem.W.Frag} {CX : World → CXT} {sp : World → Sp} {x : Str}
    (hn : l.most = some n) (hn2 : n ≤ sizeLine) (hdf : d.params.defaults = []) (hr : Room k callerA)
    (hY : ∀ (w : World) (h : Heap), YP w h → (K w.params).In h)
    (F : ∀ (w : World) (mg : Str → Option Value) (fa : Addr) (h : Heap), (K w.params).In h → h.Ns mainGlobals mg → mg d.name = some (.ref fa) →
      ∃ fd : FuncData, (∀ (s : Shared) (u : Value), BindsTo s fd ⟨[u], []⟩ [(x, u)]) ∧
        ∀ base : Heap, (K w.params).In base → base.Ns mainGlobals mg → FnOk l.prog w (K w.params) mg base (CX w) k fa fd [x] (sp w))
    (hsp : ∀ (w : World) (H : Hp) (a : Addr) (ns : List Int), ns.length ≤ n → Only H → SqL (K w.params) H a (ns.map V.int) → sp w [.ref a] H (fun v _ => v = .bl true) fun _ _ _ => False)
    (hCX : ∀ (w : World) (H : Hp) (s : Shared) (e : Value) (s' : Shared), CX w [] H s (fun _ _ _ => False) e s' → False) :
    PySem.W.WalkO q loose XP YP l.row.toRowW d [] (fun f vs => PySem.call f vs) := by
  refine Att.attach_call hn hdf fun w s₀ s₁ mg mb fa o pm cd doc a vs ns G Y ho hd hcd hmg hobj hints hlen hg => ?_
  have KX := hY w _ Y
  obtain ⟨fd, hb, hF⟩ := F w mg fa _ KX G.T.g hmg
  exact law_call KX G.T.g G.T.b G.T.builtins G.T.nolimit hg hobj hints (Nat.le_trans hlen hn2) hr hF hb (fun H hO hS => hsp w H a ns hlen hO hS) fun H e s' => hCX w H s₁ e s'

end L2




namespace L2
open PySem PySem.Spec PyProof.Rows





abbrev CX0 : CXT := fun _ _ _ _ _ _ => False
abbrev E0 : XK := fun _ _ _ => False
theorem pass0 {X : Cx} : Passes CX0 X E0 := fun _ _ _ _ _ _ _ h => h.elim


structure Fun (K : PySem.W.Frag) (x qual : Str) (st : Stmt) (f : Addr) (fd : FuncData) : Prop where
  ex : ∃ (oc : Value) (od : Option Addr) (kV doc pm : Value) (an : Option Addr) (cdv ct : Value) (osl : Array (Option Value)),
    fd = PySem.W.fnOf x qual (defArgs st) (defBody st) (defScope st) .none kV doc pm an cdv ct ∧ K.lookup f = some ⟨oc, od, .func fd, osl⟩ ∧ PySem.W.codeIn K cdv qual = true
  kp : PySem.W.keepIn K (.ref f) = true
section
variable {P : Program} {w : World} {K : PySem.W.Frag} {mg : Str → Option Value} {base : Heap}

theorem Fun.ok {x qual : Str} {st : Stmt} {f : Addr} {fd : FuncData} {N ps : List Str} {k : Nat} {sp : Sp} (F : Fun K x qual st f fd) (S : FnScope N ps (defScope st)) (len : ∀ vs H Q E, sp vs H Q E → vs.length = ps.length)
    (hbody : ∀ (cdv : Value) (A : Around) (outer : List Env) (s : Shared) (H : Hp) (vs : List V) (Q : VK) (E : XK), Room k (A.deeper (envOfC qual (defScope st) s.heap.objs.size f cdv)) → sp vs H Q E →
      ∃ t, PSs (cxOf CX0 P w K mg base N qual (defScope st) f cdv A outer s H E).nox (defBody st) t ∧ t { nx := fun _ H' => Q .non H', rt := Q } (start N vs) H) : FnOk P w K mg base CX0 (k + 1) f fd ps sp := by
  obtain ⟨oc, od, kV, doc, pm, an, cdv, ct, osl, rfl, lk, hcd⟩ := F.ex
  refine fn_of lk hcd S len fun A outer s H vs Q E hr hsp => ?_
  obtain ⟨t, h, q⟩ := hbody cdv A outer s H vs Q E hr hsp
  exact ⟨t, h.nox, q⟩

theorem Fun.binds {x qual : Str} {st : Stmt} {f : Addr} {fd : FuncData} {ps : List Str} (F : Fun K x qual st f fd)
    (h : ∀ (kV doc pm : Value) (an : Option Addr) (cdv ct : Value) (us : List Value), us.length = ps.length → bindArgs (PySem.W.fnOf x qual (defArgs st) (defBody st) (defScope st) .none kV doc pm an cdv ct) ⟨us, []⟩ = pure (ps.zip us)) : Binds K fd ps [] := by
  obtain ⟨oc, od, kV, doc, pm, an, cdv, ct, osl, rfl, lk, hcd⟩ := F.ex
  exact .all (h kV doc pm an cdv ct)
theorem fun_mk {x qual : Str} {st : Stmt} {f : Addr} {oc : Value} {od an : Option Addr} {osl : Array (Option Value)} {kV doc pm cdv ct : Value} (l : K.lookup f = some ⟨oc, od, .func (PySem.W.fnOf x qual (defArgs st) (defBody st) (defScope st) .none kV doc pm an cdv ct), osl⟩)
    (c : PySem.W.codeIn K cdv qual = true) (k : PySem.W.keepIn K (.ref f) = true) : Fun K x qual st f (PySem.W.fnOf x qual (defArgs st) (defBody st) (defScope st) .none kV doc pm an cdv ct) := ⟨⟨oc, od, kV, doc, pm, an, cdv, ct, osl, rfl, l, c⟩, k⟩
end
theorem small1000 {n : Nat} (h : n ≤ 1000) : n < sizeLine := Nat.lt_of_le_of_lt h (by decide)


section
variable {X : Cx}
theorem pv (i : Nat) {x : Str} {pos : Pos} (hN : X.N[i]? = some x := by rfl) (hv : Vis X.env.scope x := by first | exact Or.inl rfl | exact Or.inr (Or.inl rfl) | exact Or.inr (Or.inr rfl)) (hd : (x == ("__debug__" : Str)) = false := by decide)
    (hcd : (x == ("__classdict__" : Str)) = false := by decide) : PE X (.Name x pos) (tVar i) := pe_var hN hv hd hcd
end


theorem iteF {A B : Prop} (h : B) : if false = true then A else B := by
  rw [if_neg Bool.false_ne_true]
  exact h
theorem iteT {A B : Prop} (h : A) : if true = true then A else B := by
  rw [if_pos rfl]
  exact h
theorem ite2 {c A B : Prop} [Decidable c] (h1 : c → A) (h2 : ¬ c → B) : if c then A else B := by
  by_cases h : c
  · rw [if_pos h]
    exact h1 h
  · rw [if_neg h]
    exact h2 h
def Same (H H' : Hp) : Prop := ∀ b o, H b = some o → H' b = some o
theorem Same.refl (H : Hp) : Same H H := fun _ _ h => h
theorem Same.trans {H H1 H2 : Hp} (a : Same H H1) (b : Same H1 H2) : Same H H2 := fun c o h => b c o (a c o h)
theorem Same.seq {K : PySem.W.Frag} {H H' : Hp} {a : Addr} {xs : List V} (e : Same H H') (h : SqL K H a xs) : SqL K H' a xs := by
  rcases h with (h | ⟨o, h⟩) | h
  · exact .inl (.inl (e _ _ h))
  · exact .inl (.inr ⟨o, e _ _ h⟩)
  · exact .inr h

end L2
set_option maxHeartbeats 4000000
namespace L2
open PySem PySem.Spec PyProof.Rows


section
variable {prog : Program} {w : World} {A : Around} {R : Result → Shared → Prop} {s : Shared}
theorem comp_loop {elt target iter : Expr} {ifs : List Expr} {scope : Scope} {pos : Pos} {it acc : Value} {env : Env} (I : Nat → Shared → Prop)
    (turn : ∀ n s, I n s → wpAny (model prog w) A (pyNext it) (fun r s1 => match r with
      | none => R (.ok .next) s1
      | some v => wpAny (model prog w) A (letOwnedTupleGo target it v) (fun _ s1' => wpAny (model prog w) A (assign target env v) (fun _ s2 =>
          wpAny (model prog w) A (forIn ifs true fun c r => if r = true then do let ok ← isTrue c env (eval c env); pure (ForInStep.yield ok) else pure (ForInStep.yield r)) (fun ok s3 =>
            if ok = true then wpAny (model prog w) A (eval elt env) (fun x s4 =>
              wpAny (model prog w) A (call (.builtin "list.append") [acc, x]) (fun _ s5 => ∃ m, m < n ∧ I m s5) (fun _ _ => False) s4) (fun _ _ => False) s3
            else ∃ m, m < n ∧ I m s3) (fun _ _ => False) s2) (fun _ _ => False) s1') (fun _ _ => False) s1) (fun _ _ => False) s)
    (n : Nat) (h : I n s) :
    codeAny (model prog w) A (.compLoop (.ListComp elt [⟨target, iter, ifs, 0⟩] scope pos) 0 it acc env) R s := by
  refine codeAny_loop rfl I (fun n s hI => ?_) n h
  show wpAny _ A ((compTurn (.ListComp elt [⟨target, iter, ifs, 0⟩] scope pos) 0 it acc env).onRaise (fun x => do noteFrame x env; theTreesLotGoes x)) _ _ s
  refine wpAny_noted ?_
  rw [compTurn_list]
  refine wpAny_bind (wpAny_standAt (wpAny_bind (wpAny_mono (turn n s hI) (fun r s1 h1 => ?_) fun _ _ f => f.elim)))
  cases r with
  | none => exact wpAny_pure h1
  | some v =>
    refine wpAny_bind (wpAny_mono h1 (fun _ s1' h1' => ?_) fun _ _ f => f.elim)
    refine wpAny_bind (wpAny_mono h1' (fun _ s2 h2 => wpAny_bind (wpAny_mono h2 (fun ok s3 h3 => ?_) fun _ _ f => f.elim)) fun _ _ f => f.elim)
    cases ok with
    | false => exact wpAny_pure ⟨rfl, h3⟩
    | true =>
      exact wpAny_bind (wpAny_bind (wpAny_mono h3 (fun x s4 h4 => wpAny_bind (wpAny_mono h4 (fun _ s5 h5 => wpAny_pure (wpAny_pure ⟨rfl, h5⟩)) fun _ _ f => f.elim)) fun _ _ f => f.elim))
end


def clOf (env : Env) : List (Str × NameKind) → List (Str × Addr) → List (Str × Addr)
  | [], cs => cs
  | (n, k) :: r, cs => clOf env r (if (k == NameKind.free) = true then (match env.cells.lookup n with | some a => (n, a) :: cs | none => cs) else cs)
theorem closure_loop {env : Env} {f : Str × NameKind → List (Str × Addr) → Sem (ForInStep (List (Str × Addr)))}
    (hf : ∀ n k cs, f (n, k) cs = if (k == NameKind.free) = true then (do let a ← cellOf env n; pure (.yield ((n, a) :: cs))) else pure (.yield cs)) :
    ∀ (l : List (Str × NameKind)) (cs : List (Str × Addr)), (∀ y ∈ l, y.2 = .free → ∃ c, env.cells.lookup y.1 = some c) → forIn l cs f = pure (clOf env l cs)
  | [], cs, _ => by rw [List.forIn_nil]; rfl
  | (n, k) :: r, cs, h => by
    have hr : ∀ y ∈ r, y.2 = .free → ∃ c, env.cells.lookup y.1 = some c := fun y hy => h y (List.mem_cons_of_mem _ hy)
    rw [List.forIn_cons, hf]
    unfold clOf
    by_cases hk : (k == NameKind.free) = true
    · obtain ⟨c, hc⟩ := h (n, k) List.mem_cons_self (by simpa using hk)
      have hc' : env.cells.lookup n = some c := hc
      rw [if_pos hk, if_pos hk]
      simp only [cellOf, hc', pure_bind]
      exact closure_loop hf r _ hr
    · rw [if_neg hk, if_neg hk, pure_bind]
      exact closure_loop hf r _ hr
theorem closure_eq {env : Env} {scope : Scope} (h : ∀ y ∈ scope.names, y.2 = .free → ∃ c, env.cells.lookup y.1 = some c) : closureFor scope env = pure (clOf env scope.names []) := by
  simp only [closureFor]
  rw [closure_loop (env := env) (fun n k cs => by cases hk : k == NameKind.free <;> simp [hk]) scope.names [] h]
  rfl
theorem clOf_mem {env : Env} {x : Str} {c : Addr} : ∀ {l : List (Str × NameKind)} {cs : List (Str × Addr)}, (∀ z d, cs.lookup z = some d → env.cells.lookup z = some d) → (clOf env l cs).lookup x = some c → env.cells.lookup x = some c
  | [], _, hc, h => hc _ _ h
  | (n, k) :: r, cs, hc, h => by
    unfold clOf at h
    refine clOf_mem (l := r) ?_ h
    intro z d hz
    split at hz
    · split at hz
      · rename_i a ha
        rw [List.lookup_cons] at hz
        split at hz
        · rename_i e
          have e' : z = n := by simpa using e
          subst e'
          rw [ha]
          exact hz
        · exact hc z d hz
      · exact hc z d hz
    · exact hc z d hz
theorem clOf_get {env : Env} {x : Str} {c : Addr} (e : env.cells.lookup x = some c) : ∀ {l : List (Str × NameKind)} {cs : List (Str × Addr)}, (∀ z d, cs.lookup z = some d → env.cells.lookup z = some d) →
    ((x, NameKind.free) ∈ l ∨ ∃ d, cs.lookup x = some d) → (clOf env l cs).lookup x = some c
  | [], cs, hc, h => by
    rcases h with h | ⟨d, h⟩
    · simp at h
    · have := hc x d h
      rw [e] at this
      cases this
      exact h
  | (n, k) :: r, cs, hc, h => by
    unfold clOf
    have hc2 : ∀ z d, (if (k == NameKind.free) = true then (match env.cells.lookup n with | some a => (n, a) :: cs | none => cs) else cs).lookup z = some d → env.cells.lookup z = some d := by
      intro z d hz
      split at hz
      · split at hz
        · rename_i a ha
          rw [List.lookup_cons] at hz
          split at hz
          · rename_i e
            have e' : z = n := by simpa using e
            subst e'
            rw [ha]
            exact hz
          · exact hc z d hz
        · exact hc z d hz
      · exact hc z d hz
    refine clOf_get e (l := r) hc2 ?_
    have keep : ∀ d, cs.lookup x = some d → ∃ d, (if (k == NameKind.free) = true then (match env.cells.lookup n with | some a => (n, a) :: cs | none => cs) else cs).lookup x = some d := by
      intro d hd
      split
      · split
        · rename_i a ha
          rw [List.lookup_cons]
          split
          · exact ⟨_, rfl⟩
          · exact ⟨d, hd⟩
        · exact ⟨d, hd⟩
      · exact ⟨d, hd⟩
    rcases h with h | ⟨d, h⟩
    · rcases List.mem_cons.mp h with h | h
      · have e1 : x = n := congrArg Prod.fst h
        have e2 : k = NameKind.free := (congrArg Prod.snd h).symm
        subst e1 e2
        refine .inr ⟨c, ?_⟩
        rw [if_pos (by decide), e]
        simp [List.lookup_cons]
      · exact .inl h
    · exact .inr (keep d h)

theorem relabel_free {env : Env} : ∀ {names : List (Str × NameKind)} {x : Str} {k : NameKind},
    (names.map fun (n, k) => if (k == NameKind.free && env.scope.kind == .function && env.kindOf n == some .cell) then (n, NameKind.cell) else (n, k)).lookup x = some k → (k = .cell ∨ k = .free) → (∀ y ∈ names, y.2 ≠ .cell) → names.lookup x = some .free
  | [], _, _, h, _, _ => by simp at h
  | (n, k0) :: r, x, k, h, hk, hn => by
    have ih := @relabel_free env r x k
    have h' : List.lookup x ((if (k0 == NameKind.free && env.scope.kind == .function && env.kindOf n == some .cell) = true then (n, NameKind.cell) else (n, k0)) :: (r.map fun (n, k) => if (k == NameKind.free && env.scope.kind == .function && env.kindOf n == some .cell) then (n, NameKind.cell) else (n, k))) = some k := h
    cases hx : x == n with
    | true =>
      have go : List.lookup x ((n, k0) :: r) = some k0 := by simp [List.lookup_cons, hx]
      rw [go]
      by_cases hc : (k0 == NameKind.free && env.scope.kind == .function && env.kindOf n == some .cell) = true
      · have : k0 = NameKind.free := by
          simp only [Bool.and_eq_true] at hc
          simpa using hc.1.1
        rw [this]
      · rw [if_neg hc] at h'
        simp only [List.lookup_cons, hx] at h'
        cases h'
        rcases hk with hk | hk
        · exact absurd hk (hn _ List.mem_cons_self)
        · rw [hk]
    | false =>
      have go : List.lookup x ((n, k0) :: r) = List.lookup x r := by simp [List.lookup_cons, hx]
      rw [go]
      refine ih ?_ hk (fun y hy => hn y (List.mem_cons_of_mem _ hy))
      by_cases hc : (k0 == NameKind.free && env.scope.kind == .function && env.kindOf n == some .cell) = true
      · rw [if_pos hc] at h'
        simp only [List.lookup_cons, hx] at h'
        exact h'
      · rw [if_neg hc] at h'
        simp only [List.lookup_cons, hx] at h'
        exact h'
theorem relabel_of_free {env : Env} : ∀ {names : List (Str × NameKind)} {x : Str}, names.lookup x = some .free →
    (names.map fun (n, k) => if (k == NameKind.free && env.scope.kind == .function && env.kindOf n == some .cell) then (n, NameKind.cell) else (n, k)).lookup x = some .cell ∨
    (names.map fun (n, k) => if (k == NameKind.free && env.scope.kind == .function && env.kindOf n == some .cell) then (n, NameKind.cell) else (n, k)).lookup x = some .free
  | [], _, h => by simp at h
  | (n, k0) :: r, x, h => by
    have ih := @relabel_of_free env r x
    show List.lookup x ((if (k0 == NameKind.free && env.scope.kind == .function && env.kindOf n == some .cell) = true then (n, NameKind.cell) else (n, k0)) :: _) = _ ∨ List.lookup x ((if (k0 == NameKind.free && env.scope.kind == .function && env.kindOf n == some .cell) = true then (n, NameKind.cell) else (n, k0)) :: _) = _
    cases hx : x == n with
    | true =>
      simp only [List.lookup_cons, hx] at h
      by_cases hc : (k0 == NameKind.free && env.scope.kind == .function && env.kindOf n == some .cell) = true
      · rw [if_pos hc]
        left
        simp only [List.lookup_cons, hx]
      · rw [if_neg hc]
        right
        simp only [List.lookup_cons, hx]
        exact h
    | false =>
      simp only [List.lookup_cons, hx] at h
      by_cases hc : (k0 == NameKind.free && env.scope.kind == .function && env.kindOf n == some .cell) = true
      · rw [if_pos hc]
        simp only [List.lookup_cons, hx]
        exact ih h
      · rw [if_neg hc]
        simp only [List.lookup_cons, hx]
        exact ih h



def blk (X : Cx) (N : List Str) (scope : Scope) (C : Addr) (s : Shared) (H : Hp) (ex : List Addr) : Cx where
  prog := X.prog
  w := X.w
  K := X.K
  mg := X.mg
  base := X.base
  A := X.A
  N := N
  s₀ := s
  H₀ := H
  env := compEnvC scope (clOf X.env scope.names []) C X.env
  outer := X.stack
  stack := X.stack
  ex := ex
  fn := fun _ => false
  calm := X.calm
  pn := []
  xe := fun _ _ => False

structure BlkScope (sc : Scope) (N own cn : List Str) (ci : List Nat) (scope : Scope) : Prop where
  kind : scope.kind = .function
  nocell : ∀ y ∈ scope.names, y.2 ≠ .cell
  names : ∀ y ∈ scope.names, y.2 = .local → scope.names.lookup y.1 = some .local
  free : ∀ y ∈ scope.names, y.2 = .free → sc.names.lookup y.1 = some .cell ∨ sc.names.lookup y.1 = some .free
  cap : (cn.map fun x => (some x : Option Str)) = ci.map fun i => N[i]?
  capk : ∀ x ∈ cn, scope.names.lookup x = some .free
  nd : (own ++ cn).Nodup
def blkS (own : List Str) (ci : List Nat) (σ : St) : St := own.map (fun _ => none) ++ ci.map fun i => (σ[i]?).join

section
variable {X : Cx} {pins : List (Addr × Obj)} {σ : St} {H H2 : Hp} {s s2 : Shared} {sc : Scope} {N own cn : List Str} {ci : List Nat} {scope : Scope} {fp : List Addr}
theorem blk_cells (S : BlkScope sc N own cn ci scope) (hsc : X.env.scope = sc) (I : Inv X pins σ H s) : ∀ y ∈ scope.names, y.2 = .free → ∃ c, X.env.cells.lookup y.1 = some c := fun y hy hf => by
  refine I.ok.has y.1 ?_
  have := S.free y hy hf
  rw [← hsc] at this
  exact this
theorem blk_inv (S : BlkScope sc N own cn ci scope) (hsc : X.env.scope = sc) (hN : X.N = N) (I : Inv X pins σ H s) (hfp : ∀ b ∈ fp, FpOk X pins H b) (hlt : ∀ b ∈ fp, b < s.heap.objs.size) {h1 : Heap} {tk : Nat} {m : Str → Option Value}
    (hns : h1.Ns s.heap.objs.size m) (keep : ∀ b o, s.heap.get? b = some o → h1.get? b = some o) :
    Inv (blk X (own ++ cn) scope s.heap.objs.size s H fp) [] (blkS own ci σ) H { s with heap := h1, toks := tk } := by
  have ccl : ∀ x c, (clOf X.env scope.names []).lookup x = some c → X.env.cells.lookup x = some c := fun x c e => clOf_mem (fun z d h => by simp at h) e
  have cnl : cn.length = ci.length := by have := congrArg List.length S.cap; simpa using this
  refine ⟨⟨I.ok.mod, ?_, I.ok.glob, I.ok.blt, Nat.le_refl _, fun x y c e1 e2 => I.ok.inj x y c (ccl x c e1) (ccl y c e2), fun x hx => ?_, fun x c hf _ => ?_, I.ok.hd, I.ok.frames, .inl rfl, fun b hb => ⟨Nat.ne_of_lt (hlt b hb), fun x c e => (hfp b hb).2.2.2.2.1 x c (ccl x c e)⟩, I.bs, Nat.le_trans I.ok.bsz I.sz, fun b o e hb => ?_, fun b hb hb2 => ?_, I.stack, I.stkFree⟩,
    rfl, I.bare, Un.kept keep, ⟨m, hns, fun i x v e1 e2 e3 => ?_⟩, fun x c e => ?_, I.hok.fresh (Nat.le_refl _), fun x c e => I.freeC x c (ccl x c e), fun p hp => absurd (show p ∈ ([] : List (Addr × Obj)) from hp) (by simp), I.hok.kept keep, ?_⟩
  · exact S.kind
  · have hx' : (relabel scope X.env).names.lookup x = some .cell ∨ (relabel scope X.env).names.lookup x = some .free := hx
    have hfree : scope.names.lookup x = some .free := by
      rcases hx' with q | q
      · exact relabel_free q (.inl rfl) S.nocell
      · exact relabel_free q (.inr rfl) S.nocell
    have hm := PySem.mem_of_lookup hfree
    obtain ⟨c, hc⟩ := blk_cells S hsc I _ hm rfl
    exact ⟨c, clOf_get hc (fun z d h => by simp at h) (.inl hm)⟩
  · exact absurd hf (by show ¬ (false = true); decide)
  · rcases (hfp b hb).2.2.2.1 with z | z
    · exact I.ok.noex b o e z
    · exact absurd (Nat.lt_of_lt_of_le (Heap.lt_size (I.ok.bs b o e).1) z) (Nat.lt_irrefl _)
  · rcases List.mem_cons.mp (I.stkSub b hb2) with z | z
    · exact (hfp b hb).2.1 z
    · exact (hfp b hb).2.2.1 z
  · have e1' : (own ++ cn)[i]? = some x := e1
    unfold blkS at e2
    by_cases hi : i < own.length
    · rw [List.getElem?_append_left (by simpa using hi), List.getElem?_map] at e2
      cases q : own[i]? with
      | none => rw [q] at e2; cases e2
      | some z => rw [q] at e2; cases e2
    · rw [List.getElem?_append_right (by simpa using hi)] at e2
      rw [List.getElem?_append_right (by omega)] at e1'
      rw [List.length_map, List.getElem?_map] at e2
      cases q : ci[i - own.length]? with
      | none => rw [q] at e2; cases e2
      | some j =>
        rw [q] at e2
        have e2' : (σ[j]?).join = some v := Option.some.inj e2
        have e3' : σ[j]? = some (some v) := by
          cases z : σ[j]? with
          | none => rw [z] at e2'; cases e2'
          | some o => rw [z] at e2'; exact congrArg some e2'
        have hNj : X.N[j]? = some x := by
          have c1 := congrArg (fun l => l[i - own.length]?) S.cap
          simp only [List.getElem?_map, e1', q, Option.map_some] at c1
          rw [hN]
          exact (Option.some.inj c1).symm
        have hfree := S.capk x (List.mem_of_getElem? e1')
        have hm := PySem.mem_of_lookup hfree
        have hk := S.free _ hm rfl
        rw [← hsc] at hk
        have hvis : Vis X.env.scope x := .inr hk
        obtain ⟨m0, _, hl⟩ := I.loc
        obtain ⟨u, r, l⟩ := hl j x v hNj e3' hvis
        refine ⟨u, r, .inr ⟨relabel_of_free hfree, ?_⟩⟩
        rcases l with ⟨l, _⟩ | ⟨_, c, ec, z⟩
        · have l' : X.env.scope.names.lookup x = some .local := l
          rcases hk with hk | hk <;> (rw [hk] at l'; cases l')
        · refine ⟨c, clOf_get ec (fun z d h => by simp at h) (.inl hm), ?_⟩
          obtain ⟨o, ho, hd⟩ := z
          exact ⟨o, keep c o ho, hd⟩
  · obtain ⟨v, o, ho, hd⟩ := I.cell x c (ccl x c e)
    exact ⟨v, o, keep c o ho, hd⟩
  · show (blkS own ci σ).length = (own ++ cn).length
    unfold blkS
    rw [List.length_append, List.length_append, List.length_map, List.length_map, cnl]
end


def PTs (X : Cx) (ifs : List Expr) (t : TT) : Prop :=
  ∀ (pins : List (Addr × Obj)) (s : Shared) (σ : St) (H : Hp) (Q : Bool → Hp → Prop), Inv X pins σ H s → t σ H Q →
    wpAny (model X.prog X.w) X.A (forIn ifs true fun c r => if r = true then do let ok ← isTrue c X.env (eval c X.env); pure (ForInStep.yield ok) else pure (ForInStep.yield r)) (TP X pins σ Q) X.xe s
def tTrue : TT := fun _ H Q => Q true H
theorem pts_nil {X : Cx} : PTs X [] tTrue := fun _ _ _ H _ I h => wpAny_tests_nil ⟨H, I, h⟩
theorem pts_one {X : Cx} {c : Expr} {t : TT} (h : PT X c t) : PTs X [c] t := fun pins s σ H Q I q => wpAny_tests_one (h pins s σ H Q I q)


def LcW (J : It) (g : TG) (tt : TT) (te : TE) (D : Addr) (Q : Hp → Prop) (W : Nat → Nat → St → Hp → Prop) : Prop := ∀ i m σ H, W i m σ H →
  (J.stop i H ∧ Q H) ∨ (J.go i H ∧ ∀ x H1, J.yld i H x H1 → g x σ H1 fun σ2 H2 => tt σ2 H2 fun ok H3 => if ok = true then te σ2 H3 fun y H4 => ∃ ys, H4 D = some (.lst ys) ∧ ys.length < sizeLine ∧
    ∃ m', m' < m ∧ W (i + 1) m' σ2 (upd H4 D (.lst (ys ++ [y]))) else ∃ m', m' < m ∧ W (i + 1) m' σ2 H3)
def tLC (own : List Str) (ci : List Nat) (wi : TI) (g : TG) (tt : TT) (te : TE) : TE := fun σ H Q => wi σ H fun J H1 => ∀ D, H1 D = none →
  ∃ W : Nat → Nat → St → Hp → Prop, (∃ m, W 0 m (blkS own ci σ) (upd H1 D (.lst []))) ∧ LcW J g tt te D (Q (.ref D)) W

section
variable {X : Cx} {pins : List (Addr × Obj)} {σ : St} {H H2 : Hp} {s s2 : Shared} {sc : Scope} {N own cn : List Str} {ci : List Nat} {scope : Scope} {fp : List Addr}
  {elt tg iter : Expr} {ifs : List Expr} {pos : Pos} {g : TG} {tt : TT} {te : TE} {wi : TI}
theorem lc_block {it : Addr} {tn : Nat → Heap → Prop} {J : It} {Q : VK} {E : Value → Shared → Prop} {RR : Value → Addr → Result → Shared → Prop} (S : BlkScope sc N own cn ci scope) (hsc : X.env.scope = sc) (hN : X.N = N) (hc : X.calm = true)
    (I2 : Inv X pins σ H2 s2) (T : Turn X.prog X.w X.K tg J fp it tn) (st2 : tn 0 s2.heap) (f2 : ∀ b ∈ fp, FpOk X pins H2 b)
    (hg : ∀ C s H, PG (blk X (own ++ cn) scope C s H fp) tg g) (ht : ∀ C s H, PTs (blk X (own ++ cn) scope C s H fp) ifs tt) (he : ∀ C s H, PE (blk X (own ++ cn) scope C s H fp) elt te)
    (q : ∀ D, H2 D = none → ∃ W : Nat → Nat → St → Hp → Prop, (∃ m, W 0 m (blkS own ci σ) (upd H2 D (.lst []))) ∧ LcW J g tt te D (Q (.ref D)) W)
    (hRR : ∀ D C H' s', Inv X pins σ H' s' → Q (.ref D) H' → (∃ m, s'.heap.Ns C m) → FpOk X pins H' C → RR (.ref D) C (.ok .next) s') :
    wpAny (model X.prog X.w) X.A (newList []) (fun acc s3 => wpAny (model X.prog X.w) X.A (newFunctionEnv scope X.env.globals (clOf X.env scope.names []) [] X.env.qual none .none (some X.env)) (fun cenv s4 =>
      codeAny (model X.prog X.w) X.A (.compStart (.ListComp elt [⟨tg, iter, ifs, 0⟩] scope pos) 0 (.ref it) acc { cenv with scope := relabel scope X.env }) (RR acc cenv.locals) s4) E s3) E s2 := by
  refine wpAny_newObj_type (wpAny_newFunctionEnv S.nocell (by intro y hy; simp at hy) (fun h1 hns1 hsb1 => ?_) S.kind)
  dsimp only at hns1 hsb1 ⊢
  have I3 : Inv X pins σ (upd H2 s2.heap.objs.size (.lst [])) { s2 with heap := s2.heap.push { cls := .type "list", data := .seq ([] : List Value).toArray }, toks := s2.toks } := I2.lnew (its := []) (t' := s2.toks) .nil (Nat.zero_le _)
  have hD : H2 s2.heap.objs.size = none := I2.hok.fresh (Nat.le_refl _)
  have fpe : ∀ b ∈ fp, b < s2.heap.objs.size := fun b hb => by
    obtain ⟨o, e, _⟩ := T.obj _ _ st2 b hb
    exact Heap.lt_size e
  have f3 : ∀ b ∈ fp, FpOk X pins (upd H2 s2.heap.objs.size (.lst [])) b := fun b hb => ⟨by rw [upd_ne (Nat.ne_of_lt (fpe b hb))]; exact (f2 b hb).1, (f2 b hb).2⟩
  obtain ⟨W, ⟨m0, w0⟩, turn⟩ := q s2.heap.objs.size hD
  generalize hs3 : ({ s2 with heap := s2.heap.push { cls := .type "list", data := .seq ([] : List Value).toArray }, toks := s2.toks } : Shared) = s3 at I3
  have e3 : s3.heap = s2.heap.push { cls := .type "list", data := .seq ([] : List Value).toArray } := by rw [← hs3]
  have hsz3 : s3.heap.objs.size = s2.heap.objs.size + 1 := by rw [e3, Heap.size_push]
  have keep3 : ∀ b o, s2.heap.get? b = some o → s3.heap.get? b = some o := fun b o e => by rw [e3]; exact Heap.get?_push_of_some _ e
  have keep : ∀ b o, s3.heap.get? b = some o → h1.get? b = some o := fun b o e => by
    refine hsb1.extBut b o ?_ (Heap.get?_push_of_some _ (by rw [← e3]; exact e))
    have := Heap.lt_size e
    rw [e3] at this
    exact Nat.ne_of_lt this
  have hns : h1.Ns s3.heap.objs.size (fun x => ([] : List (Str × Value)).reverse.lookup x) := by rw [e3]; exact hns1
  have I4 := blk_inv (fp := fp) (tk := s2.toks + ([] : List (Str × Value)).length) S hsc hN I3 f3 (fun b hb => by rw [hsz3]; exact Nat.lt_succ_of_lt (fpe b hb)) hns keep
  have st4 : tn 0 h1 := T.keep _ _ _ st2 fun b hb o e => keep b o (keep3 b o e)
  have hC : (s2.heap.push { cls := .type "list", data := .seq ([] : List Value).toArray }).objs.size = s3.heap.objs.size := by rw [e3]
  have stat : ∀ {H' : Hp}, (∀ b ∈ fp, H' b = none) → ∀ b ∈ fp, FpOk (blk X (own ++ cn) scope s3.heap.objs.size s3 (upd H2 s2.heap.objs.size (.lst [])) fp) [] H' b := fun hn b hb =>
    ⟨hn b hb, Nat.ne_of_lt (by rw [hsz3]; exact Nat.lt_succ_of_lt (fpe b hb)), fun z => I4.ok.exfs b hb z, .inl hb, (I4.ok.exf b hb).2, fun p hp => absurd (show p ∈ ([] : List (Addr × Obj)) from hp) (by simp)⟩
  have loop : ∀ s4 : Shared, s4 = { s3 with heap := h1, toks := s2.toks + ([] : List (Str × Value)).length } →
      codeAny (model X.prog X.w) X.A (.compLoop (.ListComp elt [⟨tg, iter, ifs, 0⟩] scope pos) 0 (.ref it) (.ref s2.heap.objs.size) (compEnvC scope (clOf X.env scope.names []) s3.heap.objs.size X.env)) (RR (.ref s2.heap.objs.size) s3.heap.objs.size) s4 := by
    rintro s4 rfl
    refine comp_loop (fun n s' => ∃ i σ' H', Inv (blk X (own ++ cn) scope s3.heap.objs.size s3 (upd H2 s2.heap.objs.size (.lst [])) fp) [] σ' H' s' ∧ tn i s'.heap ∧ (∀ b ∈ fp, H' b = none) ∧ W i n σ' H') ?_ m0
      ⟨0, _, _, I4, st4, fun b hb => (f3 b hb).1, w0⟩
    rintro n s5 ⟨i, σ5, H5, I5, st5, fr5, w5⟩
    rcases turn i n σ5 H5 w5 with ⟨stop, qn⟩ | ⟨go, step⟩
    · refine thn (T.done (blk X (own ++ cn) scope s3.heap.objs.size s3 (upd H2 s2.heap.objs.size (.lst [])) fp) rfl rfl rfl hc i [] s5 σ5 H5 (fun _ _ => False) I5 (stat fr5) st5 stop) fun r s6 ⟨hr, I6⟩ => ?_
      subst hr
      refine hRR _ _ H5 s6 (I3.call' I6.os I6.base I6.hok I6.bare fun b hb => ⟨(f3 b hb).2.2.2.1, (f3 b hb).2.1, (f3 b hb).2.2.2.2.1, (f3 b hb).2.2.2.2.2⟩) qn (let ⟨m, hn, _⟩ := I6.loc; ⟨m, hn⟩) (I3.fpOk (Nat.le_refl _) I6.free)
    · refine thn (T.item (blk X (own ++ cn) scope s3.heap.objs.size s3 (upd H2 s2.heap.objs.size (.lst [])) fp) rfl rfl rfl hc i [] s5 σ5 H5 (fun _ _ => False) I5 (stat fr5) st5 go) fun r s6 ⟨u, hr, h6⟩ => ?_
      subst hr
      refine thn h6 fun _ s7 ⟨x, H7, I7, r7, y7, st7, fr7⟩ => ?_
      have I7' := I7.pinned (stat fr7) (T.obj _ _ st7)
      refine thn (hg _ _ _ _ s7 σ5 H7 x u _ I7' r7 (step x H7 y7)) fun _ s8 ⟨σ8, H8, I8, q8⟩ => ?_
      refine thn (ht _ _ _ _ s8 σ8 H8 _ I8 q8) fun ok s9 ⟨H9, I9, q9⟩ => ?_
      have again : ∀ {H' : Hp} {s' : Shared} {m' : Nat}, Inv (blk X (own ++ cn) scope s3.heap.objs.size s3 (upd H2 s2.heap.objs.size (.lst [])) fp) ([] ++ pinsAt fp s7.heap) σ8 H' s' → W (i + 1) m' σ8 H' →
          ∃ i σ' H', Inv (blk X (own ++ cn) scope s3.heap.objs.size s3 (upd H2 s2.heap.objs.size (.lst [])) fp) [] σ' H' s' ∧ tn i s'.heap ∧ (∀ b ∈ fp, H' b = none) ∧ W i m' σ' H' := fun {H' s' m'} I' w' => by
        refine ⟨i + 1, σ8, H', I'.unpinned, T.keep _ _ _ st7 fun b hb o e => (I'.pin (b, o) (List.mem_append_right _ (List.mem_append_right _ (mem_pinsAt hb e)))).1, fun b hb => ?_, w'⟩
        obtain ⟨o, e, _⟩ := T.obj _ _ st7 b hb
        exact (I'.pin (b, o) (List.mem_append_right _ (List.mem_append_right _ (mem_pinsAt hb e)))).2.1
      cases ok with
      | false =>
        obtain ⟨m', hm, w'⟩ := q9
        exact ⟨m', hm, again I9 w'⟩
      | true =>
        refine thn (he _ _ _ _ s9 σ8 H9 _ I9 q9) fun v s10 ⟨y, H10, I10, r10, ys, hDl, hz, m', hm, w'⟩ => ?_
        refine thn (mt_append _ s10 σ8 H10 (.ref s2.heap.objs.size) [y] (.ref s2.heap.objs.size) [v] (fun _ H11 => H11 = upd H10 s2.heap.objs.size (.lst (ys ++ [y]))) I10 rfl (.cons r10 .nil) ⟨_, ys, y, rfl, rfl, hDl, hz, rfl⟩) fun _ s11 ⟨_, H11, I11, _, e11⟩ => ?_
        subst e11
        exact ⟨m', hm, again I11 w'⟩
  have es : ({ s2 with heap := h1, toks := s2.toks + ([] : List (Str × Value)).length } : Shared) = { s3 with heap := h1, toks := s2.toks + ([] : List (Str × Value)).length } := by rw [← hs3]
  rw [hC]
  exact codeAny_compStart_list (loop _ es) (T.self _ 0 _ _ _ st4 (loop _ es))

theorem pe_lc (S : BlkScope sc N own cn ci scope) (hsc : X.env.scope = sc) (hN : X.N = N) (hc : X.calm = true) (hi : PI X tg iter wi)
    (hg : ∀ fp C s H, PG (blk X (own ++ cn) scope C s H fp) tg g) (ht : ∀ fp C s H, PTs (blk X (own ++ cn) scope C s H fp) ifs tt) (he : ∀ fp C s H, PE (blk X (own ++ cn) scope C s H fp) elt te)
    (hs : ∀ x, foldedSetIterable iter X.env x = pure x := by intro _; rfl) : PE X (.ListComp elt [⟨tg, iter, ifs, 0⟩] scope pos) (tLC own ci wi g tt te) := by
  intro pins s σ H Q I h
  rw [eval_ListComp]
  refine wpAny_comprehension_free (use := none) rfl hs (closure_eq (blk_cells S hsc I)) S.kind S.names (thn (hi pins s σ H _ I h) fun xv s1 h1 => thn h1 fun itv s2 h2 => ?_)
  obtain ⟨it, fp, tn, J, H2, e, I2, T, st2, f2, q⟩ := h2
  subst e
  refine lc_block (RR := fun acc C => compPost (model X.prog X.w) X.A X.xe none (EP X pins σ Q) acc C) S hsc hN hc I2 T st2 f2 (hg fp) (ht fp) (he fp) q ?_
  intro D C H' s' I' q' ⟨m, hn⟩ fC
  exact ⟨m, hn, fun h' hs' => ⟨.ref D, H', I'.turned (t' := s'.toks) (fun b o hb e => (hs'.2 b hb).trans e) fC.1 (Ne.symm (Ne.symm fC.2.1)) fC.2.2.2.1 fC.2.2.2.2.1 fC.2.2.2.2.2, rfl, q'⟩⟩


def tSetLC (i : Nat) (t : TE) : TS := fun D σ H => t σ H fun v H1 => D.nx (σ.set i (some v)) H1
theorem ps_setlc {i : Nat} {y : Str} {py spos : Pos} (S : BlkScope sc N own cn ci scope) (hsc : X.env.scope = sc) (hN : X.N = N) (hc : X.calm = true) (hi : PI X tg iter wi)
    (hg : ∀ fp C s H, PG (blk X (own ++ cn) scope C s H fp) tg g) (ht : ∀ fp C s H, PTs (blk X (own ++ cn) scope C s H fp) ifs tt) (he : ∀ fp C s H, PE (blk X (own ++ cn) scope C s H fp) elt te)
    (hnd : X.N.Nodup) (hiy : X.N[i]? = some y) (hy : X.env.scope.names.lookup y = some .local)
    (hsw : swapsWith (.ListComp elt [⟨tg, iter, ifs, 0⟩] scope pos) (some (.Name y py)) spos.line X.env = pure true)
    (hs : ∀ x, foldedSetIterable iter X.env x = pure x := by intro _; rfl) : PS X (.Assign [.Name y py] (.ListComp elt [⟨tg, iter, ifs, 0⟩] scope pos) spos) (tSetLC i (tLC own ci wi g tt te)) := by
  intro pins s σ H D I h
  rw [exec_Assign_Name_used _ _ _ _ hsw]
  refine wpAny_bind (wpAny_standAt (wpAny_bind ?_))
  show wpAny _ X.A (do let _ ← comprehension (.ListComp elt [⟨tg, iter, ifs, 0⟩] scope pos) scope X.env _ (newList []) false (eval iter X.env) (some (assign (.Name y py) X.env))) _ _ s
  refine wpAny_bind (wpAny_mono (wpAny_comprehension_free (use := some (assign (.Name y py) X.env)) (Q := fun _ s' => SP X pins D .next s') rfl hs (closure_eq (blk_cells S hsc I)) S.kind S.names
    (thn (hi pins s σ H _ I h) fun xv s1 h1 => thn h1 fun itv s2 h2 => ?_)) (fun _ s' hq => wpAny_pure (wpAny_pure hq)) fun _ _ e => e)
  obtain ⟨it, fp, tn, J, H2, e, I2, T, st2, f2, q⟩ := h2
  subst e
  refine lc_block (RR := fun acc C => compPost (model X.prog X.w) X.A X.xe (some (assign (.Name y py) X.env)) (fun _ s' => SP X pins D .next s') acc C) (Q := fun v H1 => D.nx (σ.set i (some v)) H1) S hsc hN hc I2 T st2 f2 (hg fp) (ht fp) (he fp) q ?_
  intro D' C H' s' I' q' ⟨m, hn⟩ fC
  refine wpAny_assign_Name (store_ok2 (v := .ref D') I' hnd hiy (.inl hy) rfl (fun s'' I'' ⟨a, hsb, ha⟩ => ?_) (.inr hy))
  have hCa : C ≠ a := by
    rcases ha with ha | ha
    · rw [ha]; exact fC.2.1
    · exact Ne.symm (fC.2.2.2.2.1 _ _ ha)
  exact ⟨m, hn.sameBut hsb hCa, fun h' hs' => ⟨_, H', I''.turned (t' := s''.toks) (fun b o hb e => (hs'.2 b hb).trans e) fC.1 fC.2.1 fC.2.2.2.1 fC.2.2.2.2.1 fC.2.2.2.2.2, q'⟩⟩
end


theorem lc_range {lo : Int} {n : Nat} {caps : St} {tt : TT} {te : TE} {D : Addr} {Q : Hp → Prop} {H1 : Hp} (Pv : Nat → List V → Hp → Prop) (hz : n ≤ sizeLine) (h0 : Pv 0 [] (upd H1 D (.lst []))) (hl : ∀ i ys H, Pv i ys H → ys.length ≤ i)
    (hs : ∀ i ys H (N : VK) (M : Hp → Prop), i < n → Pv i ys H → (∀ y H4, H4 D = some (.lst ys) → Pv (i + 1) (ys ++ [y]) (upd H4 D (.lst (ys ++ [y]))) → N y H4) → (∀ H3, Pv (i + 1) ys H3 → M H3) →
      tt (some (.int (lo + i)) :: caps) H fun ok H3 => if ok = true then te (some (.int (lo + i)) :: caps) H3 N else M H3)
    (hd : ∀ ys H, Pv n ys H → Q H) : ∃ W : Nat → Nat → St → Hp → Prop, (∃ m, W 0 m (none :: caps) (upd H1 D (.lst []))) ∧ LcW (Itr lo n) (gName 0) tt te D Q W := by
  refine ⟨fun i m σ H => m = n - i ∧ i ≤ n ∧ (∃ v, σ = v :: caps) ∧ ∃ ys, Pv i ys H, ⟨n, by simp, Nat.zero_le _, ⟨none, rfl⟩, [], h0⟩, ?_⟩
  rintro i m σ H ⟨rfl, hi, ⟨v, rfl⟩, ys, p⟩
  have hy := hl i ys H p
  by_cases hlt : i < n
  · refine .inr ⟨hlt, fun x H1 y => ?_⟩
    obtain ⟨e, y⟩ := y
    subst e y
    refine hs i ys _ _ _ hlt p (fun y H4 a c => ⟨ys, a, by omega, n - (i + 1), by omega, rfl, hlt, ⟨_, rfl⟩, _, c⟩) (fun H3 c => ⟨n - (i + 1), by omega, rfl, hlt, ⟨_, rfl⟩, ys, c⟩)
  · have e : i = n := by omega
    subst e
    exact .inl ⟨Nat.le_refl _, hd ys H p⟩
theorem lc_list {K : PySem.W.Frag} {a : Addr} {xs : List V} {caps : St} {tt : TT} {te : TE} {D : Addr} {Q : Hp → Prop} {H1 : Hp} (Pv : Nat → List V → Hp → Prop) (hz : xs.length ≤ sizeLine) (h0 : Pv 0 [] (upd H1 D (.lst []))) (hl : ∀ i ys H, Pv i ys H → ys.length ≤ i) (hq : ∀ i ys H, Pv i ys H → SqL K H a xs)
    (hs : ∀ i ys H (x : V) (N : VK) (M : Hp → Prop), xs[i]? = some x → Pv i ys H → (∀ y H4, H4 D = some (.lst ys) → Pv (i + 1) (ys ++ [y]) (upd H4 D (.lst (ys ++ [y]))) → N y H4) → (∀ H3, Pv (i + 1) ys H3 → M H3) →
      tt (some x :: caps) H fun ok H3 => if ok = true then te (some x :: caps) H3 N else M H3)
    (hd : ∀ ys H, Pv xs.length ys H → Q H) : ∃ W : Nat → Nat → St → Hp → Prop, (∃ m, W 0 m (none :: caps) (upd H1 D (.lst []))) ∧ LcW (Itl K a) (gName 0) tt te D Q W := by
  refine ⟨fun i m σ H => m = xs.length - i ∧ i ≤ xs.length ∧ (∃ v, σ = v :: caps) ∧ ∃ ys, Pv i ys H, ⟨xs.length, by simp, Nat.zero_le _, ⟨none, rfl⟩, [], h0⟩, ?_⟩
  rintro i m σ H ⟨rfl, hi, ⟨v, rfl⟩, ys, p⟩
  have hy := hl i ys H p
  by_cases hlt : i < xs.length
  · refine .inr ⟨⟨xs, xs[i], hq i ys H p, by simp [hlt]⟩, fun x H1 y => ?_⟩
    obtain ⟨e, y⟩ := y
    subst e
    have hx := y xs (hq i ys _ p)
    refine hs i ys _ x _ _ hx p (fun y H4 a c => ⟨ys, a, by omega, xs.length - (i + 1), by omega, rfl, hlt, ⟨_, rfl⟩, _, c⟩) (fun H3 c => ⟨xs.length - (i + 1), by omega, rfl, hlt, ⟨_, rfl⟩, ys, c⟩)
  · have e : i = xs.length := by omega
    subst e
    exact .inl ⟨⟨xs, hq _ ys H p, Nat.le_refl _⟩, hd ys H p⟩
theorem lc_tup {K : PySem.W.Frag} {a : Addr} {xs : List V} {caps : St} {tt : TT} {te : TE} {D : Addr} {Q : Hp → Prop} {H1 : Hp} (Pv : Nat → List V → Hp → Prop) (hz : xs.length ≤ sizeLine) (h0 : Pv 0 [] (upd H1 D (.lst []))) (hl : ∀ i ys H, Pv i ys H → ys.length ≤ i) (hq : ∀ i ys H, Pv i ys H → SqT K H a xs)
    (hs : ∀ i ys H (x : V) (N : VK) (M : Hp → Prop), xs[i]? = some x → Pv i ys H → (∀ y H4, H4 D = some (.lst ys) → Pv (i + 1) (ys ++ [y]) (upd H4 D (.lst (ys ++ [y]))) → N y H4) → (∀ H3, Pv (i + 1) ys H3 → M H3) →
      tt (some x :: caps) H fun ok H3 => if ok = true then te (some x :: caps) H3 N else M H3)
    (hd : ∀ ys H, Pv xs.length ys H → Q H) : ∃ W : Nat → Nat → St → Hp → Prop, (∃ m, W 0 m (none :: caps) (upd H1 D (.lst []))) ∧ LcW (Itt K a) (gName 0) tt te D Q W := by
  refine ⟨fun i m σ H => m = xs.length - i ∧ i ≤ xs.length ∧ (∃ v, σ = v :: caps) ∧ ∃ ys, Pv i ys H, ⟨xs.length, by simp, Nat.zero_le _, ⟨none, rfl⟩, [], h0⟩, ?_⟩
  rintro i m σ H ⟨rfl, hi, ⟨v, rfl⟩, ys, p⟩
  have hy := hl i ys H p
  by_cases hlt : i < xs.length
  · refine .inr ⟨⟨xs, xs[i], hq i ys H p, by simp [hlt]⟩, fun x H1 y => ?_⟩
    obtain ⟨e, y⟩ := y
    subst e
    have hx := y xs (hq i ys _ p)
    refine hs i ys _ x _ _ hx p (fun y H4 a c => ⟨ys, a, by omega, xs.length - (i + 1), by omega, rfl, hlt, ⟨_, rfl⟩, _, c⟩) (fun H3 c => ⟨xs.length - (i + 1), by omega, rfl, hlt, ⟨_, rfl⟩, ys, c⟩)
  · have e : i = xs.length := by omega
    subst e
    exact .inl ⟨⟨xs, hq _ ys H p, Nat.le_refl _⟩, hd ys H p⟩
end L2
namespace L2
open PySem PySem.Spec PyProof.Rows

section
variable {X : Cx}
theorem call_isinst : CallR X (.builtin "isinstance") (fun xs H Q => ∃ x n t b, xs = [x, .ty n] ∧ TyOf X.K H x t ∧ PySem.W.kitOne X.K t (.type n) = some b ∧ Q (.bl b) H) := by
  intro pins s σ H xs us Q I r h
  obtain ⟨x, n, t, b, rfl, ty, e, q⟩ := h
  obtain ⟨u, v, rfl, rx, ry⟩ := r.two
  cases (show v = Value.type n from ry)
  exact isinst_ok I rx ty e fun tk => ⟨.bl b, H, I.tok tk, rfl, q⟩

def eqsV : List V → List V → Bool
  | [], [] => true
  | x :: xs, y :: ys => eqV x y && eqsV xs ys
  | _, _ => false
theorem eqsV_range : ∀ (xs ys : List V), xs.length = ys.length → ((List.range xs.length).all fun i => eqV (xs.getD i .non) (ys.getD i .non)) = eqsV xs ys
  | [], [], _ => rfl
  | x :: xs, y :: ys, h => by
    have h' : xs.length = ys.length := by simpa using h
    rw [List.length_cons, List.range_succ_eq_map, List.all_cons, List.all_map]
    have e := eqsV_range xs ys h'
    show (eqV x y && (List.range xs.length).all fun i => eqV (xs.getD i .non) (ys.getD i .non)) = (eqV x y && eqsV xs ys)
    rw [e]
theorem eqsV_len : ∀ (xs ys : List V), xs.length ≠ ys.length → eqsV xs ys = false
  | [], [], h => absurd rfl h
  | [], _ :: _, _ => rfl
  | _ :: _, [], _ => rfl
  | x :: xs, y :: ys, h => by
    have e := eqsV_len xs ys (by simpa using h)
    show (eqV x y && eqsV xs ys) = false
    rw [e, Bool.and_false]
theorem items_eqAt {A : Around} {s : Shared} {xs ys : List V} {us ws : List Value} (rx : Vals xs us) (ry : Vals ys ws) (fx : xs.all flatV = true) (fy : ys.all flatV = true) :
    ∀ j (h1 : j < us.toArray.size) (h2 : j < ws.toArray.size), SeqAt.EqAt A.in1 s us.toArray[j] ws.toArray[j] (eqV (xs.getD j .non) (ys.getD j .non)) := by
  intro j h1 h2
  have l1 := rx.length
  have l2 := ry.length
  have h1' : j < xs.length := by rw [l1]; simpa using h1
  have h2' : j < ys.length := by rw [l2]; simpa using h2
  obtain ⟨u, eu, ru⟩ := rx.get (i := j) (x := xs[j]) (by simp [h1'])
  obtain ⟨v, ev, rv⟩ := ry.get (i := j) (x := ys[j]) (by simp [h2'])
  have e1 : us.toArray[j] = u := by
    have := List.getElem?_eq_some_iff.mp eu
    obtain ⟨_, q⟩ := this
    simpa using q
  have e2 : ws.toArray[j] = v := by
    have := List.getElem?_eq_some_iff.mp ev
    obtain ⟨_, q⟩ := this
    simpa using q
  have d1 : xs.getD j .non = xs[j] := by simp [List.getD, h1']
  have d2 : ys.getD j .non = ys[j] := by simp [List.getD, h2']
  rw [e1, e2, d1, d2]
  exact eqAt_V ru rv (List.all_eq_true.mp fx _ (List.getElem_mem h1')) (List.all_eq_true.mp fy _ (List.getElem_mem h2'))
def rEqL (K : PySem.W.Frag) : R2 := fun x y H Q => ∃ a b xs ys, x = .ref a ∧ y = .ref b ∧ SqL K H a xs ∧ SqL K H b ys ∧ xs.all flatV = true ∧ ys.all flatV = true ∧ Q (.bl (eqsV xs ys)) H
theorem op_eqL (hu : X.A.units < cLine) : OpR X (compareOp .Eq) (rEqL X.K) := by
  intro pins s σ H x y v u Q I rx ry h
  obtain ⟨a, b, xs, ys, rfl, rfl, ha, hb, fx, fy, q⟩ := h
  cases rx
  cases ry
  obtain ⟨us, ru, pu, _⟩ := I.list ha
  obtain ⟨ws, rw', pw, _⟩ := I.list hb
  have l1 := ru.length
  have l2 := rw'.length
  by_cases hl : xs.length = ys.length
  · refine SeqAt.eq_listAt pu.isList pw.isList (by simp; omega) hu (items_eqAt ru rw' fx fy) ?_
    refine fin_bl I q ?_
    rw [List.size_toArray, ← l1]
    exact (eqsV_range xs ys hl).symm
  · refine SeqAt.eq_list_lengthsAt pu.isList pw.isList (by simp; omega) hu ?_
    exact fin_bl I q (eqsV_len xs ys hl)
theorem Same.upd_free {H H' : Hp} {a : Addr} {o : HO} (s : Same H H') (n : H a = none) : Same H (upd H' a o) := fun b u e => by
  rw [upd_ne (ne_of_none e n)]
  exact s b u e

def tCut (t : TS) : TS := fun D σ H => ∃ M : St → Hp → Prop, t { D with nx := M } σ H ∧ ∀ σ' H', M σ' H' → D.nx σ' H'
theorem ps_cut {st : Stmt} {t : TS} (h : PS X st t) : PS X st (tCut t) := by
  intro pins s σ H D I ⟨M, h1, h2⟩
  refine thn (h pins s σ H _ I h1) fun f s' q => ?_
  cases f with
  | next =>
    obtain ⟨σ', H', I', m⟩ := q
    exact ⟨σ', H', I', h2 _ _ m⟩
  | brk => exact q
  | cont => exact q
  | ret u => exact q
end
end L2
namespace L2
open PySem PySem.Spec PyProof.Rows


section
variable {κ : Type} [DecidableEq κ]
end



section
variable {P : Program} {w : World} {H : Hp} {h : Heap} {a : Addr}
end


section
variable {X : Cx} {pins : List (Addr × Obj)} {σ : St} {H : Hp} {s : Shared} {a : Addr} {y v : V} {u r : Value} {o : Option V} {A : Around} {E : Value → Shared → Prop}

end

section
variable {X : Cx} {pins : List (Addr × Obj)} {σ : St} {H : Hp} {s : Shared} {a : Addr} {kvs : List (Key × V)} {k : Key} {u : Value} {A : Around} {E : Value → Shared → Prop}

end




section
variable {X : Cx} {o i e value : Expr} {pos pos' tpos : Pos} {td ty tv : TE}
end



section
variable {X : Cx} {pos : Pos}
end


structure M1 (X : Cx) (o : Expr) (m : Str) (apos : Pos) (e : Expr) (cpos : Pos) : Prop where
  base : attributeBase o m X.env (eval o X.env) = eval o X.env
  few : ((backTo cpos (starEach [e] X.env)).all (fun x => !x.1) && (backToKw cpos (keywordEach [] X.env)).all (fun x => x.1.isSome)
    && decide (([e] : List Expr).length + ([] : List Keyword).length + (if ([] : List Keyword).isEmpty then 0 else 1) < 30)) = true
  line : (apos.endLine == cpos.line) = true
  trees : backTo cpos (starEach [e] X.env) = [(false, eval e X.env)]
structure M2 (X : Cx) (o : Expr) (m : Str) (apos : Pos) (e f : Expr) (cpos : Pos) : Prop where
  base : attributeBase o m X.env (eval o X.env) = eval o X.env
  few : ((backTo cpos (starEach [e, f] X.env)).all (fun x => !x.1) && (backToKw cpos (keywordEach [] X.env)).all (fun x => x.1.isSome)
    && decide (([e, f] : List Expr).length + ([] : List Keyword).length + (if ([] : List Keyword).isEmpty then 0 else 1) < 30)) = true
  line : (apos.endLine == cpos.line) = true
  trees : backTo cpos (starEach [e, f] X.env) = [(false, eval e X.env), (false, eval f X.env)]


section
variable {X : Cx} {pins : List (Addr × Obj)} {σ : St} {H : Hp} {s : Shared} {a : Addr} {y d : V} {u r : Value} {o : Option V} {A : Around} {E : Value → Shared → Prop}

end

section
variable {X : Cx} {o e f : Expr} {apos cpos : Pos} {td ty tx : TE}
end


section
variable {X : Cx} {pins : List (Addr × Obj)} {σ : St} {H : Hp} {s : Shared} {a : Addr} {kvs : List (Key × V)} {A : Around} {E : Value → Shared → Prop}
end


section
variable {X : Cx} {pins : List (Addr × Obj)} {σ : St} {H : Hp} {s : Shared} {a : Addr} {y : V} {u : Value} {A : Around} {E : Value → Shared → Prop}

end
end L2
namespace L2
open PySem PySem.Spec PyProof.Rows

mutual
inductive DAt (K : PySem.W.Frag) (H : Hp) : V → PyData → Prop
  | non : DAt K H .non .none
  | bl (b : Bool) : DAt K H (.bl b) (.bool b)
  | int (i : Int) : DAt K H (.int i) (.int i)
  | str (x : Str) : DAt K H (.str x) (.str x)
  | lst {a : Addr} {xs : List V} {ds : List PyData} : SqL K H a xs → DsAt K H xs ds → DAt K H (.ref a) (.list ds)
  | tup {a : Addr} {xs : List V} {ds : List PyData} : SqT K H a xs → DsAt K H xs ds → DAt K H (.ref a) (.tuple ds)
inductive DsAt (K : PySem.W.Frag) (H : Hp) : List V → List PyData → Prop
  | nil : DsAt K H [] []
  | cons {x : V} {d : PyData} {xs : List V} {ds : List PyData} : DAt K H x d → DsAt K H xs ds → DsAt K H (x :: xs) (d :: ds)
end
section
variable {X : Cx} {pins : List (Addr × Obj)} {σ : St} {H : Hp} {s : Shared}
mutual
theorem DAt.reads (I : Inv X pins σ H s) : ∀ {x : V} {d : PyData} {u : Value}, DAt X.K H x d → RelV x u → ∃ as, Reads s.heap u d as
  | _, _, _, .non, r => by
    cases r
    exact ⟨_, .none⟩
  | _, _, _, .bl b, r => by
    cases r
    exact ⟨_, .bool b⟩
  | _, _, _, .int i, r => by
    obtain ⟨t, rfl⟩ := r
    exact ⟨_, .int i t⟩
  | _, _, _, .str x, r => by
    obtain ⟨t, rfl⟩ := r
    exact ⟨_, .str x t⟩
  | _, _, _, .lst hq ds, r => by
    cases r
    obtain ⟨its, rv, p, _⟩ := I.list hq
    obtain ⟨as, ra⟩ := DsAt.reads I ds rv
    obtain ⟨o, h1, h2, n, h3⟩ := p.isList
    exact ⟨_, .list h1 h2 h3 (by simpa using ra)⟩
  | _, _, _, .tup hq ds, r => by
    cases r
    obtain ⟨its, rv, p, _⟩ := I.tuple hq
    obtain ⟨as, ra⟩ := DsAt.reads I ds rv
    obtain ⟨o, h1, h2, n, h3⟩ := p
    exact ⟨_, .tuple h1 h2 h3 (by simpa using ra)⟩
theorem DsAt.reads (I : Inv X pins σ H s) : ∀ {xs : List V} {ds : List PyData} {us : List Value}, DsAt X.K H xs ds → Vals xs us → ∃ as, ReadsAll s.heap us ds as
  | _, _, _, .nil, r => by
    cases r
    exact ⟨_, .nil⟩
  | _, _, _, .cons d ds, r => by
    cases r with
    | cons r rs =>
      obtain ⟨as, ra⟩ := DAt.reads I d r
      obtain ⟨bs, rb⟩ := DsAt.reads I ds rs
      exact ⟨_, .cons ra rb⟩
end

def DOk (d : PyData) : Prop := d.canLay0 = true ∧ d.depth ≤ 40
def rEqD (K : PySem.W.Frag) (neg : Bool) : R2 := fun x y H Q => ∃ dx dy, DAt K H x dx ∧ DAt K H y dy ∧ DOk dx ∧ DOk dy ∧ Q (.bl (if neg then !PyData.eqv dx dy else PyData.eqv dx dy)) H
theorem op_neD (hu : X.A.units + 64 < cLine) : OpR X (compareOp .NotEq) (rEqD X.K true) := by
  intro pins s σ H x y v u Q I rx ry h
  obtain ⟨dx, dy, ax, ay, okx, oky, q⟩ := h
  obtain ⟨as, r1⟩ := ax.reads I rx
  obtain ⟨bs, r2⟩ := ay.reads I ry
  refine SeqAt.compareNe_reads r1 r2 okx.1 oky.1 ?_ (fin_bl I q rfl)
  have h1 := okx.2
  have h2 : min dx.depth dy.depth ≤ dx.depth := Nat.min_le_left _ _
  omega
def rInD (K : PySem.W.Frag) (neg : Bool) : R2 := fun x y H Q => ∃ p xs dx ds, y = .ref p ∧ (SqL K H p xs ∨ SqT K H p xs) ∧ DsAt K H xs ds ∧ DAt K H x dx ∧ DOk dx ∧ PyData.canLayAll0 ds = true ∧
  Q (.bl (if neg then !(ds.any fun d => PyData.eqv d dx) else ds.any fun d => PyData.eqv d dx)) H
theorem in_room {a b c : Nat} (hu : a + 64 < c) (h : b ≤ 40) (k : Nat) : a + 1 + min k b < c := by
  have h2 : min k b ≤ b := Nat.min_le_right _ _
  omega
theorem op_inD (hu : X.A.units + 64 < cLine) : OpR X (compareOp .In) (rInD X.K false) := by
  intro pins s σ H x y v u Q I rx ry h
  obtain ⟨p, xs, dx, ds, rfl, hp, ad, ax, okx, okd, q⟩ := h
  obtain ⟨bs, r2⟩ := ax.reads I rx
  rcases hp with hp | hp
  · obtain ⟨as, r1⟩ := (DAt.lst hp ad).reads I ry
    exact SeqAt.in_list_reads r1 r2 okd okx.1 (in_room hu okx.2 _) (fin_bl I q rfl)
  · obtain ⟨as, r1⟩ := (DAt.tup hp ad).reads I ry
    exact SeqAt.in_tuple_reads r1 r2 okd okx.1 (in_room hu okx.2 _) (fin_bl I q rfl)
def TSame (H H' : Hp) : Prop := ∀ b xs, H b = some (.tup xs) → H' b = some (.tup xs)
theorem Same.tups {H H' : Hp} (s : Same H H') : TSame H H' := fun b xs e => s b _ e
theorem TSame.upd_lst {H H' : Hp} {a : Addr} {ys : List V} {o : HO} (s : TSame H H') (h : H' a = some (.lst ys)) : TSame H (upd H' a o) := fun b xs e => by
  have q := s b xs e
  rw [upd_ne (ne_of q h (by intro z; cases z))]
  exact q
end
end L2
namespace L2
open PySem PySem.Spec PyProof.Rows
open AutoSeq1 (wpAny_loadPart')

section
variable {prog : Program} {w : World} {A : Around} {E : Value → Shared → Prop} {s : Shared}
end
section
variable {X : Cx} {pins : List (Addr × Obj)} {σ : St} {H : Hp} {s : Shared}

theorem Inv.turnedT {h' : Heap} {t' : Nat} {ch : List Addr} {T : Addr} {o : HO} (I : Inv X pins σ H s) (hc : ∀ b ∈ ch, FpOk X pins H b) (k : ∀ b u, b ∉ ch → s.heap.get? b = some u → h'.get? b = some u) (hT : s.heap.objs.size ≤ T) (new : ObjOk X.prog X.w (upd H T o) h' T o) :
    Inv X pins σ (upd H T o) { s with heap := h', toks := t' } := by
  have hn : H T = none := I.hok.fresh hT
  have nT : ∀ b u, s.heap.get? b = some u → b ≠ T := fun b u e => Nat.ne_of_lt (Nat.lt_of_lt_of_le (Heap.lt_size e) hT)
  have nc : ∀ b u, H b = some u → b ∉ ch := fun b u e z => by
    have := (hc b z).1
    rw [e] at this
    cases this
  refine I.step (g' := s.gens) (d' := s.drawn) (ch := ch) (fun b hb => ⟨(hc b hb).2.2.2.1, (hc b hb).2.1, (hc b hb).2.2.2.2.1, (hc b hb).2.2.2.2.2⟩) (fun b u _ _ z e _ => k b u z e) (fun b u _ _ z e _ => ⟨u.slots, k b u z e⟩)
    (fun b u _ e n => by rw [upd_ne (nT b u e)]; exact n) (fun b u z e => ⟨u, k b u z e⟩) (fun b xs q => by rw [upd_ne (ne_of_none q hn)]; exact q) (fun b u xs q => by rw [upd_ne (ne_of_none q hn)]; exact q)
    (fun b ps q => ⟨#[], by rw [upd_ne (ne_of_none q hn), q]; simp⟩) (fun m hm => ?_) (fun b u e => ?_) I.bare
  · obtain ⟨u, es, ep, ho, r⟩ := hm
    exact ⟨u, es, ep, k _ u (fun z => (hc _ z).2.1 rfl) ho, r⟩
  · by_cases hb : b = T
    · subst hb
      rw [upd_same] at e
      cases e
      exact new
    · rw [upd_ne hb] at e
      refine (I.hok b u e).stay (fun c v z q => k c v ?_ q) (fun c q => by rw [upd_ne (ne_of_none q hn)]; exact q) fun c xs q => by rw [upd_ne (ne_of_none q hn)]; exact q
      rcases z with z | z
      · rw [z]; exact nc b u e
      · exact nc c _ z
theorem Inv.turnedL {h' : Heap} {t' : Nat} {ch : List Addr} (I : Inv X pins σ H s) (hc : ∀ b ∈ ch, FpOk X pins H b) (k : ∀ b u, b ∉ ch → s.heap.get? b = some u → h'.get? b = some u) : Inv X pins σ H { s with heap := h', toks := t' } := by
  have nc : ∀ b u, H b = some u → b ∉ ch := fun b u e z => by
    have := (hc b z).1
    rw [e] at this
    cases this
  refine I.step (g' := s.gens) (d' := s.drawn) (ch := ch) (fun b hb => ⟨(hc b hb).2.2.2.1, (hc b hb).2.1, (hc b hb).2.2.2.2.1, (hc b hb).2.2.2.2.2⟩) (fun b u _ _ z e _ => k b u z e) (fun b u _ _ z e _ => ⟨u.slots, k b u z e⟩)
    (fun b u _ e n => n) (fun b u z e => ⟨u, k b u z e⟩) (fun b xs q => q) (fun b u xs q => q) (fun b ps q => ⟨#[], by rw [q]; simp⟩) (fun m hm => ?_) (fun b u e => ?_) I.bare
  · obtain ⟨u, es, ep, ho, r⟩ := hm
    exact ⟨u, es, ep, k _ u (fun z => (hc _ z).2.1 rfl) ho, r⟩
  · refine (I.hok b u e).stay (fun c v z q => k c v ?_ q) (fun c q => q) fun c xs q => q
    rcases z with z | z
    · rw [z]; exact nc b u e
    · exact nc c _ z
end

end L2
namespace L2
open PySem PySem.Spec PyProof.Rows
end L2
namespace L2
open PySem PySem.Spec PyProof.Rows

section
variable {X : Cx}
end
end L2
namespace L2
open PySem PySem.Spec PyProof.Rows


def Tx (n : Nat) (z : Str) : Prop := z.length ≤ n ∧ ∀ c ∈ z.cps.toList, c < 128
theorem Tx.mono {n m : Nat} {z : Str} (h : Tx n z) (k : n ≤ m) : Tx m z := ⟨Nat.le_trans h.1 k, h.2⟩
theorem Tx.ok {n : Nat} {z : Str} (h : Tx n z) : PyData.canLay0 (.str z) = true := by
  show PyData.strOk z = true
  unfold PyData.strOk
  rw [Array.all_eq_true_iff_forall_mem]
  intro c hc
  have q := h.2 c (by simpa using hc)
  exact decide_eq_true (by omega)
theorem Tx.app {n m : Nat} {y z : Str} (h : Tx n y) (k : Tx m z) : Tx (n + m) (y ++ z) := by
  refine ⟨by rw [Str.length_append]; exact Nat.add_le_add h.1 k.1, fun c hc => ?_⟩
  have e : (y ++ z).cps = y.cps ++ z.cps := rfl
  rw [e, Array.toList_append] at hc
  rcases List.mem_append.mp hc with q | q
  · exact h.2 c q
  · exact k.2 c q
theorem Tx.one {c : Nat} (h : c < 128) : Tx 1 (⟨#[c]⟩ : Str) := ⟨Nat.le_refl _, fun d hd => by
  have : d = c := by simpa using hd
  omega⟩
theorem Tx.slice {n : Nat} {z : Str} (h : Tx n z) (lo hi : Option Int) : Tx n (Txt.slice z lo hi) := by
  refine ⟨Nat.le_trans (Txt.slice_le z lo hi) h.1, fun c hc => ?_⟩
  unfold Txt.slice at hc
  split at hc
  · exact h.2 c hc
  · have hc' : c ∈ ((Builtin.Str.strSliceIndices lo hi 1 z.length).filterMap (z.cps[·]?)) := by simpa using hc
    obtain ⟨j, _, e⟩ := List.mem_filterMap.mp hc'
    exact h.2 c (by
      have := Array.mem_of_getElem? e
      simpa using this)
theorem join_tx (sep : Str) {n m : Nat} (hs : Tx m sep) : ∀ {ys : List Str}, (∀ y ∈ ys, Tx n y) → Tx (ys.length * (n + m)) (Str.join sep ys)
  | [], _ => ⟨Nat.zero_le _, fun c hc => by
    have : c ∈ ([] : List Nat) := hc
    simp at this⟩
  | [x], h => by
    have q : Tx n (Str.join sep [x]) := h x List.mem_cons_self
    exact q.mono (by rw [List.length_singleton]; omega)
  | x :: y :: r, h => by
    have q := join_tx sep hs (ys := y :: r) fun z hz => h z (List.mem_cons_of_mem _ hz)
    have e : Str.join sep (x :: y :: r) = x ++ sep ++ Str.join sep (y :: r) := rfl
    rw [e]
    refine (((h x List.mem_cons_self).app hs).app q).mono ?_
    simp only [List.length_cons, Nat.succ_mul]
    omega
section
variable {X : Cx}

def Its (z : Str) : It := ⟨fun i _ => i < z.length, fun i H x H' => H' = H ∧ ∃ c, z.cps[i]? = some c ∧ x = .str ⟨#[c]⟩, fun i _ => z.length ≤ i⟩
theorem turn_strA {P : Program} {w : World} {K : PySem.W.Frag} {tg : Expr} (z : Str) (t : Tok) (it : Addr) : Turn P w K tg (Its z) [it] it (fun i h => h.IsStrIter it "str_ascii_iterator" z t i) where
  mem := by simp
  obj := fun i h st b hb => by
    have e : b = it := by simpa using hb
    subst e
    obtain ⟨o, e, c, d⟩ := st
    exact ⟨o, e, fun v q => by rw [d] at q; cases q⟩
  keep := fun i h h' st k => let ⟨o, ho, r⟩ := st; ⟨o, k it (by simp) o ho, r⟩
  item := by
    intro Y hP hw hK hc i pins s σ H E I hf st hg
    subst hP hw hK
    have hlt : i < z.cps.size := hg
    obtain ⟨f0, f1, f2, f3, f4, f5⟩ := hf it (by simp)
    have hx : z.cps[i]? = some z.cps[i] := by simp [hlt]
    refine wpAny_pyNext_ascii_item st hx fun h' st' sb => ?_
    have I1 : Inv Y pins σ H { s with heap := h', toks := s.toks + 1 } := I.turned (fun b o hb e => (sb.2 b hb).trans e) f0 f1 f3 f4 f5
    obtain ⟨o, e, c, d⟩ := id st'
    exact ⟨_, rfl, go_of (s := { s with heap := h', toks := s.toks + 1 }) e c d (by decide) ⟨.str ⟨#[z.cps[i]]⟩, H, I1, ⟨_, rfl⟩, ⟨rfl, _, hx, rfl⟩, st', fun b hb => (hf b hb).1⟩⟩
  done := by
    intro Y hP hw hK hc i pins s σ H E I hf st hg
    subst hP hw hK
    obtain ⟨f0, f1, f2, f3, f4, f5⟩ := hf it (by simp)
    have hle : z.cps.size ≤ i := hg
    exact wpAny_pyNext_ascii_end (I.ok.hd hc) st (by simp; omega) fun h' eb => ⟨rfl, I.turned (t' := s.toks) (fun b o hb e => eb b o hb e) f0 f1 f3 f4 f5⟩
  self := fun A i s Q E st h => by
    refine wpAny_pyIter_slot st.typeIs F.slot_str_ascii_iterator_iter (wpAny_call_entry F.slot_str_ascii_iterator_iter st.typeIs F.entry_str_ascii_iterator_iter ?_ (F.args_str_ascii_iterator_iter_1 _))
    show wpAny _ _ (ret (.ref it)) _ _ s
    exact wpAny_pure ⟨_, rfl, "str_ascii_iterator", _, st.typeIs, F.slot_str_ascii_iterator_next.lookup, h⟩
def iStr (tl : TE) : TI := fun σ H R => tl σ H fun x H1 => ∃ z n, x = .str z ∧ Tx n z ∧ R (Its z) H1
theorem Tx.ascii {n : Nat} {z : Str} (h : Tx n z) : z.cps.all (· < 128) = true := by
  rw [Array.all_eq_true_iff_forall_mem]
  intro c hc
  exact decide_eq_true (h.2 c (by simpa using hc))
theorem pi_str {tg l : Expr} {tl : TE} (hl : PE X l tl) : PI X tg l (iStr tl) := by
  intro pins s σ H R I h
  refine thn (hl pins s σ H _ I h) fun v s1 ⟨x, H1, I1, r1, q1⟩ => ?_
  obtain ⟨z, n, e, tx, q⟩ := q1
  subst e
  obtain ⟨t, rfl⟩ := r1
  refine wpAny_pyIter_ascii tx.ascii ?_
  refine ⟨s1.heap.objs.size, [s1.heap.objs.size], _, _, H1, rfl, I1.kept (t' := s1.toks) fun b o e => Heap.get?_push_of_some _ e, turn_strA z t _, ⟨_, Heap.get?_push_size _ rfl, rfl, rfl⟩, fun b hb => ?_, q⟩
  have e : b = s1.heap.objs.size := by simpa using hb
  subst e
  exact I1.fpOk (Nat.le_refl _) (I1.hok.fresh (Nat.le_refl _))
theorem strsAre_of {ys : List Str} : ∀ {us : List Value}, Vals (ys.map V.str) us → StrsAre us ys := by
  induction ys with
  | nil => intro us r; rw [List.map_nil] at r; cases r; exact .nil
  | cons y ys ih =>
    intro us r
    rw [List.map_cons] at r
    cases r with
    | cons r1 r2 =>
      obtain ⟨t, e⟩ := r1
      subst e
      exact .cons y t (ih r2)

def rJoin (K : PySem.W.Frag) : V → List V → Hp → VK → Prop := fun x xs H Q => ∃ sep l ys, x = .str sep ∧ xs = [.ref l] ∧ SqL K H l (ys.map V.str) ∧ (ys.map (·.length)).sum + ys.length * sep.length ≤ 16777216 ∧ Q (.str (Str.join sep ys)) H
theorem mt_join : MtR X "str.join" (rJoin X.K) := by
  intro pins s σ H x xs v us Q I rx rs h
  obtain ⟨sep, l, ys, rfl, rfl, hl, hz, q⟩ := h
  obtain ⟨t, rfl⟩ := rx
  obtain ⟨u, rfl, ru⟩ := rs.one
  cases ru
  obtain ⟨its, rv, p, _⟩ := I.list hl
  refine join_list p.isList (strsAre_of (by simpa using rv)) hz fun t' k => ?_
  have e : Txt.join sep ys = Str.join sep ys := StrLaws.glued_eq_join sep ys
  rw [e]
  exact ⟨.str _, H, I.tok k, ⟨_, rfl⟩, q⟩
theorem sum_le {n : Nat} : ∀ {ys : List Str}, (∀ y ∈ ys, Tx n y) → (ys.map (·.length)).sum ≤ ys.length * n
  | [], _ => Nat.zero_le _
  | y :: ys, h => by
    have q := sum_le (n := n) (ys := ys) fun z hz => h z (List.mem_cons_of_mem _ hz)
    have q1 := (h y List.mem_cons_self).1
    rw [List.map_cons, List.sum_cons, List.length_cons, Nat.succ_mul]
    omega

def rSlS : V → Option Int → Option Int → Hp → VK → Prop := fun x lo hi H Q => ∃ z, x = .str z ∧ z.length ≤ sizeLine ∧ Q (.str (Txt.slice z lo hi)) H
theorem part_tok {v : Value} {o : Option Int} (p : IsPart v o) : ∃ l : Option (Int × Tok), v = partValue l ∧ l.map (·.1) = o := by
  cases p with
  | none => exact ⟨none, rfl, rfl⟩
  | int i t => exact ⟨some (i, t), rfl, rfl⟩
theorem sl_str : SlR X rSlS := by
  intro pins s σ H x v vl vu lo hi sl Q I rx hs pl pu h
  obtain ⟨z, rfl, hz, q⟩ := h
  obtain ⟨t, rfl⟩ := rx
  obtain ⟨l, rfl, rfl⟩ := part_tok pl
  obtain ⟨u, rfl, rfl⟩ := part_tok pu
  refine ⟨"str", _, F.slot_str_getitem.lookup, typeIs_str _ _ _, wpAny_getItem_str_slice (l := l) (u := u) (st := none) hs rfl ?_⟩
  refine post_val_or_str ⟨Nat.le_trans (Txt.slice_le z _ _) hz, fun t' k => ?_⟩
  exact ⟨.str _, H, I.tok k, ⟨_, rfl⟩, q⟩

def rCatL (K : PySem.W.Frag) : R2 := fun x y H Q => ∃ l b xs zs, x = .ref l ∧ y = .ref b ∧ SqL K H l xs ∧ SqL K H b zs ∧ xs.length + zs.length ≤ sizeLine ∧ ∀ p, H p = none → Q (.ref p) (upd H p (.lst (xs ++ zs)))
theorem op_catL : OpR X (binaryOp .Add) (rCatL X.K) := by
  intro pins s σ H x y v u Q I rx ry h
  obtain ⟨l, b, xs, zs, rfl, rfl, ha, hb, hz, q⟩ := h
  cases rx
  cases ry
  obtain ⟨us, ru, pu, _⟩ := I.list ha
  obtain ⟨ws, rw', pw, _⟩ := I.list hb
  have l1 := ru.length
  have l2 := rw'.length
  obtain ⟨⟨cls, dd, data, sl⟩, n, ho, hc, hdd, hd⟩ := id pu
  obtain ⟨⟨cls2, dd2, data2, sl2⟩, n2, ho2, hc2, hdd2, hd2⟩ := id pw
  simp only at hc hd hc2 hd2
  subst hc hd hc2 hd2
  have st := list_addW l b us.toArray ws.toArray n n2 dd dd2 sl sl2 (by rw [List.size_toArray, List.size_toArray]; omega)
  refine concat_meets ⟨_, ho, rfl⟩ ⟨_, ho2, rfl⟩ noFill_list_add seq_list_add PySem.F.slot_list_add PySem.F.entry_list_add (PySem.F.args_list_add_2 _ _) st ⟨ho, ho2, ?_⟩
  have ea : us.toArray ++ ws.toArray = (us ++ ws).toArray := by simp
  rw [ea]
  exact ⟨.ref _, _, I.lnew (t' := s.toks) (ru.append rw') (by rw [List.length_append]; omega), rfl, q _ I.fresh⟩
end

theorem lc_str {z : Str} {caps : St} {tt : TT} {te : TE} {D : Addr} {Q : Hp → Prop} {H1 : Hp} (Pv : Nat → List V → Hp → Prop) (hz : z.length ≤ sizeLine) (h0 : Pv 0 [] (upd H1 D (.lst []))) (hl : ∀ i ys H, Pv i ys H → ys.length ≤ i)
    (hs : ∀ i ys H (c : Nat) (N : VK) (M : Hp → Prop), z.cps[i]? = some c → Pv i ys H → (∀ y H4, H4 D = some (.lst ys) → Pv (i + 1) (ys ++ [y]) (upd H4 D (.lst (ys ++ [y]))) → N y H4) → (∀ H3, Pv (i + 1) ys H3 → M H3) →
      tt (some (.str ⟨#[c]⟩) :: caps) H fun ok H3 => if ok = true then te (some (.str ⟨#[c]⟩) :: caps) H3 N else M H3)
    (hd : ∀ ys H, Pv z.length ys H → Q H) : ∃ W : Nat → Nat → St → Hp → Prop, (∃ m, W 0 m (none :: caps) (upd H1 D (.lst []))) ∧ LcW (Its z) (gName 0) tt te D Q W := by
  refine ⟨fun i m σ H => m = z.length - i ∧ i ≤ z.length ∧ (∃ v, σ = v :: caps) ∧ ∃ ys, Pv i ys H, ⟨z.length, by simp, Nat.zero_le _, ⟨none, rfl⟩, [], h0⟩, ?_⟩
  rintro i m σ H ⟨rfl, hi, ⟨v, rfl⟩, ys, p⟩
  have hy := hl i ys H p
  by_cases hlt : i < z.length
  · refine .inr ⟨hlt, fun x H1 y => ?_⟩
    obtain ⟨e, c, hc, y⟩ := y
    subst e y
    exact hs i ys _ c _ _ hc p (fun y H4 a c => ⟨ys, a, by omega, z.length - (i + 1), by omega, rfl, hlt, ⟨_, rfl⟩, _, c⟩) (fun H3 c => ⟨z.length - (i + 1), by omega, rfl, hlt, ⟨_, rfl⟩, ys, c⟩)
  · have e : i = z.length := by omega
    subst e
    exact .inl ⟨Nat.le_refl _, hd ys H p⟩
end L2
namespace L2
open PySem PySem.Spec PyProof.Rows PySem.Builtin.Str
section
variable {X : Cx}

def rSplit : V → List V → Hp → VK → Prop := fun x xs H Q => ∃ z y : Str, x = .str z ∧ xs = [.str y] ∧ (y.length == 0) = false ∧ z.length ≤ sizeLine ∧ (partsBetween z (occurrences z y 0 z.length (z.length + 1)) y.length).length ≤ sizeLine ∧
  (Txt.split z y).length ≤ sizeLine ∧ ∀ p, H p = none → Q (.ref p) (upd H p (.lst ((Txt.split z y).map V.str)))
theorem strs_vals : ∀ l : List (Str × Tok), Vals ((l.map (·.1)).map V.str) (strValues l)
  | [] => .nil
  | (x, t) :: l => .cons ⟨t, rfl⟩ (strs_vals l)
theorem mt_split : MtR X "str.split" rSplit := by
  intro pins s σ H x xs v us Q I rx rs h
  obtain ⟨z, y, rfl, rfl, hy, hz, hz2, hz3, q⟩ := h
  obtain ⟨t, rfl⟩ := rx
  obtain ⟨u0, rfl, ru⟩ := rs.one
  obtain ⟨u, rfl⟩ := ru
  have fin : ∀ (l : List (Str × Tok)) (tk : Nat), l.map (·.1) = Txt.split z y → EP X pins σ Q (.ref s.heap.objs.size) { s with heap := s.heap.push { cls := .type "list", data := .seq (strValues l).toArray }, toks := tk } := fun l tk e => by
    have hv := strs_vals l
    rw [e] at hv
    exact ⟨.ref _, _, I.lnew (t' := tk) hv (by rw [List.length_map]; exact hz3), rfl, q _ I.fresh⟩
  cases h1 : (decide (z.length < y.length) || decide (strKind z < strKind y))
  · cases hf : (occurrences z y 0 z.length (z.length + 1)).isEmpty
    · refine call_meets F.slot_str_split (typeIs_str _ _ _) F.entry_str_split (F.args_str_split_2 _ _) (meets_str_split_sep z y t u h1 hy hf hz hz2) ?_
      show wants _ _ _ { s with toks := _, heap := s.heap.push { cls := .type "list", data := .seq (strsFrom s.toks (partsBetween z (occurrences z y 0 z.length (z.length + 1)) y.length)).toArray } }
      rw [strsFrom_eq]
      exact fin (numbered s.toks _) _ ((numbered_texts _ _).trans ((if_neg (ne_true_of_eq_false h1)).trans (if_neg (ne_true_of_eq_false hf))).symm)
    · exact call_meets F.slot_str_split (typeIs_str _ _ _) F.entry_str_split (F.args_str_split_2 _ _) (meets_str_split_not_found z y t u h1 hy hf) (fin [(z, t)] s.toks ((if_neg (ne_true_of_eq_false h1)).trans (if_pos hf)).symm)
  · exact call_meets F.slot_str_split (typeIs_str _ _ _) F.entry_str_split (F.args_str_split_2 _ _) (meets_str_split_cannot_occur z y t u h1) (fin [(z, t)] s.toks (if_pos h1).symm)
def rStarts : V → List V → Hp → VK → Prop := fun x xs H Q => ∃ z y : Str, x = .str z ∧ xs = [.str y] ∧ Q (.bl (Txt.startswith z y)) H
theorem mt_starts : MtR X "str.startswith" rStarts := by
  intro pins s σ H x xs v us Q I rx rs h
  obtain ⟨z, y, rfl, rfl, q⟩ := h
  obtain ⟨t, rfl⟩ := rx
  obtain ⟨u0, rfl, ru⟩ := rs.one
  obtain ⟨u, rfl⟩ := ru
  exact SC.startswith ⟨.bl _, H, I, rfl, q⟩
def rEnds : V → List V → Hp → VK → Prop := fun x xs H Q => ∃ z y : Str, x = .str z ∧ xs = [.str y] ∧ Q (.bl (Txt.endswith z y)) H
theorem mt_ends : MtR X "str.endswith" rEnds := by
  intro pins s σ H x xs v us Q I rx rs h
  obtain ⟨z, y, rfl, rfl, q⟩ := h
  obtain ⟨t, rfl⟩ := rx
  obtain ⟨u0, rfl, ru⟩ := rs.one
  obtain ⟨u, rfl⟩ := ru
  exact SC.endswith ⟨.bl _, H, I, rfl, q⟩

theorem split_len (z y : Str) : (Txt.split z y).length ≤ z.length + 2 := by
  unfold Txt.split
  split
  · show 1 ≤ _
    omega
  · split
    · show 1 ≤ _
      omega
    · rw [length_partsBetween]
      have e1 := StrLaws.occ_length_le z y 0 z.length (z.length + 1)
      omega
theorem parts_len (z y : Str) : (partsBetween z (occurrences z y 0 z.length (z.length + 1)) y.length).length ≤ z.length + 2 := by
  rw [length_partsBetween]
  have e1 := StrLaws.occ_length_le z y 0 z.length (z.length + 1)
  omega
end
end L2
namespace SL
open PySem PySem.Builtin.Str L2

def spStep (c : Nat) (s : List Str × Str) (x : Nat) : List Str × Str := if x = c then (s.1 ++ [s.2], Str.empty) else (s.1, s.2 ++ ⟨#[x]⟩)
def spWalk (c : Nat) (l : List Nat) : List Str × Str := l.foldl (spStep c) ([], Str.empty)
def spl (c : Nat) (l : List Nat) : List Str := (spWalk c l).1 ++ [(spWalk c l).2]
theorem spWalk_snoc (c : Nat) (l : List Nat) (x : Nat) : spWalk c (l ++ [x]) = spStep c (spWalk c l) x := by
  unfold spWalk
  rw [List.foldl_append]
  rfl
theorem occ_one (z : Str) (c : Nat) (hi limit : Nat) : ∀ (k i : Nat) (st : Array Nat × Nat), st.2 ≤ i → st.1.size + k ≤ limit →
    (forIn (List.range' i k) st (StrLaws.occBody z ⟨#[c]⟩ hi limit)).run.fst.toList = st.1.toList ++ (List.range' i k).filter fun j => decide (j + (⟨#[c]⟩ : Str).length ≤ hi ∧ subAt z ⟨#[c]⟩ j = true)
  | 0, i, st, _, _ => by
    rw [show List.range' i 0 = [] from rfl, List.filter_nil, List.append_nil]
    rfl
  | k + 1, i, st, h1, h2 => by
    rw [List.range'_succ, List.forIn_cons, List.filter_cons]
    unfold StrLaws.occBody
    by_cases hc : i + (⟨#[c]⟩ : Str).length ≤ hi ∧ subAt z ⟨#[c]⟩ i = true
    · rw [if_pos ⟨⟨⟨by omega, h1⟩, hc.1⟩, hc.2⟩, if_pos (decide_eq_true hc)]
      refine (occ_one z c hi limit k (i + 1) (st.1.push i, i + 1) (Nat.le_refl _) (by rw [Array.size_push]; omega)).trans ?_
      rw [Array.toList_push, List.append_assoc]
      rfl
    · rw [if_neg (fun y => hc ⟨y.1.2, y.2⟩), if_neg (by rw [decide_eq_false hc]; nofun)]
      exact occ_one z c hi limit k (i + 1) st (by omega) (by omega)
def cutsTo (z : Str) (c k : Nat) : List Nat := (List.range' 0 k).filter fun j => decide (z.cps.toList[j]? = some c)
theorem occ_cuts (z : Str) (c : Nat) : occurrences z ⟨#[c]⟩ 0 z.length (z.length + 1) = cutsTo z c z.length := by
  rw [StrLaws.occ_eq, occ_one z c _ _ _ 0 (#[], 0) (Nat.le_refl _) (by show 0 + (z.length + 1 - 0) ≤ _; omega)]
  show [] ++ _ = _
  rw [List.nil_append, show z.length + 1 - 0 = z.length + 1 from rfl, List.range'_concat, List.filter_append]
  unfold cutsTo
  have e : ∀ j, decide (j + (⟨#[c]⟩ : Str).length ≤ z.length ∧ subAt z ⟨#[c]⟩ j = true) = decide (z.cps.toList[j]? = some c) := fun j => decide_eq_decide.mpr (StrLaws.subAt_one z c j)
  have e2 : z.cps.toList[z.length]? = none := List.getElem?_eq_none (by rw [Array.length_toList]; exact Nat.le_refl _)
  rw [show (fun j => decide (j + (⟨#[c]⟩ : Str).length ≤ z.length ∧ subAt z ⟨#[c]⟩ j = true)) = (fun j => decide (z.cps.toList[j]? = some c)) from funext e]
  rw [show 0 + 1 * z.length = z.length by omega, List.filter_cons, if_neg (by rw [e2]; nofun), List.filter_nil, List.append_nil]
inductive Cut (z : Str) : List Nat → List Str → Nat → Prop where
  | nil : Cut z [] [] 0
  | snoc {cuts done b} (i : Nat) : Cut z cuts done b → Cut z (cuts ++ [i]) (done ++ [strSub z b i]) (i + 1)
def partsTo (z : Str) (cuts : List Nat) (last : Nat) : List Str := ((0 :: cuts.map (· + 1)).zip (cuts ++ [last])).map fun p => strSub z p.1 p.2
theorem Cut.parts {z : Str} {cuts : List Nat} {done : List Str} {b : Nat} (h : Cut z cuts done b) : ∀ last, partsTo z cuts last = done ++ [strSub z b last] := by
  induction h with
  | nil => exact fun last => rfl
  | snoc i h ih =>
    intro last
    unfold partsTo
    rw [List.map_append, ← List.cons_append, List.zip_append (by rw [List.length_cons, List.length_map, List.length_append]; rfl), List.map_append]
    have q := ih i
    unfold partsTo at q
    rw [q]
    rfl
theorem sub_nil (z : Str) (i : Nat) : strSub z i i = Str.empty := Str.ext' (by
  show z.cps.extract i i = #[]
  exact Array.eq_empty_of_size_eq_zero (by rw [Array.size_extract]; omega))
theorem walk_cuts (z : Str) (c : Nat) : ∀ k, k ≤ z.length → ∃ b, b ≤ k ∧ Cut z (cutsTo z c k) (spWalk c (z.cps.toList.take k)).1 b ∧ (spWalk c (z.cps.toList.take k)).2 = strSub z b k
  | 0, _ => ⟨0, Nat.le_refl _, .nil, (sub_nil z 0).symm⟩
  | k + 1, h => by
    obtain ⟨b, h1, h2, h3⟩ := walk_cuts z c k (by omega)
    have hk : k < z.cps.toList.length := by rw [Array.length_toList]; exact h
    have e : z.cps.toList.take (k + 1) = z.cps.toList.take k ++ [z.cps.toList[k]] := by
      rw [List.take_add_one, List.getElem?_eq_getElem hk]
      rfl
    have e1 : z.cps.toList[k]? = some z.cps.toList[k] := List.getElem?_eq_getElem hk
    have ec : cutsTo z c (k + 1) = cutsTo z c k ++ (if z.cps.toList[k] = c then [k] else []) := by
      unfold cutsTo
      rw [List.range'_concat, List.filter_append, show 0 + 1 * k = k by omega, List.filter_cons, List.filter_nil, e1]
      by_cases hc : z.cps.toList[k] = c
      · rw [if_pos (decide_eq_true (by rw [hc])), if_pos hc]
      · rw [if_neg (by rw [decide_eq_false (fun y => hc (by injection y))]; nofun), if_neg hc]
    rw [e, spWalk_snoc, ec]
    unfold spStep
    by_cases hc : z.cps.toList[k] = c
    · rw [if_pos hc, if_pos hc, h3]
      exact ⟨k + 1, Nat.le_refl _, .snoc k h2, (sub_nil z _).symm⟩
    · rw [if_neg hc, if_neg hc, List.append_nil, h3]
      refine ⟨b, by omega, h2, ?_⟩
      have hs : k < z.cps.size := h
      have eg : z.cps.getD k 0 = z.cps.toList[k] := by simp [Array.getD, hs]
      show _ = strSub z b (k + 1)
      rw [← eg]
      exact (KWd.sub_snoc z h1 h).symm
theorem split_spl (z : Str) {c : Nat} (hc : c < 256) : Txt.split z ⟨#[c]⟩ = spl c z.cps.toList := by
  have whole : partsTo z (cutsTo z c z.length) z.length = spl c z.cps.toList := by
    obtain ⟨b, _, h2, h3⟩ := walk_cuts z c z.length (Nat.le_refl _)
    have e : z.cps.toList.take z.length = z.cps.toList := by
      rw [List.take_of_length_le (by rw [Array.length_toList]; exact Nat.le_refl _)]
    rw [e] at h2 h3
    rw [h2.parts]
    unfold spl
    rw [h3]
  have none : cutsTo z c z.length = [] → [z] = spl c z.cps.toList := fun h => by
    rw [← whole, h]
    show [z] = [strSub z 0 z.length]
    rw [show strSub z 0 z.length = z from Str.ext' (by show z.cps.extract 0 z.cps.size = z.cps; exact Array.extract_size)]
  unfold Txt.split
  rw [occ_cuts]
  split
  · rename_i h
    refine none ?_
    rcases Bool.or_eq_true_iff.mp h with h | h
    · have h := of_decide_eq_true h
      have : z.length = 0 := Nat.lt_one_iff.mp h
      rw [this]
      rfl
    · have h := of_decide_eq_true h
      have e : Builtin.Str.strKind ⟨#[c]⟩ = 1 := by
        unfold Builtin.Str.strKind
        rw [if_pos (by simp [hc])]
      rw [e] at h
      unfold Builtin.Str.strKind at h
      split at h
      · omega
      · split at h <;> omega
  · split
    · rename_i h
      exact none (List.isEmpty_iff.mp h)
    · exact whole
end SL
namespace SL
open PySem L2

def FIG : Str := Str.ofString "0123456789"
def SMA : Str := Str.ofString "abcdefghijklmnopqrstuvwxyz"
def NAM : Str := Str.ofString "abcdefghijklmnopqrstuvwxyz0123456789"
def MAR : Str := Str.ofString "abcdefghijklmnopqrstuvwxyzABCDEFGHIJKLMNOPQRSTUVWXYZ0123456789.:-_/="
def hasC (S : Str) (c : Nat) : Bool := decide (c ∈ S.cps.toList)
def madeM (S z : Str) : Bool := z.cps.toList.all (hasC S)

def hd (z : Str) : Nat := z.cps.toList.headD 0
def isNum (z : Str) : Bool := decide (1 ≤ z.length ∧ z.length ≤ 9) && (madeM FIG z && (decide (z = Str.ofString "0") || !decide ((⟨#[hd z]⟩ : Str) = Str.ofString "0")))
def isName (z : Str) : Bool := decide (1 ≤ z.length ∧ z.length ≤ 12) && (hasC SMA (hd z) && madeM NAM z)
def isItem (z : Str) : Bool := isNum z || isName z
def isList (z : Str) : Bool := (Txt.startswith z (Str.ofString "[") && Txt.endswith z (Str.ofString "]")) && (decide (z = Str.ofString "[]") || (decide ((Txt.split (Txt.slice z (some 1) (some (-1))) (Str.ofString ",")).length ≤ 4) && (Txt.split (Txt.slice z (some 1) (some (-1))) (Str.ofString ",")).all isItem))
def isMark (z : Str) : Bool := decide (1 ≤ z.length ∧ z.length ≤ 12) && (madeM MAR z && !isItem z)
inductive So where
  | num | nam | lis | mar
  deriving DecidableEq
def So.str : So → Str
  | .num => Str.ofString "number" | .nam => Str.ofString "name" | .lis => Str.ofString "list" | .mar => Str.ofString "mark"
def sortM (z : Str) : Option So := if isNum z then some .num else if isName z then some .nam else if isList z then some .lis else if isMark z then some .mar else none
def vS : Option So → V
  | none => .non
  | some k => .str k.str
end SL
namespace L2
open PySem PySem.Spec PyProof.Rows

section
variable {X : Cx}
theorem range_all (bs : List Bool) (i : Nat) (h : i ≤ bs.length) : ((List.range bs.length).drop i).all (fun j => bs.getD j false) = (bs.drop i).all id := by
  induction k : bs.length - i generalizing i with
  | zero =>
    have e : i = bs.length := by omega
    subst e
    rw [List.drop_of_length_le (by simp), List.drop_of_length_le (Nat.le_refl _)]
    rfl
  | succ k ih =>
    have hlt : i < bs.length := by omega
    have hd : (List.range bs.length).drop i = i :: (List.range bs.length).drop (i + 1) := by
      rw [List.drop_eq_getElem_cons (by simpa using hlt)]; simp
    rw [hd, List.drop_eq_getElem_cons hlt, List.all_cons, List.all_cons, ih (i + 1) hlt (by omega)]
    simp [List.getD, hlt]
theorem truth_bs {prog : Program} {w : World} {A : Around} {bs : List Bool} {us : List Value} (rv : Vals (bs.map V.bl) us) : TruthOf prog w A (fun i v => us.toArray[i]? = some v) (fun i => bs.getD i false) := by
  intro i v s Q E hv q
  have hv' : us[i]? = some v := by simpa using hv
  have hlt : i < bs.length := by
    have := (List.getElem?_eq_some_iff.mp hv').1
    have := rv.length
    rw [List.length_map] at this
    omega
  obtain ⟨u, hu, ru⟩ := rv.get (i := i) (x := V.bl bs[i]) (by simp [hlt])
  rw [hv'] at hu
  cases hu
  cases ru
  refine wpAny_truthy_bool ?_
  have e : bs.getD i false = bs[i] := by simp [List.getD, hlt]
  have q' : Q (bs.getD i false) s := q
  rw [e] at q'
  exact q'
theorem call_allB (hc : X.calm = true) : CallR X (.builtin "all") (fun xs H Q => ∃ (p : Addr) (bs : List Bool), xs = [.ref p] ∧ SqL X.K H p (bs.map V.bl) ∧ Q (.bl (bs.all id)) H) := by
  intro pins s σ H xs us Q I r h
  obtain ⟨p, bs, rfl, hq, q⟩ := h
  obtain ⟨u, rfl, rx⟩ := vals1 r
  cases rx
  obtain ⟨its, rv, pl, hz⟩ := I.list hq
  have hl : its.length = bs.length := by
    have := rv.length
    rw [List.length_map] at this
    exact this.symm
  obtain ⟨o, ho, _⟩ := id pl.isList
  have hp : p < s.heap.objs.size := Heap.lt_size ho
  refine call_all_walk (wpAny_pyIter_list pl.isList ?_)
  refine ⟨s.heap.objs.size, [s.heap.objs.size, p], [s.heap.objs.size], its.toArray.size, _, _, fun i => bs.getD i false, rfl, Walks.list (A := X.A.in1) (by exact I.ok.hd hc) _ p (Nat.ne_of_lt hp) its.toArray, ⟨⟨_, Heap.get?_push_size _ rfl, rfl, rfl⟩, pl.isList.at fun o e => Heap.get?_push_of_some _ e⟩, truth_bs rv, fun h' tk kk => ?_⟩
  have e := range_all bs 0 (Nat.zero_le _)
  rw [List.drop_zero, List.drop_zero] at e
  rw [List.size_toArray, hl, e]
  exact ⟨.bl _, H, I.kept (t' := tk) fun b o eo => kk b o (by simpa using Nat.ne_of_lt (Heap.lt_size eo)) (Heap.get?_push_of_some _ eo), rfl, q⟩
theorem boot_all : bootBuiltins "all" = some (.builtin "all") := by decide +kernel
structure MkN (K : PySem.W.Frag) (C : Addr) : Prop where
  makes : PySem.W.makesIn K C = true
  init : PySem.W.findIn K (.ref C) "__init__" = some (some (.builtin "object.__init__"))
  kp : PySem.W.keepIn K (.ref C) = true

def tMakeN (C : Addr) : TE := fun _ H Q => ∀ x dx, H x = none → H dx = none → dx ≠ x → Q (.ref x) (upd (upd H dx (.own x)) x (.ins C dx []))
theorem pe_makeN {x : Str} {p pos : Pos} {C : Addr} (M : MkN X.K C) (hg : Gl X x) (hm : X.mg x = some (.ref C)) (hdb : (x == ("__debug__" : Str)) = false := by decide) : PE X (.Call (.Name x p) [] [] pos) (tMakeN C) := by
  intro pins s σ H Q I h
  refine wpAny_Call_Name_kw (ld_glob I hg hm ?_ hdb)
  refine PySem.W.callWith_K0 (first := []) I.kIn M.kp (wpAny_call ?_)
  have I2 := Inv.made (C := C) I
  have hq := h (s.heap.objs.size + 1) s.heap.objs.size (I.hok.fresh (Nat.le_succ _)) (I.hok.fresh (Nat.le_refl _)) (Nat.ne_of_lt (Nat.lt_succ_self _))
  have Y := PySem.W.makes_of (M := model X.prog X.w) I.kIn M.makes
  obtain ⟨hh, g, d, t, os⟩ := s
  refine make_map0 I.kIn M.makes M.init (fun self => PySem.W.Looks.of_pure (PySem.W.oi_bind self)) ?_
  have e2 : ((hh.push PySem.W.emptyDict).push (PySem.W.instObj C hh.objs.size)).get? (hh.objs.size + 1) = some (PySem.W.instObj C hh.objs.size) := by
    have := Heap.get?_push_size (hh.push PySem.W.emptyDict) (o := PySem.W.instObj C hh.objs.size) rfl
    rwa [Heap.size_push] at this
  have t1 : PySem.W.Looks (model X.prog X.w) ((hh.push PySem.W.emptyDict).push (PySem.W.instObj C hh.objs.size)) (typeOf (.ref (hh.objs.size + 1))) (.ref C) := (PySem.W.Looks.ld e2).andThen .now
  have t2 : PySem.W.Looks (model X.prog X.w) ((hh.push PySem.W.emptyDict).push (PySem.W.instObj C hh.objs.size)) (isInstance (.ref (hh.objs.size + 1)) (.type "object")) true := t1.andThen (Y.top.keeps fun b o e => Heap.get?_push_of_some _ (Heap.get?_push_of_some _ e))
  refine codeAny_call_builtin PySem.W.oi_plain PySem.W.entry_oi (@PySem.W.check_slot (model X.prog X.w) _ _ _ "object.__init__" "object" "__init__" (.ref (hh.objs.size + 1)) [] [] _ PySem.W.oi_kind PySem.W.oi_split t2 (PySem.W.oi_args (.ref (hh.objs.size + 1))) ?_)
  rw [PySem.W.oi_run]
  exact wpAny_pure (And.intro rfl ⟨V.ref (hh.objs.size + 1), _, I2, rfl, hq⟩)

def tMethD (P : Program) (w : World) (K : PySem.W.Frag) (mg : Str → Option Value) (base : Heap) (CX : CXT) (k : Nat) (m : Str) (E : XK) (ta : TE) (t : TA) : TE := fun σ H Q => ta σ H fun x H1 => ∃ a C dx fs f fd ps sp, x = .ref a ∧ H1 a = some (.ins C dx fs) ∧ fs.lookup m = none ∧
  Cls K C ∧ Meth K C m f ∧ FnOk P w K mg base CX k f fd ps sp ∧ Binds K fd ps [] ∧ t σ H1 fun vs H2 => sp (x :: vs) H2 Q E
theorem pe_methD {CX : CXT} {k : Nat} {m : Str} {E : XK} {pos apos : Pos} {o e : Expr} {es : List Expr} {ta : TE} {t : TA} {pl : Sem Bool} (he : PE X o ta) (hr : Room k X.A) (hx : Passes CX X E) (ha : PA X (e :: es) t)
    (hst : starEach (e :: es) X.env = (false, eval e X.env) :: starEach es X.env := by rfl) (hpl : (backTo pos (starEach es X.env)).any (·.1) = false := by rfl)
    (ht : eval (.Call (.Attribute o m apos) (e :: es) [] pos) X.env = (do
      let ov ← eval o X.env
      standAt apos.atName
      let (f, first) ← holding [ov] (getMethod ov m pl)
      callWith pos f first (backTo pos (starEach (e :: es) X.env)) (backToKw pos (keywordEach [] X.env))) := by rfl) :
    PE X (.Call (.Attribute o m apos) (e :: es) [] pos) (tMethD X.prog X.w X.K X.mg X.base CX k m E ta t) := by
  intro pins s σ H Q I h
  refine PySem.W.methodCall_KW (pl := pl) (thn (he pins s σ H _ I h) fun u s1 ⟨x, H1, I1, rx, a, C, dx, fs, f, fd, ps, sp, ex, ea, l, c, hm, F, hb, q⟩ => ?_) ht
  subst ex
  obtain rfl : u = Value.ref a := rx
  refine getmeth_ok I1 ea c hm l ?_
  refine PySem.W.callWith_K (first := [.ref a]) (h₀ := X.base) I.ok.mod.kin hm.kp (thn (ha pos pins s1 σ H1 _ I1 q) fun us s2 ⟨vs, H2, I2, r, q2⟩ => ⟨I2.kIn, ?_⟩) hst hpl
  exact run_fn (us := .ref a :: us) (vs := .ref a :: vs) (dvs := []) (ds := []) F hr hb .nil hx I2 (.cons rfl r) (by rw [List.append_nil]; exact q2)

theorem pe_methD0 {CX : CXT} {k : Nat} {m : Str} {E : XK} {pos apos : Pos} {o : Expr} {ta : TE} {pl : Sem Bool} (he : PE X o ta) (hr : Room k X.A) (hx : Passes CX X E)
    (ht : eval (.Call (.Attribute o m apos) [] [] pos) X.env = (do
      let ov ← eval o X.env
      standAt apos.atName
      let (f, first) ← holding [ov] (getMethod ov m pl)
      callWith pos f first (backTo pos (starEach [] X.env)) (backToKw pos (keywordEach [] X.env))) := by rfl) :
    PE X (.Call (.Attribute o m apos) [] [] pos) (tMethD X.prog X.w X.K X.mg X.base CX k m E ta tNil) := by
  intro pins s σ H Q I h
  refine PySem.W.methodCall_KW (pl := pl) (thn (he pins s σ H _ I h) fun u s1 ⟨x, H1, I1, rx, a, C, dx, fs, f, fd, ps, sp, ex, ea, l, c, hm, F, hb, q⟩ => ?_) ht
  subst ex
  obtain rfl : u = Value.ref a := rx
  refine getmeth_ok I1 ea c hm l ?_
  exact PySem.W.callWith_K0 (first := [.ref a]) I1.kIn hm.kp (run_fn (us := [.ref a]) (vs := [.ref a]) (dvs := []) (ds := []) F hr hb .nil hx I1 (.cons rfl .nil) q)
end
end L2
namespace L2
open PySem PySem.Spec PyProof.Rows


theorem zip_apart (n l m : Nat) (h1 : l < n) (h2 : m < n) : ZipApart (n + 4) (n + 2) (n + 3) n (n + 1) l m := by
  constructor <;> (show @Ne Nat _ _; omega)
theorem boot_zip : bootBuiltins "zip" = some (.type "zip") := by decide +kernel

end L2
namespace L2
open PySem PySem.Spec PyProof.Rows


structure Src (prog : Program) (w : World) (it l : Addr) (J : Nat → Heap → Prop) (C : Array Value → Heap → Prop) : Prop where
  item : ∀ (A : Around) (E : Value → Shared → Prop) (s : Shared) (k : Nat) (xs : Array Value) (x : Value) (Q : Value → Shared → Prop), J k s.heap → C xs s.heap → xs[k]? = some x → (∀ h', J (k + 1) h' → Heap.SameBut it s.heap h' → Q x { s with heap := h' }) → wpAny (model prog w) A (Builtin.SmallTypes.nextOf (.ref it)) Q E s
  stop : ∀ (A : Around) (E : Value → Shared → Prop) (s : Shared) (k : Nat) (xs : Array Value) (Q : Value → Shared → Prop), A.handled = none → J k s.heap → C xs s.heap → xs[k]? = none → (∀ h' e, Heap.ExtBut it s.heap h' → (∃ o, h'.get? e = some o ∧ o.cls = .type "StopIteration") → E (.ref e) { s with heap := h' }) → wpAny (model prog w) A (Builtin.SmallTypes.nextOf (.ref it)) Q E s
  keep : ∀ k h h', J k h → (∀ o, h.get? it = some o → h'.get? it = some o) → J k h'
  seq : ∀ xs h h', C xs h → (∀ o, h.get? l = some o → h'.get? l = some o) → C xs h'
  obj : ∀ k h, J k h → ∃ o vs, h.get? it = some o ∧ o.data = .fields vs
theorem src_list {prog : Program} {w : World} (it l : Addr) : Src prog w it l (fun k h => h.IsListIter it l k) (fun xs h => h.IsList l xs) where
  item := fun A E s k xs x Q j c e q => wpAny_nextOf_list_item j c e q
  stop := fun A E s k xs Q hh j c e q => wpAny_nextOf_list_end hh j c e q
  keep := fun k h h' ⟨o, g, r⟩ f => ⟨o, f o g, r⟩
  seq := fun xs h h' ⟨o, g, r⟩ f => ⟨o, f o g, r⟩
  obj := fun k h ⟨o, g, _, r⟩ => ⟨o, _, g, r⟩
section
variable {prog : Program} {w : World} {A : Around} {E : Value → Shared → Prop} {s : Shared}
theorem next_tup {it t : Addr} {i : Nat} {items : Array Value} {x : Value} {Q : Value → Shared → Prop} (hit : s.heap.IsTupleIter it t i) (ht : s.heap.IsTuple t items) (hx : items[i]? = some x)
    (q : ∀ h', h'.IsTupleIter it t (i + 1) → Heap.SameBut it s.heap h' → Q x { s with heap := h' }) : wpAny (model prog w) A (Builtin.SmallTypes.nextOf (.ref it)) Q E s := by
  obtain ⟨o, g, c, d⟩ := id hit
  obtain ⟨ol, gl, _, nl, dl⟩ := ht
  unfold Builtin.SmallTypes.nextOf
  refine wpAny_bind (wpAny_callSpecial?_slot (name := Str.ofString "__next__") hit.typeIs PySem.F.slot_tuple_iterator_next (wpAny_call_entry PySem.F.slot_tuple_iterator_next hit.typeIs PySem.F.entry_tuple_iterator_next ?_ (PySem.F.args_tuple_iterator_next_1 _)))
  show wpAny _ _ (field (.ref it) 0 >>= _) _ _ _
  refine wpAny_bind (wpAny_field g d (x := .ref t) rfl ?_)
  show wpAny _ _ (if (Value.ref t == Value.none) = true then _ else _) _ _ _
  rw [if_neg (show ¬ ((Value.ref t == Value.none) = true) by exact Bool.false_ne_true)]
  show wpAny _ _ (field (.ref it) 1 >>= _) _ _ _
  refine wpAny_bind (wpAny_field g d (x := .int i 0) rfl ?_)
  show wpAny _ _ (seqItems? (.ref t) >>= _) _ _ _
  refine wpAny_bind (wpAny_seqItems gl dl ?_)
  simp only [Int.toNat_natCast, hx]
  refine wpAny_bind (wpAny_setField g d (by simp) (wpAny_pure ⟨x, rfl, wpAny_pure (q _ ?_ (Heap.SameBut.update ..))⟩))
  exact ⟨_, Heap.get?_update_self _ g (Obj.isFreed_of_fields (Obj.data_mapFields d _)), (Obj.cls_mapFields ..).trans c, by rw [Obj.data_mapFields d]; simp [rawInt]⟩
theorem next_tup_end {it t : Addr} {i : Nat} {items : Array Value} {Q : Value → Shared → Prop} (hh : A.handled = none) (hit : s.heap.IsTupleIter it t i) (ht : s.heap.IsTuple t items) (hx : items[i]? = none)
    (q : ∀ h' e, Heap.ExtBut it s.heap h' → (∃ o, h'.get? e = some o ∧ o.cls = .type "StopIteration") → E (.ref e) { s with heap := h' }) : wpAny (model prog w) A (Builtin.SmallTypes.nextOf (.ref it)) Q E s := by
  obtain ⟨o, g, c, d⟩ := id hit
  obtain ⟨ol, gl, _, nl, dl⟩ := ht
  unfold Builtin.SmallTypes.nextOf
  refine wpAny_bind (wpAny_callSpecial?_slot (name := Str.ofString "__next__") hit.typeIs PySem.F.slot_tuple_iterator_next (wpAny_call_entry PySem.F.slot_tuple_iterator_next hit.typeIs PySem.F.entry_tuple_iterator_next ?_ (PySem.F.args_tuple_iterator_next_1 _)))
  show wpAny _ _ (field (.ref it) 0 >>= _) _ _ _
  refine wpAny_bind (wpAny_field g d (x := .ref t) rfl ?_)
  show wpAny _ _ (if (Value.ref t == Value.none) = true then _ else _) _ _ _
  rw [if_neg (show ¬ ((Value.ref t == Value.none) = true) by exact Bool.false_ne_true)]
  show wpAny _ _ (field (.ref it) 1 >>= _) _ _ _
  refine wpAny_bind (wpAny_field g d (x := .int i 0) rfl ?_)
  show wpAny _ _ (seqItems? (.ref t) >>= _) _ _ _
  refine wpAny_bind (wpAny_seqItems gl dl ?_)
  simp only [Int.toNat_natCast, hx]
  refine wpAny_bind (wpAny_rule (wpAny_bind (wpAny_setField g d (by simp) ?_)))
  show wpAny _ _ (newExc (.type "StopIteration") [] >>= _) _ _ (_)
  refine wpAny_bind ?_
  simp only [newExc, newTuple]
  refine wpAny_bind (wpAny_newObj_type (by skip; refine wpAny_bind (m := firstArgMember _ _) (wpAny_of_eq (a := Value.none) (by first | rfl | (simp only [firstArgMember]; rfl)) ?_); refine wpAny_newObj_type ?_ (by size_fits); simp only [raiseNew]; refine wpAny_bind (wpAny_handled ?_); (first | rw [show A.in1.handled = none from hh] | rw [hh]); first | exact wpAny_throw (q _ _ (((Heap.SameBut.update ..).extBut.push _).push _) ⟨_, Heap.get?_push_size _ rfl, rfl⟩) | exact wpAny_bind (wpAny_pure (wpAny_throw (q _ _ (((Heap.SameBut.update ..).extBut.push _).push _) ⟨_, Heap.get?_push_size _ rfl, rfl⟩)))) (by size_fits))
end
theorem src_tup {prog : Program} {w : World} (it l : Addr) : Src prog w it l (fun k h => h.IsTupleIter it l k) (fun xs h => h.IsTuple l xs) where
  item := fun A E s k xs x Q j c e q => next_tup j c e q
  stop := fun A E s k xs Q hh j c e q => next_tup_end hh j c e q
  keep := fun k h h' ⟨o, g, r⟩ f => ⟨o, f o g, r⟩
  seq := fun xs h h' ⟨o, g, r⟩ f => ⟨o, f o g, r⟩
  obj := fun k h ⟨o, g, _, r⟩ => ⟨o, _, g, r⟩
end L2
namespace L2
open PySem PySem.Spec PyProof.Rows
section
variable {prog : Program} {w : World} {A : Around} {E : Value → Shared → Prop} {s : Shared}
variable {z TI TO i1 i2 l1 l2 : Addr} {J1 J2 : Nat → Heap → Prop} {C1 C2 : Array Value → Heap → Prop} {k1 k2 : Nat} {xs ys : Array Value} {x y a b : Value}
theorem zipg_item {Q : Value → Shared → Prop} (D : ZipApart z TI TO i1 i2 l1 l2) (S1 : Src prog w i1 l1 J1 C1) (S2 : Src prog w i2 l2 J2 C2) (gz : IsZip s.heap z TI TO .none) (gI : IsPair s.heap TI (.ref i1) (.ref i2)) (gO : IsPair s.heap TO a b)
    (j1 : J1 k1 s.heap) (j2 : J2 k2 s.heap) (c1 : C1 xs s.heap) (c2 : C2 ys s.heap) (hx : xs[k1]? = some x) (hy : ys[k2]? = some y)
    (q : ∀ h', IsZip h' z TI TO (rawInt s.heap.objs.size) → IsPair h' TO x y → J1 (k1 + 1) h' → J2 (k2 + 1) h' → IsPair h' s.heap.objs.size x y → h'.objs.size = s.heap.objs.size + 1 →
      (∀ c o, c ≠ z → c ≠ TO → c ≠ i1 → c ≠ i2 → s.heap.get? c = some o → h'.get? c = some o) → Q (.ref s.heap.objs.size) { s with heap := h' }) :
    wpAny (model prog w) A (Builtin.«zip.__next__» ⟨[.ref z], []⟩) (fun fin s' => ∃ v, fin = .done (.ret v) ∧ Q v s') E s := by
  show wpAny _ _ (field (.ref z) 2 >>= _) _ _ s
  refine wpAny_bind (wpAny_field gz rfl (x := .bool false) rfl ?_)
  show wpAny _ _ (field (.ref z) 3 >>= _) _ _ s
  refine wpAny_bind (wpAny_field gz rfl (x := .ref TI) rfl (wpAny_bind (wpAny_seqItems gI rfl ?_)))
  show wpAny _ _ (Builtin.SmallTypes.ownedTupleIsFree (.ref z) >>= _) _ _ s
  refine wpAny_bind ?_
  unfold Builtin.SmallTypes.ownedTupleIsFree
  refine wpAny_bind (wpAny_field gz rfl (x := .none) rfl (wpAny_pure ?_))
  simp only [if_true]
  refine wpAny_bind (wpAny_rule (wpAny_bind (wpAny_field gz rfl (x := .ref TO) rfl ?_)))
  refine wpAny_bind (wpAny_setField_rec gz (by simp) fun hA zA sA => ?_)
  replace zA : IsZip hA z TI TO .ellipsis := zA
  refine wpAny_bind ?_
  simp only [List.zipIdx_cons, List.zipIdx_nil, List.forIn_cons, List.forIn_nil]
  refine wpAny_bind (wpAny_bind (wpAny_onRaise ?_))
  show wpAny _ _ (Builtin.SmallTypes.nextOf (.ref i1) >>= _) _ _ (_)
  refine wpAny_bind (S1.item A _ _ k1 xs x _ (S1.keep _ _ _ j1 fun o e => sA.extBut _ _ D.i1z e) (S1.seq _ _ _ c1 fun o e => sA.extBut _ _ D.l1z e) hx fun hB jB sB => wpAny_pure ?_)
  have oB : IsPair hB TO a b := sB.extBut _ _ D.TOi1 (sA.extBut _ _ D.TOz gO)
  refine wpAny_bind (wpAny_seqItems oB rfl (wpAny_bind (wpAny_updateSeq_pair oB fun hC oC sC => ?_)))
  replace oC : IsPair hC TO x b := oC
  refine wpAny_bind (wpAny_letGo (wpAny_pure (wpAny_bind (wpAny_bind (wpAny_onRaise ?_)))))
  show wpAny _ _ (Builtin.SmallTypes.nextOf (.ref i2) >>= _) _ _ (_)
  have up2 : ∀ c o, c ≠ z → c ≠ i1 → c ≠ TO → s.heap.get? c = some o → hC.get? c = some o := fun c o n1 n2 n3 e => sC.extBut _ _ n3 (sB.extBut _ _ n2 (sA.extBut _ _ n1 e))
  refine wpAny_bind (S2.item A _ _ k2 ys y _ (S2.keep _ _ _ j2 fun o e => up2 _ o D.i2z D.i12.symm D.TOi2.symm e) (S2.seq _ _ _ c2 fun o e => up2 _ o D.l2z D.l2i1 D.l2TO e) hy fun hD jD sD => wpAny_pure ?_)
  have oD : IsPair hD TO x b := sD.extBut _ _ D.TOi2 oC
  refine wpAny_bind (wpAny_seqItems oD rfl (wpAny_bind (wpAny_updateSeq_pair oD fun hE oE sE => ?_)))
  replace oE : IsPair hE TO x y := oE
  refine wpAny_bind (wpAny_letGo (wpAny_pure (wpAny_pure ?_)))
  refine wpAny_bind (wpAny_seqItems oE rfl (wpAny_bind (wpAny_newTuple ?_)))
  have ez : hE.objs.size = s.heap.objs.size := by rw [sE.1, sD.1, sC.1, sB.1, sA.1]
  have zE : IsZip hE z TI TO .ellipsis := sE.extBut _ _ D.TOz.symm (sD.extBut _ _ D.i2z.symm (sC.extBut _ _ D.TOz.symm (sB.extBut _ _ D.i1z.symm zA)))
  have kE : ∀ c o, c ≠ z → c ≠ TO → c ≠ i1 → c ≠ i2 → s.heap.get? c = some o → hE.get? c = some o := fun c o n1 n2 n3 n4 e => sE.extBut _ _ n2 (sD.extBut _ _ n4 (up2 c o n1 n3 n2 e))
  have j1E : J1 (k1 + 1) hE := S1.keep _ _ _ jB fun o e => sE.extBut _ _ D.TOi1.symm (sD.extBut _ _ D.i12 (sC.extBut _ _ D.TOi1.symm e))
  have j2E : J2 (k2 + 1) hE := S2.keep _ _ _ jD fun o e => sE.extBut _ _ D.TOi2.symm e
  have zlt : z < hE.objs.size := Heap.lt_size zE
  show wpAny _ _ (Builtin.SmallTypes.ownedTupleHandOut (.ref z) (.ref hE.objs.size) >>= _) _ _ (_)
  refine wpAny_bind ?_
  unfold Builtin.SmallTypes.ownedTupleHandOut
  have zF : IsZip (hE.push { cls := .type "tuple", data := .seq #[x, y] }) z TI TO .ellipsis := Heap.get?_push_of_some _ zE
  refine wpAny_bind (wpAny_setField_rec zF (by simp) fun hG zG sG => ?_)
  replace zG : IsZip hG z TI TO (rawInt hE.objs.size) := zG
  refine wpAny_setField_rec zG (by simp) fun hK zK sK => ?_
  replace zK : IsZip hK z TI TO (rawInt hE.objs.size) := zK
  have up : ∀ c o, c ≠ z → hE.get? c = some o → hK.get? c = some o := fun c o n1 e => sK.extBut _ _ n1 (sG.extBut _ _ n1 (Heap.get?_push_of_some _ e))
  have tK : IsPair hK hE.objs.size x y := sK.extBut _ _ (Nat.ne_of_gt zlt) (sG.extBut _ _ (Nat.ne_of_gt zlt) (Heap.get?_push_size _ rfl))
  have eK : hK.objs.size = hE.objs.size + 1 := by rw [sK.1, sG.1, Heap.size_push]
  rw [ez] at zK tK eK
  refine wpAny_pure ⟨_, rfl, ?_⟩
  show Q (.ref hE.objs.size) _
  rw [ez]
  exact q hK zK (up _ _ D.TOz oE) (S1.keep _ _ _ j1E fun o e => up _ o D.i1z e) (S2.keep _ _ _ j2E fun o e => up _ o D.i2z e) tK eK fun c o n1 n2 n3 n4 e => up c o n1 (kE c o n1 n2 n3 n4 e)
theorem zipg_stop {Q : Fin → Shared → Prop} (hh : A.handled = none) (D : ZipApart z TI TO i1 i2 l1 l2) (S1 : Src prog w i1 l1 J1 C1) (gz : IsZip s.heap z TI TO .none) (gI : IsPair s.heap TI (.ref i1) (.ref i2))
    (j1 : J1 k1 s.heap) (c1 : C1 xs s.heap) (hx : xs[k1]? = none)
    (q : ∀ h' e, (∀ c o, c ≠ z → c ≠ i1 → s.heap.get? c = some o → h'.get? c = some o) → (∃ o, h'.get? e = some o ∧ o.cls = .type "StopIteration") → E (.ref e) { s with heap := h' }) :
    wpAny (model prog w) A (Builtin.«zip.__next__» ⟨[.ref z], []⟩) Q E s := by
  show wpAny _ _ (field (.ref z) 2 >>= _) _ _ s
  refine wpAny_bind (wpAny_field gz rfl (x := .bool false) rfl ?_)
  show wpAny _ _ (field (.ref z) 3 >>= _) _ _ s
  refine wpAny_bind (wpAny_field gz rfl (x := .ref TI) rfl (wpAny_bind (wpAny_seqItems gI rfl ?_)))
  show wpAny _ _ (Builtin.SmallTypes.ownedTupleIsFree (.ref z) >>= _) _ _ s
  refine wpAny_bind ?_
  unfold Builtin.SmallTypes.ownedTupleIsFree
  refine wpAny_bind (wpAny_field gz rfl (x := .none) rfl (wpAny_pure ?_))
  simp only [if_true]
  refine wpAny_bind (wpAny_rule (wpAny_bind (wpAny_field gz rfl (x := .ref TO) rfl ?_)))
  refine wpAny_bind (wpAny_setField_rec gz (by simp) fun hA zA sA => ?_)
  replace zA : IsZip hA z TI TO .ellipsis := zA
  refine wpAny_bind ?_
  simp only [List.zipIdx_cons, List.zipIdx_nil, List.forIn_cons, List.forIn_nil]
  refine wpAny_bind (wpAny_bind (wpAny_onRaise ?_))
  show wpAny _ _ (Builtin.SmallTypes.nextOf (.ref i1) >>= _) _ _ (_)
  refine wpAny_bind (S1.stop A _ _ k1 xs _ hh (S1.keep _ _ _ j1 fun o e => sA.extBut _ _ D.i1z e) (S1.seq _ _ _ c1 fun o e => sA.extBut _ _ D.l1z e) hx fun hB e sB he => ?_)
  obtain ⟨oe, ge, ce⟩ := he
  have zB : IsZip hB z TI TO .ellipsis := sB _ _ D.i1z.symm zA
  have ne : e ≠ z := fun u => by subst u; rw [zB] at ge; cases ge; simp at ce
  exact wpAny_setField_rec zB (by simp) fun hC _ sC => q hC e (fun c o n1 n3 u => sC.extBut _ _ n1 (sB _ _ n3 (sA.extBut _ _ n1 u))) ⟨oe, sC.extBut _ _ ne ge, ce⟩
theorem zipg_next {Q : Option Value → Shared → Prop} (D : ZipApart z TI TO i1 i2 l1 l2) (S1 : Src prog w i1 l1 J1 C1) (S2 : Src prog w i2 l2 J2 C2) (gz : IsZip s.heap z TI TO .none) (gI : IsPair s.heap TI (.ref i1) (.ref i2)) (gO : IsPair s.heap TO a b)
    (j1 : J1 k1 s.heap) (j2 : J2 k2 s.heap) (c1 : C1 xs s.heap) (c2 : C2 ys s.heap) (hx : xs[k1]? = some x) (hy : ys[k2]? = some y)
    (q : ∀ h', IsZip h' z TI TO (rawInt s.heap.objs.size) → IsPair h' TO x y → J1 (k1 + 1) h' → J2 (k2 + 1) h' → IsPair h' s.heap.objs.size x y → h'.objs.size = s.heap.objs.size + 1 →
      (∀ c o, c ≠ z → c ≠ TO → c ≠ i1 → c ≠ i2 → s.heap.get? c = some o → h'.get? c = some o) → Q (some (.ref s.heap.objs.size)) { s with heap := h' }) : wpAny (model prog w) A (pyNext (.ref z)) Q E s := by
  have tZ : s.TypeIs (.ref z) "zip" := ⟨_, gz, rfl⟩
  unfold pyNext
  exact wpAny_bind (wpAny_attempt (wpAny_callSpecial?_slot (name := Str.ofString "__next__") tZ PySem.F.slot_zip_next (wpAny_call_entry PySem.F.slot_zip_next tZ PySem.F.entry_zip_next
      (zipg_item D S1 S2 gz gI gO j1 j2 c1 c2 hx hy fun h' a1 a2 a3 a4 a5 a6 a7 => wpAny_pure (q h' a1 a2 a3 a4 a5 a6 a7)) (PySem.F.args_zip_next_1 _))))
theorem zipg_end {Q : Option Value → Shared → Prop} (hh : A.handled = none) (D : ZipApart z TI TO i1 i2 l1 l2) (S1 : Src prog w i1 l1 J1 C1) (gz : IsZip s.heap z TI TO .none) (gI : IsPair s.heap TI (.ref i1) (.ref i2)) (j1 : J1 k1 s.heap) (c1 : C1 xs s.heap) (hx : xs[k1]? = none)
    (q : ∀ h', (∀ c o, c ≠ z → c ≠ i1 → s.heap.get? c = some o → h'.get? c = some o) → Q none { s with heap := h' }) : wpAny (model prog w) A (pyNext (.ref z)) Q E s := by
  have tZ : s.TypeIs (.ref z) "zip" := ⟨_, gz, rfl⟩
  unfold pyNext
  refine wpAny_bind (wpAny_attempt (wpAny_callSpecial?_slot (name := Str.ofString "__next__") tZ PySem.F.slot_zip_next (wpAny_call_entry PySem.F.slot_zip_next tZ PySem.F.entry_zip_next (zipg_stop (A := A.in1) hh D S1 gz gI j1 c1 hx fun h' e hk he => ?_) (PySem.F.args_zip_next_1 _))))
  obtain ⟨o, ho, hc⟩ := he
  exact wpAny_bind (wpAny_isInstance (T := "StopIteration") (b := true) ⟨o, ho, hc⟩ isSubtype_stop (wpAny_pure (q _ hk)))
end
abbrev zgA (h : Heap) (t1 : String) (l1 : Addr) : Heap := h.push { cls := .type t1, data := .fields #[.ref l1, .int 0 0] }
abbrev zgB (h : Heap) (t1 t2 : String) (l1 l2 : Addr) : Heap := (zgA h t1 l1).push { cls := .type t2, data := .fields #[.ref l2, .int 0 0] }
abbrev zgC (h : Heap) (t1 t2 : String) (l1 l2 : Addr) : Heap := (zgB h t1 t2 l1 l2).push { cls := .type "tuple", data := .seq #[.ref h.objs.size, .ref (zgA h t1 l1).objs.size] }
abbrev zgD (h : Heap) (t1 t2 : String) (l1 l2 : Addr) : Heap := (zgC h t1 t2 l1 l2).push { cls := .type "tuple", data := .seq #[.none, .none] }
abbrev zgE (h : Heap) (t1 t2 : String) (l1 l2 : Addr) : Heap := (zgD h t1 t2 l1 l2).push { cls := .type "zip", data := .fields #[.none, .bool false, .bool false, .ref (zgB h t1 t2 l1 l2).objs.size, .ref (zgC h t1 t2 l1 l2).objs.size] }

def Gives1 (t : String) (l : Addr) (h : Heap) : Prop := ∀ (prog : Program) (w : World) (A : Around) (E : Value → Shared → Prop) (s : Shared) (Q : Value → Shared → Prop), s.heap = h → Q (.ref s.heap.objs.size) { s with heap := s.heap.push { cls := .type t, data := .fields #[.ref l, .int 0 0] } } → wpAny (model prog w) A (pyIter (.ref l)) Q E s
theorem meets_zipg (t1 t2 : String) (l1 l2 : Addr) :
    Meets (Builtin.«zip.__new__» ⟨[.type "zip", .ref l1, .ref l2], []⟩) (fun _ R s => Gives1 t1 l1 s.heap ∧ Gives1 t2 l2 (zgA s.heap t1 l1) ∧ R (.ok (.ret (.ref (zgD s.heap t1 t2 l1 l2).objs.size))) { s with heap := zgE s.heap t1 t2 l1 l2 }) :=
  .of_wp fun prog w A R s h => by
    obtain ⟨hp, g, d, tk, os⟩ := s; obtain ⟨hl1, hl2, h⟩ := h
    have hsub := sub_zip
    have G1 : ∀ {A : Around} {E : Value → Shared → Prop} {Q : Value → Shared → Prop}, Q (.ref hp.objs.size) ⟨hp.push { cls := .type t1, data := .fields #[.ref l1, .int 0 0] }, g, d, tk, os⟩ → wpAny (model prog w) A (pyIter (.ref l1)) Q E ⟨hp, g, d, tk, os⟩ := fun {A E Q} q => hl1 prog w A E ⟨hp, g, d, tk, os⟩ Q rfl q
    have G2 : ∀ {A : Around} {E : Value → Shared → Prop} {Q : Value → Shared → Prop}, Q (.ref (zgA hp t1 l1).objs.size) ⟨(zgA hp t1 l1).push { cls := .type t2, data := .fields #[.ref l2, .int 0 0] }, g, d, tk, os⟩ → wpAny (model prog w) A (pyIter (.ref l2)) Q E ⟨zgA hp t1 l1, g, d, tk, os⟩ := fun {A E Q} q => hl2 prog w A E ⟨zgA hp t1 l1, g, d, tk, os⟩ Q rfl q
    wp_walk using G1, G2
    exact ⟨_, rfl, h⟩
section
variable {prog : Program} {w : World} {A : Around} {E : Value → Shared → Prop} {s : Shared}
theorem call_zipg (t1 t2 : String) {l1 l2 : Addr} {Q : Value → Shared → Prop} (hl1 : Gives1 t1 l1 s.heap) (hl2 : Gives1 t2 l2 (zgA s.heap t1 l1))
    (h : ∀ h', IsZip h' (s.heap.objs.size + 4) (s.heap.objs.size + 2) (s.heap.objs.size + 3) .none → IsPair h' (s.heap.objs.size + 2) (.ref s.heap.objs.size) (.ref (s.heap.objs.size + 1)) → IsPair h' (s.heap.objs.size + 3) .none .none →
      h'.get? s.heap.objs.size = some { cls := .type t1, data := .fields #[.ref l1, .int 0 0] } → h'.get? (s.heap.objs.size + 1) = some { cls := .type t2, data := .fields #[.ref l2, .int 0 0] } →
      (∀ c o, s.heap.get? c = some o → h'.get? c = some o) → Q (.ref (s.heap.objs.size + 4)) { s with heap := h' }) :
    wpAny (model prog w) A (call (.type "zip") [.ref l1, .ref l2]) Q E s := by
  refine callType_new PySem.F.called_zip (by decide) (PySem.F.typeCall_zip_2 _ _) (PySem.F.newCall_zip_2 _ _) (fun obj => PySem.F.args_object_init_3 obj _ _) PySem.F.entry_zip_new (meets_zipg t1 t2 l1 l2) ⟨hl1, hl2, ?_⟩
  have z1 : (zgA s.heap t1 l1).objs.size = s.heap.objs.size + 1 := Heap.size_push ..
  have z2 : (zgB s.heap t1 t2 l1 l2).objs.size = s.heap.objs.size + 2 := by rw [Heap.size_push, z1]
  have z3 : (zgC s.heap t1 t2 l1 l2).objs.size = s.heap.objs.size + 3 := by rw [Heap.size_push, z2]
  have z4 : (zgD s.heap t1 t2 l1 l2).objs.size = s.heap.objs.size + 4 := by rw [Heap.size_push, z3]
  have g5 : (zgE s.heap t1 t2 l1 l2).get? (zgD s.heap t1 t2 l1 l2).objs.size = some _ := Heap.get?_push_size _ rfl
  have g4 : (zgE s.heap t1 t2 l1 l2).get? (zgC s.heap t1 t2 l1 l2).objs.size = some _ := Heap.get?_push_of_some _ (Heap.get?_push_size _ rfl)
  have g3 : (zgE s.heap t1 t2 l1 l2).get? (zgB s.heap t1 t2 l1 l2).objs.size = some _ := Heap.get?_push_of_some _ (Heap.get?_push_of_some _ (Heap.get?_push_size _ rfl))
  have g2 : (zgE s.heap t1 t2 l1 l2).get? (zgA s.heap t1 l1).objs.size = some _ := Heap.get?_push_of_some _ (Heap.get?_push_of_some _ (Heap.get?_push_of_some _ (Heap.get?_push_size _ rfl)))
  have g1 : (zgE s.heap t1 t2 l1 l2).get? s.heap.objs.size = some _ := Heap.get?_push_of_some _ (Heap.get?_push_of_some _ (Heap.get?_push_of_some _ (Heap.get?_push_of_some _ (Heap.get?_push_size _ rfl))))
  show _ ∧ _
  rw [z2, z3, z4] at g5
  rw [z1, z2] at g3
  rw [z3] at g4
  rw [z1] at g2
  rw [z4]
  exact ⟨⟨_, g5, rfl⟩, h _ g5 g3 g4 g1 g2 fun c o x => Heap.get?_push_of_some _ (Heap.get?_push_of_some _ (Heap.get?_push_of_some _ (Heap.get?_push_of_some _ (Heap.get?_push_of_some _ x))))⟩
end
theorem gives_list {l : Addr} {h : Heap} {xs : Array Value} (g : h.IsList l xs) : Gives1 "list_iterator" l h := fun prog w A E s Q e q => by subst e; exact wpAny_pyIter_list g q
theorem gives_tup {l : Addr} {h : Heap} {xs : Array Value} (g : h.IsTuple l xs) : Gives1 "tuple_iterator" l h := fun prog w A E s Q e q => by subst e; exact wpAny_pyIter_tuple g q
end L2
namespace L2
open PySem PySem.Spec PyProof.Rows

def SqX (K : PySem.W.Frag) (t : Bool) (H : Hp) (a : Addr) (xs : List V) : Prop := if t = true then SqT K H a xs else SqL K H a xs
def cX (t : Bool) (l : Addr) (xs : Array Value) (h : Heap) : Prop := if t = true then h.IsTuple l xs else h.IsList l xs
def jX (t : Bool) (it l : Addr) (k : Nat) (h : Heap) : Prop := if t = true then h.IsTupleIter it l k else h.IsListIter it l k
def tX (t : Bool) : String := if t = true then "tuple_iterator" else "list_iterator"
theorem src_x {prog : Program} {w : World} (t : Bool) (it l : Addr) : Src prog w it l (jX t it l) (cX t l) := by
  cases t
  · exact src_list it l
  · exact src_tup it l
theorem gives_x {t : Bool} {l : Addr} {h : Heap} {xs : Array Value} (g : cX t l xs h) : Gives1 (tX t) l h := by
  cases t
  · exact gives_list (show h.IsList l xs from g)
  · exact gives_tup (show h.IsTuple l xs from g)
theorem jX_new {t : Bool} {it l : Addr} {h : Heap} (g : h.get? it = some { cls := .type (tX t), data := .fields #[.ref l, .int 0 0] }) : jX t it l 0 h := by
  cases t
  · exact ⟨_, g, rfl, rfl⟩
  · exact ⟨_, g, rfl, rfl⟩
theorem cX_lt {t : Bool} {l : Addr} {h : Heap} {xs : Array Value} (g : cX t l xs h) : l < h.objs.size := by
  cases t
  · obtain ⟨o, g, _⟩ := (show h.IsList l xs from g); exact Heap.lt_size g
  · obtain ⟨o, g, _⟩ := (show h.IsTuple l xs from g); exact Heap.lt_size g
theorem cX_push {t : Bool} {l : Addr} {h : Heap} {xs : Array Value} (g : cX t l xs h) (o : Obj) : cX t l xs (h.push o) := by
  cases t
  · exact Heap.IsList.push (show h.IsList l xs from g) o
  · exact Heap.IsTuple.push (show h.IsTuple l xs from g) o
section
variable {X : Cx} {pins : List (Addr × Obj)} {σ : St} {H : Hp} {s : Shared} {a : Addr} {xs ys : List V} {t : Bool}
theorem Inv.seqX (I : Inv X pins σ H s) (h : SqX X.K t H a xs) : ∃ its : List Value, Vals xs its ∧ cX t a its.toArray s.heap ∧ xs.length ≤ sizeLine := by
  cases t
  · obtain ⟨its, r, p, z⟩ := I.list (show SqL X.K H a xs from h)
    exact ⟨its, r, p.isList, z⟩
  · obtain ⟨its, r, p, z⟩ := I.tuple (show SqT X.K H a xs from h)
    exact ⟨its, r, p, z⟩
theorem Inv.seqX_inj (I : Inv X pins σ H s) (h : SqX X.K t H a xs) (h' : SqX X.K t H a ys) : xs = ys := by
  cases t
  · exact I.list_inj (show SqL X.K H a xs from h) h'
  · exact I.tuple_inj (show SqT X.K H a xs from h) h'
end

def Itg (K : PySem.W.Frag) (t u : Bool) (a b : Addr) : It :=
  ⟨fun i H => ∃ xs ys x y, SqX K t H a xs ∧ SqX K u H b ys ∧ xs[i]? = some x ∧ ys[i]? = some y, fun i H v H' => ∃ p x y, v = .ref p ∧ H p = none ∧ H' = upd H p (.tup [x, y]) ∧ (∀ xs, SqX K t H a xs → xs[i]? = some x) ∧ ∀ ys, SqX K u H b ys → ys[i]? = some y,
    fun i H => ∃ xs, SqX K t H a xs ∧ xs.length ≤ i⟩
theorem turn_zipg {P : Program} {w : World} {K : PySem.W.Frag} {elts : List Expr} {k : Nat} {pos : Pos} (t u : Bool) (a b z TI TO i1 i2 : Addr) (N : ZipApart z TI TO i1 i2 a b) :
    Turn P w K (.Tuple elts k pos) (Itg K t u a b) [z, TI, TO, i1, i2] z (fun i h => IsZip h z TI TO .none ∧ IsPair h TI (.ref i1) (.ref i2) ∧ (∃ c d, IsPair h TO c d) ∧ jX t i1 a i h ∧ jX u i2 b i h) where
  mem := by simp
  obj := fun i h st c hc => by
    obtain ⟨g1, g2, ⟨e, v, g3⟩, g4, g5⟩ := st
    obtain ⟨o4, v4, g4, d4⟩ := (src_x (prog := P) (w := w) t i1 a).obj _ _ g4
    obtain ⟨o5, v5, g5, d5⟩ := (src_x (prog := P) (w := w) u i2 b).obj _ _ g5
    simp only [List.mem_cons, List.not_mem_nil, or_false] at hc
    rcases hc with rfl | rfl | rfl | rfl | rfl
    · exact ⟨_, g1, fun v q => by cases q⟩
    · exact ⟨_, g2, fun v q => by cases q⟩
    · exact ⟨_, g3, fun v q => by cases q⟩
    · exact ⟨_, g4, fun v q => by rw [d4] at q; cases q⟩
    · exact ⟨_, g5, fun v q => by rw [d5] at q; cases q⟩
  keep := fun i h h' st kk => by
    obtain ⟨g1, g2, ⟨e, v, g3⟩, g4, g5⟩ := st
    exact ⟨kk z (by simp) _ g1, kk TI (by simp) _ g2, ⟨e, v, kk TO (by simp) _ g3⟩, (src_x (prog := P) (w := w) t i1 a).keep _ _ _ g4 fun o q => kk i1 (by simp) o q, (src_x (prog := P) (w := w) u i2 b).keep _ _ _ g5 fun o q => kk i2 (by simp) o q⟩
  item := by
    intro X hP hw hK hc i pins s σ H E I hf st hg
    subst hP hw hK
    obtain ⟨xs, ys, x, y, hq, hq', hx, hy⟩ := hg
    obtain ⟨its, rv, p, _⟩ := I.seqX hq
    obtain ⟨jts, rv', p', _⟩ := I.seqX hq'
    obtain ⟨v, hu, ru⟩ := rv.get hx
    obtain ⟨v', hu', ru'⟩ := rv'.get hy
    obtain ⟨g1, g2, ⟨c, d, g3⟩, g4, g5⟩ := st
    obtain ⟨o4, v4, k4, d4⟩ := (src_x (prog := X.prog) (w := X.w) t i1 a).obj _ _ g4
    obtain ⟨o5, v5, k5, d5⟩ := (src_x (prog := X.prog) (w := X.w) u i2 b).obj _ _ g5
    refine zipg_next (xs := its.toArray) (ys := jts.toArray) N (src_x t i1 a) (src_x u i2 b) g1 g2 g3 g4 g5 p p' (by simpa using hu) (by simpa using hu') fun h' b1 b2 b3 b4 b5 b6 b7 => ?_
    refine ⟨_, rfl, wpAny_letOwnedTupleGo_zip b1 fun h'' e1 e2 => ?_⟩
    have zlt : z < s.heap.objs.size := Heap.lt_size g1
    have kk : ∀ e o, e ∉ [z, TI, TO, i1, i2] → s.heap.get? e = some o → h''.get? e = some o := fun e o he q => by
      simp only [List.mem_cons, List.not_mem_nil, or_false, not_or] at he
      exact (e2.2 e he.1).trans (b7 e o he.1 he.2.2.1 he.2.2.2.1 he.2.2.2.2 q)
    have up : ∀ e o, e ≠ z → h'.get? e = some o → h''.get? e = some o := fun e o he q => (e2.2 e he).trans q
    have hno : H s.heap.objs.size = none := I.hok.fresh (Nat.le_refl _)
    have hT : h''.get? s.heap.objs.size = some { cls := .type "tuple", data := .seq #[v, v'] } := up _ _ (Nat.ne_of_gt zlt) b5
    have I1 : Inv X pins σ (upd H s.heap.objs.size (.tup [x, y])) { s with heap := h'', toks := s.toks } := by
      refine I.turnedT (ch := [z, TI, TO, i1, i2]) hf kk (Nat.le_refl _) ⟨(by show 2 ≤ sizeLine; decide), [v, v'], ?_, ⟨_, hT, rfl, _, rfl⟩⟩
      exact .cons ru (.cons ru' .nil)
    refine ⟨.ref s.heap.objs.size, _, I1, rfl, ⟨_, x, y, rfl, hno, rfl, fun zs hz => by rw [I.seqX_inj hz hq]; exact hx, fun zs hz => by rw [I.seqX_inj hz hq']; exact hy⟩, ⟨e1, ?_, ⟨v, v', up _ _ N.TOz b2⟩, ?_, ?_⟩, fun e he => ?_⟩
    · exact up _ _ N.TIz (b7 _ _ N.TIz N.TITO N.TIi1 N.TIi2 g2)
    · exact (src_x (prog := X.prog) (w := X.w) t i1 a).keep _ _ _ b3 fun o q => up _ o N.i1z q
    · exact (src_x (prog := X.prog) (w := X.w) u i2 b).keep _ _ _ b4 fun o q => up _ o N.i2z q
    · have hb' := (hf e he).1
      rw [upd_ne]
      · exact hb'
      · intro q
        subst q
        have lt : ∀ {c : Addr} {o : Obj}, s.heap.get? c = some o → s.heap.objs.size ≠ c := fun q => Nat.ne_of_gt (Heap.lt_size q)
        simp only [List.mem_cons, List.not_mem_nil, or_false] at he
        rcases he with q | q | q | q | q
        · exact lt g1 q
        · exact lt g2 q
        · exact lt g3 q
        · exact lt k4 q
        · exact lt k5 q
  done := by
    intro X hP hw hK hc i pins s σ H E I hf st hg
    subst hP hw hK
    obtain ⟨xs, hq, hx⟩ := hg
    obtain ⟨its, rv, p, _⟩ := I.seqX hq
    have hl := rv.length
    obtain ⟨g1, g2, ⟨c, d, g3⟩, g4, g5⟩ := st
    refine zipg_end (xs := its.toArray) (I.ok.hd hc) N (src_x t i1 a) g1 g2 g4 p (by simp; omega) fun h' hk => ?_
    exact ⟨rfl, I.turnedL (t' := s.toks) (ch := [z, TI, TO, i1, i2]) hf fun e o he q => by
      simp only [List.mem_cons, List.not_mem_nil, or_false, not_or] at he
      exact hk e o he.1 he.2.2.2.1 q⟩
  self := fun A i s Q E st h => wpAny_pyIter_zip st.1 h
def iZipg (K : PySem.W.Frag) (t u : Bool) (ta : TA) : TI := fun σ H R => ta σ H fun vs H1 => ∃ a b, vs = [.ref a, .ref b] ∧ (∃ xs, SqX K t H1 a xs) ∧ (∃ ys, SqX K u H1 b ys) ∧ R (Itg K t u a b) H1

theorem pi_zipg (t u : Bool) {X : Cx} {elts : List Expr} {k : Nat} {tpos : Pos} {a b : Expr} {ta : TA} {p pos : Pos} (hg : Gl X "zip") (hm : X.mg "zip" = none) (ha : PA X [a, b] ta) (hs : starEach [a, b] X.env = (false, eval a X.env) :: starEach [b] X.env := by rfl) (hpl : (backTo pos (starEach [b] X.env)).any (·.1) = false := by rfl) :
    PI X (.Tuple elts k tpos) (.Call (.Name "zip" p) [a, b] [] pos) (iZipg X.K t u ta) := by
  intro pins s σ H R I h
  refine Call_ (ld_blt I hg hm boot_zip (PyProof.Rows.callWith_type1 (thn (ha pos pins s σ H _ I h) fun us s1 ⟨vs, H1, I1, r1, q1⟩ => ?_) hs hpl))
  obtain ⟨l, m, e, ⟨xs, hq⟩, ⟨ys, hq'⟩, q⟩ := q1
  subst e
  obtain ⟨v, v', rfl, ru, ru'⟩ := vals2 r1
  cases ru
  cases ru'
  obtain ⟨its, rv, pt, hz⟩ := I1.seqX hq
  obtain ⟨jts, rv', pt', hz'⟩ := I1.seqX hq'
  refine call_zipg (tX t) (tX u) (gives_x pt) (gives_x (cX_push pt' _)) fun h' c1 c2 c3 c4 c5 c7 => ?_
  refine wpAny_pyIter_zip c1 ?_
  have I2 := I1.kept (h' := h') (t' := s1.toks) c7
  refine ⟨s1.heap.objs.size + 4, [s1.heap.objs.size + 4, s1.heap.objs.size + 2, s1.heap.objs.size + 3, s1.heap.objs.size, s1.heap.objs.size + 1], _, Itg X.K t u l m, H1, rfl, I2, turn_zipg t u l m _ _ _ _ _ ?_, ⟨c1, c2, ⟨_, _, c3⟩, jX_new c4, jX_new c5⟩, fun c hc' => ?_, q⟩
  · exact zip_apart _ _ _ (cX_lt pt) (cX_lt pt')
  · have hle : s1.heap.objs.size ≤ c := by
      simp only [List.mem_cons, List.not_mem_nil, or_false] at hc'
      rcases hc' with rfl | rfl | rfl | rfl | rfl <;> omega
    exact I1.fpOk hle (I1.hok.fresh hle)
theorem for_zipg {K : PySem.W.Frag} {t u : Bool} {a b : Addr} {xs ys : List V} {g : TG} {tb : TS} {D : Ends} {σ : St} {H : Hp} (hn : xs.length = ys.length) (Pv : Nat → St → Hp → Prop) (h0 : Pv 0 σ H) (hl : ∀ i σ H, i ≤ xs.length → Pv i σ H → SqX K t H a xs ∧ SqX K u H b ys)
    (hs : ∀ i x y σ H p, xs[i]? = some x → ys[i]? = some y → Pv i σ H → H p = none → g (.ref p) σ (upd H p (.tup [x, y])) fun σ2 H2 => tb { D with nx := Pv (i + 1), ct := Pv (i + 1), bk := D.nx } σ2 H2) (hd : ∀ σ H, Pv xs.length σ H → D.nx σ H) :
    ∃ W : Nat → Nat → St → Hp → Prop, (∃ m, W 0 m σ H) ∧ ∀ i m σ H, W i m σ H →
      ((Itg K t u a b).stop i H ∧ D.nx σ H) ∨ ((Itg K t u a b).go i H ∧ ∃ N : St → Hp → Prop, (∀ σ' H', N σ' H' → ∃ m', m' < m ∧ W (i + 1) m' σ' H') ∧ ∀ x H', (Itg K t u a b).yld i H x H' → g x σ H' fun σ2 H2 => tb { D with nx := N, ct := N, bk := D.nx } σ2 H2) := by
  refine ⟨fun i m σ H => m = xs.length - i ∧ i ≤ xs.length ∧ Pv i σ H, ⟨xs.length, by simp, Nat.zero_le _, h0⟩, ?_⟩
  rintro i m σ H ⟨rfl, hi, p⟩
  obtain ⟨q, q'⟩ := hl i σ H hi p
  by_cases hlt : i < xs.length
  · have hlt' : i < ys.length := by omega
    refine .inr ⟨⟨xs, ys, xs[i], ys[i], q, q', by simp [hlt], by simp [hlt']⟩, Pv (i + 1), fun σ' H' p' => ⟨xs.length - (i + 1), by omega, rfl, hlt, p'⟩, fun x H' y => ?_⟩
    obtain ⟨c, x1, y1, e1, e2, e3, e4, e5⟩ := y
    subst e1 e3
    exact hs i x1 y1 σ H c (e4 xs q) (e5 ys q') p e2
  · have e : i = xs.length := by omega
    subst e
    exact .inl ⟨⟨xs, q, Nat.le_refl _⟩, hd σ H p⟩
end L2
namespace L2
open PySem PySem.Spec PyProof.Rows

end L2
namespace L2
open PySem PySem.Spec PyProof.Rows

end L2
namespace L2
open PySem PySem.Spec PyProof.Rows

section
variable {X : Cx} {tg : Expr}
end
end L2
namespace L2
open PySem PySem.Spec PyProof.Rows

def Itst (lo c : Int) (n : Nat) : It := ⟨fun i _ => i < n, fun i H x H' => H' = H ∧ x = .int (lo + i * c), fun i _ => n ≤ i⟩
theorem turn_step {P : Program} {w : World} {K : PySem.W.Frag} {tg : Expr} (it : Addr) (lo c : Int) (n : Nat) : Turn P w K tg (Itst lo c n) [it] it (fun i h => IsRangeIter h it (lo + (i : Nat) * c) ((n : Int) - (i : Nat)) c) where
  mem := by simp
  obj := fun i h st b hb => by
    have e : b = it := by simpa using hb
    subst e
    exact ⟨_, st, fun v z => by
      have z' : Data.fields _ = Data.cell v := z
      cases z'⟩
  keep := fun i h h' st k => k it (by simp) _ st
  item := by
    intro X hP hw hK hc i pins s σ H E I hf st hg
    subst hP hw hK
    obtain ⟨f0, f1, f2, f3, f4, f5⟩ := hf it (by simp)
    have W := Walks.range (prog := X.prog) (w := X.w) (I.ok.hd hc) it lo c n
    refine W.item i s _ _ hg st fun v h' tk hv st' kk => ?_
    obtain ⟨t, rfl⟩ := hv
    have I1 : Inv X pins σ H { s with heap := h', toks := tk } := I.turned (fun b o hb e => kk b o (by simpa using hb) e) f0 f1 f3 f4 f5
    exact ⟨_, rfl, go_of (s := { s with heap := h', toks := tk }) (n := "range_iterator") st' rfl rfl (by decide) ⟨.int (lo + i * c), H, I1, ⟨t, rfl⟩, ⟨rfl, rfl⟩, st', fun b hb => (hf b hb).1⟩⟩
  done := by
    intro X hP hw hK hc i pins s σ H E I hf st hg
    subst hP hw hK
    obtain ⟨f0, f1, f2, f3, f4, f5⟩ := hf it (by simp)
    exact wpAny_pyNext_range_end (I.ok.hd hc) st (by have : n ≤ i := hg; omega) fun h' eb => ⟨rfl, I.turned (t' := s.toks) (fun b o hb e => eb b o hb e) f0 f1 f3 f4 f5⟩
  self := fun _ _ _ _ _ st h => wpAny_pyIter_rangeiter st h

def stepN (a b c : Int) : Nat := if a < b then ((b - a - 1) / c + 1).toNat else 0
theorem rangeSize_step {a b c : Int} (hc : 0 < c) : Builtin.Range.rangeSize a b c = (stepN a b c : Int) := by
  unfold Builtin.Range.rangeSize stepN
  rw [if_pos hc]
  split
  · have := Int.ediv_nonneg (show (0 : Int) ≤ b - a - 1 by omega) (Int.le_of_lt hc)
    omega
  · rfl
theorem small_step {a b c : Int} (hc : 0 < c) (hc' : c < 1000) (ha : -(2 ^ 60) ≤ a) (ha' : a < 2 ^ 60) (hb : -(2 ^ 60) ≤ b) (hb' : b < 2 ^ 60) : Builtin.Range.small a b c = true := by
  unfold Builtin.Range.small
  rw [rangeSize_step hc]
  have h1 : ((stepN a b c : Nat) : Int) < 2 ^ 62 := by
    unfold stepN
    split
    · have h2 := Int.ediv_le_self (c) (show (0 : Int) ≤ b - a - 1 by omega)
      have h3 := Int.ediv_nonneg (show (0 : Int) ≤ b - a - 1 by omega) (Int.le_of_lt hc)
      omega
    · decide
  simp only [Builtin.Range.rangeFitsLong, Bool.and_eq_true, Bool.or_eq_true, decide_eq_true_eq, beq_iff_eq, hc, gt_iff_lt, if_true]
  omega
section
variable {X : Cx} {tg : Expr}
def iRngS (ta : TA) : TI := fun σ H R => ta σ H fun vs H1 => ∃ i j c : Int, vs = [.int i, .int j, .int c] ∧ 0 < c ∧ c < 1000 ∧ (-(2 ^ 60) ≤ i ∧ i < 2 ^ 60 ∧ -(2 ^ 60) ≤ j ∧ j < 2 ^ 60) ∧ R (Itst i c (stepN i j c)) H1
theorem pi_rangeS {a b c : Expr} {ta : TA} {p pos : Pos} (hg : Gl X "range") (hm : X.mg "range" = none) (ha : PA X [a, b, c] ta) (hs : starEach [a, b, c] X.env = [(false, eval a X.env), (false, eval b X.env), (false, eval c X.env)] := by rfl)
    (hs2 : starEach [b, c] X.env = [(false, eval b X.env), (false, eval c X.env)] := by rfl) :
    PI X tg (.Call (.Name "range" p) [a, b, c] [] pos) (iRngS ta) := by
  intro pins s σ H R I h
  refine Call_ (ld_blt I hg hm boot_range (PyProof.Rows.callWith_type1 (thn (ha pos pins s σ H _ I h) fun us s1 ⟨vs, H1, I1, r1, q1⟩ => ?_) (by rw [hs, hs2]) (by rw [hs2]; rfl)))
  obtain ⟨i, j, c, e, h0, h9, ⟨q1, q2, q3, q4⟩, q⟩ := q1
  subst e
  cases r1 with
  | cons r rr =>
    cases rr with
    | cons r' rr =>
      cases rr with
      | cons r'' rr =>
        cases rr
        obtain ⟨t, rfl⟩ := r
        obtain ⟨u, rfl⟩ := r'
        obtain ⟨v, rfl⟩ := r''
        refine call_range_3 (by simp only [bne_iff_ne, ne_eq, beq_iff_eq] <;> omega) ?_ (Or.inl (PyProof.noPylong_small (by first | decide | omega)))
        refine wpAny_pyIter_range (IsRange.new ..) (small_step h0 h9 q1 q2 q3 q4) ?_
        have I2 : Inv X pins σ H1 { s1 with heap := s1.heap.push { cls := .type "range", data := .fields #[.int i t, .int j u, .int c v] }, toks := s1.toks } := I1.kept fun b o e => Heap.get?_push_of_some _ e
        refine ⟨(s1.heap.push { cls := .type "range", data := .fields #[.int i t, .int j u, .int c v] }).objs.size, [(s1.heap.push { cls := .type "range", data := .fields #[.int i t, .int j u, .int c v] }).objs.size], _, _, H1, rfl,
          I2.kept (t' := s1.toks) fun b o e => Heap.get?_push_of_some _ e, turn_step _ i c (stepN i j c), ?_, fun b hb => ?_, q⟩
        · have e1 : i + ((0 : Nat) : Int) * c = i := by simp
          have e2 : ((stepN i j c : Nat) : Int) - ((0 : Nat) : Int) = Builtin.Range.rangeSize i j c := by rw [rangeSize_step h0]; omega
          show IsRangeIter _ _ (i + ((0 : Nat) : Int) * c) (((stepN i j c : Nat) : Int) - ((0 : Nat) : Int)) c
          rw [e1, e2]
          exact Heap.get?_push_size _ rfl
        · have e : b = (s1.heap.push { cls := .type "range", data := .fields #[.int i t, .int j u, .int c v] }).objs.size := by simpa using hb
          subst e
          exact I2.fpOk (Nat.le_refl _) (I2.hok.fresh (Nat.le_refl _))
end
theorem for_step {lo c : Int} {n : Nat} {g : TG} {tb : TS} {D : Ends} {σ : St} {H : Hp} (Pv : Nat → St → Hp → Prop) (h0 : Pv 0 σ H)
    (hs : ∀ i σ H, i < n → Pv i σ H → g (.int (lo + i * c)) σ H fun σ2 H2 => tb { D with nx := Pv (i + 1), ct := Pv (i + 1), bk := D.nx } σ2 H2) (hd : ∀ σ H, Pv n σ H → D.nx σ H) :
    ∃ W : Nat → Nat → St → Hp → Prop, (∃ m, W 0 m σ H) ∧ ∀ i m σ H, W i m σ H →
      ((Itst lo c n).stop i H ∧ D.nx σ H) ∨ ((Itst lo c n).go i H ∧ ∃ N : St → Hp → Prop, (∀ σ' H', N σ' H' → ∃ m', m' < m ∧ W (i + 1) m' σ' H') ∧ ∀ x H', (Itst lo c n).yld i H x H' → g x σ H' fun σ2 H2 => tb { D with nx := N, ct := N, bk := D.nx } σ2 H2) := by
  refine ⟨fun i m σ H => m = n - i ∧ i ≤ n ∧ Pv i σ H, ⟨n, by simp, Nat.zero_le _, h0⟩, ?_⟩
  rintro i m σ H ⟨rfl, hi, p⟩
  by_cases hlt : i < n
  · refine .inr ⟨hlt, Pv (i + 1), fun σ' H' p' => ⟨n - (i + 1), by omega, rfl, hlt, p'⟩, fun x H' y => ?_⟩
    obtain ⟨e1, e2⟩ := y
    subst e1 e2
    exact hs i σ _ hlt p
  · have e : i = n := by omega
    subst e
    exact .inl ⟨Nat.le_refl _, hd σ H p⟩

end L2
namespace HT
open PySem PySem.Spec PyProof.Rows
section
variable {prog : Program} {w : World} {A : Around} {E : Value → Shared → Prop} {s : Shared}
end
end HT
namespace L2
open PySem PySem.Spec PyProof.Rows

end L2
namespace L2
open PySem PySem.Spec PyProof.Rows

section
variable {M : Model} {A : Around} {E : Value → Shared → Prop} {s : Shared}

structure LeftBy (fs : List Addr) (e T : Addr) (h h' : Heap) : Prop where
  keep : ∀ b o, b ≠ e → b ∉ fs → h.get? b = some o → h'.get? b = some o
  slot : ∀ b o, b ≠ e → h.get? b = some o → ∃ sl, h'.get? b = some { o with slots := sl }
  exc : ∀ oe vs, h.get? e = some oe → oe.data = .fields vs → ∃ oe', h'.get? e = some oe' ∧ oe'.cls = oe.cls ∧ oe'.dict = oe.dict ∧ oe'.data = .fields (vs.setIfInBounds 1 (.ref T))
  new : h.get? T = none
  tr : ∃ oT ts, h'.get? T = some oT ∧ oT.data = .fields ts ∧ ts[3]? = some .none
theorem note_new {base : Heap} {env : Env} {outer : List Env} {L e : Addr} {oe : Obj} {vs : Array Value} {hd : Value} {nx : Bool} {Q : Unit → Shared → Prop} (fr : A.frames = some (env :: outer)) (ff : s.heap.FunFrames base (env :: outer)) (ef : env.frame = some L)
    (ge : s.heap.get? e = some oe) (de : oe.data = .fields vs) (sz : 1 < vs.size) (q : ∀ h' T, LeftBy ((env :: outer).filterMap (·.frame)) e T s.heap h' → Q () { s with heap := h' }) :
    wpAny M A (do let a ← frameOf env; let pl ← entryPlaceOf L nx; let b ← EntryCells.newEntry hd a .none (rawInt L) .none pl; setField (.ref e) 1 b) (fun _ s' => wpAny M A (setFlight (.ref e) none) Q E s') E s := by
  have nf : e ∉ (env :: outer).filterMap (·.frame) := fun m => by
    obtain ⟨_, o, ho, hn⟩ := ff.mem m
    rw [ge] at ho
    cases ho
    exact hn vs de
  refine wpAny_bind (wpAny_frameOf_fun fr ff ef fun k1 ks => ?_)
  refine wpAny_bind (wpAny_entryPlaceOf fun pl hpl => ?_)
  unfold EntryCells.newEntry newFields
  refine wpAny_bind (wpAny_newObj_type ?_ (hpl.sizeOk5 _ _ _ _ _))
  have g1 : k1.get? e = some oe := (ks.2.1 e nf).trans ge
  generalize hob : ({ cls := .type "traceback", dict := none, data := .fields ([hd, .ref L, .none, rawInt L, .none] ++ (if pl.isEmpty then List.replicate 6 Value.none else pl)).toArray } : Obj) = ob
  have g2 := Heap.get?_push_of_some (h := k1) ob g1
  refine wpAny_setField g2 de sz ?_
  have ne : k1.objs.size ≠ e := Nat.ne_of_gt (Heap.lt_size g1)
  have d3 := Obj.data_mapFields de (·.setIfInBounds 1 (Value.ref k1.objs.size))
  have g3 := Heap.get?_update_self (Obj.mapFields (·.setIfInBounds 1 (Value.ref k1.objs.size))) g2 (Obj.isFreed_of_fields d3)
  have t3 := (Heap.get?_update_other (k1.push ob) (Obj.mapFields (·.setIfInBounds 1 (Value.ref k1.objs.size))) (Ne.symm ne)).trans (Heap.get?_push_size k1 (o := ob) (by rw [← hob]; rfl))
  unfold setFlight
  refine wpAny_bind (wpAny_field g3 d3 (x := .ref k1.objs.size) (by simp [sz]) ?_)
  rw [if_pos (show (Value.ref k1.objs.size != Value.none) = true from by simp)]
  have dT : ob.data = .fields ([hd, .ref L, .none, rawInt L, .none] ++ (if pl.isEmpty then List.replicate 6 Value.none else pl)).toArray := by rw [← hob]
  refine wpAny_setField t3 dT (by simp only [List.size_toArray, List.length_append, List.length_cons, List.length_nil] <;> omega) (q _ k1.objs.size ?_)
  have up : ∀ b o, b ≠ e → k1.get? b = some o → (((k1.push ob).update e (Obj.mapFields (·.setIfInBounds 1 (Value.ref k1.objs.size)))).update k1.objs.size (Obj.mapFields (·.setIfInBounds 3 ((none : Option Addr).elim Value.none fun f => rawInt f)))).get? b = some o := fun b o be hb => by
    rw [Heap.get?_update_other _ _ (show k1.objs.size ≠ b from Nat.ne_of_gt (Heap.lt_size hb)), Heap.get?_update_other _ _ (Ne.symm be)]
    exact Heap.get?_push_of_some _ hb
  refine ⟨fun b o be bf hb => up b o be ((ks.2.1 b bf).trans hb), fun b o be hb => ?_, fun oe2 vs2 h1 h2 => ?_, ?_, ?_⟩
  · obtain ⟨sl, hs⟩ := ks.2.2 b o hb
    exact ⟨sl, up b _ be hs⟩
  · rw [ge] at h1
    cases h1
    rw [de] at h2
    cases h2
    refine ⟨_, (Heap.get?_update_other _ _ ne).trans g3, Obj.cls_mapFields _ _, ?_, d3⟩
    obtain ⟨c, dd, dt, sl⟩ := oe
    cases de
    rfl
  · have : s.heap.objs.size = k1.objs.size := ks.1.symm
    rw [← this]
    exact Heap.get?_none_of_le (Nat.le_refl _)
  · refine ⟨_, _, Heap.get?_update_self _ t3 (Obj.isFreed_of_fields (Obj.data_mapFields dT _)), Obj.data_mapFields dT _, ?_⟩
    first | (simp; done) | (rcases hpl with rfl | ⟨_, _, _, _, _, _, _, rfl⟩ <;> simp)
end
end L2
namespace L2
open PySem PySem.Spec PyProof.Rows
section
variable {M : Model} {A : Around} {E : Value → Shared → Prop} {s : Shared}

theorem leave_first {base : Heap} {env : Env} {outer : List Env} {L e : Addr} {oe : Obj} {vs : Array Value} {Q : Unit → Shared → Prop} (fr : A.frames = some (env :: outer)) (ff : s.heap.FunFrames base (env :: outer)) (ef : env.frame = some L)
    (ge : s.heap.get? e = some oe) (de : oe.data = .fields vs) (v1 : vs[1]? = some .none) (q : ∀ h' T, LeftBy ((env :: outer).filterMap (·.frame)) e T s.heap h' → Q () { s with heap := h' }) : wpAny M A (leaving env (.ref e)) Q E s := by
  unfold leaving noteFrame
  simp only [ef]
  refine wpAny_bind (wpAny_bind (wpAny_field ge de v1 ?_))
  rw [if_neg (by decide)]
  exact note_new fr ff ef ge de (Array.getElem?_eq_some_iff.mp v1).1 q
end

theorem ObjOk.there {P : Program} {w : World} {H : Hp} {h : Heap} {a : Addr} {o : HO} (x : ObjOk P w H h a o) : ∃ ob, h.get? a = some ob := by
  cases o with
  | lst xs => obtain ⟨_, _, _, _, e⟩ := x; exact ⟨_, e⟩
  | tup xs => obtain ⟨_, _, _, ob, e, _⟩ := x; exact ⟨ob, e⟩
  | dK kvs => obtain ⟨_, _, _, _, o, _, _, e, _⟩ := x; exact ⟨_, e⟩
  | dT kvs => obtain ⟨_, _, _, _, o, _, _, e, _⟩ := x; exact ⟨_, e⟩
  | set S n => obtain ⟨o, _, _, _, e, _⟩ := x; exact ⟨_, e⟩
  | ins C dx fs => obtain ⟨_, _, _, e, _⟩ := x; exact ⟨_, e⟩
  | own y => obtain ⟨_, e⟩ := x; exact ⟨_, e⟩
  | xd fs => obtain ⟨_, ⟨_, _, _, e, _⟩, _⟩ := x; exact ⟨_, e⟩
  | rng lo hi => obtain ⟨_, _, _, e⟩ := x; exact ⟨_, e⟩
  | frz ob u => exact ⟨ob, x.1⟩
  | tbl ps => exact ⟨_, x⟩
  | met f y => exact ⟨_, x⟩
  | ext φ => obtain ⟨_, ⟨ob, e⟩, _⟩ := x; exact ⟨ob, e⟩

def Fly (h h' : Heap) (H' : Hp) (a C : Addr) (dd : Option Addr) : Prop := h.get? a = none ∧ H' a = none ∧ ∃ oe vs T oT ts, h'.get? a = some oe ∧ oe.cls = .ref C ∧ oe.dict = dd ∧ oe.data = .fields vs ∧ vs[1]? = some (.ref T) ∧ T ≠ a ∧ h.get? T = none ∧ H' T = none ∧ h'.get? T = some oT ∧ oT.data = .fields ts ∧ ts[3]? = some .none
def CX1 (P : Program) (w : World) : CXT := fun outer H s E e s' => ∃ (a C : Addr) (dd : Option Addr) (H' : Hp), e = .ref a ∧ s'.os = s.os ∧ AllBare s'.gens ∧ Un (frs outer) [] H H' s.heap s'.heap ∧ HOk P w H' s'.heap ∧ Fly s.heap s'.heap H' a C dd ∧ E (.ref C) dd H'

end L2
namespace L2
open PySem PySem.Spec PyProof.Rows
section
variable {M : Model} {A : Around} {E : Value → Shared → Prop} {s : Shared}

end

theorem Fun.okX {P : Program} {w : World} {K : PySem.W.Frag} {mg : Str → Option Value} {base : Heap} {x qual : Str} {st : Stmt} {f : Addr} {fd : FuncData} {N ps : List Str} {k : Nat} {sp : Sp} (F : Fun K x qual st f fd) (S : FnScope N ps (defScope st)) (len : ∀ vs H Q E, sp vs H Q E → vs.length = ps.length)
    (hbody : ∀ (cdv : Value) (A : Around) (outer : List Env) (s : Shared) (H : Hp) (vs : List V) (Q : VK) (E : XK), Room k (A.deeper (envOfC qual (defScope st) s.heap.objs.size f cdv)) → sp vs H Q E →
      ∃ t, PSs (cxOf (CX1 P w) P w K mg base N qual (defScope st) f cdv A outer s H E) (defBody st) t ∧ t { nx := fun _ H' => Q .non H', rt := Q } (start N vs) H) : FnOk P w K mg base (CX1 P w) (k + 1) f fd ps sp := by
  obtain ⟨oc, od, kV, doc, pm, an, cdv, ct, osl, rfl, lk, hcd⟩ := F.ex
  exact fn_of lk hcd S len fun A outer s H vs Q E hr hsp => hbody cdv A outer s H vs Q E hr hsp

end L2
namespace L2
open PySem PySem.Spec PyProof.Rows
section
variable {M : Model} {A : Around} {E : Value → Shared → Prop} {s : Shared}

theorem look_next {base : Heap} {env : Env} {outer : List Env} {L e T0 : Addr} {oe oT : Obj} {vs ts : Array Value} {Q : Unit → Shared → Prop} (fr : A.frames = some (env :: outer)) (ff : s.heap.FunFrames base (env :: outer)) (ef : env.frame = some L)
    (ge : s.heap.get? e = some oe) (de : oe.data = .fields vs) (v1 : vs[1]? = some (.ref T0)) (gT : s.heap.get? T0 = some oT) (dT : oT.data = .fields ts) (t3 : ts[3]? = some .none) (ne : T0 ≠ e)
    (q : ∀ h1 h' T, (∀ b, b ≠ T0 → h1.get? b = s.heap.get? b) → (∃ o, h1.get? T0 = some o) → LeftBy ((env :: outer).filterMap (·.frame)) e T h1 h' → Q () { s with heap := h' }) :
    wpAny M A (noteFrame (.ref e) env) (fun _ s2 => wpAny M A (setFlight (.ref e) none) Q E s2) E s := by
  unfold noteFrame
  simp only [ef]
  refine wpAny_bind (wpAny_field ge de v1 ?_)
  rw [if_pos (show (Value.ref T0 != Value.none) = true from by simp)]
  refine wpAny_bind (wpAny_field gT dT t3 ?_)
  rw [if_neg (show ¬ ((Value.none == rawInt L) = true) from by simp [rawInt])]
  refine wpAny_bind (wpAny_setField gT dT (Array.getElem?_eq_some_iff.mp t3).1 ?_)
  have oth : ∀ b, b ≠ T0 → (s.heap.update T0 (Obj.mapFields (·.setIfInBounds 3 Value.none))).get? b = s.heap.get? b := fun b hb => Heap.get?_update_other _ _ (Ne.symm hb)
  have there := Heap.get?_update_self (Obj.mapFields (·.setIfInBounds 3 Value.none)) gT (Obj.isFreed_of_fields (Obj.data_mapFields dT _))
  have nr : ∀ b o, s.heap.get? b = some o → (∀ us, o.data ≠ .fields us) → b ≠ T0 := fun b o hb hn z => by
    rw [z, gT] at hb
    cases hb
    exact hn ts dT
  exact note_new (s := { s with heap := s.heap.update T0 (Obj.mapFields (·.setIfInBounds 3 Value.none)) }) fr (ff.of_keeps fun b o hb hn => ⟨o, (oth b (nr b o hb hn)).trans hb, rfl⟩) ef ((oth e (Ne.symm ne)).trans ge) de (Array.getElem?_eq_some_iff.mp v1).1 fun h' T lb => q _ h' T oth ⟨_, there⟩ lb

theorem flight {e T : Addr} {oe oT : Obj} {vs ts : Array Value} {Q : Unit → Shared → Prop} (ge : s.heap.get? e = some oe) (de : oe.data = .fields vs) (v1 : vs[1]? = some (.ref T)) (gT : s.heap.get? T = some oT) (dT : oT.data = .fields ts) (t3 : ts[3]? = some .none)
    (q : ∀ h', (∀ b, b ≠ T → h'.get? b = s.heap.get? b) → (∃ oT' ts', h'.get? T = some oT' ∧ oT'.data = .fields ts' ∧ ts'[3]? = some .none) → Q () { s with heap := h' }) : wpAny M A (setFlight (.ref e) none) Q E s := by
  unfold setFlight
  refine wpAny_bind (wpAny_field ge de v1 ?_)
  rw [if_pos (show (Value.ref T != Value.none) = true from by simp)]
  have sz := (Array.getElem?_eq_some_iff.mp t3).1
  refine wpAny_setField gT dT sz (q _ (fun b hb => Heap.get?_update_other _ _ (Ne.symm hb)) ⟨_, _, Heap.get?_update_self _ gT (Obj.isFreed_of_fields (Obj.data_mapFields dT _)), Obj.data_mapFields dT _, ?_⟩)
  simp [sz]
end
end L2
namespace L2
open PySem PySem.Spec PyProof.Rows

abbrev ExK := St → Addr → Option Addr → Hp → Prop

def Fr0 (X : Cx) (pins : List (Addr × Obj)) (h0 : Heap) : Prop := (∀ b, h0.get? b = none → X.s₀.heap.get? b = none ∨ b ∈ X.ex) ∧ ∀ p ∈ X.pn ++ pins, h0.get? p.1 = some p.2
theorem Inv.fr0 {X : Cx} {pins : List (Addr × Obj)} {σ : St} {H : Hp} {s : Shared} (I : Inv X pins σ H s) : Fr0 X pins s.heap := by
  refine ⟨fun b hb => ?_, fun p hp => (I.pin p hp).1⟩
  by_cases hx : b ∈ X.ex
  · exact .inr hx
  · refine .inl ?_
    cases q : X.s₀.heap.get? b with
    | none => rfl
    | some o =>
      obtain ⟨o', z⟩ := I.base.there b o q hx
      rw [hb] at z
      cases z

def XF (X : Cx) (pins : List (Addr × Obj)) (Ex : ExK) (e : Value) (s' : Shared) : Prop := ∃ (h0 : Heap) (a C : Addr) (dd : Option Addr) (σ' : St) (H' : Hp), e = .ref a ∧ Inv X pins σ' H' s' ∧ Fly h0 s'.heap H' a C dd ∧ Fr0 X pins h0 ∧ Ex σ' C dd H'
abbrev TX := St → Hp → VK → ExK → Prop

def PEX (X : Cx) (e : Expr) (t : TX) : Prop := ∀ (pins : List (Addr × Obj)) (s : Shared) (σ : St) (H : Hp) (Q : VK) (Ex : ExK), Inv X pins σ H s → t σ H Q Ex → wpAny (model X.prog X.w) X.A (eval e X.env) (EP X pins σ Q) (XF X pins Ex) s
section
variable {X : Cx} {k : Nat} {f C : Addr} {fd : FuncData} {ps : List Str} {sp : Sp} {dvs : List V} {ds : List Value} {x m : Str} {p pos apos : Pos} {e o : Expr} {es : List Expr} {ta : TE} {t : TA}
theorem run_fnX {pins : List (Addr × Obj)} {σ : St} {H : Hp} {s : Shared} {Q : VK} {Ex : ExK} {us : List Value} {vs : List V} (F : FnOk X.prog X.w X.K X.mg X.base (CX1 X.prog X.w) k f fd ps sp) (hr : Room k X.A) (hb : Binds X.K fd ps ds) (hd : Vals dvs ds)
    (I : Inv X pins σ H s) (r : Vals vs us) (h : sp (vs ++ dvs) H Q (fun cls dd H' => ∃ C, cls = .ref C ∧ Ex σ C dd H')) : wpAny (model X.prog X.w) X.A (call (.ref f) us) (EP X pins σ Q) (XF X pins Ex) s := by
  have r2 : Vals (vs ++ dvs) (us ++ ds) := r.append hd
  have hl : (us ++ ds).length = ps.length := by rw [← r2.length]; exact F.len _ _ _ _ h
  refine wpAny_call (codeAny_mono (F.run X.A X.stack s H ⟨us, []⟩ (us ++ ds) (vs ++ dvs) Q _ hr I.env0 (hb s us I.kIn hl) r2 h) fun r s' hq => ?_)
  cases r with
  | error e =>
    obtain ⟨a, C, dd, H2, rfl, hos, hgen, un, hok, fl, C', hC, hE⟩ := hq
    cases hC
    obtain ⟨hh, g, d, t, os'⟩ := s'
    obtain rfl : os' = s.os := hos
    exact ⟨s.heap, a, C, dd, σ, H2, rfl, I.call (h' := hh) (g' := g) (d' := d) (t' := t) (ch := []) un hok hgen (fun b z => absurd z (by simp)), fl, I.fr0, hE⟩
  | ok fl =>
    cases fl with
    | ret u => exact I.after hq
    | next => exact False.elim hq
    | brk => exact False.elim hq
    | cont => exact False.elim hq

theorem pex_call (F : FnOk X.prog X.w X.K X.mg X.base (CX1 X.prog X.w) k f fd ps sp) (hr : Room k X.A) (hg : Gl X x) (hm : X.mg x = some (.ref f)) (hk : PySem.W.keepIn X.K (.ref f) = true) (hb : Binds X.K fd ps ds) (hd : Vals dvs ds)
    (ha : PA X.nox (e :: es) t) (hdb : (x == ("__debug__" : Str)) = false := by decide) (he : starEach (e :: es) X.env = (false, eval e X.env) :: starEach es X.env := by rfl) (hpl : (backTo pos (starEach es X.env)).any (·.1) = false := by rfl) :
    PEX X (.Call (.Name x p) (e :: es) [] pos) (fun σ H Q Ex => t σ H fun vs H1 => sp (vs ++ dvs) H1 Q fun cls dd H' => ∃ C, cls = .ref C ∧ Ex σ C dd H') := by
  intro pins s σ H Q Ex I h
  refine wpAny_Call_Name_kw (ld_glob I hg hm ?_ hdb)
  refine PySem.W.callWith_K (h₀ := X.base) I.ok.mod.kin hk (wpAny_mono (ha pos pins s σ H _ (I.wish _) h) (fun us s1 ⟨vs, H1, I1, r, q⟩ => ⟨I1.kIn, ?_⟩) fun _ _ z => z.elim) he hpl
  exact run_fnX F hr hb hd I1.unwish r q

abbrev TSX := Ends → St → Hp → ExK → Prop
def PSX (X : Cx) (st : Stmt) (t : TSX) : Prop := ∀ (pins : List (Addr × Obj)) (s : Shared) (σ : St) (H : Hp) (D : Ends) (Ex : ExK), Inv X pins σ H s → t D σ H Ex → wpAny (model X.prog X.w) X.A (exec st X.env) (SP X pins D) (XF X pins Ex) s
def PSsX (X : Cx) (st : List Stmt) (t : TSX) : Prop := ∀ (pins : List (Addr × Obj)) (s : Shared) (σ : St) (H : Hp) (D : Ends) (Ex : ExK), Inv X pins σ H s → t D σ H Ex → wpAny (model X.prog X.w) X.A (execs st X.env) (SP X pins D) (XF X pins Ex) s
def tDropX (t : TX) : TSX := fun D σ H Ex => t σ H (fun _ H1 => D.nx σ H1) Ex
theorem psx_expr {te : TX} (he : PEX X e te) (hs : swapsWith e none pos.line X.env = pure false := by rfl) : PSX X (.Expr e pos) (tDropX te) := by
  intro pins s σ H D Ex I h
  exact wpAny_Expr_any (thn (he pins s σ H _ Ex I h) fun v s1 ⟨x, H1, I1, r1, q1⟩ => ⟨σ, H1, I1, q1⟩) I.quiet hs
theorem pssx_one {st : Stmt} {t : TSX} (h : PSX X st t) : PSsX X [st] t := by
  intro pins s σ H D Ex I hw
  refine wpAny_execs_cons (thn (h pins s σ H D Ex I hw) fun f s1 q => ?_)
  cases f with
  | next => exact wpAny_execs_nil q
  | brk => exact q
  | cont => exact q
  | ret u => exact q
end
end L2
namespace L2
open PySem PySem.Spec PyProof.Rows
section
variable {X : Cx} {pins : List (Addr × Obj)} {σ : St} {H H' : Hp} {s : Shared} {h0 h' : Heap} {ch : List Addr}

theorem Inv.flown {t' : Nat} (I : Inv X pins σ H s) (f : Fr0 X pins h0) (hc : ∀ b ∈ ch, h0.get? b = none ∧ ∃ o vs, s.heap.get? b = some o ∧ o.data = .fields vs)
    (keep : ∀ b o, b ∉ ch → b ∉ frs X.stack → s.heap.get? b = some o → h'.get? b = some o) (slot : ∀ b o, b ∉ ch → s.heap.get? b = some o → ∃ sl, h'.get? b = some { o with slots := sl })
    (free : ∀ b o, b ∉ ch → s.heap.get? b = some o → H b = none → H' b = none) (tups : ∀ b xs, H b = some (.tup xs) → H' b = some (.tup xs)) (frzs : ∀ b o u, H b = some (.frz o u) → H' b = some (.frz o u))
    (tbls : ∀ b ps, H b = some (.tbl ps) → ∃ more, H' b = some (.tbl (ps ++ more))) (hok : HOk X.prog X.w H' h') : Inv X pins σ H' { s with heap := h', toks := t' } := by
  have nL : ∀ b ∈ ch, b ≠ X.env.locals := fun b hb z => by
    obtain ⟨_, o, vs, ho, hd⟩ := hc b hb
    obtain ⟨m, ⟨o', es, ep, ho', hd', _⟩, _⟩ := I.loc
    rw [z, ho'] at ho
    cases ho
    rw [hd'] at hd
    cases hd
  have nC : ∀ b ∈ ch, ∀ x c, X.env.cells.lookup x = some c → c ≠ b := fun b hb x c e z => by
    obtain ⟨_, o, vs, ho, hd⟩ := hc b hb
    obtain ⟨v, o', ho', hd'⟩ := I.cell x c e
    rw [z, ho] at ho'
    cases ho'
    rw [hd] at hd'
    cases hd'
  have nF : ∀ b ∈ ch, b ∉ X.fs := fun b hb z => by
    obtain ⟨_, o, vs, ho, hd⟩ := hc b hb
    obtain ⟨_, o', ho', hn⟩ := I.funs.mem z
    rw [ho] at ho'
    cases ho'
    exact hn vs hd
  have n0 : ∀ b ∈ ch, X.s₀.heap.get? b = none ∨ b ∈ X.ex := fun b hb => f.1 b (hc b hb).1
  have nP : ∀ b ∈ ch, ∀ p ∈ X.pn ++ pins, p.1 ≠ b := fun b hb p hp z => by
    have e := f.2 p hp
    rw [z, (hc b hb).1] at e
    cases e
  have old : ∀ b o, X.s₀.heap.get? b = some o → b ∉ X.ex → b ∉ ch ++ X.ex := fun b o e hx hm => by
    rcases List.mem_append.mp hm with z | z
    · rcases n0 b z with q | q
      · rw [e] at q
        cases q
      · exact hx q
    · exact hx z
  have ok' : Cx.Ok { X with ex := ch ++ X.ex } := ⟨I.ok.mod, I.ok.kind, I.ok.glob, I.ok.blt, I.ok.above, I.ok.inj, I.ok.has, I.ok.cab, I.ok.hd, I.ok.frames, I.ok.stk,
    fun b hb => (List.mem_append.mp hb).elim (fun z => ⟨nL b z, nC b z⟩) (I.ok.exf b), I.ok.bs, I.ok.bsz, fun b o e => old b o (I.ok.bs b o e).1 (I.ok.noex b o e), fun b hb => (List.mem_append.mp hb).elim (nF b) (I.ok.exfs b), I.ok.funs, I.ok.frf⟩
  have I' : Inv { X with ex := ch ++ X.ex } pins σ H s := ⟨ok', I.os, I.bare, ⟨fun b o e n hb hx => I.base.keep b o e n hb fun z => hx (List.mem_append_right _ z), fun b o e n hb hx => I.base.slot b o e n hb fun z => hx (List.mem_append_right _ z),
    fun b o e n hx => I.base.free b o e n fun z => hx (List.mem_append_right _ z), fun b o e hx => I.base.there b o e fun z => hx (List.mem_append_right _ z), I.base.tups, I.base.frzs, I.base.tbls⟩, I.loc, I.cell, I.free, I.freeC, I.pin, I.hok, I.len⟩
  obtain ⟨m, ⟨o, es, ep, ho, r⟩, _⟩ := id I.loc
  obtain ⟨sl, hL⟩ := slot X.env.locals o (fun z => nL _ z rfl) ho
  have J := I'.step (g' := s.gens) (d' := s.drawn) (t' := t') (h' := h') (H' := H') (ch := ch) (fun b hb => ⟨.inl (List.mem_append_left _ hb), nL b hb, nC b hb, nP b hb⟩)
    (fun b o hL hb hc e n => keep b o hc (fun z => (List.mem_cons.mp (I.stkSub b z)).elim hL hb) e) (fun b o _ _ hc e n => slot b o hc e) free (fun b o hc e => (slot b o hc e).elim fun sl z => ⟨_, z⟩) tups frzs tbls (fun m' hm => by
      obtain ⟨o', es', ep', ho', r'⟩ := hm
      rw [ho] at ho'
      cases ho'
      exact ⟨_, es', ep', hL, r'⟩) hok I.bare
  exact ⟨I.ok, J.os, J.bare, ⟨fun b o e n hb hx => J.base.keep b o e n hb (old b o e hx), fun b o e n hb hx => J.base.slot b o e n hb (old b o e hx), fun b o e n hx => J.base.free b o e n (old b o e hx), fun b o e hx => J.base.there b o e (old b o e hx),
    J.base.tups, J.base.frzs, J.base.tbls⟩, J.loc, J.cell, J.free, J.freeC, J.pin, J.hok, J.len⟩

theorem goes_ok {M : Model} {A : Around} {E : Value → Shared → Prop} {i : Nat} {x : Str} {pos : Pos} {Q : Unit → Shared → Prop} (I : Inv X pins σ H s) (hN : X.N.Nodup) (hi : X.N[i]? = some x) (hk : X.env.scope.names.lookup x = some .local)
    (h : ∀ s', Inv X pins (σ.set i none) H s' → Q () s') : wpAny M A (do bindName X.env x .none; unbindBehindTheSuite X.env x pos) Q E s := by
  obtain ⟨m, hn, hl⟩ := id I.loc
  have hcls : (X.env.scope.kind == .class || (X.env.scope.kind == .module && X.env.locals != X.env.globals)) = false := by rw [I.ok.kind]; rfl
  have hiσ : i < σ.length := by rw [I.len]; exact (List.getElem?_eq_some_iff.mp hi).1
  have ne0 : ∀ b o, X.s₀.heap.get? b = some o → b ≠ X.env.locals := fun b o e => Nat.ne_of_lt (Nat.lt_of_lt_of_le (Heap.lt_size e) I.ok.above)
  refine wpAny_nameGoes_keeps hk hn hcls fun h' v hn' hs => ?_
  refine h _ ⟨I.ok, I.os, I.bare, ⟨fun b o e n hb hx => (hs.2 b (ne0 b o e)).trans (I.base.keep b o e n hb hx), fun b o e n hb hx => ?_, I.base.free, fun b o e hx => ?_, I.base.tups, I.base.frzs, I.base.tbls⟩, ⟨_, hn', fun j y w e1 e2 e3 => ?_⟩, fun y c e => ?_, I.free, I.freeC, fun p hp => ?_, fun b u e => ?_, by simpa using I.len⟩
  · obtain ⟨sl, e1⟩ := I.base.slot b o e n hb hx
    exact ⟨sl, (hs.2 b (ne0 b o e)).trans e1⟩
  · obtain ⟨o', e1⟩ := I.base.there b o e hx
    exact ⟨o', (hs.2 b (ne0 b o e)).trans e1⟩
  · by_cases hj : j = i
    · subst hj
      rw [List.getElem?_set_self hiσ] at e2
      cases e2
    · rw [List.getElem?_set_ne (Ne.symm hj)] at e2
      obtain ⟨u', r', q⟩ := hl j y w e1 e2 e3
      refine ⟨u', r', ?_⟩
      rcases q with ⟨k, e⟩ | ⟨k, c, e, z⟩
      · refine .inl ⟨k, ?_⟩
        have : y ≠ x := fun e => hj (nodup_ix hN e1 (e ▸ hi))
        simp [this, e]
      · exact .inr ⟨k, c, e, z.sameBut hs (I.cne y c e)⟩
  · obtain ⟨w', z⟩ := I.cell y c e
    exact ⟨w', z.sameBut hs (I.cne y c e)⟩
  · obtain ⟨e, n, ne, nf, d⟩ := I.pin p hp
    exact ⟨(hs.2 p.1 ne).trans e, n, ne, nf, d⟩
  · refine (I.hok b u e).stay (fun c w' hc q => (hs.2 c ?_).trans q) (fun _ q => q) fun _ _ q => q
    rintro rfl
    rcases hc with rfl | hc
    · rw [I.free] at e
      cases e
    · rw [I.free] at hc
      cases hc
end

def ExcAt (a C : Addr) (dd : Option Addr) (h : Heap) : Prop := ∃ oe vs, h.get? a = some oe ∧ oe.cls = .ref C ∧ oe.dict = dd ∧ oe.data = .fields vs

abbrev Cx.hand (X : Cx) (a : Addr) : Cx := { X with A := X.A.mark (some (.ref a)), calm := false, xe := fun _ _ => False }
section
variable {X : Cx} {pins : List (Addr × Obj)} {σ : St} {H : Hp} {s : Shared} {a : Addr}
theorem Inv.hand (I : Inv X pins σ H s) (a : Addr) : Inv (X.hand a) pins σ H s :=
  ⟨⟨I.ok.mod, I.ok.kind, I.ok.glob, I.ok.blt, I.ok.above, I.ok.inj, I.ok.has, I.ok.cab, fun z => Bool.noConfusion z, I.ok.frames, I.ok.stk, I.ok.exf, I.ok.bs, I.ok.bsz, I.ok.noex, I.ok.exfs, I.ok.funs, I.ok.frf⟩, I.os, I.bare, I.base, I.loc, I.cell, I.free, I.freeC, I.pin, I.hok, I.len⟩
theorem Inv.unhand (ok : X.Ok) (I : Inv (X.hand a) pins σ H s) : Inv X pins σ H s := ⟨ok, I.os, I.bare, I.base, I.loc, I.cell, I.free, I.freeC, I.pin, I.hok, I.len⟩

def takesX (K : PySem.W.Frag) (C : Addr) (D : Value) : Bool := PySem.W.kitCls K (.ref C) D == some true && PySem.W.subIn K D (.type "BaseException") == some true
theorem takes_ok {A : Around} {E : Value → Shared → Prop} {K : PySem.W.Frag} {prog : Program} {w : World} {C : Addr} {dd : Option Addr} {D : Value} {Q : Bool → Shared → Prop} (X : K.In s.heap) (x : ExcAt a C dd s.heap) (hq : takesX K C D = true) (k : Q true s) :
    wpAny (model prog w) A (excMatches (.ref a) D) Q E s := by
  obtain ⟨h, g, d, t, os⟩ := s
  obtain ⟨oe, vs, ge, ce, _, _⟩ := x
  unfold takesX at hq
  rw [Bool.and_eq_true] at hq
  obtain ⟨h1, h2⟩ := hq
  obtain ⟨L3, L5, L1⟩ := PySem.W.kit_cls (M := model prog w) X (beq_iff_eq.mp h1)
  have L2 := PySem.W.looks_subIn (M := model prog w) X (beq_iff_eq.mp h2)
  have L4 : PySem.W.Looks (model prog w) h (typeOf (.ref a)) (.ref C) := ce ▸ (PySem.W.Looks.ld ge).andThen .now
  have L0 : PySem.W.Looks (model prog w) h (isSubtype (.type "type") (.type "tuple")) false := PySem.W.Looks.of_pure tc_notTuple
  have LI : PySem.W.Looks (model prog w) h (isInstance D (.type "tuple")) false := L3.andThen L0
  have LX : PySem.W.Looks (model prog w) h (isExcClass D) true := L5.andThen (by simpa using L2)
  unfold excMatches
  refine wpAny_bind (LI.at ?_)
  simp only [Bool.false_eq_true, if_false]
  refine wpAny_bind (wpAny_pure ?_)
  simp only [List.forIn_cons, List.forIn_nil]
  refine wpAny_bind (wpAny_bind (wpAny_bind (LX.at ?_)))
  simp only [Bool.not_true, Bool.false_eq_true, if_false]
  refine wpAny_pure (wpAny_pure ?_)
  refine wpAny_bind (L4.at ?_)
  refine wpAny_bind (wpAny_bind (wpAny_bind (L1.at ?_)))
  simp only [if_true]
  refine wpAny_pure (wpAny_pure ?_)
  exact wpAny_pure k
end
end L2
namespace L2
open PySem PySem.Spec PyProof.Rows

def Means (X : Cx) (x : Str) (u : Value) : Prop := Gl X x ∧ (x == ("__debug__" : Str)) = false ∧ (X.mg x = some u ∨ X.mg x = none ∧ bootBuiltins x = some u ∧ x ≠ "__name__")
theorem ld_means {X : Cx} {E : Value → Shared → Prop} {pins : List (Addr × Obj)} {s : Shared} {σ : St} {H : Hp} {x : Str} {u : Value} {pos : Pos} {Q : Value → Shared → Prop} (I : Inv X pins σ H s) (m : Means X x u) (h : Q u s) : wpAny (model X.prog X.w) X.A (eval (.Name x pos) X.env) Q E s := by
  obtain ⟨hg, hd, hm | ⟨hm, hv, hn⟩⟩ := m
  · exact ld_glob I hg hm h hd
  · exact ld_blt I hg hm hv h hn hd

def tTry (K : PySem.W.Frag) (i : Nat) (C' : Value) (tb : TSX) (th : Addr → TS) : TS := fun D σ H => tb D σ H fun σ' C dd H' => takesX K C C' = true ∧ ∀ a, H' a = none →
  th a { nx := fun σ'' H'' => D.nx (σ''.set i none) H'', rt := D.rt, bk := fun σ'' H'' => D.bk (σ''.set i none) H'', ct := fun σ'' H'' => D.ct (σ''.set i none) H'' } (σ'.set i (some (.ref a))) (upd H' a (.ext (ExcAt a C dd)))
theorem ps_try {X : Cx} {i : Nat} {x n : Str} {C' : Value} {body suite : List Stmt} {b₀ : Stmt} {tb : TSX} {th : Addr → TS} {np hpos pos : Pos} (hst : X.stack = X.env :: X.outer ∧ X.env.frame = some X.env.locals) (hN : X.N.Nodup) (hi : X.N[i]? = some n)
    (hk : X.env.scope.names.lookup n = some .local) (hm : Means X x C') (hb : PSsX X body tb) (hs : ∀ a, PSs (X.hand a) (b₀ :: suite) (th a)) :
    PS X (.Try body [.ExceptHandler (some (.Name x np)) (some n) (b₀ :: suite) hpos] [] [] pos) (tTry X.K i C' tb th) := by
  intro pins s σ H D I h
  refine wpAny_Try_except (wpAny_mono (hb pins s σ H D _ I h) (fun f s1 q => ?_) fun e s1 q => ?_)
  · cases f with
    | next => exact wpAny_execs_nil q
    | brk => exact q
    | cont => exact q
    | ret u => exact q
  · obtain ⟨h0, a, C, dd, σ', H', rfl, J, ⟨n1, n2, oe, vs, T0, oT, ts, g1, g2, gd, g3, g4, g5, g6, g7, g8, g9, g10⟩, fr0, tk, ht⟩ := q
    refine look_next (base := X.base) (outer := X.outer) (by rw [J.ok.frames, hst.1]) (by rw [← hst.1]; exact J.stack) hst.2 g1 g3 g4 g8 g9 g10 g5 fun h1 h' T o1 o2 lb => ?_
    rw [← hst.1] at lb
    have hTT : T ≠ T0 := fun z => by
      obtain ⟨o, q⟩ := o2
      rw [← z, lb.new] at q
      cases q
    have hT : s1.heap.get? T = none := (o1 T hTT).symm.trans lb.new
    have hTa : T ≠ a := fun z => by
      rw [z, g1] at hT
      cases hT
    have uT : H' T = none := by
      cases q : H' T with
      | none => rfl
      | some o =>
        obtain ⟨ob, z⟩ := (J.hok T o q).there
        rw [hT] at z
        cases z
    obtain ⟨oe', q1, q2, q3, q4⟩ := lb.exc oe vs ((o1 a (Ne.symm g5)).trans g1) g3
    obtain ⟨oT', ts', t1, t2, t3⟩ := lb.tr
    have x2 : ExcAt a C dd h' := ⟨oe', _, q1, q2.trans g2, q3.trans gd, q4⟩
    have hne : ∀ {b : Addr} {o : HO}, H' b = some o → b ≠ a := fun {b o} e z => by
      rw [z, n2] at e
      cases e
    have hne0 : ∀ {b : Addr} {o : HO}, H' b = some o → b ≠ T0 := fun {b o} e z => by
      rw [z, g7] at e
      cases e
    have upK : ∀ b o, H' b = some o → upd H' a (.ext (ExcAt a C dd)) b = some o := fun b o e => (upd_ne (hne e)).trans e
    have J2 : Inv X pins σ' (upd H' a (.ext (ExcAt a C dd))) { s1 with heap := h' } := J.flown (t' := s1.toks) (ch := [a, T0]) fr0
      (fun b hb => by
        rcases List.mem_cons.mp hb with z | z
        · rw [z]; exact ⟨n1, oe, vs, g1, g3⟩
        · rw [List.mem_singleton.mp z]; exact ⟨g6, oT, ts, g8, g9⟩)
      (fun b o hb hf e => lb.keep b o (fun z => hb (by simp [z])) hf ((o1 b fun z => hb (by simp [z])).trans e))
      (fun b o hb e => lb.slot b o (fun z => hb (by simp [z])) ((o1 b fun z => hb (by simp [z])).trans e))
      (fun b o hb e z => (upd_ne fun z => hb (by simp [z])).trans z) (fun b xs e => upK b _ e) (fun b o u e => upK b _ e) (fun b ps e => ⟨#[], by rw [upK b _ e]; simp⟩)
      (fun b o e => by
        by_cases hb : b = a
        · subst hb
          rw [upd_same] at e
          cases e
          exact ⟨x2, ⟨_, q1⟩, fun k1 k2 ⟨o, v, e1, r⟩ k => ⟨o, v, k _ e1, r⟩⟩
        · rw [upd_ne hb] at e
          refine (J.hok b o e).stay (fun c u z hc => ?_) (fun c z => upK c _ z) fun c xs z => upK c _ z
          have hc2 : ∃ o, H' c = some o := z.elim (fun z => ⟨o, by rw [z]; exact e⟩) fun z => ⟨_, z⟩
          obtain ⟨o2, hc2⟩ := hc2
          refine lb.keep c u (hne hc2) (fun hm => ?_) ((o1 c (hne0 hc2)).trans hc)
          have := J.stkFree c hm
          rw [hc2] at this
          cases this)
    refine wpAny_handleBy_cons (codeAny_handlers_test ?_) (by intro q; cases q)
    refine ld_means (X := X.hand a) (J2.hand a) hm (takes_ok J2.kIn x2 tk (codeAny_handlers_suite_as ?_))
    refine flight (s := { s1 with heap := h' }) q1 q4 (by have := (Array.getElem?_eq_some_iff.mp g4).1; simp [this]) t1 t2 t3 fun h'' k1 k2 => ?_
    have J3 : Inv X pins σ' (upd H' a (.ext (ExcAt a C dd))) { s1 with heap := h'' } := J2.flown (t' := s1.toks) (ch := [T]) J.fr0
      (fun b hb => by rw [List.mem_singleton.mp hb]; exact ⟨hT, oT', ts', t1, t2⟩)
      (fun b o hb _ e => (k1 b fun z => hb (by simp [z])).trans e) (fun b o hb e => ⟨o.slots, (k1 b fun z => hb (by simp [z])).trans e⟩) (fun b o _ _ z => z) (fun _ _ z => z) (fun _ _ _ z => z) (fun b ps e => ⟨#[], by rw [e]; simp⟩)
      (fun b o e => by
        refine (J2.hok b o e).stay (fun c u z hc => (k1 c fun q => ?_).trans hc) (fun _ z => z) fun _ _ z => z
        subst q
        have : upd H' a (.ext (ExcAt a C dd)) c = none := (upd_ne hTa).trans uT
        rcases z with z | z
        · rw [z, e] at this
          cases this
        · rw [z] at this
          cases this)
    refine store_ok (X := X.hand a) (J3.hand a) hN hi (.inl hk) (v := .ref a) rfl (fun s4 J4 => ?_) (.inr hk)
    refine wpAny_mono (hs a pins s4 _ _ _ J4 (ht a n2)) (fun f s5 q => ?_) fun _ _ z => z.elim
    cases f with
    | next => obtain ⟨σ5, H5, J5, q5⟩ := q; exact goes_ok (J5.unhand I.ok) hN hi hk fun s6 J6 => ⟨_, _, J6, q5⟩
    | brk => obtain ⟨σ5, H5, J5, q5⟩ := q; exact goes_ok (J5.unhand I.ok) hN hi hk fun s6 J6 => ⟨_, _, J6, q5⟩
    | cont => obtain ⟨σ5, H5, J5, q5⟩ := q; exact goes_ok (J5.unhand I.ok) hN hi hk fun s6 J6 => ⟨_, _, J6, q5⟩
    | ret u => obtain ⟨v, σ5, H5, J5, r5, q5⟩ := q; exact goes_ok (J5.unhand I.ok) hN hi hk fun s6 J6 => ⟨v, _, _, J6, r5, q5⟩
end L2
namespace L2
open PySem PySem.Spec PyProof.Rows

def excGet (K : PySem.W.Frag) (C : Addr) : Bool := PySem.W.findIn K (.ref C) "__getattribute__" == some (some (.builtin "BaseException.__getattribute__")) && PySem.W.findIn K (.ref C) "__getattr__" == some none
  && PySem.W.findIn K (.ref C) "__class__" == some (some (.builtin "object.__class__")) && PySem.W.specialIn K (.builtin "object.__class__") "__get__" == some (some (.builtin "getset_descriptor.__get__"))
  && PySem.W.takesIn K (.builtin "object.__class__") == some true && PySem.W.mroIn K C (.type "object") == some true && PySem.W.mroIn K C (.type "BaseException") == some true && (PySem.W.clsIn K C).isSome
section
variable {prog : Program} {w : World} {A : Around} {E : Value → Shared → Prop} {s : Shared} {K : PySem.W.Frag} {a C : Addr} {ox : Obj} {od : Option Obj}
theorem find_cls (hq : excGet K C = true) : PySem.W.findObj K C od "__class__" = some (.bind (.builtin "getset_descriptor.__get__") (.builtin "object.__class__")) := by
  unfold excGet at hq
  simp only [Bool.and_eq_true, beq_iff_eq] at hq
  obtain ⟨⟨⟨⟨⟨⟨⟨_, _⟩, h3⟩, h4⟩, h5⟩, _⟩, _⟩, h8⟩ := hq
  obtain ⟨cd, hc⟩ := Option.isSome_iff_exists.mp h8
  unfold PySem.W.findObj
  rw [hc, Option.bind_some, h3, Option.bind_some]
  simp [h4, h5]
theorem check_ga {nameV : Value} {Q : Unit → Shared → Prop} (LI : PySem.W.Looks (model prog w) s.heap (isInstance (.ref a) (.type "BaseException")) true) (k : Q () s) : wpAny (model prog w) A (checkBuiltinCall "BaseException.__getattribute__" ⟨[.ref a, nameV], []⟩) Q E s := by
  obtain ⟨hh, g, d, t, os⟩ := s
  have hk : builtinKind "BaseException.__getattribute__" = some .slot := by decide +kernel
  have hsplit : splitId "BaseException.__getattribute__" = some ("BaseException", "__getattribute__") := by decide +kernel
  have ha := F.args_bexc_ga (.ref a) nameV
  simp only [checkBuiltinCall, hk, hsplit]
  refine wpAny_bind (LI.at ?_)
  repeat (first | assumption | wp_step)
theorem ga_body {tk : Tok} {P : Value → Shared → Prop} {g b : Value} (L0 : PySem.W.Looks (model prog w) s.heap (typeOf (.ref a)) (.ref C)) (L3 : PySem.W.Looks (model prog w) s.heap (Builtin.ObjectAttr.find (.ref a) (.ref C) "__class__") (.bind g b)) (h : wpAny (model prog w) A (call g [b, .ref a, .ref C]) P E s) :
    wpAny (model prog w) A (Builtin.«object.__getattribute__» ⟨[.ref a, .str "__class__" tk], []⟩) (fun fin s' => match fin with | .done (.ret v) => P v s' | _ => False) E s := by
  obtain ⟨hh, gg, d, t, os⟩ := s
  unfold Builtin.«object.__getattribute__»
  refine wpAny_bind (wpAny_pure (a := (Value.ref a, [Value.str "__class__" tk])) ?_)
  refine wpAny_bind (wpAny_pure (a := ("__class__" : Str)) ?_)
  refine wpAny_bind (L0.at (wpAny_bind (L3.at ?_)))
  show wpAny _ _ (holding [b] (call g [b, .ref a, .ref C]) >>= ret) _ _ _
  exact wpAny_bind (wpAny_holding (wpAny_mono h (fun v s' z => wpAny_pure z) fun _ _ z => z))
theorem exc_class {Q : Option Value → Shared → Prop} (hq : excGet K C = true) (X : K.In s.heap) (I : PySem.W.InstAt s.heap a ox C od) (h : Q (some (.ref C)) { s with toks := s.toks + 1 }) : wpAny (model prog w) A (getAttr? (.ref a) "__class__") Q E s := by
  have hf := find_cls (od := od) hq
  unfold excGet at hq
  simp only [Bool.and_eq_true, beq_iff_eq] at hq
  obtain ⟨⟨⟨⟨⟨⟨⟨h1, h2⟩, h3⟩, h4⟩, h5⟩, h6⟩, h7⟩, h8⟩ := hq
  obtain ⟨hh, g, d, t, os⟩ := s
  have L0 := I.type (M := model prog w)
  have L1 := PySem.W.looks_findIn (M := model prog w) X h1
  have L2 := PySem.W.looks_findIn (M := model prog w) X h2
  have L3 := PySem.W.looks_find (M := model prog w) X I hf
  have L4 := PySem.W.looks_mroIn (M := model prog w) X h7
  have LI : PySem.W.Looks (model prog w) hh (isInstance (.ref a) (.type "BaseException")) true := L0.andThen L4
  have f3 := F.attr_ValueError.ga.bind (.ref a)
  have hk : builtinKind "BaseException.__getattribute__" = some .slot := by decide +kernel
  have hsplit : splitId "BaseException.__getattribute__" = some ("BaseException", "__getattribute__") := by decide +kernel
  have hx2 : (Value.builtin "BaseException.__getattribute__" == Value.builtin "object.__getattribute__") = false := by decide +kernel
  unfold getAttr? getAttrBy? getAttrBy
  refine wpAny_bind (wpAny_mkText (wpAny_bind (wpAny_attempt (wpAny_holding (wpAny_bind (L0.at (wpAny_bind (L1.at ?_))))))))
  simp only [hx2, Bool.and_false, Bool.false_eq_true, if_false]
  unfold getAttrByItsOwn hookBefore
  simp only [onTheHeap, if_true]
  refine wpAny_bind (L2.at ?_)
  refine wpAny_bind (wpAny_attempt (wpAny_holding ?_))
  unfold callGetattribute boundAndCalled
  simp only [Bool.false_and, Bool.false_eq_true, if_false]
  rw [f3]
  refine wpAny_bind (wpAny_pure ?_)
  refine wpAny_call (codeAny_call_builtin F.attr_ValueError.ga.plain F.entry_bexc_ga (check_ga (s := ⟨hh, g, d, t + 1, os⟩) LI ?_))
  refine wpAny_mono (ga_body (s := ⟨hh, g, d, t + 1, os⟩) (P := fun v s' => v = .ref C ∧ s' = ⟨hh, g, d, t + 1, os⟩) (E := fun _ _ => False) L0 L3 (wpAny_call (PySem.W.class_get (s := ⟨hh, g, d, t + 1, os⟩) (ox := ox) (od := od) X I h6 ⟨rfl, rfl⟩))) (fun fin s' z => ?_) fun _ _ z => z.elim
  rcases fin with (_ | _ | _ | _) | _ <;> first | (obtain ⟨rfl, rfl⟩ := z; exact PySem.W.handed_on rfl (wpAny_pure h)) | exact z.elim

end

def clsV : V → Value
  | .ref D => .ref D
  | .ty T => .type T
  | _ => .none

end L2
namespace L2
open PySem PySem.Spec PyProof.Rows

def ExcNew (a C : Addr) (dd : Option Addr) (h : Heap) : Prop := ∃ oe vs, h.get? a = some oe ∧ oe.cls = .ref C ∧ oe.dict = dd ∧ oe.data = .fields vs ∧ vs[1]? = some .none
abbrev bmV0 : List Value := [.type "ValueError", .type "Exception", .type "BaseException", .type "object"]

def onlyV : List Value → Bool
  | .ref _ :: r => onlyV r
  | l => l == bmV0
theorem refuse_onlyV (self : Value) : ∀ {l : List Value}, onlyV l = true → PySem.refuseLoop self "__setattr__" l = pure ()
  | .ref c :: r, e => by
    rw [PySem.refuseLoop_ref]
    exact refuse_onlyV self (l := r) e
  | [], e => by cases e
  | .type n :: r, e => by
    have h : (Value.type n :: r) = bmV0 := beq_iff_eq.mp e
    rw [h]
    exact PySem.F.store_ValueError.passes self
  | .none :: r, e => by cases beq_iff_eq.mp (show ((Value.none :: r) == bmV0) = true from e)
  | .bool _ :: r, e => by cases beq_iff_eq.mp (show ((Value.bool _ :: r) == bmV0) = true from e)
  | .int _ _ :: r, e => by cases beq_iff_eq.mp (show ((Value.int _ _ :: r) == bmV0) = true from e)
  | .float _ _ :: r, e => by cases beq_iff_eq.mp (show ((Value.float _ _ :: r) == bmV0) = true from e)
  | .str _ _ :: r, e => by cases beq_iff_eq.mp (show ((Value.str _ _ :: r) == bmV0) = true from e)
  | .bytes _ _ :: r, e => by cases beq_iff_eq.mp (show ((Value.bytes _ _ :: r) == bmV0) = true from e)
  | .builtin _ :: r, e => by cases beq_iff_eq.mp (show ((Value.builtin _ :: r) == bmV0) = true from e)

def excSet (K : PySem.W.Frag) (C : Addr) (f : Str) : Bool := PySem.W.findIn K (.ref C) "__setattr__" == some (some (.builtin "object.__setattr__")) && (PySem.W.clsIn K C).any (fun cd => onlyV cd.mro && cd.hasDict)
  && PySem.W.findIn K (.ref C) f == some none && PySem.W.mroIn K C (.type "object") == some true
section
variable {prog : Program} {w : World} {A : Around} {E : Value → Shared → Prop} {s : Shared} {K : PySem.W.Frag} {a C : Addr} {f : Str} {v : Value}
theorem exc_store {Q : Unit → Shared → Prop} (hq : excSet K C f = true) (X : K.In s.heap) (x : ExcNew a C none s.heap)
    (h : ∀ h' tk, ExcNew a C (some s.heap.objs.size) h' → h'.Ns1 s.heap.objs.size (fun y => if y = f then some v else none) → (∀ b o, b ≠ a → s.heap.get? b = some o → h'.get? b = some o) → Q () { s with heap := h', toks := tk }) :
    wpAny (model prog w) A (setAttr (.ref a) f v) Q E s := by
  obtain ⟨oe, vs, ge, ce, de, da, v1⟩ := x
  have I : PySem.W.InstAt s.heap a oe C none := ⟨ge, ce, by unfold PySem.W.notCls; rw [da], by rw [de]; trivial⟩
  unfold excSet at hq
  simp only [Bool.and_eq_true, beq_iff_eq] at hq
  obtain ⟨⟨⟨h1, h2⟩, h3⟩, h4⟩ := hq
  obtain ⟨cd, hc, hm⟩ := PySem.W.any_some h2
  rw [Bool.and_eq_true] at hm
  obtain ⟨hm, hd⟩ := hm
  have SF := PySem.F.store_object
  refine PySem.W.set_plain X I h1 ?_
  obtain ⟨hh, g, d, t, os⟩ := s
  have sub : PySem.W.Looks (model prog w) hh (isInstance (.ref a) (.type "object")) true := I.type.andThen (PySem.W.looks_mroIn X h4)
  refine codeAny_call_builtin SF.slot.plain SF.entry (@PySem.W.check_slot (model prog w) _ _ ⟨hh, g, d, t + 1, os⟩ "object.__setattr__" "object" "__setattr__" (.ref a) [.str f t, v] [] _ SF.kind SF.split sub (SF.args (.ref a) (.str f t) v) ?_)
  have hmr : PySem.W.Looks (model prog w) hh (mroOf (.ref C)) cd.mro := (PySem.W.looks_clsIn X hc).andThen .now
  rw [PySem.W.osa_eq, PySem.refuse_eq]
  refine wpAny_bind (wpAny_bind (I.type.at (wpAny_bind (hmr.at ?_))))
  rw [refuse_onlyV _ hm]
  refine wpAny_pure (wpAny_bind (I.type.at (wpAny_bind ((PySem.W.looks_findIn X h3).at (wpAny_bind (wpAny_pure (a := none) ?_))))))
  show wpAny _ _ (Builtin.ObjectAttr.storeInOwnDict (.ref a) (.ref C) (.str f t) f v false) _ _ _
  obtain ⟨oc, odi, oda, osl⟩ := oe
  dsimp only at ce de da
  subst ce de da
  refine wpAny_bind (wpAny_pure (wpAny_bind (wpAny_bind (wpAny_loadPart ge (wpAny_bind ((PySem.W.looks_clsIn X hc).at ?_))))))
  rw [hd]
  have hx1 : (hh.push { cls := .type "dict", data := .dict #[] }).get? a = some ⟨.ref C, none, .fields vs, osl⟩ := Heap.get?_push_of_some _ ge
  have hxs : a ≠ hh.objs.size := Nat.ne_of_lt (Heap.lt_size ge)
  refine wpAny_bind (wpAny_alloc' ?_)
  refine wpAny_bind (wpAny_update' hx1 ?_)
  refine wpAny_pure (a := some hh.objs.size) ?_
  have hgd : ((hh.push { cls := .type "dict", data := .dict #[] }).update a fun o => { cls := o.cls, dict := some hh.objs.size, data := o.data, slots := o.slots }).get? hh.objs.size = some { cls := .type "dict", data := .dict #[] } :=
    (Heap.get?_update_ne _ _ _ _ hxs.symm).trans (Heap.get?_push_at rfl rfl)
  have hnd : ((hh.push { cls := .type "dict", data := .dict #[] }).update a fun o => { cls := o.cls, dict := some hh.objs.size, data := o.data, slots := o.slots }).Ns hh.objs.size (fun _ => none) :=
    ⟨_, #[], _, hgd, rfl, fun e he => absurd he (by simp), fun _ => rfl⟩
  show wpAny _ _ (Builtin.ObjectAttr.storeInDict hh.objs.size (.str f t) f v) _ _ _
  unfold Builtin.ObjectAttr.storeInDict Builtin.ObjectAttr.newKeyGuard
  refine wpAny_bind (wpAny_pure (wpAny_bind (wpAny_nsSet1 (Heap.Ns1.of_empty hnd) fun h' hn' hs => ?_)))
  obtain ⟨oD, esD, epD, hoD, hdD, hcD⟩ := hn'.count (PySem.Within.cons f v PySem.Within.nil)
  refine wpAny_bind (wpAny_lookBehind hoD (by rw [hdD]; exact pastItsLine_dict (Nat.le_trans hcD (by rw [List.length_cons, List.length_nil, sizeLine_eq]; omega))) ?_)
  refine wpAny_pure (h h' _ ⟨⟨.ref C, some hh.objs.size, .fields vs, osl⟩, vs, ?_, rfl, rfl, rfl, v1⟩ hn' fun b o hb e => ?_)
  · exact (hs.2 a hxs).trans (Heap.get?_update_self _ hx1 rfl)
  · exact (hs.2 b (Nat.ne_of_lt (Heap.lt_size e))).trans ((Heap.get?_update_ne _ _ _ _ hb).trans (Heap.get?_push_of_some _ e))
end

theorem setattr_x {X : Cx} {pins : List (Addr × Obj)} {σ : St} {H : Hp} {s : Shared} {A : Around} {E : Value → Shared → Prop} {a C : Addr} {f : Str} {y : V} {u : Value} {Q : Unit → Shared → Prop} (I : Inv X pins σ H s) (ha : H a = some (.ext (ExcNew a C none))) (hq : excSet X.K C f = true) (ry : RelV y u)
    (h : ∀ d s', H d = none → d ≠ a → Inv X pins σ (upd (upd H a (.ext (ExcNew a C (some d)))) d (.xd [(f, y)])) s' → Q () s') : wpAny (model X.prog X.w) A (setAttr (.ref a) f u) Q E s := by
  have x : ExcNew a C none s.heap := (show ObjOk X.prog X.w H s.heap a (.ext (ExcNew a C none)) from I.hok a _ ha).1
  have fresh : H s.heap.objs.size = none := I.hok.fresh (Nat.le_refl _)
  have nda : s.heap.objs.size ≠ a := fun z => by rw [z, ha] at fresh; cases fresh
  refine exc_store hq I.kIn x fun h' tk x' n' kp => h s.heap.objs.size _ fresh nda ?_
  have there' : ∀ b o, s.heap.get? b = some o → ∃ o', h'.get? b = some o' := fun b o e => by
    by_cases hb : b = a
    · obtain ⟨oe, _, ge, _⟩ := x'
      exact ⟨oe, by rw [hb]; exact ge⟩
    · exact ⟨o, kp b o hb e⟩
  have nb : ∀ b o, s.heap.get? b = some o → b ≠ s.heap.objs.size := fun b o e => Nat.ne_of_lt (Heap.lt_size e)
  have upK : ∀ b o, H b = some o → b ≠ a → upd (upd H a (.ext (ExcNew a C (some s.heap.objs.size)))) s.heap.objs.size (.xd [(f, y)]) b = some o := fun b o e hb => by
    rw [upd_ne (ne_of_none e fresh), upd_ne hb]
    exact e
  have nx : ∀ {b : Addr} {o : HO}, H b = some o → (∀ φ, o ≠ .ext φ) → b ≠ a := fun {b o} e n z => by
    rw [z, ha] at e
    cases e
    exact n _ rfl
  have nfree : ∀ {b : Addr}, H b = none → b ≠ a := fun {b} e z => by
    rw [z, ha] at e
    cases e
  refine I.step (g' := s.gens) (d' := s.drawn) (ch := []) (fun _ z => nomatch z) (fun b o _ _ _ e n => kp b o (nfree n) e) (fun b o _ _ _ e n => ⟨o.slots, kp b o (nfree n) e⟩) (fun b o _ e n => ?_) (fun b o _ e => there' b o e)
    (fun b xs e => upK b _ e (nx e fun _ z => by cases z)) (fun b o u e => upK b _ e (nx e fun _ z => by cases z)) (fun b ps e => ⟨#[], by rw [upK b _ e (nx e fun _ z => by cases z)]; simp⟩) (fun m hm => ?_) (fun b o e => ?_) I.bare
  · rw [upd_ne (nb b o e), upd_ne (nfree n)]
    exact n
  · obtain ⟨o, es, ep, ho, r⟩ := hm
    exact ⟨o, es, ep, kp _ o (nfree I.free) ho, r⟩
  · by_cases hd : b = s.heap.objs.size
    · subst hd
      rw [upd_same] at e
      cases e
      refine ⟨_, n', fun g => ?_⟩
      by_cases hg : g = f
      · subst hg
        simp only [List.lookup, beq_self_eq_true, if_true]
        exact ry
      · have hb : (g == f) = false := beq_eq_false_iff_ne.mpr hg
        simp only [List.lookup, hb, if_neg hg]
        trivial
    · rw [upd_ne hd] at e
      by_cases hb : b = a
      · subst hb
        rw [upd_same] at e
        cases e
        obtain ⟨oe, vs, ge, r⟩ := id x'
        exact ⟨x', ⟨_, ge⟩, fun k1 k2 ⟨o, v, e1, r⟩ k => ⟨o, v, k _ e1, r⟩⟩
      · rw [upd_ne hb] at e
        refine (I.hok b o e).stay (fun c w' hc q => kp c w' (fun z => ?_) q) (fun c z => upK c _ z (nx z fun _ z => by cases z)) fun c xs z => upK c _ z (nx z fun _ z => by cases z)
        subst z
        rcases hc with z | z
        · exact hb z.symm
        · rw [ha] at z
          cases z

def sXfld (K : PySem.W.Frag) (ta tv : TE) (f : Str) : TS := fun D σ H => tv σ H fun y H1 => ta σ H1 fun x H2 => ∃ a C, x = .ref a ∧ H2 a = some (.ext (ExcNew a C none)) ∧ excSet K C f = true ∧ ∀ d, H2 d = none → d ≠ a → D.nx σ (upd (upd H2 a (.ext (ExcNew a C (some d)))) d (.xd [(f, y)]))
theorem ps_xfld {X : Cx} {o value : Expr} {f : Str} {ta tv : TE} {pos pos' : Pos} (ha : PE X o ta) (hv : PE X value tv) (hs : swapsWith value (some (.Attribute o f pos')) pos.line X.env = pure false) : PS X (.Assign [.Attribute o f pos'] value pos) (sXfld X.K ta tv f) := by
  intro pins s σ H D I h
  refine plainObj_wpAny_Assign_Attribute (thn (hv pins s σ H _ I h) fun u s1 ⟨y, H1, I1, ry, q⟩ => thn (ha pins s1 σ H1 _ I1 q) fun ov s2 ⟨x, H2, I2, rx, a, C, ex, ea, c, q2⟩ => ?_) hs
  subst ex
  obtain rfl : ov = Value.ref a := rx
  exact setattr_x I2 ea c ry fun d s3 hd hn I3 => ⟨σ, _, I3, q2 d hd hn⟩
end L2
namespace L2
open PySem PySem.Spec PyProof.Rows
section
variable {prog : Program} {w : World} {A : Around} {E : Value → Shared → Prop} {h : Heap} {g : Array GenState} {d : Drawn} {t : Nat} {os : OsState}
variable {nm q : Str} {C N : Addr} {bs bm bmB : List Value} {hdct : Bool} {sn : List Str} {sub : List Value} {ab : Bool} {col : Option Bool} {dd : Option Addr} {k0 k1 k2 k3 k5 : Option Value} {B newId initId : String}
theorem type_call_initT (F : ExcBaseFacts B newId initId bmB) (T : OwnTail h bmB bm) {mN : Str → Option Value} {rest : List Value} {fI : Addr} {oI : Obj} {Q : Fin → Shared → Prop}
    (hC : h.get? C = some (excClassObj nm q C N bs bm hdct sn sub ab col dd k0 k1 k2 k3 k5 newId)) (hn : h.Ns N mN) (hi : mN "__init__" = some (.ref fI)) (hfI : h.get? fI = some oI) (hfc : oI.cls = .type "function")
    (hq : ∀ h' e, Heap.MadeExcOf h h' e (.ref C) rest → wpAny (model prog w) A (call (.ref fI) (.ref e :: rest)) (fun r s' => r = .none ∧ Q (.done (.ret (.ref e))) s') E ⟨h', g, d, t, os⟩) (hrest : rest.length ≤ sizeLine) :
    wpAny (model prog w) A (Builtin.«type.__call__» ⟨.ref C :: rest, []⟩) Q E ⟨h, g, d, t, os⟩ := by
  repeat (first | with_reducible refine wpAny_loadPart_at hC ?_ | with_reducible refine wpAny_madeBy_exc hC ?_ | wp_step)
  refine codeAny_call_builtin_code (Code.quiet_builtin _ F.quiet) (wpAny_check_new_subT F T hC ?_)
  refine codeAny_exc_new_subT F T hC ?_ hrest
  show wpAny _ _ _ _ _ _
  have up : ∀ b o, h.get? b = some o → ((h.push { cls := .type "tuple", data := .seq rest.toArray }).push { cls := .ref C, data := .fields #[.ref h.objs.size, .none, .none, .none, .bool false, .none] }).get? b = some o := fun b o e => Heap.get?_push_of_some _ (Heap.get?_push_of_some _ e)
  have hC1 := up _ _ hC
  have hfI1 := up _ _ hfI
  have hn1 : ((h.push { cls := .type "tuple", data := .seq rest.toArray }).push { cls := .ref C, data := .fields #[.ref h.objs.size, .none, .none, .none, .bool false, .none] }).Ns N mN :=
    let ⟨o, es, ep, e, r⟩ := hn; ⟨o, es, ep, up _ _ e, r⟩
  have hget : ((h.push { cls := .type "tuple", data := .seq rest.toArray }).push { cls := .ref C, data := .fields #[.ref h.objs.size, .none, .none, .none, .bool false, .none] }).get? (h.objs.size + 1) = some
      { cls := .ref C, data := .fields #[.ref h.objs.size, .none, .none, .none, .bool false, .none] } := by heap_get
  have hcC : (Value.ref C :: bm).contains (.ref C) = true := by simp
  have T1 := T.keeps up
  unfold isInstance
  repeat (first | with_reducible refine wpAny_loadPart_at hget ?_ | (with_reducible refine wpAny_isSubtype_exc hC1 ?_; rw [hcC]) | wp_step)
  show wpAny _ _ (typeLookup (.ref C) _) _ _ _
  refine wpAny_typeLookup_tail hC1 hn1 T1 F.mroIs F.init.lookup ?_
  rw [hi]
  refine wpAny_holding (wpAny_bind ?_)
  unfold bindSpecial
  refine wpAny_bind (wpAny_typeOf (T := "function") ⟨_, hfI1, hfc⟩ ?_)
  rw [if_pos (by decide)]
  refine wpAny_pure (wpAny_bind (wpAny_mono (hq _ (h.objs.size + 1) ⟨up, Heap.get?_none_of_le (Nat.le_succ _), h.objs.size, hget, Heap.get?_none_of_le (Nat.le_refl _), ?_⟩) (fun r s' hr => ?_) fun _ _ x => x))
  · exact Heap.get?_push_of_some _ (Heap.get?_push_at rfl rfl)
  · obtain ⟨rfl, hQ⟩ := hr
    wp_walk
    exact hQ
theorem call_initT (F : ExcBaseFacts B newId initId bmB) (T : OwnTail h bmB bm) {mN : Str → Option Value} {rest : List Value} {fI : Addr} {oI : Obj} {Q : Value → Shared → Prop}
    (hC : h.get? C = some (excClassObj nm q C N bs bm hdct sn sub ab col dd k0 k1 k2 k3 k5 newId)) (hn : h.Ns N mN) (hi : mN "__init__" = some (.ref fI)) (hfI : h.get? fI = some oI) (hfc : oI.cls = .type "function")
    (hq : ∀ h' e, Heap.MadeExcOf h h' e (.ref C) rest →
      wpAny (model prog w) (A.under (.builtin "type.__call__" ⟨.ref C :: rest, []⟩)) (call (.ref fI) (.ref e :: rest)) (fun r s' => r = .none ∧ Q (.ref e) s') E ⟨h', g, d, t, os⟩) (hrest : rest.length ≤ sizeLine) :
    wpAny (model prog w) A (call (.ref C) rest) Q E ⟨h, g, d, t, os⟩ := by
  have f1 := tc_lookup
  have f2 := tc_bind (.ref C)
  have hT : (⟨h, g, d, t, os⟩ : Shared).TypeIs (.ref C) "type" := ⟨_, hC, rfl⟩
  refine wpAny_call (codeAny_of_tree ?_)
  show wpAny _ _ (callAny (.ref C) _) _ _ _
  repeat (any_goals (first | assumption | with_reducible refine wpAny_loadPart_at hC ?_ | wp_step))
  refine ⟨rfl, ?_⟩
  refine codeAny_call_builtin_at (Code.quiet_builtin _ (by decide +kernel)) entry_typeCall (wpAny_check_type_call_sub hC (type_call_initT F T hC hn hi hfI hfc (fun h' e hm => ?_) hrest))
  exact hq h' e hm
end

def excInI (K : PySem.W.Frag) (C fI : Addr) : Bool := match K.lookup C with
  | some ⟨.type "type", _, .cls cd, sl⟩ => (match cd.mro, sl.toList with
    | .ref C' :: bm, [_, _, _, _, some (.builtin n), _] => C' == C && n == "ValueError.__new__" && !cd.hasDel && PySem.W.tailIn K bmV0 bm && PySem.W.nsOkIn K cd.ns && PySem.W.nsIn K cd.ns "__init__" == some (some (.ref fI))
    | _, _ => false)
  | _ => false
end L2
namespace L2
open PySem PySem.Spec PyProof.Rows
theorem ns_of_in {K : PySem.W.Frag} {h : Heap} {N : Addr} {m : Str → Option Value} {n : Str} {v : Value} (X : K.In h) (G : h.Ns N m) (e : PySem.W.nsIn K N n = some (some v)) : m n = some v := by
  obtain ⟨o, es, ep, ho, hd, _, hf⟩ := G
  unfold PySem.W.nsIn at e
  split at e
  · rename_i c d es' n' sl q
    have := X _ _ q
    rw [ho] at this
    cases this
    cases hd
    split at e
    · rename_i en he
      cases e
      rw [← hf]
      unfold nsFind findBy
      rw [← Array.find?_toList, he]
      rfl
    · split at e <;> cases e
  · cases e
theorem own_KI {K : PySem.W.Frag} {h : Heap} {C fI : Addr} (X : K.In h) (hq : excInI K C fI = true) :
    ∃ bm N nm q bs hdct sn sub ab col dd k0 k1 k2 k3 k5 mN, h.get? C = some (excClassObj nm q C N bs bm hdct sn sub ab col dd k0 k1 k2 k3 k5 "ValueError.__new__") ∧ h.Ns N mN ∧ mN "__init__" = some (.ref fI) ∧ OwnTail h bmV0 bm := by
  unfold excInI at hq
  split at hq
  · rename_i dd cd sl ho
    split at hq
    · rename_i C' bm k0 k1 k2 k3 n k5 hm hs
      simp only [Bool.and_eq_true, beq_iff_eq, Bool.not_eq_true'] at hq
      obtain ⟨⟨⟨⟨⟨e1, e2⟩, hdel⟩, ht⟩, hok⟩, hni⟩ := hq
      subst e1 e2
      obtain ⟨nm, bs, mro, ns, qn, hd, sn, sub, ab, col, del⟩ := cd
      dsimp only at hm hdel hok hni
      subst hm hdel
      have hsl : sl = #[k0, k1, k2, k3, some (.builtin "ValueError.__new__"), k5] := Array.toList_inj.mp hs
      subst hsl
      exact ⟨bm, ns, nm, qn, bs, hd, sn, sub, ab, col, dd, k0, k1, k2, k3, k5, _, X _ _ ho, .of_isNs (PySem.W.isNs_of_in X hok), ns_of_in X (.of_isNs (PySem.W.isNs_of_in X hok)) hni, PySem.W.tail_of_in X ht⟩
    · cases hq
  · cases hq

structure MkX (K : PySem.W.Frag) (C fI : Addr) : Prop where
  ex : excInI K C fI = true
  fn : PySem.W.typeIn K (.ref fI) = some (.type "function")
  kp : PySem.W.keepIn K (.ref C) = true
section
variable {X : Cx} {CX : CXT} {k : Nat} {f C : Addr} {fd : FuncData} {ps : List Str} {sp : Sp} {dvs : List V} {ds : List Value} {E : XK} {x : Str} {p pos : Pos} {e : Expr} {es : List Expr} {t : TA}
theorem run_makeX {pins : List (Addr × Obj)} {σ : St} {H : Hp} {s : Shared} {Q : VK} {us : List Value} {vs : List V} (M : MkX X.K C f) (F : FnOk X.prog X.w X.K X.mg X.base CX k f fd ps sp) (hr : Room (k + 1) X.A) (hb : Binds X.K fd ps ds) (hd : Vals dvs ds)
    (hx : Passes CX X E) (I : Inv X pins σ H s) (r : Vals vs us) (hz : vs.length ≤ sizeLine)
    (h : ∀ a, H a = none → sp (.ref a :: (vs ++ dvs)) (upd H a (.ext (ExcNew a C none))) (fun v H2 => v = .non ∧ Q (.ref a) H2) E) :
    wpAny (model X.prog X.w) X.A (call (.ref C) us) (EP X pins σ Q) X.xe s := by
  obtain ⟨bm, N, nm, q, bs, hdct, sn, sub, ab, col, dd, k0, k1, k2, k3, k5, mN, hC, hN, hi, T⟩ := own_KI I.kIn M.ex
  obtain ⟨oI, hl, hfc⟩ := Option.map_eq_some_iff.mp (show (X.K.lookup f).map (·.cls) = some (.type "function") from M.fn)
  have hfI := I.kIn _ _ hl
  obtain ⟨hh, g, d, tk, os⟩ := s
  refine call_initT PySem.F.excBase_ValueError T hC hN hi hfI hfc (fun h' a mk => ?_) (by rw [← r.length]; exact hz)
  obtain ⟨tt, g1, g2, g3⟩ := mk.there
  have fresh : H a = none := by
    cases q : H a with
    | none => rfl
    | some o =>
      obtain ⟨ob, z⟩ := (I.hok a o q).there
      have z' : hh.get? a = some ob := z
      rw [mk.new] at z'
      cases z'
  have upK : ∀ b o, H b = some o → upd H a (.ext (ExcNew a C none)) b = some o := fun b o e => (upd_ne (ne_of_none e fresh)).trans e
  have I2 : Inv X pins σ (upd H a (.ext (ExcNew a C none))) ⟨h', g, d, tk, os⟩ := I.flown (t' := tk) (ch := []) I.fr0 (fun b z => absurd z (by simp)) (fun b o _ _ z => mk.keeps b o z) (fun b o _ z => ⟨o.slots, mk.keeps b o z⟩)
    (fun b o _ z n => (upd_ne fun z' => by rw [z', mk.new] at z; cases z).trans n) (fun b xs z => upK b _ z) (fun b o u z => upK b _ z) (fun b ps z => ⟨#[], by rw [upK b _ z]; simp⟩)
    (fun b o z => by
      by_cases hb : b = a
      · subst hb
        rw [upd_same] at z
        cases z
        exact ⟨⟨_, _, g1, rfl, rfl, rfl, rfl⟩, ⟨_, g1⟩, fun k1 k2 ⟨o, v, e1, r⟩ k => ⟨o, v, k _ e1, r⟩⟩
      · rw [upd_ne hb] at z
        exact (I.hok b o z).stay (fun c u _ hc => mk.keeps c u hc) (fun c z => upK c _ z) fun c xs z => upK c _ z)
  have hq := h a fresh
  have r2 : Vals (V.ref a :: (vs ++ dvs)) (Value.ref a :: (us ++ ds)) := .cons rfl (r.append hd)
  have hl2 : (Value.ref a :: us ++ ds).length = ps.length := by
    have e := r2.length
    rw [F.len _ _ _ _ hq] at e
    exact e.symm
  refine wpAny_call (codeAny_mono (F.run _ X.stack _ _ ⟨Value.ref a :: us, []⟩ (Value.ref a :: (us ++ ds)) _ _ E (hr.make C us []) (I2.env0.make C us []) (hb _ (Value.ref a :: us) I2.kIn hl2) r2 hq) fun r s' hq' => ?_)
  cases r with
  | error e => exact hx pins σ _ _ e s' I2 hq'
  | ok fl =>
    cases fl with
    | ret u =>
      obtain ⟨v, H', I3, rv, ev, q3⟩ := I2.after hq'
      subst ev
      exact ⟨rv, ⟨V.ref a, H', I3, rfl, q3⟩⟩
    | next => exact False.elim hq'
    | brk => exact False.elim hq'
    | cont => exact False.elim hq'

def tMakeX (C : Addr) (sp : Sp) (dvs : List V) (E : XK) (t : TA) : TE := fun σ H Q => t σ H fun vs H1 => vs.length ≤ sizeLine ∧ ∀ a, H1 a = none → sp (.ref a :: (vs ++ dvs)) (upd H1 a (.ext (ExcNew a C none))) (fun v H2 => v = .non ∧ Q (.ref a) H2) E
theorem pe_makeX (M : MkX X.K C f) (F : FnOk X.prog X.w X.K X.mg X.base CX k f fd ps sp) (hr : Room (k + 1) X.A) (hg : Gl X x) (hm : X.mg x = some (.ref C)) (hb : Binds X.K fd ps ds) (hd : Vals dvs ds) (hx : Passes CX X E)
    (ha : PA X (e :: es) t) (hdb : (x == ("__debug__" : Str)) = false := by decide) (he : starEach (e :: es) X.env = (false, eval e X.env) :: starEach es X.env := by rfl) (hpl : (backTo pos (starEach es X.env)).any (·.1) = false := by rfl) :
    PE X (.Call (.Name x p) (e :: es) [] pos) (tMakeX C sp dvs E t) := by
  intro pins s σ H Q I h
  refine wpAny_Call_Name_kw (ld_glob I hg hm ?_ hdb)
  refine PySem.W.callWith_K (h₀ := X.base) I.ok.mod.kin M.kp (thn (ha pos pins s σ H _ I h) fun us s1 ⟨vs, H1, I1, r, z, q⟩ => ⟨I1.kIn, ?_⟩) he hpl
  exact run_makeX M F hr hb hd hx I1 r z q
end
end L2
namespace L2
open PySem PySem.Spec PyProof.Rows

def untr (H : Hp) (a : Addr) : Hp := fun b => if b = a then none else H b
theorem untr_self {H : Hp} {a : Addr} : untr H a a = none := if_pos rfl
theorem untr_ne {H : Hp} {a b : Addr} (h : b ≠ a) : untr H a b = H b := if_neg h

def excRz (K : PySem.W.Frag) (C : Addr) : Bool := PySem.W.mroIn K C (.type "BaseException") == some true && PySem.W.typeIn K (.ref C) == some (.type "type")

def ThrowsV (X : Cx) (EX : Addr → Option Addr → Hp → Prop) : Prop := ∀ (pins : List (Addr × Obj)) (σ : St) (H : Hp) (s : Shared) (a C : Addr) (dd : Option Addr), Inv X pins σ H s → H a = some (.ext (ExcNew a C dd)) → X.H₀ a = none → EX C dd (untr H a) → X.xe (.ref a) s
def tRaise (K : PySem.W.Frag) (H0 : Hp) (te : TE) (EX : Addr → Option Addr → Hp → Prop) : TS := fun _ σ H => te σ H fun v H' => ∃ a C dd, v = .ref a ∧ H' a = some (.ext (ExcNew a C dd)) ∧ H0 a = none ∧ excRz K C = true ∧ EX C dd (untr H' a)

theorem ps_raiseV {X : Cx} {ex : Expr} {te : TE} {pos : Pos} {EX : Addr → Option Addr → Hp → Prop} (hc : X.calm = true) (ht : ThrowsV X EX) (he : PE X ex te) : PS X (.Raise (some ex) none pos) (tRaise X.K X.H₀ te EX) := by
  intro pins s σ H D I h
  rw [arm_exec_Raise]
  refine wpAny_bind (wpAny_standAt ?_)
  unfold raiseStmt
  show wpAny _ _ ((do let v ← eval ex X.env; standAt pos; pure v) >>= _) _ _ _
  refine wpAny_bind (wpAny_bind (thn (he pins s σ H _ I h) fun u s1 ⟨v, H1, I1, rv, a, C, dd, ev, ha, h0, hz, hE⟩ => ?_))
  subst ev
  obtain rfl : u = Value.ref a := rv
  refine wpAny_bind (wpAny_standAt (wpAny_pure ?_))
  obtain ⟨oe, vs, ge, ce, de, da, v1⟩ := (show ObjOk X.prog X.w H1 s1.heap a (.ext (ExcNew a C dd)) from I1.hok a _ ha).1
  unfold excRz at hz
  rw [Bool.and_eq_true] at hz
  have hd := I.ok.hd hc
  have KX := I1.kIn
  have hT := ht pins σ H1 s1 a C dd I1 ha h0 hE
  obtain ⟨hh, g, d, t, os⟩ := s1
  have L0 : PySem.W.Looks (model X.prog X.w) hh (typeOf (.ref a)) (.ref C) := ce ▸ (PySem.W.Looks.ld ge).andThen .now
  have L1 := PySem.W.looks_mroIn (M := model X.prog X.w) KX (beq_iff_eq.mp hz.1)
  have L2' := PySem.W.looks_typeIn (M := model X.prog X.w) KX (beq_iff_eq.mp hz.2)
  have LI : PySem.W.Looks (model X.prog X.w) hh (isInstance (.ref a) (.type "BaseException")) true := L0.andThen L1
  have LT : PySem.W.Looks (model X.prog X.w) hh (isType (.ref a)) false := by
    intro A' Q' E' s' k q
    unfold isType loadHead
    refine wpAny_bind (wpAny_loadPart (k _ _ ge) (wpAny_pure ?_))
    rw [da]
    exact q
  have LX : PySem.W.Looks (model X.prog X.w) hh (isExcClass (.ref a)) false := LT.andThen (by simp only [Bool.false_eq_true, if_false]; exact .now)
  have LF : ∀ c, PySem.W.Looks (model X.prog X.w) hh (excFromValue (.ref a) c) (.ref a) := fun c => LX.andThen (by simp only [Bool.false_eq_true, if_false]; exact LI.andThen (by simp only [if_true]; exact .now))
  have LR : PySem.W.Looks (model X.prog X.w) hh (raisedInstance (.ref a)) (.ref a) := L0.andThen (L2'.andThen (by rw [if_pos (by decide)]; exact .now))
  refine wpAny_bind (wpAny_pure ?_)
  refine wpAny_bind (wpAny_holding ((LF _).at ?_))
  refine wpAny_bind (LT.at ?_)
  simp only [Bool.false_eq_true, if_false]
  refine wpAny_bind (LR.at ?_)
  refine wpAny_bind ?_
  unfold setFlight
  refine wpAny_bind (wpAny_field ge da v1 ?_)
  rw [if_neg (by decide)]
  exact wpAny_pure (wpAny_raiseNew_none hd hT)

theorem throwsV_cx {P : Program} {w : World} {K : PySem.W.Frag} {mg : Str → Option Value} {base : Heap} {N : List Str} {qual : Str} {scope : Scope} {f : Addr} {cd : Value} {A : Around} {outer : List Env} {s : Shared} {H : Hp} {E : XK} :
    ThrowsV (cxOf (CX1 P w) P w K mg base N qual scope f cd A outer s H E) (fun C dd H' => E (.ref C) dd H') := by
  intro pins σ H1 s1 a C dd I ha h0 hE
  obtain ⟨oe, vs, ge, ce, de, da, v1⟩ := (show ObjOk P w H1 s1.heap a (.ext (ExcNew a C dd)) from I.hok a _ ha).1
  have fr : (A.deeper (envOfC qual scope s.heap.objs.size f cd)).frames = some (envOfC qual scope s.heap.objs.size f cd :: outer) := I.ok.frames
  have fE : ∀ b ∈ (envOfC qual scope s.heap.objs.size f cd :: outer).filterMap (·.frame), H1 b = none := I.stkFree
  have newA : s.heap.get? a = none := by
    cases q : s.heap.get? a with
    | none => rfl
    | some o =>
      have z := I.base.free a o q h0 (by show a ∉ ([] : List Addr); simp)
      rw [ha] at z
      cases z
  have old1 : ∀ b, s1.heap.get? b = none → s.heap.get? b = none := fun b hb => by
    cases q : s.heap.get? b with
    | none => rfl
    | some o =>
      obtain ⟨o', z⟩ := I.base.there b o q (by show b ∉ ([] : List Addr); simp)
      rw [hb] at z
      cases z
  have unt : ∀ b, s1.heap.get? b = none → H1 b = none := fun b hb => by
    cases q : H1 b with
    | none => rfl
    | some o =>
      obtain ⟨ob, z⟩ := (I.hok b o q).there
      rw [hb] at z
      cases z
  refine leave_first (s := s1) fr I.stack rfl ge da v1 fun h'' T lb => ?_
  have na : ∀ b o, s.heap.get? b = some o → b ≠ a := fun b o hb z => by
    rw [z, newA] at hb
    cases hb
  have nL : ∀ b o, s.heap.get? b = some o → b ∉ frs outer → b ∉ (envOfC qual scope s.heap.objs.size f cd :: outer).filterMap (·.frame) := fun b o hb hf hm => by
    rcases List.mem_cons.mp (show b ∈ s.heap.objs.size :: frs outer from hm) with z | z
    · exact absurd (Heap.lt_size hb) (by rw [z]; exact Nat.lt_irrefl _)
    · exact hf z
  have nx : ∀ {b : Addr} {o : HO}, H1 b = some o → (∀ φ, o ≠ .ext φ) → untr H1 a b = some o := fun {b o} e n => (untr_ne fun z => by
    rw [z, ha] at e
    cases e
    exact n _ rfl).trans e
  refine ⟨a, C, dd, untr H1 a, rfl, I.os, I.bare, ⟨fun b o hb hn hf hx => ?_, fun b o hb hn hf hx => ?_, fun b o hb hn hx => ?_, fun b o hb hx => ?_, fun b xs e => nx (I.base.tups b xs e) fun _ z => (by cases z), fun b o u e => nx (I.base.frzs b o u e) fun _ z => (by cases z), fun b ps e => ?_⟩, fun b o hb => ?_, ⟨newA, untr_self, ?_⟩, hE⟩
  · have q := I.base.keep b o hb hn hf hx
    exact lb.keep b o (na b o hb) (nL b o hb hf) q
  · obtain ⟨sl, q⟩ := I.base.slot b o hb hn hf hx
    obtain ⟨sl2, q2⟩ := lb.slot b _ (na b o hb) q
    exact ⟨sl2, q2⟩
  · rw [untr_ne (na b o hb)]
    exact I.base.free b o hb hn hx
  · obtain ⟨o', q⟩ := I.base.there b o hb hx
    obtain ⟨sl, q2⟩ := lb.slot b o' (na b o hb) q
    exact ⟨_, q2⟩
  · obtain ⟨more, q⟩ := I.base.tbls b ps e
    exact ⟨more, nx q fun _ z => by cases z⟩
  · by_cases hba : b = a
    · rw [hba, untr_self] at hb
      cases hb
    · rw [untr_ne hba] at hb
      refine (I.hok b o hb).stay (fun c u z hc => ?_) (fun c z => nx z fun _ z => by cases z) fun c xs z => nx z fun _ z => by cases z
      have hca : c ≠ a := fun q => by
        rcases z with z | z
        · exact hba (z.symm.trans q)
        · rw [q, ha] at z
          cases z
      refine lb.keep c u hca (fun hm => ?_) hc
      have := fE c hm
      rcases z with z | z
      · rw [z, hb] at this
        cases this
      · rw [z] at this
        cases this
  · obtain ⟨oe', q1, q2, q3, q4⟩ := lb.exc _ _ ge da
    obtain ⟨oT, ts, t1, t2, t3⟩ := lb.tr
    have hTa : T ≠ a := fun z => by
      have := lb.new
      rw [z, ge] at this
      cases this
    refine ⟨oe', _, T, oT, ts, q1, q2.trans ce, q3.trans de, q4, ?_, hTa, old1 T lb.new, (untr_ne hTa).trans (unt T lb.new), t1, t2, t3⟩
    have := (Array.getElem?_eq_some_iff.mp v1).1
    simp [this]
end L2
namespace L2
open PySem PySem.Spec PyProof.Rows

def excGetF (K : PySem.W.Frag) (C : Addr) (f : Str) : Bool := PySem.W.findIn K (.ref C) "__getattribute__" == some (some (.builtin "BaseException.__getattribute__")) && PySem.W.findIn K (.ref C) "__getattr__" == some none
  && PySem.W.findIn K (.ref C) f == some none && PySem.W.hasDictIn K C && PySem.W.mroIn K C (.type "BaseException") == some true
section
variable {prog : Program} {w : World} {A : Around} {E : Value → Shared → Prop} {s : Shared} {K : PySem.W.Frag} {a C : Addr} {ox od : Obj} {f : Str} {v : Value}
theorem ga_value {tk : Tok} {P : Value → Shared → Prop} (L0 : PySem.W.Looks (model prog w) s.heap (typeOf (.ref a)) (.ref C)) (L3 : PySem.W.Looks (model prog w) s.heap (Builtin.ObjectAttr.find (.ref a) (.ref C) f) (.value v)) (h : P v s) :
    wpAny (model prog w) A (Builtin.«object.__getattribute__» ⟨[.ref a, .str f tk], []⟩) (fun fin s' => match fin with | .done (.ret v) => P v s' | _ => False) E s := by
  obtain ⟨hh, gg, d, t, os⟩ := s
  unfold Builtin.«object.__getattribute__»
  refine wpAny_bind (wpAny_pure (a := (Value.ref a, [Value.str f tk])) ?_)
  refine wpAny_bind (wpAny_pure (a := f) ?_)
  refine wpAny_bind (L0.at (wpAny_bind (L3.at ?_)))
  exact wpAny_pure h
theorem exc_attr {expr : Bool} {Q : Value → Shared → Prop} (hq : excGetF K C f = true) (X : K.In s.heap) (I : PySem.W.InstAt s.heap a ox C (some od)) (hl : PySem.W.lookIn f od = some (some v)) (hv : PySem.W.handedIn v = true) (h : Q v { s with toks := s.toks + 1 }) : wpAny (model prog w) A (getAttr (.ref a) f expr) Q E s := by
  unfold excGetF at hq
  simp only [Bool.and_eq_true, beq_iff_eq] at hq
  obtain ⟨⟨⟨⟨h1, h2⟩, h3⟩, h4⟩, h7⟩ := hq
  obtain ⟨hh, g, d, t, os⟩ := s
  have L0 := I.type (M := model prog w)
  have L1 := PySem.W.looks_findIn (M := model prog w) X h1
  have L2 := PySem.W.looks_findIn (M := model prog w) X h2
  have L3 := PySem.W.looks_find (M := model prog w) X I (PySem.W.findObj_own h4 h3 rfl hl)
  have L4 := PySem.W.looks_mroIn (M := model prog w) X h7
  have LI : PySem.W.Looks (model prog w) hh (isInstance (.ref a) (.type "BaseException")) true := L0.andThen L4
  have f3 := F.attr_ValueError.ga.bind (.ref a)
  have hx2 : (Value.builtin "BaseException.__getattribute__" == Value.builtin "object.__getattribute__") = false := by decide +kernel
  unfold getAttr getAttrBy
  refine wpAny_bind (wpAny_mkText (wpAny_holding (wpAny_bind (L0.at (wpAny_bind (L1.at ?_))))))
  simp only [hx2, Bool.and_false, Bool.false_eq_true, if_false]
  unfold getAttrByItsOwn hookBefore
  simp only [onTheHeap, if_true]
  refine wpAny_bind (L2.at ?_)
  refine wpAny_bind (wpAny_attempt (wpAny_holding ?_))
  unfold callGetattribute boundAndCalled
  have hx0 : (expr && onTheHeap (Value.builtin "BaseException.__getattribute__")) = false := by cases expr <;> rfl
  rw [if_neg (by rw [hx0]; decide), f3]
  refine wpAny_bind (wpAny_pure ?_)
  refine wpAny_call (codeAny_call_builtin F.attr_ValueError.ga.plain F.entry_bexc_ga (check_ga (s := ⟨hh, g, d, t + 1, os⟩) LI ?_))
  refine wpAny_mono (ga_value (s := ⟨hh, g, d, t + 1, os⟩) (P := fun u s' => u = v ∧ s' = ⟨hh, g, d, t + 1, os⟩) (E := fun _ _ => False) L0 L3 ⟨rfl, rfl⟩) (fun fin s' z => ?_) fun _ _ z => z.elim
  rcases fin with (_ | _ | _ | _) | _ <;> first | (obtain ⟨rfl, rfl⟩ := z; exact PySem.W.handed_on hv h) | exact z.elim
end

def tXfld (K : PySem.W.Frag) (ta : TE) (f : Str) : TE := fun σ H Q => ta σ H fun x H1 => ∃ a C d fs v, x = .ref a ∧ H1 a = some (.ext (ExcAt a C (some d))) ∧ H1 d = some (.xd fs) ∧ fs.lookup f = some v ∧ excGetF K C f = true ∧ Q v H1
theorem pe_xfld {X : Cx} {e : Expr} {f : Str} {ta : TE} {pos : Pos} (he : PE X e ta) (hb : attributeBase e f X.env (eval e X.env) = eval e X.env) : PE X (.Attribute e f pos) (tXfld X.K ta f) := by
  intro pins s σ H Q I h
  refine attr_of hb (thn (he pins s σ H _ I h) fun u s1 ⟨x, H1, I1, rx, a, C, d, fs, v, ex, ea, ed, l, hq, q⟩ => ?_)
  subst ex
  obtain rfl : u = Value.ref a := rx
  obtain ⟨oe, vs, ge, ce, de, da⟩ := (show ObjOk X.prog X.w H1 s1.heap a (.ext (ExcAt a C (some d))) from I1.hok a _ ea).1
  obtain ⟨mA, n, r⟩ := (show ObjOk X.prog X.w H1 s1.heap d (.xd fs) from I1.hok d _ ed)
  obtain ⟨od, ho, hl⟩ := lookIn_ns n
  obtain ⟨u, hu, ru⟩ := RelO.some_of (v := v) (o := mA f) (by rw [← l]; exact r f)
  have J : PySem.W.InstAt s1.heap a oe C (some od) := ⟨ge, ce, by unfold PySem.W.notCls; rw [da], by rw [de]; exact ho⟩
  exact exc_attr hq I1.kIn J (by rw [hl, hu]) (handed_of ru) ⟨v, H1, I1.tok _, ru, q⟩

def ExcOk (a C : Addr) (dd : Option Addr) (h : Heap) : Prop := ExcAt a C dd h ∧ ∀ d, dd = some d → ∃ o, h.get? d = some o
theorem kitx_excD {K : PySem.W.Frag} {a C : Addr} {dd : Option Addr} (hq : excGet K C = true) : PySem.W.KitX K (.ref a) (.ref C) (ExcOk a C dd) where
  ty := fun _ _ _ ⟨⟨oe, vs, ge, ce, _, _⟩, _⟩ => ce ▸ (PySem.W.Looks.ld ge).andThen .now
  it := fun M h X _ => by
    unfold excGet at hq
    simp only [Bool.and_eq_true, beq_iff_eq] at hq
    have hcD := hq.2
    unfold PySem.W.clsIn at hcD
    split at hcD
    · rename_i c' d' cd' sl' ho
      intro A' Q' E' s' k q
      unfold isType loadHead
      exact wpAny_bind (wpAny_loadPart (k _ _ (X _ _ ho)) (wpAny_pure q))
    · cases hcD
  ne := fun h tp dd its n sl X htp => by
    unfold excGet at hq
    simp only [Bool.and_eq_true, beq_iff_eq] at hq
    have hcD := hq.2
    refine Bool.eq_false_iff.mpr fun q => ?_
    have e : C = tp := Value.ref.inj (beq_iff_eq.mp q)
    subst e
    unfold PySem.W.clsIn at hcD
    split at hcD
    · rename_i c' d' cd' sl' ho
      have z := (X _ _ ho).symm.trans htp
      cases z
    · cases hcD
  ca := fun {_ _ _ _ _ s} X ⟨⟨oe, vs, ge, ce, de, da⟩, hd⟩ k => by
    cases dd with
    | none => exact exc_class hq X (ox := oe) (od := none) ⟨ge, ce, by unfold PySem.W.notCls; rw [da], by rw [de]; trivial⟩ k
    | some d =>
      obtain ⟨o, ho⟩ := hd d rfl
      exact exc_class hq X (ox := oe) (od := some o) ⟨ge, ce, by unfold PySem.W.notCls; rw [da], by rw [de]; exact ho⟩ k
def rIsXD (K : PySem.W.Frag) : List V → Hp → VK → Prop := fun xs H Q => ∃ a c C dd b, xs = [.ref a, c] ∧ H a = some (.ext (ExcAt a C dd)) ∧ (∀ d, dd = some d → ∃ o, H d = some o) ∧ excGet K C = true ∧ PySem.W.kitOne K (.ref C) (clsV c) = some b ∧ Q (.bl b) H
theorem call_isinstXD {X : Cx} : CallR X (.builtin "isinstance") (rIsXD X.K) := by
  intro pins s σ H xs us Q I r h
  obtain ⟨a, c, C, dd, b, rfl, ha, hd, hq, e, q⟩ := h
  obtain ⟨u, v, rfl, rx, ry⟩ := r.two
  cases (show u = Value.ref a from rx)
  have x : ExcAt a C dd s.heap := (show ObjOk X.prog X.w H s.heap a (.ext (ExcAt a C dd)) from I.hok a _ ha).1
  have hv : PySem.W.kitOne X.K (.ref C) v = some b := by
    cases c with
    | ref D => cases (show v = Value.ref D from ry); exact e
    | ty T => cases (show v = Value.type T from ry); exact e
    | _ => simp [clsV, PySem.W.kitOne, PySem.W.kitCls] at e
  exact PySem.W.kia_one (kitx_excD (dd := dd) hq) I.kIn ⟨x, fun d z => by
    obtain ⟨o, ho⟩ := hd d z
    exact (I.hok d o ho).there⟩ hv (fun z => nomatch z) fun tk => ⟨.bl b, H, I.tok tk, rfl, q⟩
end L2

namespace SL
open PySem L2
theorem iteTK {c : Bool} {A B : Prop} (h : c = true) (a : A) : if c = true then A else B := by
  rw [if_pos h]
  exact a
theorem iteFK {c : Bool} {A B : Prop} (h : c = false) (b : B) : if c = true then A else B := by
  rw [h]
  exact iteF b
theorem len_sm {n : Nat} {z : Str} (h : Tx n z) (hn : n ≤ 1000) : z.length ≤ sizeLine := Nat.le_of_lt (small1000 (Nat.le_trans h.1 hn))
theorem cps_len (z : Str) : z.cps.toList.length = z.length := by
  rw [Array.length_toList]
  rfl
theorem at0 {z : Str} (h : 1 ≤ z.length) : atI z.cps.toList 0 = some (hd z) := by
  have e := cps_len z
  unfold hd
  cases g : z.cps.toList with
  | nil =>
    rw [g] at e
    have : z.length = 0 := e.symm
    omega
  | cons c r =>
    exact atI_nat (j := 0) rfl

structure TS (mg : Str → Option Value) : Prop where
  len : mg "len" = none
  all : mg "all" = none
  fig : ∃ u, mg "FIGURES" = some u ∧ RelV (.str FIG) u
  sma : ∃ u, mg "SMALL_LETTERS" = some u ∧ RelV (.str SMA) u
  nam : ∃ u, mg "NAME_SIGNS" = some u ∧ RelV (.str NAM) u
  mar : ∃ u, mg "MARK_SIGNS" = some u ∧ RelV (.str MAR) u
  mf : ∃ u, mg "MOST_FIGURES" = some u ∧ RelV (.int 9) u
  ms : ∃ u, mg "MOST_SIGNS" = some u ∧ RelV (.int 12) u
  mi : ∃ u, mg "MOST_ITEMS" = some u ∧ RelV (.int 4) u
def spMo : Sp := fun vs H Q _ => ∃ (S z : Str), vs = [.str S, .str z] ∧ Tx 1000 z ∧ ∀ H', Same H H' → Q (.bl (madeM S z)) H'

def spTk (p : Str → Bool) : Sp := fun vs H Q _ => ∃ (v : V) (z : Str), vs = [v, .str z] ∧ Tx 1000 z ∧ ∀ H', Same H H' → Q (.bl (p z)) H'
def spWo (x : Str) : Sp := fun vs H Q _ => ∃ v : V, vs = [v] ∧ Q (.str x) H
def spIi : Sp := fun vs H Q _ => ∃ z : Str, vs = [.str z] ∧ Tx 1000 z ∧ ∀ H', Same H H' → Q (.bl (isItem z)) H'
section
variable {P : Program} {w : World} {K : PySem.W.Frag} {mg : Str → Option Value} {base : Heap}
theorem scMo : FnScope ["signs", "text"] ["signs", "text"] (defScope sMo) := ⟨rfl, rfl, rfl, by decide +kernel, rfl, by decide +kernel, by decide +kernel⟩
def scopeM : Scope := { kind := .function, names := [(".0", .local), ("sign", .local), ("signs", .free)], isGenerator := false, isCoroutine := false, more := [] }
theorem scM : BlkScope (defScope sMo) ["signs", "text"] ["sign"] ["signs"] [0] scopeM := ⟨rfl, by decide +kernel, by decide +kernel, by decide +kernel, rfl, by decide +kernel, by decide +kernel⟩
theorem ok_mo {f : Addr} {fd : FuncData} (F : Fun K "made_of" "made_of" sMo f fd) (T : TS mg) : FnOk P w K mg base CX0 1 f fd ["signs", "text"] spMo := by
  refine F.ok scMo (fun vs H Q E h => ?_) (fun cdv A outer s H vs Q E hr h => ?_)
  · obtain ⟨S, z, rfl, _⟩ := h
    rfl
  · obtain ⟨S, z, rfl, tz, k⟩ := h
    refine ⟨_, pss_one (ps_ret (pe_callB (call_allB rfl) (by rfl) T.all boot_all (pa_cons (pe_lc scM rfl rfl rfl (pi_str (pv 1)) (fun fp C s1 H1 => pg_name (i := 0) scM.nd rfl (Or.inl rfl)) (fun fp C s1 H1 => pts_nil)
      (fun fp C s1 H1 => pe_cmpR op_in_str (pv 0) (pv 1) (by with_unfolding_all rfl))) pa_nil))), ?_⟩
    refine ⟨_, rfl, z, 1000, rfl, tz, fun D hD => ?_⟩
    refine lc_str (z := z) (fun i ys H2 => ys = ((z.cps.toList.take i).map (hasC S)).map V.bl ∧ Same H H2 ∧ H2 D = some (.lst ys)) (len_sm tz (by decide)) ⟨rfl, (Same.refl H).upd_free hD, upd_same⟩
      (fun i ys H2 h => by rw [h.1, List.length_map, List.length_map, List.length_take]; exact Nat.min_le_left _ _) ?_ ?_
    · rintro i ys H2 c N M hc ⟨rfl, s2, hD2⟩ hN hM
      refine ⟨_, rfl, _, rfl, _, _, rfl, rfl, ?_⟩
      rw [StrLaws.found_one]
      refine hN _ H2 hD2 ⟨?_, s2.upd_free hD, upd_same⟩
      have hc' : z.cps.toList[i]? = some c := by simpa using hc
      rw [List.take_add_one, hc', List.map_append, List.map_append]
      rfl
    · rintro ys H2 ⟨rfl, s2, hD2⟩
      refine ⟨D, _, rfl, SqL.of hD2, ?_⟩
      rw [← cps_len, List.take_length, List.all_map]
      exact k H2 s2
theorem scNt : FnScope ["self", "text"] ["self", "text"] (defScope sNt) := ⟨rfl, rfl, rfl, by decide +kernel, rfl, by decide +kernel, by decide +kernel⟩
theorem ok_nt {f fM : Addr} {fd fdM : FuncData} (F : Fun K "takes" "Number.takes" sNt f fd) (T : TS mg) (FM : Fun K "made_of" "made_of" sMo fM fdM) (bM : Binds K fdM ["signs", "text"] []) (gM : mg "made_of" = some (.ref fM)) : FnOk P w K mg base CX0 2 f fd ["self", "text"] (spTk isNum) := by
  have GM : FnOk P w K mg base CX0 1 fM fdM ["signs", "text"] spMo := ok_mo FM T
  refine F.ok scNt (fun vs H Q E h => ?_) (fun cdv A outer s H vs Q E hr h => ?_)
  · obtain ⟨v, z, rfl, _⟩ := h
    rfl
  · obtain ⟨v, z, rfl, tz, k⟩ := h
    obtain ⟨u1, g1, r1⟩ := T.mf
    obtain ⟨u2, g2, r2⟩ := T.fig
    refine ⟨_, pss_cons (ps_if (pt_not (pt_chain op_le op_le pe_int (pe_callB call_len_str (by rfl) T.len PySem.boot_len (pa_cons (pv 1) pa_nil)) (pe_glob (v := .int 9) (by rfl) g1 r1))) (pss_one (ps_ret pe_bl)) pss_nil)
      (pss_one (ps_ret (pe_and (pe_call GM hr rfl gM FM.kp bM .nil pass0 (pa_cons (pe_glob (v := .str FIG) (by rfl) g2 r2) (pa_cons (pv 1) pa_nil))) (pe_one (pe_or (pe_cmpR op_eq (pv 1) pe_str (nomark _)) (pe_one (pe_cmpR op_ne (pe_ix ix_str (pv 1) pe_int (fun _ _ => rfl)) pe_str (nomark _)))))))), ?_⟩
    refine ⟨_, rfl, z, rfl, len_sm tz (by decide), _, _, rfl, rfl, _, rfl, ?_⟩
    have out : ∀ c : Bool, c = false → isNum z = c → Q (.bl false) H := fun c hc e => by
      have q := k H (Same.refl H)
      rw [e, hc] at q
      exact q
    by_cases h1 : 1 ≤ z.length
    · refine iteTK (decide_eq_true (by omega)) ?_
      refine ⟨_, _, rfl, rfl, _, rfl, ?_⟩
      by_cases h2 : z.length ≤ 9
      · refine iteFK (by rw [decide_eq_true (by omega)]; rfl) ?_
        refine ⟨_, rfl, FIG, z, rfl, tz, fun H1 s1 => ⟨_, rfl, ?_⟩⟩
        have ek : isNum z = (madeM FIG z && (decide (z = Str.ofString "0") || !decide ((⟨#[hd z]⟩ : Str) = Str.ofString "0"))) := by
          unfold isNum
          rw [decide_eq_true ⟨h1, h2⟩, Bool.true_and]
        have q := k H1 s1
        rw [ek] at q
        cases hm : madeM FIG z with
        | false =>
          rw [hm] at q
          exact iteF q
        | true =>
          rw [hm, Bool.true_and] at q
          refine iteT ⟨_, rfl, rfl, _, rfl, ?_⟩
          by_cases hz : z = Str.ofString "0"
          · rw [decide_eq_true hz, Bool.true_or] at q
            exact iteTK (decide_eq_true (by rw [hz])) q
          · rw [decide_eq_false hz, Bool.false_or] at q
            refine iteFK (decide_eq_false (fun y => hz (by injection y))) ?_
            refine ⟨_, rfl, _, _, hd z, rfl, rfl, len_sm tz (by decide), at0 h1, rfl, ?_⟩
            have e2 : decide (V.str (⟨#[hd z]⟩ : Str) = V.str (Str.ofString "0")) = decide ((⟨#[hd z]⟩ : Str) = Str.ofString "0") := decide_eq_decide.mpr ⟨fun y => by injection y, fun y => by rw [y]⟩
            rw [e2]
            exact q
      · refine iteTK (by rw [decide_eq_false (by omega)]; rfl) ?_
        refine out _ rfl ?_
        unfold isNum
        rw [decide_eq_false (fun y => h2 y.2)]
        rfl
    · refine iteFK (decide_eq_false (by omega)) ⟨_, rfl, iteT ?_⟩
      refine out _ rfl ?_
      unfold isNum
      rw [decide_eq_false (fun y => h1 y.1)]
      rfl
theorem scAt : FnScope ["self", "text"] ["self", "text"] (defScope sAt) := ⟨rfl, rfl, rfl, by decide +kernel, rfl, by decide +kernel, by decide +kernel⟩
theorem ok_at {f fM : Addr} {fd fdM : FuncData} (F : Fun K "takes" "Name.takes" sAt f fd) (T : TS mg) (FM : Fun K "made_of" "made_of" sMo fM fdM) (bM : Binds K fdM ["signs", "text"] []) (gM : mg "made_of" = some (.ref fM)) : FnOk P w K mg base CX0 2 f fd ["self", "text"] (spTk isName) := by
  have GM : FnOk P w K mg base CX0 1 fM fdM ["signs", "text"] spMo := ok_mo FM T
  refine F.ok scAt (fun vs H Q E h => ?_) (fun cdv A outer s H vs Q E hr h => ?_)
  · obtain ⟨v, z, rfl, _⟩ := h
    rfl
  · obtain ⟨v, z, rfl, tz, k⟩ := h
    obtain ⟨u1, g1, r1⟩ := T.ms
    obtain ⟨u2, g2, r2⟩ := T.sma
    obtain ⟨u3, g3, r3⟩ := T.nam
    refine ⟨_, pss_cons (ps_if (pt_not (pt_chain op_le op_le pe_int (pe_callB call_len_str (by rfl) T.len PySem.boot_len (pa_cons (pv 1) pa_nil)) (pe_glob (v := .int 12) (by rfl) g1 r1))) (pss_one (ps_ret pe_bl)) pss_nil)
      (pss_one (ps_ret (pe_and (pe_cmpR op_in_str (pe_ix ix_str (pv 1) pe_int (fun _ _ => rfl)) (pe_glob (v := .str SMA) (by rfl) g2 r2) (by with_unfolding_all rfl)) (pe_one (pe_call GM hr rfl gM FM.kp bM .nil pass0 (pa_cons (pe_glob (v := .str NAM) (by rfl) g3 r3) (pa_cons (pv 1) pa_nil))))))), ?_⟩
    refine ⟨_, rfl, z, rfl, len_sm tz (by decide), _, _, rfl, rfl, _, rfl, ?_⟩
    have out : ∀ c : Bool, c = false → isName z = c → Q (.bl false) H := fun c hc e => by
      have q := k H (Same.refl H)
      rw [e, hc] at q
      exact q
    by_cases h1 : 1 ≤ z.length
    · refine iteTK (decide_eq_true (by omega)) ?_
      refine ⟨_, _, rfl, rfl, _, rfl, ?_⟩
      by_cases h2 : z.length ≤ 12
      · refine iteFK (by rw [decide_eq_true (by omega)]; rfl) ?_
        refine ⟨_, rfl, _, _, hd z, rfl, rfl, len_sm tz (by decide), at0 h1, _, _, rfl, rfl, ?_⟩
        rw [StrLaws.found_one]
        have ek : isName z = (hasC SMA (hd z) && madeM NAM z) := by
          unfold isName
          rw [decide_eq_true ⟨h1, h2⟩, Bool.true_and]
        have e1 : decide (hd z ∈ SMA.cps.toList) = hasC SMA (hd z) := rfl
        rw [e1]
        refine ⟨_, rfl, ?_⟩
        cases hm : hasC SMA (hd z) with
        | false =>
          have q := k H (Same.refl H)
          rw [ek, hm] at q
          exact iteF q
        | true =>
          refine iteT ⟨_, rfl, NAM, z, rfl, tz, fun H1 s1 => ?_⟩
          have q := k H1 s1
          rw [ek, hm, Bool.true_and] at q
          exact q
      · refine iteTK (by rw [decide_eq_false (by omega)]; rfl) ?_
        refine out _ rfl ?_
        unfold isName
        rw [decide_eq_false (fun y => h2 y.2)]
        rfl
    · refine iteFK (decide_eq_false (by omega)) ⟨_, rfl, iteT ?_⟩
      refine out _ rfl ?_
      unfold isName
      rw [decide_eq_false (fun y => h1 y.1)]
      rfl
end
end SL
namespace SL
open PySem L2

structure Kd (K : PySem.W.Frag) (mg : Str → Option Value) (nm : Str) (C ft fw : Addr) (fdt fdw : FuncData) : Prop where
  mkn : MkN K C
  g : mg nm = some (.ref C)
  cls : Cls K C
  mt : Meth K C "takes" ft
  bt : Binds K fdt ["self", "text"] []
  mw : Meth K C "word" fw
  bw : Binds K fdw ["self"] []
section
variable {P : Program} {w : World} {K : PySem.W.Frag} {mg : Str → Option Value} {base : Heap}
theorem scIi : FnScope ["text"] ["text"] (defScope sIi) := ⟨rfl, rfl, rfl, by decide +kernel, rfl, by decide +kernel, by decide +kernel⟩
theorem ok_ii {f CN CA ftN fwN ftA fwA : Addr} {fd fdtN fdwN fdtA fdwA : FuncData} (F : Fun K "is_item" "is_item" sIi f fd)
    (N : Kd K mg "Number" CN ftN fwN fdtN fdwN) (A : Kd K mg "Name" CA ftA fwA fdtA fdwA)
    (GN : FnOk P w K mg base CX0 2 ftN fdtN ["self", "text"] (spTk isNum)) (GA : FnOk P w K mg base CX0 2 ftA fdtA ["self", "text"] (spTk isName)) :
    FnOk P w K mg base CX0 3 f fd ["text"] spIi := by
  refine F.ok scIi (fun vs H Q E h => ?_) (fun cdv A1 outer s H vs Q E hr h => ?_)
  · obtain ⟨z, rfl, _⟩ := h
    rfl
  · obtain ⟨z, rfl, tz, k⟩ := h
    refine ⟨_, pss_one (ps_ret (pe_or (pe_methD (CX := CX0) (pe_makeN N.mkn rfl N.g) hr pass0 (pa_cons (pv 0) pa_nil)) (pe_one (pe_methD (CX := CX0) (pe_makeN A.mkn rfl A.g) hr pass0 (pa_cons (pv 0) pa_nil))))), ?_⟩
    intro x dx h1 h2 h3
    have s0 : Same H (upd (upd H dx (.own x)) x (.ins CN dx [])) := ((Same.refl H).upd_free h2).upd_free h1
    refine ⟨x, CN, dx, [], ftN, fdtN, _, _, rfl, upd_same, rfl, N.cls, N.mt, GN, N.bt, _, rfl, .ref x, z, rfl, tz, fun H1 s1 => ⟨_, rfl, ?_⟩⟩
    cases e : isNum z with
    | true =>
      have q := k H1 (s0.trans s1)
      unfold isItem at q
      rw [e] at q
      exact iteT q
    | false =>
      refine iteF ?_
      intro x2 dx2 g1 g2 g3
      have s2 : Same H1 (upd (upd H1 dx2 (.own x2)) x2 (.ins CA dx2 [])) := ((Same.refl H1).upd_free g2).upd_free g1
      refine ⟨x2, CA, dx2, [], ftA, fdtA, _, _, rfl, upd_same, rfl, A.cls, A.mt, GA, A.bt, _, rfl, .ref x2, z, rfl, tz, fun H2 s3 => ?_⟩
      have q := k H2 (((s0.trans s1).trans s2).trans s3)
      unfold isItem at q
      rw [e, Bool.false_or] at q
      exact q
theorem scKt : FnScope ["self", "text"] ["self", "text"] (defScope sKt) := ⟨rfl, rfl, rfl, by decide +kernel, rfl, by decide +kernel, by decide +kernel⟩
theorem ok_kt {f fM fI : Addr} {fd fdM fdI : FuncData} (F : Fun K "takes" "Mark.takes" sKt f fd) (T : TS mg) (FM : Fun K "made_of" "made_of" sMo fM fdM) (bM : Binds K fdM ["signs", "text"] []) (gM : mg "made_of" = some (.ref fM))
    (FI : Fun K "is_item" "is_item" sIi fI fdI) (bI : Binds K fdI ["text"] []) (gI : mg "is_item" = some (.ref fI)) (GI : FnOk P w K mg base CX0 3 fI fdI ["text"] spIi) : FnOk P w K mg base CX0 4 f fd ["self", "text"] (spTk isMark) := by
  have GM : FnOk P w K mg base CX0 1 fM fdM ["signs", "text"] spMo := ok_mo FM T
  refine F.ok scKt (fun vs H Q E h => ?_) (fun cdv A outer s H vs Q E hr h => ?_)
  · obtain ⟨v, z, rfl, _⟩ := h
    rfl
  · obtain ⟨v, z, rfl, tz, k⟩ := h
    have hr1 : Room 1 _ := hr.mono (by decide)
    obtain ⟨u1, g1, r1⟩ := T.ms
    obtain ⟨u2, g2, r2⟩ := T.mar
    refine ⟨_, pss_cons (ps_if (pt_not (pt_chain op_le op_le pe_int (pe_callB call_len_str (by rfl) T.len PySem.boot_len (pa_cons (pv 1) pa_nil)) (pe_glob (v := .int 12) (by rfl) g1 r1))) (pss_one (ps_ret pe_bl)) pss_nil)
      (pss_one (ps_ret (pe_and (pe_call GM hr1 rfl gM FM.kp bM .nil pass0 (pa_cons (pe_glob (v := .str MAR) (by rfl) g2 r2) (pa_cons (pv 1) pa_nil))) (pe_one (pe_not (pe_call GI hr rfl gI FI.kp bI .nil pass0 (pa_cons (pv 1) pa_nil))))))), ?_⟩
    refine ⟨_, rfl, z, rfl, len_sm tz (by decide), _, _, rfl, rfl, _, rfl, ?_⟩
    have out : ∀ c : Bool, c = false → isMark z = c → Q (.bl false) H := fun c hc e => by
      have q := k H (Same.refl H)
      rw [e, hc] at q
      exact q
    by_cases h1 : 1 ≤ z.length
    · refine iteTK (decide_eq_true (by omega)) ?_
      refine ⟨_, _, rfl, rfl, _, rfl, ?_⟩
      by_cases h2 : z.length ≤ 12
      · refine iteFK (by rw [decide_eq_true (by omega)]; rfl) ?_
        refine ⟨_, rfl, MAR, z, rfl, tz, fun H1 s1 => ⟨_, rfl, ?_⟩⟩
        have ek : isMark z = (madeM MAR z && !isItem z) := by
          unfold isMark
          rw [decide_eq_true ⟨h1, h2⟩, Bool.true_and]
        cases hm : madeM MAR z with
        | false =>
          have q := k H1 s1
          rw [ek, hm] at q
          exact iteF q
        | true =>
          refine iteT ⟨_, rfl, z, rfl, tz, fun H2 s2 => ⟨_, rfl, ?_⟩⟩
          have q := k H2 (s1.trans s2)
          rw [ek, hm, Bool.true_and] at q
          exact q
      · refine iteTK (by rw [decide_eq_false (by omega)]; rfl) ?_
        refine out _ rfl ?_
        unfold isMark
        rw [decide_eq_false (fun y => h2 y.2)]
        rfl
    · refine iteFK (decide_eq_false (by omega)) ⟨_, rfl, iteT ?_⟩
      refine out _ rfl ?_
      unfold isMark
      rw [decide_eq_false (fun y => h1 y.1)]
      rfl
end
end SL
namespace SL
open PySem L2
theorem walk_tx (c : Nat) : ∀ (l : List Nat) (s : List Str × Str) (n : Nat), (∀ x ∈ l, x < 128) → (∀ p ∈ s.1, Tx n p) → Tx n s.2 → (∀ p ∈ (l.foldl (spStep c) s).1, Tx (n + l.length) p) ∧ Tx (n + l.length) (l.foldl (spStep c) s).2
  | [], s, n, _, h1, h2 => ⟨h1, h2⟩
  | x :: l, s, n, h, h1, h2 => by
    rw [List.foldl_cons, List.length_cons, show n + (l.length + 1) = (n + 1) + l.length by omega]
    refine walk_tx c l _ (n + 1) (fun y hy => h y (List.mem_cons_of_mem _ hy)) ?_ ?_
    · unfold spStep
      split
      · intro p hp
        rcases List.mem_append.mp hp with hp | hp
        · exact (h1 p hp).mono (Nat.le_succ _)
        · rw [List.mem_singleton] at hp
          subst hp
          exact h2.mono (Nat.le_succ _)
      · exact fun p hp => (h1 p hp).mono (Nat.le_succ _)
    · unfold spStep
      split
      · exact ⟨Nat.zero_le _, fun y hy => by cases hy⟩
      · exact h2.app (Tx.one (h x (List.mem_cons_self ..)))
theorem spl_tx {n : Nat} {z : Str} (c : Nat) (h : Tx n z) : ∀ p ∈ spl c z.cps.toList, Tx n p := by
  have q := walk_tx c z.cps.toList ([], Str.empty) 0 h.2 (fun p hp => by cases hp) ⟨Nat.zero_le _, fun y hy => by cases hy⟩
  have e : 0 + z.cps.toList.length ≤ n := by
    rw [cps_len]
    have := h.1
    omega
  intro p hp
  unfold spl at hp
  rcases List.mem_append.mp hp with hp | hp
  · exact (q.1 p hp).mono e
  · rw [List.mem_singleton] at hp
    subst hp
    exact q.2.mono e
section
variable {P : Program} {w : World} {K : PySem.W.Frag} {mg : Str → Option Value} {base : Heap}
theorem scIt : FnScope ["self", "text", "pieces"] ["self", "text"] (defScope sIt) := ⟨rfl, rfl, rfl, by decide +kernel, rfl, by decide +kernel, by decide +kernel⟩
def scopeI : Scope := { kind := .function, names := [(".0", .local), ("piece", .local), ("is_item", .globalImplicit)], isGenerator := false, isCoroutine := false, more := [] }
theorem scI : BlkScope (defScope sIt) ["self", "text", "pieces"] ["piece"] [] [] scopeI := ⟨rfl, by decide +kernel, by decide +kernel, by decide +kernel, rfl, by decide +kernel, by decide +kernel⟩
theorem ok_it {f fI : Addr} {fd fdI : FuncData} (F : Fun K "takes" "Items.takes" sIt f fd) (T : TS mg)
    (FI : Fun K "is_item" "is_item" sIi fI fdI) (bI : Binds K fdI ["text"] []) (gI : mg "is_item" = some (.ref fI)) (GI : FnOk P w K mg base CX0 3 fI fdI ["text"] spIi) : FnOk P w K mg base CX0 4 f fd ["self", "text"] (spTk isList) := by
  refine F.ok scIt (fun vs H Q E h => ?_) (fun cdv A outer s H vs Q E hr h => ?_)
  · obtain ⟨v, z, rfl, _⟩ := h
    rfl
  · obtain ⟨v, z, rfl, tz, k⟩ := h
    obtain ⟨u1, g1, r1⟩ := T.mi
    refine ⟨_, pss_cons (ps_if (pt_not (PW.pt (pw_and (pt_val (pe_bm PySem.F.plainAttrs_str PySem.F.slot_str_startswith PySem.F.type_str_startswith mt_starts (pv 1) (pa_cons pe_str pa_nil))) (pw_and1 (pt_val (pe_bm PySem.F.plainAttrs_str PySem.F.slot_str_endswith PySem.F.type_str_endswith mt_ends (pv 1) (pa_cons pe_str pa_nil))))))) (pss_one (ps_ret pe_bl)) pss_nil)
      (pss_cons (ps_if (pt_cmpR op_eq (pv 1) pe_str (nomark _)) (pss_one (ps_ret pe_bl)) pss_nil)
      (pss_cons (ps_set (i := 2) scIt.nd rfl (Or.inl rfl) (pe_bm PySem.F.plainAttrs_str PySem.F.slot_str_split PySem.F.type_str_split mt_split (pe_slice sl_str (pv 1) (po_some pe_int) (po_some (pe_un un_neg pe_int))) (pa_cons pe_str pa_nil)))
      (pss_one (ps_ret (pe_and (pe_cmpR op_le (pe_callB call_len_seq (by rfl) T.len PySem.boot_len (pa_cons (pv 2) pa_nil)) (pe_glob (v := .int 4) (by rfl) g1 r1) (nomark _))
        (pe_one (pe_callB (call_allB rfl) (by rfl) T.all boot_all (pa_cons (pe_lc scI rfl rfl rfl (pi_list (pv 2)) (fun fp C s1 H1 => pg_name (i := 0) scI.nd rfl (Or.inl rfl)) (fun fp C s1 H1 => pts_nil)
          (fun fp C s1 H1 => pe_call GI hr rfl gI FI.kp bI .nil pass0 (pa_cons (pv 0) pa_nil))) pa_nil)))))))), ?_⟩
    have fal : isList z = false → Q (.bl false) H := fun e => by
      have q := k H (Same.refl H)
      rw [e] at q
      exact q
    refine ⟨_, rfl, rfl, z, _, rfl, rfl, _, rfl, ?_⟩
    cases e1 : Txt.startswith z (Str.ofString "[") with
    | false =>
      refine iteF (iteT (fal ?_))
      unfold isList
      rw [e1]
      rfl
    | true =>
      refine iteT ⟨_, rfl, rfl, z, _, rfl, rfl, _, rfl, ?_⟩
      cases e2 : Txt.endswith z (Str.ofString "]") with
      | false =>
        refine iteT (fal ?_)
        unfold isList
        rw [e1, e2]
        rfl
      | true =>
        refine iteF ⟨_, rfl, rfl, _, rfl, ?_⟩
        by_cases hz : z = Str.ofString "[]"
        · refine iteTK (decide_eq_true (by rw [hz])) ?_
          have q := k H (Same.refl H)
          have e : isList z = true := by
            unfold isList
            rw [e1, e2, decide_eq_true hz]
            rfl
          rw [e] at q
          exact q
        · refine iteFK (decide_eq_false (fun y => hz (by injection y))) ?_
          have tz' : Tx 1000 (Txt.slice z (some 1) (some (-1))) := tz.slice _ _
          have l1 := split_len (Txt.slice z (some 1) (some (-1))) (Str.ofString ",")
          have l2 := parts_len (Txt.slice z (some 1) (some (-1))) (Str.ofString ",")
          have l3 := tz'.1
          have big : 1002 ≤ sizeLine := by decide
          refine ⟨_, rfl, _, rfl, _, rfl, _, rfl, z, rfl, len_sm tz (by decide), rfl, _, _, rfl, rfl, rfl, len_sm tz' (by decide), by omega, by omega, fun p hp => ?_⟩
          have tl : ∀ y ∈ Txt.split (Txt.slice z (some 1) (some (-1))) (Str.ofString ","), Tx 1000 y := fun y hy => by
            rw [show Str.ofString "," = (⟨#[44]⟩ : Str) from rfl, split_spl _ (by decide)] at hy
            exact spl_tx 44 tz' y hy
          have ek : isList z = (decide ((Txt.split (Txt.slice z (some 1) (some (-1))) (Str.ofString ",")).length ≤ 4) && (Txt.split (Txt.slice z (some 1) (some (-1))) (Str.ofString ",")).all isItem) := by
            unfold isList
            rw [e1, e2, decide_eq_false hz]
            rfl
          generalize hL : Txt.split (Txt.slice z (some 1) (some (-1))) (Str.ofString ",") = L at hp l1 tl ek ⊢
          have s0 : Same H (upd H p (.lst (L.map V.str))) := (Same.refl H).upd_free hp
          refine ⟨_, rfl, p, _, rfl, .inl (SqL.of upd_same), _, _, rfl, rfl, _, rfl, ?_⟩
          by_cases h4 : L.length ≤ 4
          · refine iteTK (decide_eq_true (by rw [List.length_map]; omega)) ?_
            refine ⟨_, rfl, p, rfl, ⟨_, SqL.of upd_same⟩, fun D hD => ?_⟩
            refine lc_list (K := K) (a := p) (xs := L.map V.str) (fun i ys H2 => ys = ((L.take i).map isItem).map V.bl ∧ Same (upd H p (.lst (L.map V.str))) H2 ∧ H2 D = some (.lst ys)) (by rw [List.length_map]; omega) ⟨rfl, (Same.refl _).upd_free hD, upd_same⟩
              (fun i ys H2 h => by rw [h.1, List.length_map, List.length_map, List.length_take]; exact Nat.min_le_left _ _) (fun i ys H2 h => SqL.of (h.2.1 _ _ upd_same)) ?_ ?_
            · rintro i ys H2 x N M hx ⟨rfl, s2, hD2⟩ hN hM
              rw [List.getElem?_map] at hx
              cases el : L[i]? with
              | none => rw [el] at hx; cases hx
              | some y =>
                rw [el] at hx
                cases hx
                refine ⟨_, rfl, y, rfl, tl y (List.mem_of_getElem? el), fun H3 s3 => hN _ H3 (s3 _ _ hD2) ⟨?_, (s2.trans s3).upd_free hD, upd_same⟩⟩
                rw [List.take_add_one, el, List.map_append, List.map_append]
                rfl
            · rintro ys H2 ⟨rfl, s2, hD2⟩
              refine ⟨D, _, rfl, SqL.of hD2, ?_⟩
              have q := k H2 (s0.trans s2)
              rw [ek, decide_eq_true h4, Bool.true_and] at q
              rw [List.length_map, List.take_length, List.all_map]
              exact q
          · refine iteFK (decide_eq_false (by rw [List.length_map]; omega)) ?_
            have q := k _ s0
            rw [ek, decide_eq_false h4] at q
            exact q
end
end SL
namespace SL
open PySem L2
def SoAt (H : Hp) (C p : Addr) : Prop := ∃ dx, H p = some (.ins C dx [])
theorem SoAt.same {H H' : Hp} {C p : Addr} (h : SoAt H C p) (s : Same H H') : SoAt H' C p := by
  obtain ⟨dx, h⟩ := h
  exact ⟨dx, s _ _ h⟩
def restM (z : Str) : Nat → Option So
  | 0 => sortM z
  | 1 => if isName z then some .nam else if isList z then some .lis else if isMark z then some .mar else none
  | 2 => if isList z then some .lis else if isMark z then some .mar else none
  | 3 => if isMark z then some .mar else none
  | _ => none
def spAl (C1 C2 C3 C4 : Addr) : Sp := fun vs H Q _ => vs = [] ∧ ∀ (a x1 x2 x3 x4 : Addr) H', Same H H' → SoAt H' C1 x1 → SoAt H' C2 x2 → SoAt H' C3 x3 → SoAt H' C4 x4 → H' a = some (.tup [.ref x1, .ref x2, .ref x3, .ref x4]) → Q (.ref a) H'
def spSo : Sp := fun vs H Q _ => ∃ z : Str, vs = [.str z] ∧ Tx 1000 z ∧ ∀ H', Same H H' → Q (vS (sortM z)) H'

structure SK (P : Program) (w : World) (K : PySem.W.Frag) (mg : Str → Option Value) (base : Heap) (C : Addr) (p : Str → Bool) (x : Str) : Prop where
  cls : Cls K C
  tk : ∃ f fd, Meth K C "takes" f ∧ Binds K fd ["self", "text"] [] ∧ FnOk P w K mg base CX0 4 f fd ["self", "text"] (spTk p)
  wd : ∃ f fd, Meth K C "word" f ∧ Binds K fd ["self"] [] ∧ FnOk P w K mg base CX0 4 f fd ["self"] (spWo x)
section
variable {P : Program} {w : World} {K : PySem.W.Frag} {mg : Str → Option Value} {base : Heap}
theorem ok_wo {n q : Str} {st : Stmt} {x : Str} {f : Addr} {fd : FuncData} {p1 p2 : Pos} {k0 : Nat} (F : Fun K n q st f fd) (sc : FnScope ["self"] ["self"] (defScope st)) (hb : defBody st = [.Return (some (.Constant (.str x) k0 p1)) p2]) : FnOk P w K mg base CX0 1 f fd ["self"] (spWo x) := by
  refine F.ok sc (fun vs H Q E h => ?_) (fun cdv A outer s H vs Q E hr h => ?_)
  · obtain ⟨v, rfl, _⟩ := h
    rfl
  · obtain ⟨v, rfl, k⟩ := h
    rw [hb]
    exact ⟨_, pss_one (ps_ret pe_str), k⟩
theorem scAl : FnScope [] [] (defScope sAl) := ⟨rfl, rfl, rfl, by decide +kernel, rfl, by decide +kernel, by decide +kernel⟩
theorem ok_al {f C1 C2 C3 C4 t1 w1 t2 w2 t3 w3 t4 w4 : Addr} {fd ft1 fw1 ft2 fw2 ft3 fw3 ft4 fw4 : FuncData} (F : Fun K "all_sorts" "all_sorts" sAl f fd)
    (N : Kd K mg "Number" C1 t1 w1 ft1 fw1) (A : Kd K mg "Name" C2 t2 w2 ft2 fw2) (I : Kd K mg "Items" C3 t3 w3 ft3 fw3) (M : Kd K mg "Mark" C4 t4 w4 ft4 fw4) : FnOk P w K mg base CX0 1 f fd [] (spAl C1 C2 C3 C4) := by
  refine F.ok scAl (fun vs H Q E h => ?_) (fun cdv A1 outer s H vs Q E hr h => ?_)
  · rw [h.1]
    rfl
  · obtain ⟨rfl, k⟩ := h
    refine ⟨_, pss_one (ps_ret (pe_tup (pa_cons (pe_makeN N.mkn rfl N.g) (pa_cons (pe_makeN A.mkn rfl A.g) (pa_cons (pe_makeN I.mkn rfl I.g) (pa_cons (pe_makeN M.mkn rfl M.g) pa_nil)))))), ?_⟩
    intro x1 d1 a1 b1 _ x2 d2 a2 b2 _ x3 d3 a3 b3 _ x4 d4 a4 b4 _
    refine ⟨(by show 4 ≤ sizeLine; decide), fun p hp => ?_⟩
    have s1 := ((Same.refl H).upd_free (o := .own x1) b1).upd_free (o := .ins C1 d1 []) a1
    have s2 := ((Same.refl _).upd_free (o := .own x2) b2).upd_free (o := .ins C2 d2 []) a2
    have s3 := ((Same.refl _).upd_free (o := .own x3) b3).upd_free (o := .ins C3 d3 []) a3
    have s4 := ((Same.refl _).upd_free (o := .own x4) b4).upd_free (o := .ins C4 d4 []) a4
    have s5 := (Same.refl _).upd_free (o := .tup [.ref x1, .ref x2, .ref x3, .ref x4]) hp
    refine k p x1 x2 x3 x4 _ ((((s1.trans s2).trans s3).trans s4).trans s5) ⟨d1, ((s2.trans s3).trans (s4.trans s5)) _ _ upd_same⟩ ⟨d2, (s3.trans (s4.trans s5)) _ _ upd_same⟩ ⟨d3, (s4.trans s5) _ _ upd_same⟩ ⟨d4, s5 _ _ upd_same⟩ upd_same
theorem scSo : FnScope ["text", "sort"] ["text"] (defScope sSo) := ⟨rfl, rfl, rfl, by decide +kernel, rfl, by decide +kernel, by decide +kernel⟩
theorem ok_so {f fA C1 C2 C3 C4 : Addr} {fd fdA : FuncData} (F : Fun K "sort_of" "sort_of" sSo f fd) (FA : Fun K "all_sorts" "all_sorts" sAl fA fdA) (bA : Binds K fdA [] []) (gA : mg "all_sorts" = some (.ref fA)) (GA : FnOk P w K mg base CX0 1 fA fdA [] (spAl C1 C2 C3 C4))
    (S1 : SK P w K mg base C1 isNum (So.str .num)) (S2 : SK P w K mg base C2 isName (So.str .nam)) (S3 : SK P w K mg base C3 isList (So.str .lis)) (S4 : SK P w K mg base C4 isMark (So.str .mar)) : FnOk P w K mg base CX0 5 f fd ["text"] spSo := by
  refine F.ok scSo (fun vs H Q E h => ?_) (fun cdv A outer s H vs Q E hr h => ?_)
  · obtain ⟨z, rfl, _⟩ := h
    rfl
  · obtain ⟨z, rfl, tz, k⟩ := h
    have hr1 : Room 1 _ := hr.mono (by decide)
    refine ⟨_, pss_cons (ps_for PassesOwn.never rfl (pi_tup (pe_call0 GA hr1 rfl gA FA.kp bA .nil pass0)) (pg_name (i := 1) scSo.nd rfl (Or.inl rfl))
        (pss_one (ps_if (pt_val (pe_methD (CX := CX0) (pv 1) hr pass0 (pa_cons (pv 0) pa_nil))) (pss_one (ps_ret (pe_methD0 (CX := CX0) (pv 1) hr pass0))) pss_nil)))
      (pss_one (ps_ret pe_non)), ?_⟩
    refine ⟨rfl, fun a x1 x2 x3 x4 H1 s1 y1 y2 y3 y4 ha => ?_⟩
    refine ⟨a, rfl, ⟨_, SqT.of ha⟩, ?_⟩
    refine for_tup (xs := [.ref x1, .ref x2, .ref x3, .ref x4]) (fun i σ H2 => (∃ v, σ = [some (.str z), v]) ∧ Same H1 H2 ∧ sortM z = restM z i) ⟨⟨none, rfl⟩, Same.refl _, rfl⟩ (fun i σ H2 _ h => SqT.of (h.2.1 _ _ ha)) ?_ ?_
    · rintro i x σ H2 hx ⟨⟨v, rfl⟩, s2, er⟩
      have row : ∃ (C y : Addr) (p : Str → Bool) (o : So), x = .ref y ∧ SoAt H2 C y ∧ SK P w K mg base C p o.str ∧ (p z = true → restM z i = some o) ∧ (p z = false → restM z i = restM z (i + 1)) := by
        rcases i with _ | _ | _ | _ | i
        · cases hx
          exact ⟨C1, x1, isNum, .num, rfl, y1.same s2, S1, fun e => if_pos e, fun e => if_neg (by rw [e]; nofun)⟩
        · cases hx
          exact ⟨C2, x2, isName, .nam, rfl, y2.same s2, S2, fun e => if_pos e, fun e => if_neg (by rw [e]; nofun)⟩
        · cases hx
          exact ⟨C3, x3, isList, .lis, rfl, y3.same s2, S3, fun e => if_pos e, fun e => if_neg (by rw [e]; nofun)⟩
        · cases hx
          exact ⟨C4, x4, isMark, .mar, rfl, y4.same s2, S4, fun e => if_pos e, fun e => if_neg (by rw [e]; nofun)⟩
        · cases hx
      obtain ⟨C, y, p, o, rfl, ⟨dx, hy⟩, S, hT, hF⟩ := row
      obtain ⟨ft, fdt, mt, bt, ot⟩ := S.tk
      obtain ⟨fw, fdw, mw, bw, ow⟩ := S.wd
      refine ⟨_, rfl, y, C, dx, [], ft, fdt, _, _, rfl, hy, rfl, S.cls, mt, ot, bt, _, rfl, .ref y, z, rfl, tz, fun H3 s3 => ⟨_, rfl, ?_⟩⟩
      cases e : p z with
      | true =>
        refine iteT ⟨_, rfl, y, C, dx, [], fw, fdw, _, _, rfl, s3 _ _ hy, rfl, S.cls, mw, ow, bw, .ref y, rfl, ?_⟩
        have q := k H3 ((s1.trans s2).trans s3)
        rw [er, hT e] at q
        exact q
      | false => exact iteF ⟨⟨_, rfl⟩, s2.trans s3, er.trans (hF e)⟩
    · rintro σ H2 ⟨⟨v, rfl⟩, s2, er⟩
      have q := k H2 (s1.trans s2)
      rw [er] at q
      exact q
end
end SL
namespace SL
open PySem L2
section
variable {P : Program} {w : World} {K : PySem.W.Frag} {mg : Str → Option Value} {base : Heap}
theorem scNw : FnScope ["self"] ["self"] (defScope sNw) := ⟨rfl, rfl, rfl, by decide +kernel, rfl, by decide +kernel, by decide +kernel⟩
theorem scAw : FnScope ["self"] ["self"] (defScope sAw) := ⟨rfl, rfl, rfl, by decide +kernel, rfl, by decide +kernel, by decide +kernel⟩
theorem scIw : FnScope ["self"] ["self"] (defScope sIw) := ⟨rfl, rfl, rfl, by decide +kernel, rfl, by decide +kernel, by decide +kernel⟩
theorem scKw : FnScope ["self"] ["self"] (defScope sKw) := ⟨rfl, rfl, rfl, by decide +kernel, rfl, by decide +kernel, by decide +kernel⟩
end
end SL
namespace SL
open PySem L2

def okMark (z : Str) : Prop := 1 ≤ z.length ∧ z.length ≤ 12 ∧ madeM MAR z = true
def lisOf (xs : List Str) : Str := Str.ofString "[" ++ Str.join (Str.ofString ",") xs ++ Str.ofString "]"
inductive Wd (z : Str) : Prop where
  | mar (h : okMark z)
  | lis (xs : List Str) (h : xs.length ≤ 4) (hi : ∀ x ∈ xs, isItem x = true) (e : z = lisOf xs)
def numS (z : Str) : Bool := madeM FIG z && (decide (z.length < 10) && (decide (z = Str.ofString "0") || !decide ((⟨#[hd z]⟩ : Str) = Str.ofString "0")))
def namS (z : Str) : Bool := hasC SMA (hd z) && (z.cps.toList.filter fun c => !hasC FIG c).all (hasC SMA)
def lawS (z : Str) : So := if (⟨#[hd z]⟩ : Str) = Str.ofString "[" then .lis else if numS z then .num else if namS z then .nam else .mar
theorem app_list (y z : Str) : (y ++ z).cps.toList = y.cps.toList ++ z.cps.toList := by
  rw [Str.cps_append, Array.toList_append]
theorem one_inj {c d : Nat} (h : (⟨#[c]⟩ : Str) = ⟨#[d]⟩) : c = d := by
  injection h with h
  injection h with h
  injection h
theorem nam_or (c : Nat) : hasC NAM c = (hasC SMA c || hasC FIG c) := by
  have e : NAM.cps.toList = SMA.cps.toList ++ FIG.cps.toList := by decide +kernel
  unfold hasC
  rw [e]
  by_cases h1 : c ∈ SMA.cps.toList
  · rw [decide_eq_true h1, decide_eq_true (List.mem_append_left _ h1)]
    rfl
  · by_cases h2 : c ∈ FIG.cps.toList
    · rw [decide_eq_true h2, decide_eq_true (List.mem_append_right _ h2), Bool.or_true]
    · rw [decide_eq_false h1, decide_eq_false h2, decide_eq_false (fun y => (List.mem_append.mp y).elim h1 h2)]
      rfl
theorem nam_all (l : List Nat) : (l.filter fun c => !hasC FIG c).all (hasC SMA) = l.all (hasC NAM) := by
  induction l with
  | nil => rfl
  | cons c l ih =>
    rw [List.filter_cons, List.all_cons, nam_or]
    cases h : hasC FIG c with
    | true =>
      rw [if_neg (by nofun), ih, Bool.or_true, Bool.true_and]
    | false =>
      rw [if_pos (show (!false) = true from rfl), List.all_cons, ih, Bool.or_false]
theorem hd_mem {z : Str} (h : 1 ≤ z.length) : hd z ∈ z.cps.toList := by
  unfold hd
  have e := cps_len z
  cases g : z.cps.toList with
  | nil =>
    rw [g] at e
    have : z.length = 0 := e.symm
    omega
  | cons c r => exact List.mem_cons_self ..
theorem made_hd {S z : Str} (h : 1 ≤ z.length) (m : madeM S z = true) : hd z ∈ S.cps.toList := of_decide_eq_true (List.all_eq_true.mp m _ (hd_mem h))
theorem starts_hd {z : Str} {c : Nat} (h : 1 ≤ z.length) (s : Txt.startswith z ⟨#[c]⟩ = true) : hd z = c := by
  unfold Txt.startswith at s
  have s2 := (Bool.and_eq_true_iff.mp s).2
  have q := (StrLaws.subAt_one z c 0).mp ⟨by show 0 + 1 ≤ _; omega, s2⟩
  unfold hd
  cases g : z.cps.toList with
  | nil => rw [g] at q; cases q
  | cons d r =>
    rw [g] at q
    cases q
    rfl
theorem sort_mark {z : Str} (h : okMark z) : sortM z = some (lawS z) := by
  obtain ⟨h1, h2, h3⟩ := h
  have hm := made_hd h1 h3
  have nb : ¬ (⟨#[hd z]⟩ : Str) = Str.ofString "[" := fun e => by
    have e2 : hd z = 91 := one_inj e
    rw [e2] at hm
    revert hm
    decide +kernel
  have en : isNum z = numS z := by
    unfold isNum numS
    by_cases h9 : z.length ≤ 9
    · rw [decide_eq_true ⟨h1, h9⟩, decide_eq_true (show z.length < 10 by omega), Bool.true_and, Bool.true_and]
    · rw [decide_eq_false (fun y => h9 y.2), decide_eq_false (show ¬ z.length < 10 by omega), Bool.false_and, Bool.false_and, Bool.and_false]
  have ea : isName z = namS z := by
    unfold isName namS
    rw [decide_eq_true ⟨h1, h2⟩, Bool.true_and, nam_all]
    rfl
  have el : isList z = false := by
    unfold isList
    cases hs : Txt.startswith z (Str.ofString "[") with
    | false => rfl
    | true =>
      have q := starts_hd (c := 91) h1 hs
      exact absurd (by rw [q]; rfl) nb
  unfold sortM lawS
  rw [if_neg nb, en, ea, el]
  cases a : numS z with
  | true => rfl
  | false =>
    cases b : namS z with
    | true => rfl
    | false =>
      have em : isMark z = true := by
        unfold isMark isItem
        rw [decide_eq_true ⟨h1, h2⟩, h3, en, ea, a, b]
        rfl
      rw [em]
      rfl

theorem item_plain {x : Str} (h : isItem x = true) : 1 ≤ x.length ∧ x.length ≤ 12 ∧ madeM NAM x = true := by
  unfold isItem at h
  rcases Bool.or_eq_true_iff.mp h with h | h
  · unfold isNum at h
    have a := of_decide_eq_true (Bool.and_eq_true_iff.mp h).1
    have b := (Bool.and_eq_true_iff.mp (Bool.and_eq_true_iff.mp h).2).1
    refine ⟨a.1, by omega, List.all_eq_true.mpr fun c hc => ?_⟩
    rw [nam_or, List.all_eq_true.mp b c hc, Bool.or_true]
  · unfold isName at h
    have a := of_decide_eq_true (Bool.and_eq_true_iff.mp h).1
    exact ⟨a.1, a.2, (Bool.and_eq_true_iff.mp (Bool.and_eq_true_iff.mp h).2).2⟩
theorem item_comma {x : Str} (h : isItem x = true) : ∀ c ∈ x.cps.toList, c ≠ 44 := fun c hc e => by
  have q : hasC NAM c = true := List.all_eq_true.mp (item_plain h).2.2 c hc
  rw [e] at q
  revert q
  decide +kernel

theorem walk_plain (c : Nat) : ∀ (l : List Nat) (s : List Str × Str), (∀ x ∈ l, x ≠ c) → l.foldl (spStep c) s = (s.1, s.2 ++ ⟨l.toArray⟩)
  | [], s, _ => by
    have e : s.2 ++ (⟨#[]⟩ : Str) = s.2 := Str.ext' (by rw [Str.cps_append]; exact Array.append_empty)
    rw [show ([] : List Nat).toArray = #[] from rfl, e]
    rfl
  | x :: l, s, h => by
    rw [List.foldl_cons, walk_plain c l _ fun y hy => h y (List.mem_cons_of_mem _ hy)]
    unfold spStep
    rw [if_neg (h x (List.mem_cons_self ..))]
    refine Prod.ext rfl (Str.ext' ?_)
    show ((s.2 ++ ⟨#[x]⟩) ++ (⟨l.toArray⟩ : Str)).cps = (s.2 ++ (⟨(x :: l).toArray⟩ : Str)).cps
    rw [Str.cps_append, Str.cps_append, Str.cps_append]
    apply Array.toList_inj.mp
    simp
theorem spl_join {c : Nat} : ∀ (xs : List Str) (d : List Str), xs ≠ [] → (∀ x ∈ xs, ∀ k ∈ x.cps.toList, k ≠ c) →
    ((Str.join ⟨#[c]⟩ xs).cps.toList.foldl (spStep c) (d, Str.empty)).1 ++ [((Str.join ⟨#[c]⟩ xs).cps.toList.foldl (spStep c) (d, Str.empty)).2] = d ++ xs
  | [], d, h, _ => absurd rfl h
  | [x], d, _, hx => by
    rw [show Str.join ⟨#[c]⟩ [x] = x from rfl, walk_plain c _ _ (hx x (List.mem_cons_self ..))]
    have e : Str.empty ++ (⟨x.cps.toList.toArray⟩ : Str) = x := Str.ext' (by rw [Str.cps_append]; exact (Array.empty_append).trans (Array.toArray_toList))
    show d ++ [Str.empty ++ (⟨x.cps.toList.toArray⟩ : Str)] = _
    rw [e]
  | x :: y :: r, d, _, hx => by
    have ej : Str.join ⟨#[c]⟩ (x :: y :: r) = x ++ ⟨#[c]⟩ ++ Str.join ⟨#[c]⟩ (y :: r) := rfl
    have e : Str.empty ++ (⟨x.cps.toList.toArray⟩ : Str) = x := Str.ext' (by rw [Str.cps_append]; exact (Array.empty_append).trans (Array.toArray_toList))
    rw [ej, app_list, app_list, List.foldl_append, List.foldl_append, walk_plain c _ _ (hx x (List.mem_cons_self ..))]
    have e2 : ([c] : List Nat).foldl (spStep c) (d, Str.empty ++ (⟨x.cps.toList.toArray⟩ : Str)) = (d ++ [x], Str.empty) := by
      rw [e]
      exact if_pos rfl
    rw [show (⟨#[c]⟩ : Str).cps.toList = [c] from rfl, e2]
    have q := spl_join (c := c) (y :: r) (d ++ [x]) (by nofun) fun z hz => hx z (List.mem_cons_of_mem _ hz)
    rw [List.append_assoc] at q
    exact q
theorem split_join {xs : List Str} (h : xs ≠ []) (hi : ∀ x ∈ xs, isItem x = true) : Txt.split (Str.join (Str.ofString ",") xs) (Str.ofString ",") = xs := by
  rw [show Str.ofString "," = (⟨#[44]⟩ : Str) from rfl, split_spl _ (by decide)]
  exact spl_join xs [] h fun x hx => item_comma (hi x hx)
theorem slice_mid (x : Str) : Txt.slice (Str.ofString "[" ++ x ++ Str.ofString "]") (some 1) (some (-1)) = x := by
  have hl : (Str.ofString "[" ++ x ++ Str.ofString "]").length = x.length + 2 := by
    rw [Str.length_append, Str.length_append, show (Str.ofString "[").length = 1 from rfl, show (Str.ofString "]").length = 1 from rfl]
    omega
  have e1 : Txt.slice (Str.ofString "[" ++ x ++ Str.ofString "]") (some 1) (some (-1)) = StrLaws.sliceText (Str.ofString "[" ++ x ++ Str.ofString "]") (some 1) (some (-1)) := rfl
  rw [e1, StrLaws.sliceText_neg_hi _ _ (by decide) (by rw [hl]; omega), StrLaws.sliceText_plain ⟨by decide, by rw [hl]; omega, by rw [cps_len, hl]; omega⟩, hl]
  refine Str.ext' (Array.toList_inj.mp ?_)
  rw [app_list, app_list]
  have e2 : (-1 + ((x.length + 2 : Nat) : Int) - 1).toNat = x.cps.toList.length := by rw [cps_len]; omega
  rw [e2]
  show ((([91] ++ x.cps.toList) ++ [93]).drop 1).take x.cps.toList.length = x.cps.toList
  rw [List.append_assoc]
  show (x.cps.toList ++ [93]).take x.cps.toList.length = _
  exact List.take_left' rfl
theorem lis_hd (xs : List Str) : hd (lisOf xs) = 91 := by
  unfold hd lisOf
  rw [app_list, app_list]
  rfl
theorem lis_len (xs : List Str) : 2 ≤ (lisOf xs).length := by
  unfold lisOf
  rw [Str.length_append, Str.length_append, show (Str.ofString "[").length = 1 from rfl, show (Str.ofString "]").length = 1 from rfl]
  omega
theorem sort_lis {xs : List Str} (h : xs.length ≤ 4) (hi : ∀ x ∈ xs, isItem x = true) : sortM (lisOf xs) = some (lawS (lisOf xs)) := by
  have l2 := lis_len xs
  have eh := lis_hd xs
  have en : isNum (lisOf xs) = false := by
    cases q : isNum (lisOf xs) with
    | false => rfl
    | true =>
      unfold isNum at q
      have b := made_hd (by omega) (Bool.and_eq_true_iff.mp (Bool.and_eq_true_iff.mp q).2).1
      rw [eh] at b
      revert b
      decide +kernel
  have ea : isName (lisOf xs) = false := by
    unfold isName
    rw [eh, show hasC SMA 91 = false by decide +kernel, Bool.false_and, Bool.and_false]
  have el : isList (lisOf xs) = true := by
    unfold isList
    have e1 : Txt.startswith (lisOf xs) (Str.ofString "[") = true := by
      unfold lisOf
      rw [PySem.W.KAf.starts_left (by rw [Str.length_append]; omega)]
      exact PySem.W.KT.starts_app _ _
    have e2 : Txt.endswith (lisOf xs) (Str.ofString "]") = true := PySem.W.KT.ends_app _ _
    rw [e1, e2]
    by_cases hx : xs = []
    · rw [hx]
      decide +kernel
    · have es : Txt.slice (lisOf xs) (some 1) (some (-1)) = Str.join (Str.ofString ",") xs := slice_mid _
      rw [es, split_join hx hi, decide_eq_true h, List.all_eq_true.mpr hi, Bool.and_self, Bool.or_true]
      rfl
  unfold sortM lawS
  rw [en, ea, el, eh]
  rfl
theorem Wd.sort {z : Str} (h : Wd z) : sortM z = some (lawS z) := by
  cases h with
  | mar h => exact sort_mark h
  | lis xs h hi e =>
    rw [e]
    exact sort_lis h hi
end SL
namespace L2
open PySem PyProof
theorem Same.noneW {H H' : Hp} (s : Same H H') {b : PySem.Addr} (h : H' b = none) : H b = none := by
  cases e : H b with
  | none => rfl
  | some o => rw [s _ _ e] at h; cases h

theorem FnOk.calm1 {P : Program} {w : World} {K : PySem.W.Frag} {mg : Str → Option Value} {base : Heap} {k : Nat} {f : Addr} {fd : FuncData} {ps : List Str} {sp : Sp} (F : FnOk P w K mg base (CX1 P w) k f fd ps sp) : FnOk P w K mg base CX0 k f fd ps (fun vs H Q _ => sp vs H Q E0) :=
  ⟨fun vs H Q _ q => F.len vs H Q E0 q, fun A outer s H args us vs Q E hr he hb hv hs => codeAny_mono (F.run A outer s H args us vs Q E0 hr he hb hv hs) fun r s' hq => by
    cases r with
    | error e =>
      obtain ⟨a, C, dd, H2, _, _, _, _, _, _, z⟩ := hq
      exact z.elim
    | ok fl => cases fl <;> exact hq⟩
section
variable {X : Cx}

def CDivW (i j : Int) : Prop := 0 < j ∧ j < 2 ^ 64
theorem op_fdivW : OpR X (binaryOp .FloorDiv) (rI CDivW fun i j => .int (i / j)) := opI fun i j _ _ _ _ _ hc q => by
  have h1 : (0 : Int) < j := hc.1
  have h2 : j < 2 ^ 64 := hc.2
  refine PyProof.Rows.floordiv_int (by omega) (by rw [Int.fdiv_eq_ediv_of_nonneg i (by omega)]; exact q) (.inl (PyProof.noPylong_of_log2 ?_))
  have h3 : j.natAbs < 2 ^ 64 := by omega
  have h4 : j.natAbs.log2 < 64 := (Nat.log2_lt (by omega)).mpr h3
  omega
end
end L2
namespace SL
open PySem L2

def spNi (CN : Addr) : Sp := fun vs H Q _ => ∃ (a : Addr) (x : V), vs = [.ref a, x] ∧ H a = some (.ext (ExcNew a CN none)) ∧ ∀ d, H d = none → d ≠ a → Q .non (upd (upd H a (.ext (ExcNew a CN (some d)))) d (.xd [("at", x)]))
theorem raiseW {K : PySem.W.Frag} {CN : Addr} {H : Hp} {E : XK} {x : V} (rz : excRz K CN = true) (kE : ∀ d H', Same H H' → H' d = some (.xd [("at", x)]) → E (.ref CN) (some d) H') (H2 : Hp) (E0' : XK) (s2 : Same H H2) : ∀ a, H2 a = none → spNi CN (.ref a :: ([x] ++ [])) (upd H2 a (.ext (ExcNew a CN none))) (fun v H3 => v = .non ∧ ∃ a' C dd, V.ref a = .ref a' ∧ H3 a' = some (.ext (ExcNew a' C dd)) ∧ H a' = none ∧ excRz K C = true ∧ E (.ref C) dd (untr H3 a')) E0' := by
  intro a ha
  have haH : H a = none := s2.noneW ha
  refine ⟨a, _, rfl, upd_same, fun d hd hn => ⟨rfl, a, CN, some d, rfl, by rw [upd_ne (Ne.symm hn), upd_same], haH, rz, ?_⟩⟩
  have hd2 : H2 d = none := by rw [upd_ne hn] at hd; exact hd
  refine kE d _ (fun b o e => ?_) ?_
  · have nb : b ≠ a := ne_of_none e haH
    rw [untr_ne nb, upd_ne (ne_of_none (s2 _ _ e) hd2), upd_ne nb, upd_ne nb]
    exact s2 _ _ e
  · rw [untr_ne hn, upd_same]
theorem atI_someW {α : Type} (l : List α) (i : Int) (h0 : 0 ≤ i) (h : i < (l.length : Int)) : ∃ x, x ∈ l ∧ atI l i = some x := by
  have hl : i.toNat < l.length := by omega
  refine ⟨l[i.toNat], List.getElem_mem hl, ?_⟩
  have z : ((i.toNat : Nat) : Int) = i := by omega
  have q : atI l ((i.toNat : Nat) : Int) = some l[i.toNat] := atI_nat (by simp [hl])
  exact (congrArg (atI l) z).symm.trans q
end SL
namespace SL
open PySem L2
structure T1 (mg : Str → Option Value) : Prop where
  len : mg "len" = none
  range : mg "range" = none
  isin : mg "isinstance" = none
  str : mg "str" = none
  bool : mg "bool" = none
  zip : mg "zip" = none
theorem decS (a b : Str) : decide (V.str a = V.str b) = decide (a = b) := decide_eq_decide.mpr ⟨fun q => by injection q, fun q => by rw [q]⟩
theorem nil_iff (z : Str) : z = Str.ofString "" ↔ z.length = 0 := by
  constructor
  · rintro rfl
    rfl
  · intro h
    obtain ⟨a⟩ := z
    have : a = #[] := Array.size_eq_zero_iff.mp h
    subst this
    rfl
theorem all_nilV (S : Str) (l : List Nat) : eqsV (((l.filter fun c => !hasC S c).map fun c => V.str ⟨#[c]⟩)) [] = l.all (hasC S) := by
  induction l with
  | nil => rfl
  | cons c l ih =>
    rw [List.all_cons]
    cases h : hasC S c with
    | true =>
      rw [List.filter_cons_of_neg (by rw [h]; nofun), ih]
      rfl
    | false =>
      rw [List.filter_cons_of_pos (by rw [h]; rfl)]
      rfl
def spOf : Sp := fun vs H Q _ => ∃ (z S : Str), vs = [.str z, .str S] ∧ Tx 1000 z ∧ ∀ H', Same H H' → Q (.bl (madeM S z)) H'
def spBo (p : Str → Bool) : Sp := fun vs H Q _ => ∃ z : Str, vs = [.str z] ∧ Tx 1000 z ∧ ∀ H', Same H H' → Q (.bl (p z)) H'
section
variable {P : Program} {w : World} {K : PySem.W.Frag} {mg : Str → Option Value} {base : Heap}
theorem scOf : FnScope ["_law_text", "_law_signs_here"] ["_law_text", "_law_signs_here"] (defScope sOf) := ⟨rfl, rfl, rfl, by decide +kernel, rfl, by decide +kernel, by decide +kernel⟩
def scopeOf : Scope := { kind := .function, names := [(".0", .local), ("_law_sign", .local), ("_law_signs_here", .free)], isGenerator := false, isCoroutine := false, more := [] }
theorem scOf1 : BlkScope (defScope sOf) ["_law_text", "_law_signs_here"] ["_law_sign"] ["_law_signs_here"] [1] scopeOf := ⟨rfl, by decide +kernel, by decide +kernel, by decide +kernel, rfl, by decide +kernel, by decide +kernel⟩
theorem ok_of {f : Addr} {fd : FuncData} (F : Fun K "_law_of" "_law_of" sOf f fd) : FnOk P w K mg base CX0 1 f fd ["_law_text", "_law_signs_here"] spOf := by
  refine F.ok scOf (fun vs H Q E h => ?_) (fun cdv A outer s H vs Q E hr h => ?_)
  · obtain ⟨z, S, rfl, _⟩ := h
    rfl
  · obtain ⟨z, S, rfl, tz, k⟩ := h
    have hu : _ < cLine := Nat.lt_of_le_of_lt (Nat.le_add_right _ 64) hr.units
    have hzl := len_sm tz (by decide)
    refine ⟨_, pss_one (ps_ret (pe_cmpR (op_eqL hu) (pe_lc scOf1 rfl rfl rfl (pi_str (pv 0)) (fun fp C s1 H1 => pg_name (i := 0) scOf1.nd rfl (Or.inl rfl)) (fun fp C s1 H1 => pts_one (pt_cmpR op_notIn_str (pv 0) (pv 1) (by with_unfolding_all rfl))) (fun fp C s1 H1 => pv 0)) (pe_lst pa_nil) (nomark _))), ?_⟩
    refine ⟨_, rfl, z, 1000, rfl, tz, fun D hD => ?_⟩
    refine lc_str (z := z) (fun j ys H3 => Same H H3 ∧ H3 D = some (.lst ys) ∧ ys = ((z.cps.toList.take j).filter fun c => !hasC S c).map fun c => V.str ⟨#[c]⟩) hzl ⟨(Same.refl H).upd_free hD, upd_same, by simp⟩ (fun j ys H3 h => ?_) ?_ ?_
    · rw [h.2.2, List.length_map]
      refine Nat.le_trans (List.length_filter_le _ _) ?_
      rw [List.length_take]
      exact Nat.min_le_left _ _
    · rintro j ys H3 c N M hc ⟨u1, u2, rfl⟩ hN hM
      have hc' : z.cps.toList[j]? = some c := by simpa using hc
      refine ⟨_, rfl, _, rfl, _, _, rfl, rfl, !hasC S c, by rw [StrLaws.found_one]; rfl, ?_⟩
      cases hf : hasC S c with
      | false =>
        refine iteT ⟨_, rfl, hN _ H3 u2 ⟨u1.upd_free hD, upd_same, ?_⟩⟩
        rw [List.take_add_one, hc', List.filter_append, List.map_append]
        simp [hf]
      | true =>
        refine iteF (hM H3 ⟨u1, u2, ?_⟩)
        rw [List.take_add_one, hc', List.filter_append, List.map_append]
        simp [hf]
    · rintro ys H3 ⟨u1, u2, rfl⟩
      rw [← cps_len, List.take_length] at u2
      refine ⟨(by show 0 ≤ sizeLine; decide), fun l hl => ?_⟩
      have s4 := (Same.refl H3).upd_free (o := .lst []) hl
      refine ⟨D, l, _, _, rfl, rfl, SqL.of (s4 _ _ u2), SqL.of upd_same, ?_, rfl, ?_⟩
      · rw [List.all_map]
        exact List.all_eq_true.mpr fun _ _ => rfl
      · rw [all_nilV]
        exact k _ (u1.trans s4)
theorem scIn : FnScope ["_law_text"] ["_law_text"] (defScope sIn) := ⟨rfl, rfl, rfl, by decide +kernel, rfl, by decide +kernel, by decide +kernel⟩
theorem ok_in {f fO : Addr} {fd fdO : FuncData} (F : Fun K "_law_is_number" "_law_is_number" sIn f fd) (T : T1 mg) (FO : Fun K "_law_of" "_law_of" sOf fO fdO) (bO : Binds K fdO ["_law_text", "_law_signs_here"] []) (gO : mg "_law_of" = some (.ref fO)) : FnOk P w K mg base CX0 2 f fd ["_law_text"] (spBo isNum) := by
  have GO : FnOk P w K mg base CX0 1 fO fdO ["_law_text", "_law_signs_here"] spOf := ok_of FO
  refine F.ok scIn (fun vs H Q E h => ?_) (fun cdv A outer s H vs Q E hr h => ?_)
  · obtain ⟨z, rfl, _⟩ := h
    rfl
  · obtain ⟨z, rfl, tz, k⟩ := h
    have hzl := len_sm tz (by decide)
    refine ⟨_, pss_cons (ps_if (PW.pt (pw_or (pt_cmpR op_eq (pv 0) pe_str (nomark _)) (pw_or (pt_cmpR op_gt (pe_callB call_len_str (by rfl) T.len PySem.boot_len (pa_cons (pv 0) pa_nil)) pe_int (nomark _)) (pw_or1 (pt_not (pt_val (pe_call GO hr rfl gO FO.kp bO .nil pass0 (pa_cons (pv 0) (pa_cons pe_str pa_nil))))))))) (pss_one (ps_ret pe_bl)) pss_nil)
      (pss_one (ps_ret (pe_or (pe_cmpR op_eq (pv 0) pe_str (nomark _)) (pe_one (pe_cmpR op_ne (pe_ix ix_str (pv 0) pe_int (fun _ _ => rfl)) pe_str (nomark _)))))), ?_⟩
    have out : ∀ H', Same H H' → isNum z = false → Q (.bl false) H' := fun H' s' e => by
      have q := k H' s'
      rw [e] at q
      exact q
    refine ⟨_, rfl, rfl, decide (z = Str.ofString ""), by rw [decS], ?_⟩
    by_cases h0 : z.length = 0
    · rw [decide_eq_true ((nil_iff z).mpr h0)]
      refine iteT (iteT (out H (Same.refl H) ?_))
      unfold isNum
      rw [decide_eq_false (by omega)]
      rfl
    rw [decide_eq_false (fun q => h0 ((nil_iff z).mp q))]
    refine iteF ⟨_, rfl, z, rfl, hzl, _, _, rfl, rfl, _, rfl, ?_⟩
    by_cases h9 : 9 < z.length
    · rw [decide_eq_true (by omega)]
      refine iteT (iteT (out H (Same.refl H) ?_))
      unfold isNum
      rw [decide_eq_false (by omega)]
      rfl
    rw [decide_eq_false (by omega)]
    refine iteF ⟨_, rfl, z, FIG, rfl, tz, fun H1 s1 => ⟨_, rfl, ?_⟩⟩
    have ek : isNum z = (madeM FIG z && (decide (z = Str.ofString "0") || !decide ((⟨#[hd z]⟩ : Str) = Str.ofString "0"))) := by
      unfold isNum
      rw [decide_eq_true ⟨by omega, by omega⟩, Bool.true_and]
    have q := k H1 s1
    rw [ek] at q
    cases hm : madeM FIG z with
    | false => exact iteT (out H1 s1 (by rw [ek, hm]; rfl))
    | true =>
      rw [hm, Bool.true_and] at q
      refine iteF ⟨_, rfl, rfl, _, rfl, ?_⟩
      by_cases hz : z = Str.ofString "0"
      · rw [decide_eq_true hz, Bool.true_or] at q
        exact iteTK (decide_eq_true (by rw [hz])) q
      · rw [decide_eq_false hz, Bool.false_or] at q
        refine iteFK (decide_eq_false (fun y => hz (by injection y))) ?_
        refine ⟨_, rfl, _, _, hd z, rfl, rfl, hzl, at0 (by omega), rfl, ?_⟩
        rw [decS]
        exact q
theorem scIm : FnScope ["_law_text", "_law_small"] ["_law_text"] (defScope sIm) := ⟨rfl, rfl, rfl, by decide +kernel, rfl, by decide +kernel, by decide +kernel⟩
theorem ok_im {f fO : Addr} {fd fdO : FuncData} (F : Fun K "_law_is_name" "_law_is_name" sIm f fd) (T : T1 mg) (FO : Fun K "_law_of" "_law_of" sOf fO fdO) (bO : Binds K fdO ["_law_text", "_law_signs_here"] []) (gO : mg "_law_of" = some (.ref fO)) : FnOk P w K mg base CX0 2 f fd ["_law_text"] (spBo isName) := by
  have GO : FnOk P w K mg base CX0 1 fO fdO ["_law_text", "_law_signs_here"] spOf := ok_of FO
  refine F.ok scIm (fun vs H Q E h => ?_) (fun cdv A outer s H vs Q E hr h => ?_)
  · obtain ⟨z, rfl, _⟩ := h
    rfl
  · obtain ⟨z, rfl, tz, k⟩ := h
    have hzl := len_sm tz (by decide)
    refine ⟨_, pss_cons (ps_set (i := 1) scIm.nd rfl (Or.inl rfl) pe_str)
      (pss_cons (ps_if (PW.pt (pw_or (pt_cmpR op_eq (pv 0) pe_str (nomark _)) (pw_or (pt_cmpR op_gt (pe_callB call_len_str (by rfl) T.len PySem.boot_len (pa_cons (pv 0) pa_nil)) pe_int (nomark _)) (pw_or1 (pt_cmpR op_notIn_str (pe_ix ix_str (pv 0) pe_int (fun _ _ => rfl)) (pv 1) (by with_unfolding_all rfl)))))) (pss_one (ps_ret pe_bl)) pss_nil)
      (pss_one (ps_ret (pe_call GO hr rfl gO FO.kp bO .nil pass0 (pa_cons (pv 0) (pa_cons (pe_op op_add_str (pv 1) pe_str) pa_nil)))))), ?_⟩
    have out : ∀ H', Same H H' → isName z = false → Q (.bl false) H' := fun H' s' e => by
      have q := k H' s'
      rw [e] at q
      exact q
    refine ⟨_, rfl, rfl, decide (z = Str.ofString ""), by rw [decS], ?_⟩
    by_cases h0 : z.length = 0
    · rw [decide_eq_true ((nil_iff z).mpr h0)]
      refine iteT (iteT (out H (Same.refl H) ?_))
      unfold isName
      rw [decide_eq_false (by omega)]
      rfl
    rw [decide_eq_false (fun q => h0 ((nil_iff z).mp q))]
    refine iteF ⟨_, rfl, z, rfl, hzl, _, _, rfl, rfl, _, rfl, ?_⟩
    by_cases h9 : 12 < z.length
    · rw [decide_eq_true (by omega)]
      refine iteT (iteT (out H (Same.refl H) ?_))
      unfold isName
      rw [decide_eq_false (by omega)]
      rfl
    rw [decide_eq_false (by omega)]
    refine iteF ⟨_, rfl, _, _, hd z, rfl, rfl, hzl, at0 (by omega), _, rfl, _, _, rfl, rfl, !hasC SMA (hd z), by rw [StrLaws.found_one]; rfl, ?_⟩
    have ek : isName z = (hasC SMA (hd z) && madeM NAM z) := by
      unfold isName
      rw [decide_eq_true ⟨by omega, by omega⟩, Bool.true_and]
    cases hm : hasC SMA (hd z) with
    | false => exact iteT (out H (Same.refl H) (by rw [ek, hm]; rfl))
    | true =>
      rw [ek, hm, Bool.true_and] at k
      have en : (Str.ofString "abcdefghijklmnopqrstuvwxyz" ++ Str.ofString "0123456789" : Str) = NAM := by decide +kernel
      refine iteF ⟨_, rfl, _, rfl, _, _, rfl, rfl, by decide +kernel, z, _, rfl, tz, fun H1 s1 => ?_⟩
      rw [en]
      exact k H1 s1
end
end SL
namespace L2
open PySem PySem.Spec PyProof.Rows
theorem for_str {z : Str} {g : TG} {tb : TS} {D : Ends} {σ : St} {H : Hp} (Pv : Nat → St → Hp → Prop) (h0 : Pv 0 σ H)
    (hs : ∀ i c σ H, z.cps[i]? = some c → Pv i σ H → g (.str ⟨#[c]⟩) σ H fun σ2 H2 => tb { D with nx := Pv (i + 1), ct := Pv (i + 1), bk := D.nx } σ2 H2) (hd : ∀ σ H, Pv z.length σ H → D.nx σ H) :
    ∃ W : Nat → Nat → St → Hp → Prop, (∃ m, W 0 m σ H) ∧ ∀ i m σ H, W i m σ H →
      ((Its z).stop i H ∧ D.nx σ H) ∨ ((Its z).go i H ∧ ∃ N : St → Hp → Prop, (∀ σ' H', N σ' H' → ∃ m', m' < m ∧ W (i + 1) m' σ' H') ∧ ∀ x H', (Its z).yld i H x H' → g x σ H' fun σ2 H2 => tb { D with nx := N, ct := N, bk := D.nx } σ2 H2) := by
  refine ⟨fun i m σ H => m = z.length - i ∧ i ≤ z.length ∧ Pv i σ H, ⟨z.length, by simp, Nat.zero_le _, h0⟩, ?_⟩
  rintro i m σ H ⟨rfl, hi, p⟩
  by_cases hlt : i < z.length
  · refine .inr ⟨hlt, Pv (i + 1), fun σ' H' p' => ⟨z.length - (i + 1), by omega, rfl, hlt, p'⟩, fun x H' y => ?_⟩
    obtain ⟨e, c, hc, y⟩ := y
    subst e y
    exact hs i c σ _ hc p
  · have e : i = z.length := by omega
    subst e
    exact .inl ⟨Nat.le_refl _, hd σ H p⟩
end L2
namespace SL
open PySem L2

def la (z : Str) : Nat := z.cps.toList.getD (z.length - 1) 0
theorem cps_at (z : Str) (i : Nat) (h : i < z.length) : z.cps.toList[i]? = some (z.cps.toList.getD i 0) := by
  have h' : i < z.cps.toList.length := by rw [cps_len]; exact h
  rw [List.getD, List.getElem?_eq_getElem h']
  rfl
theorem hd_getD (z : Str) : hd z = z.cps.toList.getD 0 0 := by
  unfold hd
  cases z.cps.toList <;> rfl
theorem at_last {z : Str} (h : 1 ≤ z.length) : atI z.cps.toList (-1) = some (la z) := by
  have e := cps_len z
  unfold atI ixN
  rw [if_neg (by omega), if_pos (by omega), e]
  show z.cps.toList[(-1 + (z.length : Int)).toNat]? = some (la z)
  have : (-1 + (z.length : Int)).toNat = z.length - 1 := by omega
  rw [this]
  exact cps_at z _ (by omega)
theorem starts_iff (z : Str) (c : Nat) (h : 1 ≤ z.length) : Txt.startswith z ⟨#[c]⟩ = decide (hd z = c) := by
  have q := StrLaws.subAt_one z c 0
  rw [cps_at z 0 (by omega), ← hd_getD] at q
  rw [Bool.eq_iff_iff, decide_eq_true_iff]
  unfold Txt.startswith
  rw [Bool.and_eq_true_iff, decide_eq_true_iff]
  exact ⟨fun y => by
    have := q.mp y
    injection this, fun y => q.mpr (by rw [y])⟩
theorem ends_iff (z : Str) (c : Nat) (h : 1 ≤ z.length) : Txt.endswith z ⟨#[c]⟩ = decide (la z = c) := by
  have q := StrLaws.subAt_one z c (z.length - 1)
  rw [cps_at z _ (by omega)] at q
  rw [Bool.eq_iff_iff, decide_eq_true_iff]
  unfold Txt.endswith
  rw [Bool.and_eq_true_iff, decide_eq_true_iff]
  have e1 : (⟨#[c]⟩ : Str).length = 1 := rfl
  rw [e1] at q ⊢
  exact ⟨fun y => by
    have := q.mp ⟨by omega, y.2⟩
    injection this, fun y => by
    obtain ⟨y1, y2⟩ := q.mpr (congrArg some y)
    exact ⟨by omega, y2⟩⟩

def inn (z : Str) : Str := Txt.slice z (some 1) (some (-1))
theorem isList_law (z : Str) : isList z = (decide (2 ≤ z.length) && (decide (hd z = 91) && (decide (la z = 93) && (decide (z = Str.ofString "[]") || (decide ((spl 44 (inn z).cps.toList).length ≤ 4) && (spl 44 (inn z).cps.toList).all isItem))))) := by
  have e1 : Str.ofString "," = (⟨#[44]⟩ : Str) := rfl
  have e2 : Str.ofString "[" = (⟨#[91]⟩ : Str) := rfl
  have e3 : Str.ofString "]" = (⟨#[93]⟩ : Str) := rfl
  unfold isList
  rw [e1, e2, e3, split_spl _ (by decide)]
  by_cases h0 : z.length = 0
  · have : Txt.startswith z ⟨#[91]⟩ = false := by
      unfold Txt.startswith
      rw [decide_eq_false (by rw [h0]; show ¬ (0 + 1 ≤ 0); omega)]
      rfl
    rw [this, decide_eq_false (show ¬ 2 ≤ z.length by omega)]
    rfl
  · rw [starts_iff z 91 (by omega), ends_iff z 93 (by omega)]
    by_cases h2 : 2 ≤ z.length
    · rw [decide_eq_true h2, Bool.true_and, ← Bool.and_assoc]
      rfl
    · have e : la z = hd z := by
        unfold la
        rw [hd_getD]
        have : z.length - 1 = 0 := by omega
        rw [this]
      rw [decide_eq_false h2, Bool.false_and, e]
      by_cases h : hd z = 91
      · rw [decide_eq_false (show ¬ hd z = 93 by omega), Bool.and_false, Bool.false_and]
      · rw [decide_eq_false h, Bool.false_and, Bool.false_and]
theorem walk_count (c : Nat) : ∀ (l : List Nat) (s : List Str × Str), (l.foldl (spStep c) s).1.length ≤ s.1.length + l.length
  | [], s => Nat.le_refl _
  | x :: l, s => by
    rw [List.foldl_cons]
    have q := walk_count c l (spStep c s x)
    have r : (spStep c s x).1.length ≤ s.1.length + 1 := by
      unfold spStep
      split
      · rw [List.length_append]
        exact Nat.le_refl _
      · exact Nat.le_succ _
    rw [List.length_cons]
    omega
theorem spl_len (c : Nat) (l : List Nat) : (spl c l).length ≤ l.length + 1 := by
  unfold spl
  rw [List.length_append]
  have q := walk_count c l ([], Str.empty)
  have q' : (spWalk c l).1.length ≤ 0 + l.length := q
  have : ([(spWalk c l).2] : List Str).length = 1 := rfl
  omega
theorem one_eq (c d : Nat) : (V.str ⟨#[c]⟩ = V.str ⟨#[d]⟩) ↔ c = d := ⟨fun q => by
  injection q with q
  injection q with q
  simpa using q, fun q => by rw [q]⟩
theorem at_end {α : Type} (xs : List α) (x : α) : atI (xs ++ [x]) (-1) = some x := by
  unfold atI ixN
  rw [if_neg (by omega), if_pos (by rw [List.length_append, List.length_singleton]; omega)]
  show (xs ++ [x])[(-1 + ((xs ++ [x]).length : Int)).toNat]? = some x
  have : (-1 + ((xs ++ [x]).length : Int)).toNat = xs.length := by rw [List.length_append, List.length_singleton]; omega
  rw [this]
  simp
theorem ix_end {α : Type} (xs : List α) (x : α) : ixN (xs ++ [x]).length (-1) = some xs.length := by
  unfold ixN
  rw [if_neg (by omega), if_pos (by rw [List.length_append, List.length_singleton]; omega)]
  have : (-1 + ((xs ++ [x]).length : Int)).toNat = xs.length := by rw [List.length_append, List.length_singleton]; omega
  rw [this]
section
variable {P : Program} {w : World} {K : PySem.W.Frag} {mg : Str → Option Value} {base : Heap}
theorem scIl : FnScope ["_law_text", "_law_items", "_law_sign", "_law_good"] ["_law_text"] (defScope sIl) := ⟨rfl, rfl, rfl, by decide +kernel, rfl, by decide +kernel, by decide +kernel⟩
def scopeIl : Scope := { kind := .function, names := [(".0", .local), ("_law_item", .local), ("_law_is_number", .globalImplicit), ("_law_is_name", .globalImplicit)], isGenerator := false, isCoroutine := false, more := [] }
theorem scIl1 : BlkScope (defScope sIl) ["_law_text", "_law_items", "_law_sign", "_law_good"] ["_law_item"] [] [] scopeIl := ⟨rfl, by decide +kernel, by decide +kernel, by decide +kernel, rfl, by decide +kernel, by decide +kernel⟩
theorem ok_il {f fN fM : Addr} {fd fdN fdM : FuncData} (F : Fun K "_law_is_list" "_law_is_list" sIl f fd) (T : T1 mg)
    (FN : Fun K "_law_is_number" "_law_is_number" sIn fN fdN) (bN : Binds K fdN ["_law_text"] []) (gN : mg "_law_is_number" = some (.ref fN)) (GN : FnOk P w K mg base CX0 2 fN fdN ["_law_text"] (spBo isNum))
    (FM : Fun K "_law_is_name" "_law_is_name" sIm fM fdM) (bM : Binds K fdM ["_law_text"] []) (gM : mg "_law_is_name" = some (.ref fM)) (GM : FnOk P w K mg base CX0 2 fM fdM ["_law_text"] (spBo isName)) : FnOk P w K mg base CX0 3 f fd ["_law_text"] (spBo isList) := by
  refine F.ok scIl (fun vs H Q E h => ?_) (fun cdv A outer s H vs Q E hr h => ?_)
  · obtain ⟨z, rfl, _⟩ := h
    rfl
  · obtain ⟨z, rfl, tz, k⟩ := h
    have hzl := len_sm tz (by decide)
    refine ⟨_, pss_cons (ps_if (PW.pt (pw_or (pt_cmpR op_lt (pe_callB call_len_str (by rfl) T.len PySem.boot_len (pa_cons (pv 0) pa_nil)) pe_int (nomark _)) (pw_or (pt_cmpR op_ne (pe_ix ix_str (pv 0) pe_int (fun _ _ => rfl)) pe_str (nomark _)) (pw_or1 (pt_cmpR op_ne (pe_ix ix_str (pv 0) (pe_un un_neg pe_int) (fun _ _ => rfl)) pe_str (nomark _)))))) (pss_one (ps_ret pe_bl)) pss_nil)
      (pss_cons (ps_if (pt_cmpR op_eq (pv 0) pe_str (nomark _)) (pss_one (ps_ret pe_bl)) pss_nil)
      (pss_cons (ps_set (i := 1) scIl.nd rfl (Or.inl rfl) (pe_lst (pa_cons pe_str pa_nil)))
      (pss_cons (ps_for PassesOwn.never rfl (pi_str (pe_slice sl_str (pv 0) (po_some pe_int) (po_some (pe_un un_neg pe_int)))) (pg_name (i := 2) scIl.nd rfl (Or.inl rfl))
        (pss_one (ps_if (pt_cmpR op_eq (pv 2) pe_str (nomark _)) (pss_one (ps_expr (pe_bm PySem.F.plainAttrs_list PySem.F.slot_list_append PySem.F.type_list_append mt_append (pv 1) (pa_cons pe_str pa_nil))))
          (pss_one (ps_asg (pe_op op_add_str (pe_ix ix_list (pv 1) (pe_un un_neg pe_int) (fun _ _ => rfl)) (pv 2)) (pg_sub (pv 1) (pe_un un_neg pe_int) set_list))))))
      (pss_cons (ps_setlc (i := 3) scIl1 rfl rfl rfl (pi_list (pv 1)) (fun fp C s1 H1 => pg_name (i := 0) scIl1.nd rfl (Or.inl rfl)) (fun fp C s1 H1 => pts_one (PW.pt (pw_or (pt_val (pe_call GN hr rfl gN FN.kp bN .nil pass0 (pa_cons (pv 0) pa_nil))) (pw_or1 (pt_val (pe_call GM hr rfl gM FM.kp bM .nil pass0 (pa_cons (pv 0) pa_nil))))))) (fun fp C s1 H1 => pv 0) scIl.nd rfl rfl rfl)
      (pss_one (ps_ret (pe_and (pe_cmpR op_le (pe_callB call_len_seq (by rfl) T.len PySem.boot_len (pa_cons (pv 1) pa_nil)) pe_int (nomark _)) (pe_one (pe_cmpR op_eq (pe_callB call_len_seq (by rfl) T.len PySem.boot_len (pa_cons (pv 3) pa_nil)) (pe_callB call_len_seq (by rfl) T.len PySem.boot_len (pa_cons (pv 1) pa_nil)) (nomark _)))))))))), ?_⟩
    have ek := isList_law z
    have out : isList z = false → Q (.bl false) H := fun e => by
      have q := k H (Same.refl H)
      rw [e] at q
      exact q
    refine ⟨_, rfl, z, rfl, hzl, _, _, rfl, rfl, _, rfl, ?_⟩
    by_cases h2 : 2 ≤ z.length
    · rw [decide_eq_true h2, Bool.true_and] at ek
      rw [decide_eq_false (by omega)]
      refine iteF ⟨_, rfl, _, _, hd z, rfl, rfl, hzl, at0 (by omega), rfl, !decide (hd z = 91), by rw [show decide (V.str ⟨#[hd z]⟩ = V.str (Str.ofString "[")) = decide (hd z = 91) from decide_eq_decide.mpr (one_eq (hd z) 91)], ?_⟩
      by_cases h91 : hd z = 91
      · rw [decide_eq_true h91, Bool.true_and] at ek
        rw [decide_eq_true h91]
        refine iteF ⟨_, rfl, _, rfl, _, _, la z, rfl, rfl, hzl, at_last (by omega), rfl, !decide (la z = 93), by rw [show decide (V.str ⟨#[la z]⟩ = V.str (Str.ofString "]")) = decide (la z = 93) from decide_eq_decide.mpr (one_eq (la z) 93)], ?_⟩
        by_cases h93 : la z = 93
        · rw [decide_eq_true h93, Bool.true_and] at ek
          rw [decide_eq_true h93]
          refine iteF ⟨_, rfl, rfl, decide (z = Str.ofString "[]"), by rw [decS], ?_⟩
          by_cases hz : z = Str.ofString "[]"
          · rw [decide_eq_true hz] at ek ⊢
            have q := k H (Same.refl H)
            rw [ek] at q
            exact iteT q
          rw [decide_eq_false hz, Bool.false_or] at ek
          rw [decide_eq_false hz]
          have tI : Tx 1000 (inn z) := tz.slice _ _
          refine iteF ⟨(by show 1 ≤ sizeLine; decide), fun l hl => ?_⟩
          refine ⟨_, rfl, _, rfl, _, rfl, _, rfl, z, rfl, hzl, inn z, 1000, rfl, tI, ?_⟩
          have hil : (inn z).cps.toList.length ≤ 1000 := by rw [cps_len]; exact tI.1
          have tx_of : ∀ i, ∀ p ∈ spl 44 ((inn z).cps.toList.take i), Tx 1000 p := fun i p hp => by
            have q := walk_tx 44 ((inn z).cps.toList.take i) ([], Str.empty) 0 (fun x hx => tI.2 x (List.mem_of_mem_take hx)) (fun p hp => by cases hp) ⟨Nat.zero_le _, fun y hy => by cases hy⟩
            have e : 0 + ((inn z).cps.toList.take i).length ≤ 1000 := by
              rw [List.length_take]
              omega
            unfold spl at hp
            rcases List.mem_append.mp hp with hp | hp
            · exact (q.1 p hp).mono e
            · rw [List.mem_singleton] at hp
              subst hp
              exact q.2.mono e
          refine for_str (z := inn z) (fun i σ H2 => (∃ v, σ = [some (.str z), some (.ref l), v, none]) ∧ Same H H2 ∧ H2 l = some (.lst ((spl 44 ((inn z).cps.toList.take i)).map V.str))) ⟨⟨none, rfl⟩, (Same.refl H).upd_free hl, upd_same⟩ ?_ ?_
          · rintro i c σ H2 hc ⟨⟨v, rfl⟩, s2, hL⟩
            have hc' : (inn z).cps.toList[i]? = some c := by simpa using hc
            have tk : (inn z).cps.toList.take (i + 1) = (inn z).cps.toList.take i ++ [c] := by rw [List.take_add_one, hc']; rfl
            have eS := spWalk_snoc 44 ((inn z).cps.toList.take i) c
            have hn := spl_len 44 ((inn z).cps.toList.take i)
            have hn2 : ((inn z).cps.toList.take i).length ≤ 1000 := by rw [List.length_take]; omega
            refine ⟨_, rfl, rfl, decide (c = 44), by rw [show decide (V.str ⟨#[c]⟩ = V.str (Str.ofString ",")) = decide (c = 44) from decide_eq_decide.mpr (one_eq c 44)], ?_⟩
            by_cases h44 : c = 44
            · rw [decide_eq_true h44]
              refine iteT ⟨_, rfl, .inl ⟨rfl, _, SqL.of hL⟩, l, _, _, rfl, rfl, hL, Nat.lt_of_le_of_lt (by rw [List.length_map]; omega) (show 1001 < sizeLine by decide), ⟨_, rfl⟩, s2.upd_free hl, ?_⟩
              rw [upd_same, tk]
              unfold spl at hL ⊢
              rw [eS]
              unfold spStep
              rw [if_pos h44, show Str.ofString "" = Str.empty from rfl]
              simp only [List.map_append, List.map_cons, List.map_nil]
            · rw [decide_eq_false h44]
              have eL : (spl 44 ((inn z).cps.toList.take i)).map V.str = (spWalk 44 ((inn z).cps.toList.take i)).1.map V.str ++ [.str (spWalk 44 ((inn z).cps.toList.take i)).2] := by
                unfold spl
                rw [List.map_append]
                rfl
              have t2 := tx_of i (spWalk 44 ((inn z).cps.toList.take i)).2 (by unfold spl; simp)
              rw [eL] at hL
              refine iteF ⟨_, rfl, _, rfl, l, _, _, _, rfl, rfl, SqL.of hL, at_end _ _, _, rfl, _, _, rfl, rfl, Nat.le_trans (Nat.add_le_add_right t2.1 _) (show 1000 + 1 ≤ sizeLine by decide), _, rfl, _, rfl, l, _, _, _, rfl, rfl, hL, ix_end _ _, ⟨_, rfl⟩, s2.upd_free hl, ?_⟩
              rw [upd_same, tk]
              unfold spl
              rw [eS]
              unfold spStep
              rw [if_neg h44, List.map_append]
              simp
          · rintro σ H2 ⟨⟨v, rfl⟩, s2, hL⟩
            rw [← cps_len, List.take_length] at hL
            have txA := tx_of ((inn z).cps.toList.length)
            rw [List.take_length] at txA
            have hn := spl_len 44 (inn z).cps.toList
            generalize hSp : spl 44 (inn z).cps.toList = L at hL txA ek hn
            refine ⟨_, rfl, l, rfl, ⟨_, SqL.of hL⟩, fun D hD => ?_⟩
            refine lc_list (K := K) (a := l) (xs := L.map V.str) (fun i ys H3 => ys = ((L.take i).filter isItem).map V.str ∧ Same H2 H3 ∧ H3 D = some (.lst ys)) (Nat.le_trans (by rw [List.length_map]; omega) (show 1001 ≤ sizeLine by decide)) ⟨rfl, (Same.refl H2).upd_free hD, upd_same⟩ (fun i ys H3 h => ?_) (fun i ys H3 h => SqL.of (h.2.1 _ _ hL)) ?_ ?_
            · rw [h.1, List.length_map]
              refine Nat.le_trans (List.length_filter_le _ _) ?_
              rw [List.length_take]
              exact Nat.min_le_left _ _
            · rintro i ys H3 x N M hx ⟨rfl, s3, hD3⟩ hN hM
              rw [List.getElem?_map] at hx
              cases el : L[i]? with
              | none => rw [el] at hx; cases hx
              | some y =>
                rw [el] at hx
                cases hx
                have ty := txA y (List.mem_of_getElem? el)
                have yes : isItem y = true → ∀ H4, Same H3 H4 → N (V.str y) H4 := fun hi H4 s4 => hN _ H4 (s4 _ _ hD3) ⟨by rw [List.take_add_one, el, List.filter_append, List.map_append]; simp [hi], (s3.trans s4).upd_free hD, upd_same⟩
                refine ⟨_, rfl, y, rfl, ty, fun H4 s4 => ⟨_, rfl, ?_⟩⟩
                cases h1 : isNum y with
                | true => exact iteT (iteT ⟨_, rfl, yes (by unfold isItem; rw [h1]; rfl) H4 s4⟩)
                | false =>
                  refine iteF ⟨_, rfl, y, rfl, ty, fun H5 s5 => ⟨_, rfl, ?_⟩⟩
                  cases h3 : isName y with
                  | true => exact iteT ⟨_, rfl, yes (by unfold isItem; rw [h1, h3]; rfl) H5 (s4.trans s5)⟩
                  | false =>
                    refine iteF (hM H5 ⟨?_, s3.trans (s4.trans s5), (s4.trans s5) _ _ hD3⟩)
                    have hi : isItem y = false := by unfold isItem; rw [h1, h3]; rfl
                    rw [List.take_add_one, el, List.filter_append, List.map_append]
                    simp [hi]
            · rintro ys H3 ⟨rfl, s3, hD3⟩
              rw [List.length_map, List.take_length] at hD3
              have q := k H3 (s2.trans s3)
              rw [ek] at q
              refine ⟨_, rfl, l, _, rfl, .inl (SqL.of (s3 _ _ hL)), _, _, rfl, rfl, decide (L.length ≤ 4), by (show V.bl (decide (((L.map V.str).length : Int) ≤ 4)) = _); rw [List.length_map, show decide ((L.length : Int) ≤ 4) = decide (L.length ≤ 4) from decide_eq_decide.mpr (by omega)], ?_⟩
              by_cases h4 : L.length ≤ 4
              · rw [decide_eq_true h4, Bool.true_and] at q
                rw [decide_eq_true h4]
                refine iteT ⟨_, rfl, D, _, rfl, .inl (SqL.of hD3), _, rfl, l, _, rfl, .inl (SqL.of (s3 _ _ hL)), rfl, ?_⟩
                have e : decide (V.int ((((L.filter isItem).map V.str).length : Nat) : Int) = V.int (((L.map V.str).length : Nat) : Int)) = L.all isItem := by
                  rw [Bool.eq_iff_iff, decide_eq_true_iff, List.length_map, List.length_map, List.all_eq_true, ← List.length_filter_eq_length_iff]
                  exact ⟨fun y => by injection y with y; omega, fun y => by rw [y]⟩
                rw [e]
                exact q
              · rw [decide_eq_false h4, Bool.false_and] at q
                rw [decide_eq_false h4]
                exact iteF q
        · rw [decide_eq_false h93, Bool.false_and] at ek
          rw [decide_eq_false h93]
          exact iteT (out ek)
      · rw [decide_eq_false h91, Bool.false_and] at ek
        rw [decide_eq_false h91]
        exact iteT (iteT (out ek))
    · rw [decide_eq_false h2, Bool.false_and] at ek
      rw [decide_eq_true (by omega)]
      exact iteT (iteT (out ek))
end
end SL
namespace SL
open PySem L2
def MAS : Str := Str.ofString "abcdefghijklmnopqrstuvwxyz0123456789" ++ Str.ofString "ABCDEFGHIJKLMNOPQRSTUVWXYZ.:-_/="
theorem mas_mem (c : Nat) : hasC MAS c = hasC MAR c := by
  have h1 : MAS.cps.toList.all (fun c => decide (c ∈ MAR.cps.toList)) = true := by decide +kernel
  have h2 : MAR.cps.toList.all (fun c => decide (c ∈ MAS.cps.toList)) = true := by decide +kernel
  rw [List.all_eq_true] at h1 h2
  exact decide_eq_decide.mpr ⟨fun h => of_decide_eq_true (h1 c h), fun h => of_decide_eq_true (h2 c h)⟩
theorem mas_made (z : Str) : madeM MAS z = madeM MAR z := by
  unfold madeM
  congr 1
  funext c
  exact mas_mem c
section
variable {P : Program} {w : World} {K : PySem.W.Frag} {mg : Str → Option Value} {base : Heap}
theorem scLs : FnScope ["_law_text", "_law_small"] ["_law_text"] (defScope sLs) := ⟨rfl, rfl, rfl, by decide +kernel, rfl, by decide +kernel, by decide +kernel⟩
theorem ok_ls {f fO fN fM fL : Addr} {fd fdO fdN fdM fdL : FuncData} (F : Fun K "_law_sort" "_law_sort" sLs f fd) (T : T1 mg) (FO : Fun K "_law_of" "_law_of" sOf fO fdO) (bO : Binds K fdO ["_law_text", "_law_signs_here"] []) (gO : mg "_law_of" = some (.ref fO))
    (FN : Fun K "_law_is_number" "_law_is_number" sIn fN fdN) (bN : Binds K fdN ["_law_text"] []) (gN : mg "_law_is_number" = some (.ref fN))
    (FM : Fun K "_law_is_name" "_law_is_name" sIm fM fdM) (bM : Binds K fdM ["_law_text"] []) (gM : mg "_law_is_name" = some (.ref fM))
    (FL : Fun K "_law_is_list" "_law_is_list" sIl fL fdL) (bL : Binds K fdL ["_law_text"] []) (gL : mg "_law_is_list" = some (.ref fL)) : FnOk P w K mg base CX0 4 f fd ["_law_text"] spSo := by
  have GO : FnOk P w K mg base CX0 1 fO fdO ["_law_text", "_law_signs_here"] spOf := ok_of FO
  have GN : FnOk P w K mg base CX0 2 fN fdN ["_law_text"] (spBo isNum) := ok_in FN T FO bO gO
  have GM : FnOk P w K mg base CX0 2 fM fdM ["_law_text"] (spBo isName) := ok_im FM T FO bO gO
  have GL : FnOk P w K mg base CX0 3 fL fdL ["_law_text"] (spBo isList) := ok_il FL T FN bN gN GN FM bM gM GM
  refine F.ok scLs (fun vs H Q E h => ?_) (fun cdv A outer s H vs Q E hr h => ?_)
  · obtain ⟨z, rfl, _⟩ := h
    rfl
  · obtain ⟨z, rfl, tz, k⟩ := h
    have hzl := len_sm tz (by decide)
    have hr1 : Room 1 _ := hr.mono (by decide)
    have hr2 : Room 2 _ := hr.mono (by decide)
    refine ⟨_, pss_cons (ps_if (pt_val (pe_call GN hr2 rfl gN FN.kp bN .nil pass0 (pa_cons (pv 0) pa_nil))) (pss_one (ps_ret pe_str)) pss_nil)
      (pss_cons (ps_if (pt_val (pe_call GM hr2 rfl gM FM.kp bM .nil pass0 (pa_cons (pv 0) pa_nil))) (pss_one (ps_ret pe_str)) pss_nil)
      (pss_cons (ps_if (pt_val (pe_call GL hr rfl gL FL.kp bL .nil pass0 (pa_cons (pv 0) pa_nil))) (pss_one (ps_ret pe_str)) pss_nil)
      (pss_cons (ps_set (i := 1) scLs.nd rfl (Or.inl rfl) pe_str)
      (pss_cons (ps_if (PW.pt (pw_and (pt_cmpR op_ne (pv 0) pe_str (nomark _)) (pw_and (pt_cmpR op_le (pe_callB call_len_str (by rfl) T.len PySem.boot_len (pa_cons (pv 0) pa_nil)) pe_int (nomark _)) (pw_and1 (pt_val (pe_call GO hr1 rfl gO FO.kp bO .nil pass0 (pa_cons (pv 0) (pa_cons (pe_op op_add_str (pv 1) pe_str) pa_nil)))))))) (pss_one (ps_ret pe_str)) pss_nil)
      (pss_one (ps_ret pe_non)))))), ?_⟩
    unfold sortM at k
    refine ⟨_, rfl, z, rfl, tz, fun H1 s1 => ⟨_, rfl, ?_⟩⟩
    cases h1 : isNum z with
    | true =>
      have q := k H1 s1
      rw [if_pos h1] at q
      exact iteT q
    | false =>
      rw [if_neg (by rw [h1]; nofun)] at k
      refine iteF ⟨_, rfl, z, rfl, tz, fun H2 s2 => ⟨_, rfl, ?_⟩⟩
      cases h2 : isName z with
      | true =>
        have q := k H2 (s1.trans s2)
        rw [if_pos h2] at q
        exact iteT q
      | false =>
        rw [if_neg (by rw [h2]; nofun)] at k
        refine iteF ⟨_, rfl, z, rfl, tz, fun H3 s3 => ⟨_, rfl, ?_⟩⟩
        have t3 := s1.trans (s2.trans s3)
        cases h3 : isList z with
        | true =>
          have q := k H3 t3
          rw [if_pos h3] at q
          exact iteT q
        | false =>
          rw [if_neg (by rw [h3]; nofun)] at k
          have em : isMark z = (decide (1 ≤ z.length ∧ z.length ≤ 12) && madeM MAR z) := by
            unfold isMark isItem
            rw [h1, h2]
            cases madeM MAR z <;> rfl
          have out : ∀ H', Same H H' → isMark z = false → Q .non H' := fun H' s' e => by
            have q := k H' s'
            rw [if_neg (by rw [e]; nofun)] at q
            exact q
          refine iteF ⟨_, rfl, rfl, !decide (z = Str.ofString ""), by rw [decS], ?_⟩
          by_cases h0 : z.length = 0
          · rw [decide_eq_true ((nil_iff z).mpr h0)]
            exact iteF (iteF (out H3 t3 (by rw [em, decide_eq_false (by omega)]; rfl)))
          rw [decide_eq_false (fun q => h0 ((nil_iff z).mp q))]
          refine iteT ⟨_, rfl, z, rfl, hzl, _, _, rfl, rfl, _, rfl, ?_⟩
          by_cases h12 : z.length ≤ 12
          · rw [decide_eq_true (by omega)]
            refine iteT ⟨_, rfl, _, rfl, _, _, rfl, rfl, by decide +kernel, z, MAS, rfl, tz, fun H4 s4 => ⟨_, rfl, ?_⟩⟩
            rw [mas_made]
            rw [decide_eq_true ⟨by omega, h12⟩, Bool.true_and] at em
            cases hm : madeM MAR z with
            | true =>
              have q := k H4 (t3.trans s4)
              rw [if_pos (by rw [em, hm])] at q
              exact iteT q
            | false => exact iteF (out H4 (t3.trans s4) (by rw [em, hm]))
          · rw [decide_eq_false (by omega)]
            exact iteF (iteF (out H3 t3 (by rw [em, decide_eq_false (by omega)]; rfl)))
end
end SL
namespace SL
open PySem L2

def Tn (n : Nat) (z : Str) : Prop := z.length ≤ n ∧ ∀ c ∈ z.cps.toList, c < 128 ∧ c ≠ 32
theorem Tn.mono {n m : Nat} {z : Str} (h : Tn n z) (k : n ≤ m) : Tn m z := ⟨Nat.le_trans h.1 k, h.2⟩
theorem Tn.app {n m : Nat} {y z : Str} (h : Tn n y) (k : Tn m z) : Tn (n + m) (y ++ z) := by
  refine ⟨by rw [Str.length_append]; exact Nat.add_le_add h.1 k.1, fun c hc => ?_⟩
  have e : (y ++ z).cps = y.cps ++ z.cps := rfl
  rw [e, Array.toList_append] at hc
  rcases List.mem_append.mp hc with q | q
  · exact h.2 c q
  · exact k.2 c q
theorem Tn.one {c : Nat} (h : c < 128 ∧ c ≠ 32) : Tn 1 (⟨#[c]⟩ : Str) := ⟨Nat.le_refl _, fun d hd => by
  have : d = c := by simpa using hd
  omega⟩
theorem Tn.slice {n : Nat} {z : Str} (h : Tn n z) (lo hi : Option Int) : Tn n (Txt.slice z lo hi) := by
  refine ⟨Nat.le_trans (Txt.slice_le z lo hi) h.1, fun c hc => ?_⟩
  unfold Txt.slice at hc
  split at hc
  · exact h.2 c hc
  · have hc' : c ∈ ((Builtin.Str.strSliceIndices lo hi 1 z.length).filterMap (z.cps[·]?)) := by simpa using hc
    obtain ⟨j, _, e⟩ := List.mem_filterMap.mp hc'
    exact h.2 c (by
      have := Array.mem_of_getElem? e
      simpa using this)
theorem join_tn (sep : Str) {n m : Nat} (hs : Tn m sep) : ∀ {ys : List Str}, (∀ y ∈ ys, Tn n y) → Tn (ys.length * (n + m)) (Str.join sep ys)
  | [], _ => ⟨Nat.zero_le _, fun c hc => by
    have : c ∈ ([] : List Nat) := hc
    simp at this⟩
  | [x], h => by
    have q : Tn n (Str.join sep [x]) := h x List.mem_cons_self
    exact q.mono (by rw [List.length_singleton]; omega)
  | x :: y :: r, h => by
    have q := join_tn sep hs (ys := y :: r) fun z hz => h z (List.mem_cons_of_mem _ hz)
    have e : Str.join sep (x :: y :: r) = x ++ sep ++ Str.join sep (y :: r) := rfl
    rw [e]
    refine (((h x List.mem_cons_self).app hs).app q).mono ?_
    simp only [List.length_cons, Nat.succ_mul]
    omega
theorem Tn.tx {n : Nat} {z : Str} (h : Tn n z) : Tx n z := ⟨h.1, fun c hc => (h.2 c hc).1⟩
end SL
namespace SL
open PySem L2
def txB (n : Nat) (z : Str) : Bool := decide (z.length ≤ n) && z.cps.toList.all fun c => decide (c < 128 ∧ c ≠ 32)
theorem txK {n : Nat} {z : Str} (h : txB n z = true) : Tn n z := by
  unfold txB at h
  rw [Bool.and_eq_true] at h
  exact ⟨of_decide_eq_true h.1, fun c hc => of_decide_eq_true (List.all_eq_true.mp h.2 c hc)⟩
theorem ifb {c : Bool} {A B : Prop} (h1 : A) (h2 : B) : if c = true then A else B := by
  cases c with
  | true => exact iteT h1
  | false => exact iteF h2
theorem len2 {n m : Nat} {y z : Str} (h : Tn n y) (k : Tn m z) (hn : n + m ≤ 1000) : y.length + z.length ≤ sizeLine := Nat.le_of_lt (small1000 (Nat.le_trans (Nat.add_le_add h.1 k.1) hn))
theorem sum_len {n : Nat} : ∀ {ys : List Str}, (∀ y ∈ ys, Tn n y) → (ys.map (·.length)).sum ≤ ys.length * n
  | [], _ => Nat.zero_le _
  | y :: ys, h => by
    have q := sum_len (ys := ys) fun z hz => h z (List.mem_cons_of_mem _ hz)
    have r := (h y List.mem_cons_self).1
    rw [List.map_cons, List.sum_cons, List.length_cons, Nat.succ_mul]
    omega
theorem len_smN {n : Nat} {z : Str} (h : Tn n z) (hn : n ≤ 1000) : z.length ≤ sizeLine := len_sm h.tx hn
section
variable {P : Program} {w : World} {K : PySem.W.Frag} {mg : Str → Option Value} {base : Heap}
theorem scSi : FnScope ["_law_cell", "_law_many", "_law_signs_here", "_law_found", "_law_number", "_law_k"] ["_law_cell", "_law_many", "_law_signs_here"] (defScope sSi) := ⟨rfl, rfl, rfl, by decide +kernel, rfl, by decide +kernel, by decide +kernel⟩
theorem scNu : FnScope ["_law_cell", "_law_many"] ["_law_cell"] (defScope sNu) := ⟨rfl, rfl, rfl, by decide +kernel, rfl, by decide +kernel, by decide +kernel⟩
theorem scNa : FnScope ["_law_cell", "_law_small"] ["_law_cell"] (defScope sNa) := ⟨rfl, rfl, rfl, by decide +kernel, rfl, by decide +kernel, by decide +kernel⟩
end
end SL
namespace SL
open PySem L2
section
variable {P : Program} {w : World} {K : PySem.W.Frag} {mg : Str → Option Value} {base : Heap}
theorem scMk : FnScope ["_law_cell", "_law_signs_here", "_law_many", "_law_word_here", "_law_at", "_law_great"] ["_law_cell"] (defScope sMk) := ⟨rfl, rfl, rfl, by decide +kernel, rfl, by decide +kernel, by decide +kernel⟩
theorem scLi : FnScope ["_law_cell", "_law_items", "_law_k", "_law_part_here"] ["_law_cell"] (defScope sLi) := ⟨rfl, rfl, rfl, by decide +kernel, rfl, by decide +kernel, by decide +kernel⟩
theorem scWo : FnScope ["_law_cell"] ["_law_cell"] (defScope sWo) := ⟨rfl, rfl, rfl, by decide +kernel, rfl, by decide +kernel, by decide +kernel⟩
end
end SL
namespace SL
open PySem L2

theorem made_mem {S z : Str} (h : madeM S z = true) : ∀ c ∈ z.cps.toList, c ∈ S.cps.toList := fun c hc => of_decide_eq_true (List.all_eq_true.mp h c hc)
theorem made_of_mem {S z : Str} (h : ∀ c ∈ z.cps.toList, c ∈ S.cps.toList) : madeM S z = true := List.all_eq_true.mpr fun c hc => decide_eq_true (h c hc)
theorem made_app {S y z : Str} (h : madeM S y = true) (k : madeM S z = true) : madeM S (y ++ z) = true := made_of_mem fun c hc => by
  rw [app_list] at hc
  exact (List.mem_append.mp hc).elim (made_mem h c) (made_mem k c)
theorem made_one {S : Str} {c : Nat} (h : c ∈ S.cps.toList) : madeM S (⟨#[c]⟩ : Str) = true := made_of_mem fun d hd => by
  have : d = c := by simpa using hd
  rw [this]
  exact h
theorem made_sub {A S z : Str} (hA : madeM S A = true) (h : madeM A z = true) : madeM S z = true := made_of_mem fun c hc => made_mem hA c (made_mem h c hc)
theorem mar_plain : ∀ c ∈ MAR.cps.toList, c < 128 ∧ c ≠ 32 := by
  have e : MAR.cps.toList.all (fun c => decide (c < 128 ∧ c ≠ 32)) = true := by decide +kernel
  exact fun c hc => of_decide_eq_true (List.all_eq_true.mp e c hc)
theorem okMark.tn {z : Str} (h : okMark z) : Tn 12 z := ⟨h.2.1, fun c hc => mar_plain c (made_mem h.2.2 c hc)⟩
theorem nam_mar : madeM MAR NAM = true := by decide +kernel
theorem item_mark {x : Str} (h : isItem x = true) : okMark x := by
  have q := item_plain h
  exact ⟨q.1, q.2.1, made_sub nam_mar q.2.2⟩
theorem Wd.tn {z : Str} (h : Wd z) : Tn 60 z := by
  cases h with
  | mar h => exact h.tn.mono (by decide)
  | lis xs h hi e =>
    subst e
    have tc : Tn 1 (Str.ofString ",") := txK (by decide +kernel)
    have tl : Tn 1 (Str.ofString "[") := txK (by decide +kernel)
    have tr : Tn 1 (Str.ofString "]") := txK (by decide +kernel)
    have tj := (join_tn (Str.ofString ",") tc (fun x hx => (item_mark (hi x hx)).tn)).mono (m := 52) (by omega)
    exact ((tl.app tj).app tr).mono (by decide)
theorem Wd.item {z : Str} (h : isItem z = true) : Wd z := .mar (item_mark h)
theorem sl_mem {z : Str} {lo hi : Option Int} : ∀ c ∈ (Txt.slice z lo hi).cps.toList, c ∈ z.cps.toList := by
  intro c hc
  unfold Txt.slice at hc
  split at hc
  · exact hc
  · have hc' : c ∈ ((Builtin.Str.strSliceIndices lo hi 1 z.length).filterMap (z.cps[·]?)) := by simpa using hc
    obtain ⟨j, _, e⟩ := List.mem_filterMap.mp hc'
    have := Array.mem_of_getElem? e
    simpa using this
theorem sl_to_len {z : Str} {a : Int} (h0 : 0 ≤ a) (h1 : a ≤ (z.length : Int)) : (Txt.slice z none (some a)).length = a.toNat := by
  have hl : z.cps.toList.length = z.length := by simp [Str.length]
  have e1 : Txt.slice z none (some a) = ⟨((z.cps.toList.drop 0).take (a - 0).toNat).toArray⟩ := StrLaws.sliceText_to ⟨h0, by rw [hl]; exact h1⟩
  rw [e1]
  show ((z.cps.toList.drop 0).take (a - 0).toNat).toArray.size = _
  rw [List.size_toArray, List.length_take, List.length_drop, hl]
  omega
theorem sl_from_len {z : Str} {a : Int} (h0 : 0 ≤ a) (h1 : a ≤ (z.length : Int)) : (Txt.slice z (some a) none).length = z.length - a.toNat := by
  have hl : z.cps.toList.length = z.length := by simp [Str.length]
  have e2 : Txt.slice z (some a) none = ⟨((z.cps.toList.drop a.toNat).take ((z.cps.toList.length : Int) - a).toNat).toArray⟩ := StrLaws.sliceText_from ⟨h0, by rw [hl]; exact h1⟩
  rw [e2]
  show ((z.cps.toList.drop a.toNat).take ((z.cps.toList.length : Int) - a).toNat).toArray.size = _
  rw [List.size_toArray, List.length_take, List.length_drop, hl]
  omega
theorem sign_atM {S : Str} {i : Int} (h0 : 0 ≤ i) (h1 : i < (S.length : Int)) : ∃ c, c ∈ S.cps.toList ∧ atI S.cps.toList i = some c := by
  have hl : S.cps.toList.length = S.length := by simp [Str.length]
  exact atI_someW S.cps.toList i h0 (by rw [hl]; exact h1)
def spSgM : Sp := fun vs H Q _ => ∃ (c m : Int) (S : Str), vs = [.int c, .int m, .str S] ∧ 0 ≤ m ∧ m ≤ 20 ∧ Tn 100 S ∧ 1 ≤ S.length ∧ ∀ (y : Str) (H' : Hp), y.length = m.toNat → madeM S y = true → Same H H' → Q (.str y) H'
def spWx (p : Str → Prop) : Sp := fun vs H Q _ => ∃ c : Int, vs = [.int c] ∧ ∀ (y : Str) (H' : Hp), p y → Same H H' → Q (.str y) H'
theorem made_tn {S y : Str} {n m : Nat} (t : Tn n S) (h : madeM S y = true) (l : y.length ≤ m) : Tn m y := ⟨l, fun c hc => t.2 c (made_mem h c hc)⟩
theorem num_of {d : Nat} {y : Str} (hd9 : d ∈ (Str.ofString "123456789").cps.toList) (hy : madeM FIG y = true) (l : y.length ≤ 8) : isNum ((⟨#[d]⟩ : Str) ++ y) = true := by
  have hF : madeM FIG (Str.ofString "123456789") = true := by decide +kernel
  have el : ((⟨#[d]⟩ : Str) ++ y).length = 1 + y.length := by rw [Str.length_append]; rfl
  have eh : hd ((⟨#[d]⟩ : Str) ++ y) = d := by
    unfold hd
    rw [app_list]
    rfl
  unfold isNum
  rw [decide_eq_true ⟨by omega, by omega⟩, made_app (made_one (made_mem hF d hd9)) hy, eh]
  have ne : ¬ (⟨#[d]⟩ : Str) = Str.ofString "0" := fun e => by
    have e' : d = 48 := by
      have q : (#[d] : Array Nat) = #[48] := congrArg Str.cps e
      simpa using q
    subst e'
    revert hd9
    decide +kernel
  rw [decide_eq_false ne]
  simp
theorem num_one {d : Nat} (h : d ∈ FIG.cps.toList) : isNum (⟨#[d]⟩ : Str) = true := by
  have e : FIG.cps.toList.all (fun d => isNum (⟨#[d]⟩ : Str)) = true := by decide +kernel
  exact List.all_eq_true.mp e d h
theorem name_of {d : Nat} {y : Str} (hd : d ∈ SMA.cps.toList) (hy : madeM NAM y = true) (l : y.length ≤ 11) : isName ((⟨#[d]⟩ : Str) ++ y) = true := by
  have hF : madeM NAM SMA = true := by decide +kernel
  have el : ((⟨#[d]⟩ : Str) ++ y).length = 1 + y.length := by rw [Str.length_append]; rfl
  have eh : SL.hd ((⟨#[d]⟩ : Str) ++ y) = d := by
    unfold SL.hd
    rw [app_list]
    rfl
  unfold isName
  rw [decide_eq_true ⟨by omega, by omega⟩, made_app (made_one (made_mem hF d hd)) hy, eh, show hasC SMA d = true from decide_eq_true hd]
  rfl
section
variable {P : Program} {w : World} {K : PySem.W.Frag} {mg : Str → Option Value} {base : Heap}
theorem ok_siM {f : Addr} {fd : FuncData} (F : Fun K "_law_signs" "_law_signs" sSi f fd) (T : T1 mg) : FnOk P w K mg base CX0 1 f fd ["_law_cell", "_law_many", "_law_signs_here"] spSgM := by
  refine F.ok scSi (fun vs H Q E h => ?_) (fun cdv A outer s H vs Q E hr h => ?_)
  · obtain ⟨c, m, S, rfl, _⟩ := h
    rfl
  · obtain ⟨c, m, S, rfl, m0, m1, tS, pS, k⟩ := h
    refine ⟨_, pss_cons (ps_set (i := 3) scSi.nd rfl (Or.inl rfl) pe_str)
      (pss_cons (ps_set (i := 4) scSi.nd rfl (Or.inl rfl) (pv 0))
      (pss_cons (ps_for PassesOwn.never rfl (pi_range1 rfl T.range (pa_cons (pv 1) pa_nil)) (pg_name (i := 5) scSi.nd rfl (Or.inl rfl))
        (pss_cons (ps_set (i := 4) scSi.nd rfl (Or.inl rfl) (pe_op op_mod (pe_op op_mul (pe_op op_add (pe_op op_add (pe_op op_mod (pv 4) pe_int) (pv 5)) pe_int) pe_int) pe_int))
        (pss_one (ps_set (i := 3) scSi.nd rfl (Or.inl rfl) (pe_op op_add_str (pv 3) (pe_ix ix_str (pv 2) (pe_op op_mod (pv 4) (pe_callB call_len_str (by rfl) T.len PySem.boot_len (pa_cons (pv 2) pa_nil))) (fun _ _ => rfl)))))))
      (pss_one (ps_ret (pv 3))))), ?_⟩
    refine ⟨_, rfl, _, rfl, _, rfl, by omega, by omega, ?_⟩
    refine for_range (n := m.toNat) (fun i σ H2 => H2 = H ∧ ∃ (y : Str) (n : Int) (v : Option V), σ = [some (.int c), some (.int m), some (.str S), some (.str y), some (.int n), v] ∧ y.length = i ∧ madeM S y = true) ⟨rfl, Str.ofString "", c, none, rfl, rfl, rfl⟩ ?_ ?_
    · rintro i σ H2 hi ⟨rfl, y, n, v, rfl, ly, my⟩
      refine ⟨_, rfl, _, _, rfl, rfl, (by show (0 : Int) < 2147483647; decide), _, rfl, _, _, rfl, rfl, _, _, rfl, rfl, _, _, rfl, rfl, .inr ⟨by decide, by decide⟩, _, _, rfl, rfl, (by show (0 : Int) < 2147483647; decide), ?_⟩
      refine ⟨_, rfl, _, rfl, _, rfl, _, rfl, S, rfl, len_smN tS (by decide), _, _, rfl, rfl, (by show (0 : Int) < (S.length : Int); omega), ?_⟩
      obtain ⟨d, hdS, hd⟩ := sign_atM (S := S) (i := (n % 2147483647 + (0 + (i : Int)) + 1) * 48271 % 2147483647 % (S.length : Int)) (Int.emod_nonneg _ (by omega)) (Int.emod_lt_of_pos _ (by omega))
      have l2 : y.length + (⟨#[d]⟩ : Str).length ≤ sizeLine := Nat.le_of_lt (small1000 (by show y.length + 1 ≤ 1000; omega))
      refine ⟨S, _, d, rfl, rfl, len_smN tS (by decide), hd, _, _, rfl, rfl, l2, rfl, _, _, _, rfl, by rw [Str.length_append, ly]; rfl, made_app my (made_one hdS)⟩
    · rintro σ H2 ⟨rfl, y, n, v, rfl, ly, my⟩
      exact ⟨_, rfl, k y H2 ly my (Same.refl H2)⟩
theorem ok_nuM {f fS : Addr} {fd fdS : FuncData} (F : Fun K "_law_number_word" "_law_number_word" sNu f fd) (T : T1 mg) (FS : Fun K "_law_signs" "_law_signs" sSi fS fdS) (bS : Binds K fdS ["_law_cell", "_law_many", "_law_signs_here"] []) (gS : mg "_law_signs" = some (.ref fS)) : FnOk P w K mg base CX0 2 f fd ["_law_cell"] (spWx fun y => isNum y = true) := by
  have GS : FnOk P w K mg base CX0 1 fS fdS ["_law_cell", "_law_many", "_law_signs_here"] spSgM := ok_siM FS T
  refine F.ok scNu (fun vs H Q E h => ?_) (fun cdv A outer s H vs Q E hr h => ?_)
  · obtain ⟨c, rfl, _⟩ := h
    rfl
  · obtain ⟨c, rfl, k⟩ := h
    refine ⟨_, pss_cons (ps_set (i := 1) scNu.nd rfl (Or.inl rfl) (pe_op op_mod (pv 0) pe_int))
      (pss_cons (ps_if (pt_cmpR op_eq (pv 1) pe_int (nomark _)) (pss_one (ps_ret (pe_ix ix_str pe_str (pe_op op_mod (pe_op op_fdiv (pv 0) pe_int) pe_int) (fun _ _ => rfl)))) pss_nil)
      (pss_one (ps_ret (pe_op op_add_str (pe_ix ix_str pe_str (pe_op op_mod (pe_op op_fdiv (pv 0) pe_int) pe_int) (fun _ _ => rfl)) (pe_call GS hr rfl gS FS.kp bS .nil pass0 (pa_cons (pe_op op_fdiv (pv 0) pe_int) (pa_cons (pv 1) (pa_cons pe_str pa_nil)))))))), ?_⟩
    have t10 : Tn 10 (Str.ofString "0123456789") := txK (by decide +kernel)
    have t9 : Tn 9 (Str.ofString "123456789") := txK (by decide +kernel)
    refine ⟨_, rfl, _, _, rfl, rfl, (by show (0 : Int) < 9; decide), ?_⟩
    refine ⟨_, rfl, rfl, _, rfl, ?_⟩
    refine ifb ?_ ?_
    · obtain ⟨d, hdS, hd⟩ := sign_atM (S := Str.ofString "0123456789") (i := c / 9 % 10) (by omega) (by show c / 9 % 10 < 10; omega)
      exact ⟨_, rfl, _, _, rfl, rfl, ⟨by decide, by decide⟩, _, _, rfl, rfl, (by show (0 : Int) < 10; decide), _, _, d, rfl, rfl, len_smN t10 (by decide), hd, k _ H (num_one hdS) (Same.refl H)⟩
    · obtain ⟨d, hdS, hd⟩ := sign_atM (S := Str.ofString "123456789") (i := c / 9 % 9) (by omega) (by show c / 9 % 9 < 9; omega)
      refine ⟨_, rfl, _, _, rfl, rfl, ⟨by decide, by decide⟩, _, _, rfl, rfl, (by show (0 : Int) < 9; decide), _, _, d, rfl, rfl, len_smN t9 (by decide), hd, _, rfl, _, _, rfl, rfl, ⟨by decide, by decide⟩, _, rfl, _, _, _, rfl, by omega, by omega, t10.mono (by decide), by decide +kernel, fun y H1 ly my s1 => ?_⟩
      have l2 : (⟨#[d]⟩ : Str).length + y.length ≤ sizeLine := Nat.le_of_lt (small1000 (by show 1 + y.length ≤ 1000; omega))
      exact ⟨_, _, rfl, rfl, l2, k _ H1 (num_of hdS my (by omega)) s1⟩
theorem ok_naM {f fS : Addr} {fd fdS : FuncData} (F : Fun K "_law_name_word" "_law_name_word" sNa f fd) (T : T1 mg) (FS : Fun K "_law_signs" "_law_signs" sSi fS fdS) (bS : Binds K fdS ["_law_cell", "_law_many", "_law_signs_here"] []) (gS : mg "_law_signs" = some (.ref fS)) : FnOk P w K mg base CX0 2 f fd ["_law_cell"] (spWx fun y => isName y = true) := by
  have GS : FnOk P w K mg base CX0 1 fS fdS ["_law_cell", "_law_many", "_law_signs_here"] spSgM := ok_siM FS T
  refine F.ok scNa (fun vs H Q E h => ?_) (fun cdv A outer s H vs Q E hr h => ?_)
  · obtain ⟨c, rfl, _⟩ := h
    rfl
  · obtain ⟨c, rfl, k⟩ := h
    refine ⟨_, pss_cons (ps_set (i := 1) scNa.nd rfl (Or.inl rfl) pe_str)
      (pss_one (ps_ret (pe_op op_add_str (pe_ix ix_str (pv 1) (pe_op op_mod (pe_op op_fdiv (pv 0) pe_int) pe_int) (fun _ _ => rfl)) (pe_call GS hr rfl gS FS.kp bS .nil pass0 (pa_cons (pe_op op_fdiv (pv 0) pe_int) (pa_cons (pe_op op_mod (pv 0) pe_int) (pa_cons (pe_op op_add_str (pv 1) pe_str) pa_nil))))))), ?_⟩
    have t26 : Tn 26 (Str.ofString "abcdefghijklmnopqrstuvwxyz") := txK (by decide +kernel)
    have t10 : Tn 10 (Str.ofString "0123456789") := txK (by decide +kernel)
    have mN : madeM NAM (Str.ofString "abcdefghijklmnopqrstuvwxyz" ++ Str.ofString "0123456789") = true := by decide +kernel
    obtain ⟨d, hdS, hd⟩ := sign_atM (S := Str.ofString "abcdefghijklmnopqrstuvwxyz") (i := c / 12 % 26) (by omega) (by show c / 12 % 26 < 26; omega)
    refine ⟨_, rfl, _, rfl, _, _, rfl, rfl, ⟨by decide, by decide⟩, _, _, rfl, rfl, (by show (0 : Int) < 26; decide), _, _, d, rfl, rfl, len_smN t26 (by decide), hd, _, rfl, _, _, rfl, rfl, ⟨by decide, by decide⟩, _, rfl, _, _, rfl, rfl, (by show (0 : Int) < 12; decide), _, rfl, _, _, rfl, rfl, len2 t26 t10 (by decide), _, _, _, rfl, by omega, by omega, (t26.app t10).mono (by decide), by decide +kernel, fun y H1 ly my s1 => ?_⟩
    have l2 : (⟨#[d]⟩ : Str).length + y.length ≤ sizeLine := Nat.le_of_lt (small1000 (by show 1 + y.length ≤ 1000; omega))
    exact ⟨_, _, rfl, rfl, l2, k _ H1 (name_of hdS (made_sub mN my) (by omega)) s1⟩
theorem ok_mkM {f fS : Addr} {fd fdS : FuncData} (F : Fun K "_law_mark_word" "_law_mark_word" sMk f fd) (T : T1 mg) (FS : Fun K "_law_signs" "_law_signs" sSi fS fdS) (bS : Binds K fdS ["_law_cell", "_law_many", "_law_signs_here"] []) (gS : mg "_law_signs" = some (.ref fS)) : FnOk P w K mg base CX0 2 f fd ["_law_cell"] (spWx okMark) := by
  have GS : FnOk P w K mg base CX0 1 fS fdS ["_law_cell", "_law_many", "_law_signs_here"] spSgM := ok_siM FS T
  refine F.ok scMk (fun vs H Q E h => ?_) (fun cdv A outer s H vs Q E hr h => ?_)
  · obtain ⟨c, rfl, _⟩ := h
    rfl
  · obtain ⟨c, rfl, k⟩ := h
    refine ⟨_, pss_cons (ps_set (i := 1) scMk.nd rfl (Or.inl rfl) pe_str)
      (pss_cons (ps_set (i := 2) scMk.nd rfl (Or.inl rfl) (pe_op op_add (pe_op op_mod (pe_op op_fdiv (pv 0) pe_int) pe_int) pe_int))
      (pss_cons (ps_set (i := 3) scMk.nd rfl (Or.inl rfl) (pe_call GS hr rfl gS FS.kp bS .nil pass0 (pa_cons (pe_op op_fdiv (pv 0) pe_int) (pa_cons (pv 2) (pa_cons (pv 1) pa_nil)))))
      (pss_cons (ps_if (PW.pt (pw_and (pt_cmpR op_eq (pe_op op_mod (pv 0) pe_int) pe_int (nomark _)) (pw_and1 (pt_cmpR op_gt (pv 2) pe_int (nomark _))))) (pss_one (ps_ret (pe_op op_add_str pe_str (pe_call GS hr rfl gS FS.kp bS .nil pass0 (pa_cons (pe_op op_fdiv (pv 0) pe_int) (pa_cons (pe_op op_sub (pv 2) pe_int) (pa_cons pe_str pa_nil))))))) pss_nil)
      (pss_cons (ps_set (i := 4) scMk.nd rfl (Or.inl rfl) (pe_op op_mod (pe_op op_fdiv (pv 0) pe_int) (pv 2)))
      (pss_cons (ps_set (i := 5) scMk.nd rfl (Or.inl rfl) pe_str)
      (pss_one (ps_ret (pe_op op_add_str (pe_op op_add_str (pe_slice sl_str (pv 3) po_none (po_some (pv 4))) (pe_ix ix_str (pv 5) (pe_op op_mod (pe_op op_fdiv (pv 0) pe_int) pe_int) (fun _ _ => rfl))) (pe_slice sl_str (pv 3) (po_some (pe_op op_add (pv 4) pe_int)) po_none))))))))), ?_⟩
    have tS : Tn 68 (Str.ofString "abcdefghijklmnopqrstuvwxyzABCDEFGHIJKLMNOPQRSTUVWXYZ0123456789.:-_/=") := txK (by decide +kernel)
    have t10 : Tn 10 (Str.ofString "0123456789") := txK (by decide +kernel)
    have t32 : Tn 32 (Str.ofString "ABCDEFGHIJKLMNOPQRSTUVWXYZ.:-_/=") := txK (by decide +kernel)
    have t0 : Tn 1 (Str.ofString "0") := txK (by decide +kernel)
    have m10 : madeM MAR (Str.ofString "0123456789") = true := by decide +kernel
    have m0 : madeM MAR (Str.ofString "0") = true := by decide +kernel
    have m32 : madeM MAR (Str.ofString "ABCDEFGHIJKLMNOPQRSTUVWXYZ.:-_/=") = true := by decide +kernel
    refine ⟨_, rfl, _, _, rfl, rfl, ⟨by decide, by decide⟩, _, _, rfl, rfl, (by show (0 : Int) < 12; decide), _, _, rfl, rfl, ?_⟩
    refine ⟨_, rfl, _, _, rfl, rfl, ⟨by decide, by decide⟩, _, rfl, _, rfl, _, _, _, rfl, by omega, by omega, tS.mono (by decide), by decide +kernel, fun y H1 ly my s1 => ?_⟩
    have ty' : Tn 12 y := made_tn tS my (by omega)
    have myM : madeM MAR y = true := my
    obtain ⟨d, hdS, hd⟩ := sign_atM (S := Str.ofString "ABCDEFGHIJKLMNOPQRSTUVWXYZ.:-_/=") (i := c / 288 % 32) (by omega) (by show c / 288 % 32 < 32; omega)
    have a0 : 0 ≤ c / 24 % (c / 2 % 12 + 1) := Int.emod_nonneg _ (by omega)
    have a1 : c / 24 % (c / 2 % 12 + 1) < c / 2 % 12 + 1 := Int.emod_lt_of_pos _ (by omega)
    have p1 := sl_to_len (z := y) a0 (by omega)
    have p2 := sl_from_len (z := y) (a := c / 24 % (c / 2 % 12 + 1) + 1) (by omega) (by omega)
    have hd128 := t32.2 d hdS
    have fin : ∀ H', Same H H' → Q (.str (Txt.slice y none (some (c / 24 % (c / 2 % 12 + 1))) ++ ⟨#[d]⟩ ++ Txt.slice y (some (c / 24 % (c / 2 % 12 + 1) + 1)) none)) H' := fun H' s' => k _ H' (by
      have el : (Txt.slice y none (some (c / 24 % (c / 2 % 12 + 1))) ++ (⟨#[d]⟩ : Str) ++ Txt.slice y (some (c / 24 % (c / 2 % 12 + 1) + 1)) none).length = y.length := by
        rw [Str.length_append, Str.length_append, p1, p2]
        show _ + 1 + _ = _
        omega
      exact ⟨by omega, by omega, made_app (made_app (made_of_mem fun c hc => made_mem myM c (sl_mem c hc)) (made_one (made_mem m32 d hdS))) (made_of_mem fun c hc => made_mem myM c (sl_mem c hc))⟩) s'
    refine ⟨_, rfl, _, _, rfl, rfl, (by show (0 : Int) < 2; decide), rfl, _, rfl, ?_⟩
    refine ifb ?_ ?_
    · refine ⟨_, rfl, _, _, rfl, rfl, decide (1 < c / 2 % 12 + 1), rfl, ?_⟩
      by_cases hm : 1 < c / 2 % 12 + 1
      · rw [decide_eq_true hm]
        refine iteT ⟨_, rfl, _, _, rfl, rfl, ⟨by decide, by decide⟩, _, rfl, _, _, rfl, rfl, _, _, _, rfl, by omega, by omega, t10.mono (by decide), by decide +kernel, fun y2 H2 ly2 my2 s2 => ?_⟩
        have ty2' : Tn 12 y2 := made_tn t10 my2 (by omega)
        have el : (Str.ofString "0" ++ y2).length = 1 + y2.length := by rw [Str.length_append]; rfl
        exact ⟨_, _, rfl, rfl, len2 t0 ty2' (by decide), k _ H2 ⟨by omega, by omega, made_app m0 (made_sub m10 my2)⟩ (s1.trans s2)⟩
      · rw [decide_eq_false hm]
        refine iteF ?_
        refine ⟨_, rfl, _, _, rfl, rfl, ⟨by decide, by decide⟩, _, rfl, _, _, rfl, rfl, (by show (0 : Int) < c / 2 % 12 + 1; omega), ?_⟩
        exact ⟨_, rfl, _, rfl, _, rfl, y, rfl, len_smN ty' (by decide), _, rfl, _, rfl, _, _, rfl, rfl, ⟨by decide, by decide⟩, _, _, rfl, rfl, (by show (0 : Int) < 32; decide), _, _, d, rfl, rfl, len_smN t32 (by decide), hd, _, _, rfl, rfl, len2 (ty'.slice _ _) (Tn.one hd128) (by decide), _, rfl, _, rfl, _, _, rfl, rfl, _, rfl, y, rfl, len_smN ty' (by decide), _, _, rfl, rfl, len2 ((ty'.slice _ _).app (Tn.one hd128)) (ty'.slice _ _) (by decide), fin H1 s1⟩
    · refine iteF ?_
      refine ⟨_, rfl, _, _, rfl, rfl, ⟨by decide, by decide⟩, _, rfl, _, _, rfl, rfl, (by show (0 : Int) < c / 2 % 12 + 1; omega), ?_⟩
      exact ⟨_, rfl, _, rfl, _, rfl, y, rfl, len_smN ty' (by decide), _, rfl, _, rfl, _, _, rfl, rfl, ⟨by decide, by decide⟩, _, _, rfl, rfl, (by show (0 : Int) < 32; decide), _, _, d, rfl, rfl, len_smN t32 (by decide), hd, _, _, rfl, rfl, len2 (ty'.slice _ _) (Tn.one hd128) (by decide), _, rfl, _, rfl, _, _, rfl, rfl, _, rfl, y, rfl, len_smN ty' (by decide), _, _, rfl, rfl, len2 ((ty'.slice _ _).app (Tn.one hd128)) (ty'.slice _ _) (by decide), fin H1 s1⟩
theorem ok_liM {f fN fA : Addr} {fd fdN fdA : FuncData} (F : Fun K "_law_list_word" "_law_list_word" sLi f fd) (T : T1 mg)
    (FN : Fun K "_law_number_word" "_law_number_word" sNu fN fdN) (bN : Binds K fdN ["_law_cell"] []) (gN : mg "_law_number_word" = some (.ref fN)) (GN : FnOk P w K mg base CX0 2 fN fdN ["_law_cell"] (spWx fun y => isNum y = true))
    (FA : Fun K "_law_name_word" "_law_name_word" sNa fA fdA) (bA : Binds K fdA ["_law_cell"] []) (gA : mg "_law_name_word" = some (.ref fA)) (GA : FnOk P w K mg base CX0 2 fA fdA ["_law_cell"] (spWx fun y => isName y = true)) : FnOk P w K mg base CX0 3 f fd ["_law_cell"] (spWx fun z => ∃ xs : List Str, xs.length ≤ 4 ∧ (∀ x ∈ xs, isItem x = true) ∧ z = lisOf xs) := by
  refine F.ok scLi (fun vs H Q E h => ?_) (fun cdv A outer s H vs Q E hr h => ?_)
  · obtain ⟨c, rfl, _⟩ := h
    rfl
  · obtain ⟨c, rfl, k⟩ := h
    refine ⟨_, pss_cons (ps_set (i := 1) scLi.nd rfl (Or.inl rfl) (pe_lst pa_nil))
      (pss_cons (ps_for PassesOwn.never rfl (pi_range1 rfl T.range (pa_cons (pe_op op_mod (pv 0) pe_int) pa_nil)) (pg_name (i := 2) scLi.nd rfl (Or.inl rfl))
        (pss_cons (ps_set (i := 3) scLi.nd rfl (Or.inl rfl) (pe_op op_mod (pe_op op_mul (pe_op op_add (pe_op op_fdiv (pv 0) pe_int) (pe_op op_mul (pe_op op_mul pe_int (pv 2)) (pv 2))) pe_int) pe_int))
        (pss_one (ps_if (pt_cmpR op_eq (pe_op op_mod (pv 3) pe_int) pe_int (nomark _)) (pss_one (ps_expr (pe_bm PySem.F.plainAttrs_list PySem.F.slot_list_append PySem.F.type_list_append mt_append (pv 1) (pa_cons (pe_call GN hr rfl gN FN.kp bN .nil pass0 (pa_cons (pe_op op_fdiv (pv 3) pe_int) pa_nil)) pa_nil))))
          (pss_one (ps_expr (pe_bm PySem.F.plainAttrs_list PySem.F.slot_list_append PySem.F.type_list_append mt_append (pv 1) (pa_cons (pe_call GA hr rfl gA FA.kp bA .nil pass0 (pa_cons (pe_op op_fdiv (pv 3) pe_int) pa_nil)) pa_nil))))))))
      (pss_one (ps_ret (pe_op op_add_str (pe_op op_add_str pe_str (pe_bm PySem.F.plainAttrs_str PySem.F.slot_str_join PySem.F.type_str_join mt_join pe_str (pa_cons (pv 1) pa_nil))) pe_str)))), ?_⟩
    refine ⟨Nat.zero_le _, fun l hl => ?_⟩
    refine ⟨_, rfl, _, _, rfl, rfl, (by show (0 : Int) < 5; decide), _, rfl, by omega, by omega, ?_⟩
    refine for_range (n := (c % 5).toNat) (fun i σ H2 => ∃ (zs : List Str) (v v2 : Option V), σ = [some (.int c), some (.ref l), v, v2] ∧ Same H H2 ∧ H2 l = some (.lst (zs.map V.str)) ∧ zs.length ≤ i ∧ ∀ x ∈ zs, isItem x = true)
      ⟨[], none, none, rfl, (Same.refl H).upd_free hl, upd_same, Nat.le_refl _, fun x hx => by simp at hx⟩ ?_ ?_
    · rintro i σ H2 hi ⟨zs, v, v2, rfl, s2, hL, hlen, hin⟩
      have put : ∀ (v2 : Option V) (y : Str) (H3 : Hp), isItem y = true → Same H2 H3 → ∃ (zs' : List Str) (v w : Option V), [some (.int c), some (.ref l), some (.int (0 + (i : Int))), v2] = [some (.int c), some (.ref l), v, w] ∧ Same H (upd H3 l (.lst (zs.map V.str ++ [.str y]))) ∧ (upd H3 l (.lst (zs.map V.str ++ [.str y]))) l = some (.lst (zs'.map V.str)) ∧ zs'.length ≤ i + 1 ∧ ∀ x ∈ zs', isItem x = true := fun v2 y H3 ty s3 => by
        refine ⟨zs ++ [y], _, _, rfl, (s2.trans s3).upd_free hl, by rw [upd_same, List.map_append]; rfl, by rw [List.length_append, List.length_singleton]; omega, fun x hx => ?_⟩
        rcases List.mem_append.mp hx with hx | hx
        · exact hin x hx
        · rw [List.mem_singleton] at hx
          rw [hx]
          exact ty
      have hsm : (zs.map V.str).length < sizeLine := small1000 (by rw [List.length_map]; omega)
      refine ⟨_, rfl, _, _, rfl, rfl, ⟨by decide, by decide⟩, _, rfl, _, _, rfl, rfl, .inl ⟨by decide, by decide⟩, _, rfl, _, _, rfl, rfl, .inr ⟨by omega, by omega⟩, _, _, rfl, rfl, _, _, rfl, rfl, .inr ⟨by decide, by decide⟩, _, _, rfl, rfl, (by show (0 : Int) < 2147483629; decide), ?_⟩
      refine ⟨_, rfl, _, _, rfl, rfl, (by show (0 : Int) < 2; decide), rfl, _, rfl, ?_⟩
      refine ifb ?_ ?_
      · exact ⟨_, rfl, .inl ⟨rfl, _, SqL.of hL⟩, _, rfl, _, _, rfl, rfl, ⟨by decide, by decide⟩, _, rfl, fun y H3 ty s3 => ⟨l, _, _, rfl, rfl, s3 _ _ hL, hsm, put _ y H3 (by unfold isItem; rw [ty]; rfl) s3⟩⟩
      · exact ⟨_, rfl, .inl ⟨rfl, _, SqL.of hL⟩, _, rfl, _, _, rfl, rfl, ⟨by decide, by decide⟩, _, rfl, fun y H3 ty s3 => ⟨l, _, _, rfl, rfl, s3 _ _ hL, hsm, put _ y H3 (by unfold isItem; rw [ty, Bool.or_true]) s3⟩⟩
    · rintro σ H2 ⟨zs, v, v2, rfl, s2, hL, hlen, hin⟩
      have tc : Tn 1 (Str.ofString ",") := txK (by decide +kernel)
      have tl : Tn 1 (Str.ofString "[") := txK (by decide +kernel)
      have tr : Tn 1 (Str.ofString "]") := txK (by decide +kernel)
      have h4 : zs.length ≤ 4 := by omega
      have hin' : ∀ x ∈ zs, Tn 12 x := fun x hx => (item_mark (hin x hx)).tn
      have tj := (join_tn (Str.ofString ",") tc hin').mono (m := 52) (by omega)
      have hs := sum_len hin'
      refine ⟨rfl, _, rfl, _, l, zs, rfl, rfl, SqL.of hL, ?_, ?_⟩
      · have e1 : (Str.ofString ",").length = 1 := by decide +kernel
        show (zs.map (·.length)).sum + zs.length * (Str.ofString ",").length ≤ 16777216
        rw [e1]
        omega
      exact ⟨_, _, rfl, rfl, len2 tl tj (by decide), _, _, rfl, rfl, len2 (tl.app tj) tr (by decide), k _ H2 ⟨zs, h4, hin, rfl⟩ s2⟩
theorem ok_wdM {f fN fA fL fM : Addr} {fd fdN fdA fdL fdM : FuncData} (F : Fun K "_law_word" "_law_word" sWo f fd)
    (FN : Fun K "_law_number_word" "_law_number_word" sNu fN fdN) (bN : Binds K fdN ["_law_cell"] []) (gN : mg "_law_number_word" = some (.ref fN)) (GN : FnOk P w K mg base CX0 2 fN fdN ["_law_cell"] (spWx fun y => isNum y = true))
    (FA : Fun K "_law_name_word" "_law_name_word" sNa fA fdA) (bA : Binds K fdA ["_law_cell"] []) (gA : mg "_law_name_word" = some (.ref fA)) (GA : FnOk P w K mg base CX0 2 fA fdA ["_law_cell"] (spWx fun y => isName y = true))
    (FL : Fun K "_law_list_word" "_law_list_word" sLi fL fdL) (bL : Binds K fdL ["_law_cell"] []) (gL : mg "_law_list_word" = some (.ref fL)) (GL : FnOk P w K mg base CX0 3 fL fdL ["_law_cell"] (spWx fun z => ∃ xs : List Str, xs.length ≤ 4 ∧ (∀ x ∈ xs, isItem x = true) ∧ z = lisOf xs))
    (FM : Fun K "_law_mark_word" "_law_mark_word" sMk fM fdM) (bM : Binds K fdM ["_law_cell"] []) (gM : mg "_law_mark_word" = some (.ref fM)) (GM : FnOk P w K mg base CX0 2 fM fdM ["_law_cell"] (spWx okMark)) : FnOk P w K mg base CX0 4 f fd ["_law_cell"] (spWx Wd) := by
  refine F.ok scWo (fun vs H Q E h => ?_) (fun cdv A outer s H vs Q E hr h => ?_)
  · obtain ⟨c, rfl, _⟩ := h
    rfl
  · obtain ⟨c, rfl, k⟩ := h
    have hr2 : Room 2 _ := hr.mono (by decide)
    refine ⟨_, pss_cons (ps_if (pt_cmpR op_eq (pe_op op_mod (pv 0) pe_int) pe_int (nomark _)) (pss_one (ps_ret (pe_call GN hr2 rfl gN FN.kp bN .nil pass0 (pa_cons (pe_op op_fdiv (pv 0) pe_int) pa_nil)))) pss_nil)
      (pss_cons (ps_if (pt_cmpR op_eq (pe_op op_mod (pv 0) pe_int) pe_int (nomark _)) (pss_one (ps_ret (pe_call GA hr2 rfl gA FA.kp bA .nil pass0 (pa_cons (pe_op op_fdiv (pv 0) pe_int) pa_nil)))) pss_nil)
      (pss_cons (ps_if (pt_cmpR op_eq (pe_op op_mod (pv 0) pe_int) pe_int (nomark _)) (pss_one (ps_ret (pe_call GL hr rfl gL FL.kp bL .nil pass0 (pa_cons (pe_op op_fdiv (pv 0) pe_int) pa_nil)))) pss_nil)
      (pss_one (ps_ret (pe_call GM hr2 rfl gM FM.kp bM .nil pass0 (pa_cons (pe_op op_fdiv (pv 0) pe_int) pa_nil)))))), ?_⟩
    refine ⟨_, rfl, _, _, rfl, rfl, (by show (0 : Int) < 4; decide), rfl, _, rfl, ?_⟩
    refine ifb ⟨_, rfl, _, _, rfl, rfl, ⟨by decide, by decide⟩, _, rfl, fun y H1 ty s1 => k y H1 (.item (by unfold isItem; rw [ty]; rfl)) s1⟩ ?_
    refine ⟨_, rfl, _, _, rfl, rfl, (by show (0 : Int) < 4; decide), rfl, _, rfl, ?_⟩
    refine ifb ⟨_, rfl, _, _, rfl, rfl, ⟨by decide, by decide⟩, _, rfl, fun y H1 ty s1 => k y H1 (.item (by unfold isItem; rw [ty, Bool.or_true])) s1⟩ ?_
    refine ⟨_, rfl, _, _, rfl, rfl, (by show (0 : Int) < 4; decide), rfl, _, rfl, ?_⟩
    refine ifb ⟨_, rfl, _, _, rfl, rfl, ⟨by decide, by decide⟩, _, rfl, fun y H1 ⟨xs, h1, h2, h3⟩ s1 => k y H1 (.lis xs h1 h2 h3) s1⟩ ?_
    exact ⟨_, rfl, _, _, rfl, rfl, ⟨by decide, by decide⟩, _, rfl, fun y H1 ty s1 => k y H1 (.mar ty) s1⟩
end
end SL
namespace SL
open PySem L2

inductive Pt where
  | gap (o : Option So)
  | word (z : Str)
def Pt.tag : Pt → Str
  | .gap _ => Str.ofString "gap"
  | .word _ => Str.ofString "word"
def Pt.val : Pt → V
  | .gap o => vS o
  | .word z => .str z
def Pt.isGap : Pt → Bool
  | .gap _ => true
  | .word _ => false
def takesP : Pt → Str → Bool
  | .gap o, z => decide (vS (sortM z) = vS o)
  | .word y, z => decide (V.str z = V.str y)
def PtAt (H : Hp) (q : Addr) (p : Pt) : Prop := H q = some (.tup [.str p.tag, p.val])
def FpAt (H : Hp) (vs : List V) (ps : List Pt) : Prop := vs.length = ps.length ∧ ∀ (i : Nat) (p : Pt), ps[i]? = some p → ∃ q, vs[i]? = some (.ref q) ∧ PtAt H q p
theorem FpAt.tsame {H H' : Hp} {vs : List V} {ps : List Pt} (h : FpAt H vs ps) (s : TSame H H') : FpAt H' vs ps := ⟨h.1, fun i p e => by
  obtain ⟨q, h1, h2⟩ := h.2 i p e
  exact ⟨q, h1, s _ _ h2⟩⟩
theorem FpAt.nil {H : Hp} : FpAt H [] [] := ⟨rfl, fun i p e => by simp at e⟩
theorem FpAt.snoc {H : Hp} {vs : List V} {ps : List Pt} {q : Addr} {p : Pt} (h : FpAt H vs ps) (hq : PtAt H q p) : FpAt H (vs ++ [.ref q]) (ps ++ [p]) := by
  refine ⟨by rw [List.length_append, List.length_append, h.1]; rfl, fun i p' e => ?_⟩
  by_cases hi : i < ps.length
  · rw [List.getElem?_append_left hi] at e
    obtain ⟨q', h1, h2⟩ := h.2 i p' e
    exact ⟨q', by rw [List.getElem?_append_left (by rw [h.1]; exact hi)]; exact h1, h2⟩
  · have hl : i < (ps ++ [p]).length := (List.getElem?_eq_some_iff.mp e).1
    rw [List.length_append, List.length_singleton] at hl
    have hi' : i = ps.length := by omega
    subst hi'
    rw [List.getElem?_append_right (Nat.le_refl _), Nat.sub_self] at e
    cases e
    exact ⟨q, by rw [← h.1, List.getElem?_append_right (Nat.le_refl _), Nat.sub_self]; rfl, hq⟩
theorem gap_str (p : Pt) : decide (V.str p.tag = V.str (Str.ofString "gap")) = p.isGap := by
  have h1 : decide (V.str (Str.ofString "gap") = V.str (Str.ofString "gap")) = true := by decide +kernel
  have h2 : decide (V.str (Str.ofString "word") = V.str (Str.ofString "gap")) = false := by decide +kernel
  cases p
  · exact h1
  · exact h2
def spIg : Sp := fun vs H Q _ => ∃ (q : Addr) (p : Pt), vs = [.ref q] ∧ PtAt H q p ∧ Q (.bl p.isGap) H
section
variable {P : Program} {w : World} {K : PySem.W.Frag} {mg : Str → Option Value} {base : Heap} {CF : Addr}
theorem scIg : FnScope ["part"] ["part"] (defScope sIg) := ⟨rfl, rfl, rfl, by decide +kernel, rfl, by decide +kernel, by decide +kernel⟩
theorem ok_ig {f : Addr} {fd : FuncData} (F : Fun K "is_gap" "is_gap" sIg f fd) : FnOk P w K mg base CX0 1 f fd ["part"] spIg := by
  refine F.ok scIg (fun vs H Q E h => ?_) (fun cdv A outer s H vs Q E hr h => ?_)
  · obtain ⟨q, e, rfl, _⟩ := h
    rfl
  · obtain ⟨q, p, rfl, hq, k⟩ := h
    refine ⟨_, pss_one (ps_ret (pe_cmpR op_eq (pe_ix ix_tup (pv 0) pe_int (fun _ _ => rfl)) pe_str (nomark _))), ?_⟩
    refine ⟨_, rfl, q, _, _, _, rfl, rfl, SqT.of hq, rfl, rfl, ?_⟩
    rw [gap_str]
    exact k
end
end SL
namespace SL
open PySem L2
abbrev piecesM (z : Str) : List Str := Txt.split z (Str.ofString " ")
def PtOk : Pt → Prop
  | .gap o => ∃ s, o = some s
  | .word z => Wd z
def fitsP : List Pt → List Str → Prop
  | [], [] => True
  | p :: ps, z :: r => takesP p z = true ∧ fitsP ps r
  | _, _ => False
end SL
namespace L2
open PySem PySem.Spec PyProof.Rows
section
variable {X : Cx}

def tFst (a b : Str) (te : TE) : TE := fun σ H Q => te σ H fun v H1 => ∃ z, v = .str z ∧ a.length + z.length + b.length ≤ sizeLine ∧ Q (.str (a ++ z ++ b)) H1
theorem empty_appW (a : Str) : Str.empty ++ a = a := Str.ext' (by rw [Str.cps_append]; exact Array.empty_append)
theorem pe_fstr {a b : Str} {e : Expr} {te : TE} {k1 k2 : _} {p1 p2 p3 pos : Pos} (ha : a.length ≤ sizeLine) (he : PE X e te) : PE X (.JoinedStr [.Constant (.str a) k1 p1, .FormattedValue e (-1) none p2, .Constant (.str b) k2 p3] pos) (tFst a b te) := by
  intro pins s σ H Q I h
  refine JoinedStr_many (joinParts_cons ?_)
  refine Calls.Constant_str ?_
  show (Str.empty ++ a).length ≤ sizeLine ∧ wpAny (model X.prog X.w) X.A (joinParts (Str.empty ++ a) [eval (.FormattedValue e (-1) none p2) X.env, eval (.Constant (.str b) k2 p3) X.env]) (EP X pins σ Q) X.xe _
  rw [empty_appW]
  refine ⟨ha, joinParts_cons (FormattedValue_plain (thn (he pins _ σ H _ (I.tok _) h) fun v s1 ⟨x, H1, I1, r1, z, e1, hz, q⟩ => ?_))⟩
  subst e1
  obtain ⟨t1, rfl⟩ := r1
  refine formatField_str (fun t' tk => ?_) (by omega)
  show (a ++ z).length ≤ sizeLine ∧ wpAny (model X.prog X.w) X.A (joinParts (a ++ z) [eval (.Constant (.str b) k2 p3) X.env]) (EP X pins σ Q) X.xe _
  refine ⟨by rw [Str.length_append]; omega, joinParts_cons (Calls.Constant_str ?_)⟩
  show (a ++ z ++ b).length ≤ sizeLine ∧ wpAny (model X.prog X.w) X.A (joinParts (a ++ z ++ b) []) (EP X pins σ Q) X.xe _
  refine ⟨by rw [Str.length_append, Str.length_append]; omega, joinParts_nil ?_ (by rw [Str.length_append, Str.length_append]; omega)⟩
  exact ⟨.str _, H1, ((I1.tok _).tok _).tok _, ⟨_, rfl⟩, q⟩

def rIdx (K : PySem.W.Frag) : V → List V → Hp → VK → Prop := fun x args H Q => ∃ l xs y dx ds j, x = .ref l ∧ args = [y] ∧ SqL K H l xs ∧ DsAt K H xs ds ∧ DAt K H y dx ∧ DOk dx ∧ PyData.canLayAll0 ds = true ∧ (ds.findIdx? fun d => PyData.eqv d dx) = some j ∧ ds.length ≤ 10000 ∧ Q (.int (j : Int)) H
theorem mt_index (hu : X.A.units + 64 < cLine) : MtR X "list.index" (rIdx X.K) := by
  intro pins s σ H x xs v us Q I rx rs h
  obtain ⟨l, xs, y, dx, ds, j, rfl, rfl, hl, hds, hy, okx, okd, hj, hsz, q⟩ := h
  obtain ⟨u, rfl, ru⟩ := rs.one
  obtain ⟨bs, r2⟩ := hy.reads I ru
  cases rx
  obtain ⟨as, r1⟩ := (DAt.lst hl hds).reads I (u := .ref l) rfl
  cases r1 with
  | list h1 h2 h3 h4 =>
    rename_i o its n as1
    obtain ⟨cls, dd, data, sl⟩ := o
    simp only at h2 h3
    subst h2 h3
    have hm := SeqAt.readsAll_map ds _ _ okd h4
    obtain ⟨hjl, hje, hjn⟩ := List.findIdx?_eq_some_iff_getElem.mp hj
    have hlen : its.toList.length = ds.length := by rw [← hm, List.length_map]
    have at_ : ∀ (i : Nat) (h : i < its.size), PyData.eqv (SeqAt.readOf s.heap its[i]) dx = PyData.eqv (ds[i]'(by rw [← hlen]; simpa using h)) dx := fun i h => by
      have e : (its.toList.map (SeqAt.readOf s.heap))[i]? = ds[i]? := by rw [hm]
      rw [List.getElem?_map, List.getElem?_eq_getElem (by simpa using h), List.getElem?_eq_getElem (by rw [← hlen]; simpa using h)] at e
      have e' := Option.some.inj e
      have : SeqAt.readOf s.heap its[i] = ds[i]'(by rw [← hlen]; simpa using h) := by simpa using e'
      rw [this]
    have hji : j < its.size := by have := hlen; simp at this; omega
    refine call_meets PySem.F.slot_list_index ⟨_, h1, rfl⟩ PySem.F.entry_list_index (PySem.F.args_list_index_2 _ _)
      (SeqAt.list_indexAt l its n dd sl u (fun y => PyData.eqv (SeqAt.readOf s.heap y) dx) j hji (by omega) ?_ ?_) ⟨h1, SeqAt.items_eqAt h4 r2 okd okx.1 (in_room hu okx.2 _), ?_⟩
    · show PyData.eqv (SeqAt.readOf s.heap its[j]) dx = true
      rw [at_ j hji]
      exact hje
    · intro m hm' hlt
      show PyData.eqv (SeqAt.readOf s.heap its[m]) dx = false
      rw [at_ m hm']
      have := hjn m hlt
      simpa using this
    · exact ⟨.int _, H, I.tok _, ⟨_, rfl⟩, q⟩
end
end L2
namespace SL
open PySem L2

def gapT (z : Str) : Str := Str.ofString "<" ++ z ++ Str.ofString ">"
def shownP : Pt → Str
  | .gap (some o) => gapT o.str
  | .gap none => Str.ofString ""
  | .word z => z
def sortsL : List So := [.num, .nam, .lis, .mar]
def partM (z : Str) : Option Pt := match sortM z with
  | some _ => some (.word z)
  | none => (sortsL.find? fun o => decide (V.str z = V.str (gapT o.str))).map fun o => .gap (some o)
def PoAt (H : Hp) (v : V) : Option Pt → Prop
  | none => v = .non
  | some p => ∃ q, v = .ref q ∧ PtAt H q p
def FqAt (H : Hp) (vs : List V) (os : List (Option Pt)) : Prop := vs.length = os.length ∧ ∀ (i : Nat) (o : Option Pt), os[i]? = some o → ∃ v, vs[i]? = some v ∧ PoAt H v o
theorem PoAt.tsame {H H' : Hp} {v : V} {o : Option Pt} (h : PoAt H v o) (s : TSame H H') : PoAt H' v o := by
  cases o with
  | none => exact h
  | some p =>
    obtain ⟨q, h1, h2⟩ := h
    exact ⟨q, h1, s _ _ h2⟩
theorem FqAt.tsame {H H' : Hp} {vs : List V} {os : List (Option Pt)} (h : FqAt H vs os) (s : TSame H H') : FqAt H' vs os := ⟨h.1, fun i o e => by
  obtain ⟨v, h1, h2⟩ := h.2 i o e
  exact ⟨v, h1, h2.tsame s⟩⟩
theorem FqAt.nil {H : Hp} : FqAt H [] [] := ⟨rfl, fun i p e => by simp at e⟩
theorem FqAt.snoc {H : Hp} {vs : List V} {os : List (Option Pt)} {v : V} {o : Option Pt} (h : FqAt H vs os) (hv : PoAt H v o) : FqAt H (vs ++ [v]) (os ++ [o]) := by
  refine ⟨by rw [List.length_append, List.length_append, h.1]; rfl, fun i p' e => ?_⟩
  by_cases hi : i < os.length
  · rw [List.getElem?_append_left hi] at e
    obtain ⟨q', h1, h2⟩ := h.2 i p' e
    exact ⟨q', by rw [List.getElem?_append_left (by rw [h.1]; exact hi)]; exact h1, h2⟩
  · have hl : i < (os ++ [o]).length := (List.getElem?_eq_some_iff.mp e).1
    rw [List.length_append, List.length_singleton] at hl
    have hi' : i = os.length := by omega
    subst hi'
    rw [List.getElem?_append_right (Nat.le_refl _), Nat.sub_self] at e
    cases e
    exact ⟨v, by rw [← h.1, List.getElem?_append_right (Nat.le_refl _), Nat.sub_self]; rfl, hv⟩
theorem FqAt.fp {H : Hp} {vs : List V} {os : List (Option Pt)} {ps : List Pt} (h : FqAt H vs os) (e : os = ps.map some) : FpAt H vs ps := by
  subst e
  refine ⟨by rw [h.1, List.length_map], fun i p hp => ?_⟩
  obtain ⟨v, h1, q, h2, h3⟩ := h.2 i (some p) (by rw [List.getElem?_map, hp]; rfl)
  exact ⟨q, by rw [h1, h2], h3⟩

def valD : Pt → PyData
  | .gap (some o) => .str o.str
  | .gap none => .none
  | .word z => .str z
def dPt (p : Pt) : PyData := .tuple [.str p.tag, valD p]
def dPo : Option Pt → PyData
  | none => .none
  | some p => dPt p
theorem so_tx (o : So) : Tx 60 o.str := by
  have h : ∀ o : So, (decide (o.str.length ≤ 60) && o.str.cps.toList.all fun c => decide (c < 128)) = true := fun o => by cases o <;> decide +kernel
  have q := h o
  rw [Bool.and_eq_true] at q
  exact ⟨of_decide_eq_true q.1, fun c hc => of_decide_eq_true (List.all_eq_true.mp q.2 c hc)⟩
def PtTx (p : Pt) : Prop := ∀ z, p = .word z → Tx 1000 z
theorem val_at {K : PySem.W.Frag} {H : Hp} (p : Pt) : DAt K H p.val (valD p) := by
  cases p with
  | gap o => cases o with
    | none => exact .non
    | some o => exact .str _
  | word z => exact .str _
theorem val_lay {p : Pt} (h : PtTx p) : (valD p).canLay0 = true := by
  cases p with
  | gap o => cases o with
    | none => rfl
    | some o => exact (so_tx o).ok
  | word z => exact (h z rfl).ok
theorem tag_lay (p : Pt) : PyData.canLay0 (.str p.tag) = true := by
  have h1 : PyData.canLay0 (.str (Str.ofString "gap")) = true := by decide +kernel
  have h2 : PyData.canLay0 (.str (Str.ofString "word")) = true := by decide +kernel
  cases p
  · exact h1
  · exact h2
theorem pt_at {K : PySem.W.Frag} {H : Hp} {q : Addr} {p : Pt} (h : PtAt H q p) : DAt K H (.ref q) (dPt p) := .tup (SqT.of h) (.cons (.str _) (.cons (val_at p) .nil))
theorem pt_lay {p : Pt} (h : PtTx p) : (dPt p).canLay0 = true := by
  show PyData.canLayAll0 [.str p.tag, valD p] = true
  rw [PyData.canLayAll0, PyData.canLayAll0, tag_lay, val_lay h]
  rfl
theorem pt_depth (p : Pt) : (dPt p).depth = 1 := by
  have h : (valD p).depth = 0 := by
    cases p with
    | gap o => cases o <;> rfl
    | word z => rfl
  show PyData.depthAll [.str p.tag, valD p] + 1 = 1
  rw [PyData.depthAll, PyData.depthAll, h]
  rfl
theorem pos_at {K : PySem.W.Frag} {H : Hp} : ∀ {vs : List V} {os : List (Option Pt)}, FqAt H vs os → DsAt K H vs (os.map dPo)
  | [], [], _ => .nil
  | [], o :: os, h => by cases h.1
  | v :: vs, [], h => by cases h.1
  | v :: vs, o :: os, h => by
    obtain ⟨v', h1, h2⟩ := h.2 0 o rfl
    cases h1
    refine .cons ?_ (pos_at ⟨by have := h.1; simpa using this, fun i o' e => h.2 (i + 1) o' e⟩)
    cases o with
    | none =>
      have e : v = .non := h2
      rw [e]
      exact .non
    | some p =>
      obtain ⟨q, e, h3⟩ := h2
      rw [e]
      exact pt_at h3
theorem pos_lay : ∀ os : List (Option Pt), (∀ p, some p ∈ os → PtTx p) → PyData.canLayAll0 (os.map dPo) = true
  | [], _ => rfl
  | o :: os, h => by
    rw [List.map_cons, PyData.canLayAll0, pos_lay os fun p hp => h p (List.mem_cons_of_mem _ hp)]
    cases o with
    | none => rfl
    | some p =>
      show ((dPt p).canLay0 && true) = true
      rw [pt_lay (h p List.mem_cons_self)]
      rfl
def noM (os : List (Option Pt)) : Option Nat := os.findIdx? Option.isNone
def formBad (os : List (Option Pt)) : Option Nat := match noM os with
  | some i => some i
  | none => if os.length > 8 then some 8 else none
theorem eqv_no (o : Option Pt) : PyData.eqv (dPo o) .none = o.isNone := by
  cases o with
  | none => rfl
  | some p => rfl
theorem any_no (os : List (Option Pt)) : (os.map dPo).any (fun d => PyData.eqv d .none) = (noM os).isSome := by
  unfold noM
  rw [List.any_map, List.findIdx?_isSome]
  congr 1
  funext o
  exact eqv_no o
theorem idx_no (os : List (Option Pt)) : (os.map dPo).findIdx? (fun d => PyData.eqv d .none) = noM os := by
  unfold noM
  rw [List.findIdx?_map]
  congr 1
  funext o
  exact eqv_no o
theorem no_some : ∀ {os : List (Option Pt)}, noM os = none → ∃ ps : List Pt, os = ps.map some := by
  intro os h
  unfold noM at h
  rw [List.findIdx?_eq_none_iff] at h
  induction os with
  | nil => exact ⟨[], rfl⟩
  | cons o os ih =>
    obtain ⟨ps, e⟩ := ih fun x hx => h x (List.mem_cons_of_mem _ hx)
    cases o with
    | none => have := h none List.mem_cons_self; cases this
    | some p => exact ⟨p :: ps, by rw [e]; rfl⟩
def spSg1 : Sp := fun vs H Q _ => ∃ z : Str, vs = [.str z] ∧ Tx 60 z ∧ ∀ H', Same H H' → Q (.str (gapT z)) H'
def spSf : Sp := fun vs H Q _ => ∃ (f : Addr) (us : List V) (ps : List Pt), vs = [.ref f] ∧ H f = some (.tup us) ∧ FpAt H us ps ∧ ps.length ≤ 12 ∧ (∀ q ∈ ps, PtOk q) ∧ ∀ H', Same H H' → Q (.str (Str.join (Str.ofString " ") (ps.map shownP))) H'
def spPo : Sp := fun vs H Q _ => ∃ z : Str, vs = [.str z] ∧ Tx 1000 z ∧ ∀ v H', Same H H' → PoAt H' v (partM z) → Q v H'
def spRd (CO : Addr) : Sp := fun vs H Q E => ∃ z : Str, vs = [.str z] ∧ Tx 1000 z ∧ (∀ i, formBad ((piecesM z).map partM) = some i → ∀ d H', Same H H' → H' d = some (.xd [("at", .int (i : Int))]) → E (.ref CO) (some d) H') ∧
  (formBad ((piecesM z).map partM) = none → ∀ p us ps H', Same H H' → (piecesM z).map partM = ps.map some → H' p = some (.tup us) → FpAt H' us ps → Q (.ref p) H')
theorem gap_tx (o : So) : Tx 70 (gapT o.str) := by
  have h : ∀ o : So, (decide ((gapT o.str).length ≤ 70) && (gapT o.str).cps.toList.all fun c => decide (c < 128)) = true := fun o => by cases o <;> decide +kernel
  have q := h o
  rw [Bool.and_eq_true] at q
  exact ⟨of_decide_eq_true q.1, fun c hc => of_decide_eq_true (List.all_eq_true.mp q.2 c hc)⟩
theorem shown_tx {p : Pt} (h : PtOk p) : Tx 70 (shownP p) := by
  cases p with
  | gap o =>
    obtain ⟨s, rfl⟩ := h
    exact gap_tx s
  | word z => exact (show Wd z from h).tn.tx.mono (by decide)
section
variable {P : Program} {w : World} {K : PySem.W.Frag} {mg : Str → Option Value} {base : Heap} {CO : Addr} {u8 : Value}
theorem scSg : FnScope ["sort"] ["sort"] (defScope sSg) := ⟨rfl, rfl, rfl, by decide +kernel, rfl, by decide +kernel, by decide +kernel⟩
theorem ok_sg {f : Addr} {fd : FuncData} (F : Fun K "shown_gap" "shown_gap" sSg f fd) : FnOk P w K mg base CX0 1 f fd ["sort"] spSg1 := by
  refine F.ok scSg (fun vs H Q E h => ?_) (fun cdv A outer s H vs Q E hr h => ?_)
  · obtain ⟨z, rfl, _⟩ := h
    rfl
  · obtain ⟨z, rfl, tz, k⟩ := h
    have h1 := tz.1
    have big : 1000 ≤ sizeLine := by decide
    refine ⟨_, pss_one (ps_ret (pe_fstr (by decide) (pv 0))), ?_⟩
    exact ⟨_, rfl, z, rfl, (by show 1 + z.length + 1 ≤ sizeLine; omega), k H (Same.refl H)⟩
theorem scSf : FnScope ["form"] ["form"] (defScope sSf) := ⟨rfl, rfl, rfl, by decide +kernel, rfl, by decide +kernel, by decide +kernel⟩
def scopeSf : Scope := { kind := .function, names := [(".0", .local), ("part", .local), ("is_gap", .globalImplicit), ("shown_gap", .globalImplicit)], isGenerator := false, isCoroutine := false, more := [] }
theorem scSf1 : BlkScope (defScope sSf) ["form"] ["part"] [] [] scopeSf := ⟨rfl, by decide +kernel, by decide +kernel, by decide +kernel, rfl, by decide +kernel, by decide +kernel⟩
theorem ok_sf {f fG fS : Addr} {fd dG dS : FuncData} (F : Fun K "shown_form" "shown_form" sSf f fd)
    (FG : Fun K "is_gap" "is_gap" sIg fG dG) (bG : Binds K dG ["part"] []) (gG : mg "is_gap" = some (.ref fG))
    (FS : Fun K "shown_gap" "shown_gap" sSg fS dS) (bS : Binds K dS ["sort"] []) (gS : mg "shown_gap" = some (.ref fS)) : FnOk P w K mg base CX0 2 f fd ["form"] spSf := by
  have GG : FnOk P w K mg base CX0 1 fG dG ["part"] spIg := ok_ig FG
  have GS : FnOk P w K mg base CX0 1 fS dS ["sort"] spSg1 := ok_sg FS
  refine F.ok scSf (fun vs H Q E h => ?_) (fun cdv A outer s H vs Q E hr h => ?_)
  · obtain ⟨f, us, ps, rfl, _⟩ := h
    rfl
  · obtain ⟨f, us, ps, rfl, hf, hP, h12, hok, k⟩ := h
    refine ⟨_, pss_one (ps_ret (pe_bm PySem.F.plainAttrs_str PySem.F.slot_str_join PySem.F.type_str_join mt_join pe_str (pa_cons (pe_lc scSf1 rfl rfl rfl (pi_tup (pv 0)) (fun fp C s1 H1 => pg_name (i := 0) scSf1.nd rfl (Or.inl rfl)) (fun fp C s1 H1 => pts_nil)
      (fun fp C s1 H1 => pe_ifExp (pt_val (pe_call GG hr rfl gG FG.kp bG .nil pass0 (pa_cons (pv 0) pa_nil))) (pe_call GS hr rfl gS FS.kp bS .nil pass0 (pa_cons (pe_ix (r := rIxT K) ix_tup (pv 0) pe_int (fun _ _ => rfl)) pa_nil)) (pe_ix (r := rIxT K) ix_tup (pv 0) pe_int (fun _ _ => rfl)))) pa_nil))), ?_⟩
    have hul : us.length = ps.length := hP.1
    refine ⟨rfl, _, rfl, f, rfl, ⟨_, SqT.of hf⟩, fun D hD => ?_⟩
    refine lc_tup (K := K) (a := f) (xs := us) (fun j ys H3 => Same H H3 ∧ H3 D = some (.lst ys) ∧ ys = ((ps.take j).map shownP).map V.str) (Nat.le_of_lt (small1000 (by omega))) ⟨(Same.refl H).upd_free hD, upd_same, rfl⟩ (fun j ys H3 h => ?_) (fun j ys H3 h => SqT.of (h.1 _ _ hf)) ?_ ?_
    · rw [h.2.2, List.length_map, List.length_map, List.length_take]
      exact Nat.min_le_left _ _
    · rintro j ys H3 x N M hx ⟨u1, u2, rfl⟩ hN hM
      have hi : j < ps.length := by rw [← hul]; exact (List.getElem?_eq_some_iff.mp hx).1
      have ep : ps[j]? = some ps[j] := List.getElem?_eq_getElem hi
      obtain ⟨q, q1, q2⟩ := hP.2 j _ ep
      rw [hx] at q1
      cases q1
      have pk := hok _ (List.getElem_mem hi)
      have tk : ps.take (j + 1) = ps.take j ++ [ps[j]] := by rw [List.take_add_one, ep]; rfl
      rw [tk, List.map_append, List.map_append] at hN
      generalize ps[j] = p at q2 pk hN
      refine ⟨_, rfl, q, p, rfl, u1 _ _ q2, _, rfl, ?_⟩
      cases p with
      | gap o =>
        obtain ⟨so, rfl⟩ := pk
        refine iteT ⟨_, rfl, q, _, _, _, rfl, rfl, SqT.of (u1 _ _ q2), rfl, so.str, rfl, so_tx so, fun H4 s4 => ?_⟩
        exact hN _ H4 (s4 _ _ u2) ⟨(u1.trans s4).upd_free hD, upd_same, rfl⟩
      | word z =>
        refine iteF ⟨_, rfl, q, _, _, _, rfl, rfl, SqT.of (u1 _ _ q2), rfl, ?_⟩
        exact hN _ H3 u2 ⟨u1.upd_free hD, upd_same, rfl⟩
    · rintro ys H3 ⟨u1, u2, rfl⟩
      rw [hul, List.take_of_length_le (Nat.le_refl _)] at u2
      have hx : ∀ z ∈ ps.map shownP, Tx 70 z := fun z hz => by
        obtain ⟨p, hp, rfl⟩ := List.mem_map.mp hz
        exact shown_tx (hok p hp)
      have hs := sum_le hx
      rw [List.length_map] at hs
      refine ⟨_, D, ps.map shownP, rfl, rfl, SqL.of u2, ?_, k H3 u1⟩
      have e1 : (Str.ofString " ").length = 1 := by decide +kernel
      show ((ps.map shownP).map (·.length)).sum + (ps.map shownP).length * (Str.ofString " ").length ≤ 16777216
      rw [e1, List.length_map]
      omega
theorem scPo : FnScope ["piece", "sort"] ["piece"] (defScope sPo) := ⟨rfl, rfl, rfl, by decide +kernel, rfl, by decide +kernel, by decide +kernel⟩
theorem ok_po {f fS fA fG C1 C2 C3 C4 : Addr} {fd dS dA dG : FuncData} (F : Fun K "part_of" "part_of" sPo f fd)
    (FS : Fun K "sort_of" "sort_of" sSo fS dS) (bS : Binds K dS ["text"] []) (gS : mg "sort_of" = some (.ref fS)) (GS : FnOk P w K mg base CX0 5 fS dS ["text"] spSo)
    (FA : Fun K "all_sorts" "all_sorts" sAl fA dA) (bA : Binds K dA [] []) (gA : mg "all_sorts" = some (.ref fA)) (GA : FnOk P w K mg base CX0 1 fA dA [] (spAl C1 C2 C3 C4))
    (FG : Fun K "shown_gap" "shown_gap" sSg fG dG) (bG : Binds K dG ["sort"] []) (gG : mg "shown_gap" = some (.ref fG))
    (S1 : SK P w K mg base C1 isNum (So.str .num)) (S2 : SK P w K mg base C2 isName (So.str .nam)) (S3 : SK P w K mg base C3 isList (So.str .lis)) (S4 : SK P w K mg base C4 isMark (So.str .mar)) : FnOk P w K mg base CX0 6 f fd ["piece"] spPo := by
  have GG : FnOk P w K mg base CX0 1 fG dG ["sort"] spSg1 := ok_sg FG
  refine F.ok scPo (fun vs H Q E h => ?_) (fun cdv A outer s H vs Q E hr h => ?_)
  · obtain ⟨z, rfl, _⟩ := h
    rfl
  · obtain ⟨z, rfl, tz, k⟩ := h
    have hr1 : Room 1 _ := hr.mono (by decide)
    have hr4 : Room 4 _ := hr.mono (by decide)
    refine ⟨_, pss_cons (ps_if (pt_cmp (pc_notN (pe_call GS hr rfl gS FS.kp bS .nil pass0 (pa_cons (pv 0) pa_nil)))) (pss_one (ps_ret (pe_tup (pa_cons pe_str (pa_cons (pv 0) pa_nil))))) pss_nil)
      (pss_cons (ps_for PassesOwn.never rfl (pi_tup (pe_call0 GA hr1 rfl gA FA.kp bA .nil pass0)) (pg_name (i := 1) scPo.nd rfl (Or.inl rfl))
        (pss_one (ps_if (pt_cmpR op_eq (pv 0) (pe_call GG hr1 rfl gG FG.kp bG .nil pass0 (pa_cons (pe_methD0 (CX := CX0) (pv 1) hr4 pass0) pa_nil)) (nomark _)) (pss_one (ps_ret (pe_tup (pa_cons pe_str (pa_cons (pe_methD0 (CX := CX0) (pv 1) hr4 pass0) pa_nil))))) pss_nil)))
      (pss_one (ps_ret pe_non))), ?_⟩
    refine ⟨_, rfl, z, rfl, tz, fun H1 s1 => ⟨_, rfl, ?_⟩⟩
    cases es : sortM z with
    | some o =>
      refine iteTK (by show (!decide (V.str o.str = V.non)) = true; rw [decide_eq_false (fun z => by cases z)]; rfl) ?_
      refine ⟨_, rfl, (by show 2 ≤ sizeLine; decide), fun q hq => ?_⟩
      have ep : partM z = some (.word z) := by unfold partM; rw [es]
      refine k (.ref q) _ (s1.trans ((Same.refl H1).upd_free hq)) ?_
      rw [ep]
      exact ⟨q, rfl, upd_same⟩
    | none =>
      refine iteFK rfl ?_
      have ep : partM z = (sortsL.find? fun o => decide (V.str z = V.str (gapT o.str))).map fun o => .gap (some o) := by unfold partM; rw [es]
      refine ⟨rfl, fun a x1 x2 x3 x4 H2 s2 y1 y2 y3 y4 ha => ?_⟩
      refine ⟨a, rfl, ⟨_, SqT.of ha⟩, ?_⟩
      refine for_tup (xs := [.ref x1, .ref x2, .ref x3, .ref x4]) (fun i σ H3 => (∃ v, σ = [some (.str z), v]) ∧ Same H2 H3 ∧ sortsL.find? (fun o => decide (V.str z = V.str (gapT o.str))) = (sortsL.drop i).find? (fun o => decide (V.str z = V.str (gapT o.str)))) ⟨⟨none, rfl⟩, Same.refl _, rfl⟩ (fun i σ H3 _ h => SqT.of (h.2.1 _ _ ha)) ?_ ?_
      · rintro i x σ H3 hx ⟨⟨v, rfl⟩, s3, er⟩
        have row : ∃ (C y : Addr) (p : Str → Bool) (o : So), x = .ref y ∧ SoAt H3 C y ∧ SK P w K mg base C p o.str ∧ sortsL.drop i = o :: sortsL.drop (i + 1) := by
          rcases i with _ | _ | _ | _ | i
          · cases hx
            exact ⟨C1, x1, isNum, .num, rfl, y1.same s3, S1, rfl⟩
          · cases hx
            exact ⟨C2, x2, isName, .nam, rfl, y2.same s3, S2, rfl⟩
          · cases hx
            exact ⟨C3, x3, isList, .lis, rfl, y3.same s3, S3, rfl⟩
          · cases hx
            exact ⟨C4, x4, isMark, .mar, rfl, y4.same s3, S4, rfl⟩
          · cases hx
        obtain ⟨C, y, p, o, rfl, ⟨dx, hy⟩, S, hd⟩ := row
        obtain ⟨fw, fdw, mw, bw, ow⟩ := S.wd
        rw [hd, List.find?_cons] at er
        refine ⟨_, rfl, _, rfl, y, C, dx, [], fw, fdw, _, _, rfl, hy, rfl, S.cls, mw, ow, bw, .ref y, rfl, o.str, rfl, so_tx o, fun H4 s4 => ?_⟩
        refine ⟨rfl, _, rfl, ?_⟩
        cases hz : decide (V.str z = V.str (gapT o.str)) with
        | true =>
          rw [hz] at er
          refine iteT ⟨_, rfl, y, C, dx, [], fw, fdw, _, _, rfl, s4 _ _ hy, rfl, S.cls, mw, ow, bw, .ref y, rfl, (by show 2 ≤ sizeLine; decide), fun q hq => ?_⟩
          refine k (.ref q) _ (s1.trans (s2.trans (s3.trans (s4.trans ((Same.refl H4).upd_free hq))))) ?_
          rw [ep, er]
          exact ⟨q, rfl, upd_same⟩
        | false =>
          rw [hz] at er
          exact iteF ⟨⟨_, rfl⟩, s3.trans s4, er⟩
      · rintro σ H3 ⟨⟨v, rfl⟩, s3, er⟩
        refine k .non H3 (s1.trans (s2.trans s3)) ?_
        rw [ep, er]
        rfl
theorem scRd : FnScope ["text", "parts"] ["text"] (defScope sRd) := ⟨rfl, rfl, rfl, by decide +kernel, rfl, by decide +kernel, by decide +kernel⟩
def scopeRd : Scope := { kind := .function, names := [(".0", .local), ("piece", .local), ("part_of", .globalImplicit)], isGenerator := false, isCoroutine := false, more := [] }
theorem scRd1 : BlkScope (defScope sRd) ["text", "parts"] ["piece"] [] [] scopeRd := ⟨rfl, by decide +kernel, by decide +kernel, by decide +kernel, rfl, by decide +kernel, by decide +kernel⟩
theorem part_tx {z : Str} (h : Tx 1000 z) : ∀ p, partM z = some p → PtTx p := fun p e y hy => by
  subst hy
  unfold partM at e
  cases es : sortM z with
  | some o =>
    rw [es] at e
    cases e
    exact h
  | none =>
    rw [es] at e
    cases ef : sortsL.find? (fun o => decide (V.str z = V.str (gapT o.str))) with
    | none => rw [ef] at e; cases e
    | some o => rw [ef] at e; cases e
theorem ok_rd {f fP fI : Addr} {fd dP dI : FuncData} (F : Fun K "read_form" "read_form" sRd f fd) (len : mg "len" = none) (tup : mg "tuple" = none) (g8 : mg "MOST_WORDS" = some u8) (r8 : RelV (.int 8) u8)
    (FP : Fun K "part_of" "part_of" sPo fP dP) (bP : Binds K dP ["piece"] []) (gP : mg "part_of" = some (.ref fP)) (GP : FnOk P w K mg base CX0 6 fP dP ["piece"] spPo)
    (M : MkX K CO fI) (gN : mg "NoForm" = some (.ref CO)) (bI : Binds K dI ["self", "at"] []) (GI : FnOk P w K mg base CX0 1 fI dI ["self", "at"] (spNi CO)) (rz : excRz K CO = true) : FnOk P w K mg base (CX1 P w) 7 f fd ["text"] (spRd CO) := by
  refine F.okX scRd (fun vs H Q E h => ?_) (fun cdv A outer s H vs Q E hr h => ?_)
  · obtain ⟨z, rfl, _⟩ := h
    rfl
  · obtain ⟨z, rfl, tz, kE, kQ⟩ := h
    have hr2 : Room 2 _ := hr.mono (by decide)
    have hu : _ + 64 < cLine := hr.units
    refine ⟨_, pss_cons (ps_setlc (i := 1) scRd1 rfl rfl rfl (pi_list (pe_bm PySem.F.plainAttrs_str PySem.F.slot_str_split PySem.F.type_str_split mt_split (pv 0) (pa_cons pe_str pa_nil))) (fun fp C s1 H1 => pg_name (i := 0) scRd1.nd rfl (Or.inl rfl)) (fun fp C s1 H1 => pts_nil) (fun fp C s1 H1 => pe_call GP hr rfl gP FP.kp bP .nil pass0 (pa_cons (pv 0) pa_nil)) scRd.nd rfl rfl rfl)
      (pss_cons (ps_if (pt_cmpR (op_inD hu) pe_non (pv 1) (by with_unfolding_all rfl)) (pss_one (ps_raiseV rfl throwsV_cx (pe_makeX M GI hr2 rfl gN bI .nil pass0 (pa_cons (pe_bm PySem.F.plainAttrs_list PySem.F.slot_list_index PySem.F.type_list_index (mt_index hu) (pv 1) (pa_cons pe_non pa_nil)) pa_nil)))) pss_nil)
      (pss_cons (ps_if (pt_cmpR op_gt (pe_callB call_len_seq (by rfl) len PySem.boot_len (pa_cons (pv 1) pa_nil)) (pe_glob (v := .int 8) (by rfl) g8 r8) (nomark _)) (pss_one (ps_raiseV rfl throwsV_cx (pe_makeX M GI hr2 rfl gN bI .nil pass0 (pa_cons (pe_glob (v := .int 8) (by rfl) g8 r8) pa_nil)))) pss_nil)
      (pss_one (ps_ret (pe_callTy call_tuple_of (by rfl) tup PyProof.Rows.boot_tuple (pa_cons (pv 1) pa_nil)))))), ?_⟩
    have l1 := split_len z (Str.ofString " ")
    have l2 := parts_len z (Str.ofString " ")
    have l3 := tz.1
    have big : 1002 ≤ sizeLine := by decide
    refine ⟨_, rfl, rfl, z, _, rfl, rfl, rfl, len_sm tz (by decide), by omega, by omega, fun sp hsp => ?_⟩
    have tl : ∀ y ∈ piecesM z, Tx 1000 y := fun y hy => by
      unfold piecesM at hy
      rw [show Str.ofString " " = (⟨#[32]⟩ : Str) from rfl, split_spl _ (by decide)] at hy
      exact spl_tx 32 tz y hy
    change ∀ y ∈ Txt.split z (Str.ofString " "), Tx 1000 y at tl
    generalize hL : Txt.split z (Str.ofString " ") = L at hsp l1 tl ⊢
    rw [show piecesM z = L from hL] at kE kQ
    have s1 := (Same.refl H).upd_free (o := .lst (L.map V.str)) hsp
    have g1 : upd H sp (.lst (L.map V.str)) sp = some (.lst (L.map V.str)) := upd_same
    generalize upd H sp (.lst (L.map V.str)) = H1 at s1 g1
    refine ⟨sp, rfl, ⟨_, SqL.of g1⟩, fun D hD => ?_⟩
    have hLl : L.length ≤ 1002 := by omega
    refine lc_list (K := K) (a := sp) (xs := L.map V.str) (fun j ys H3 => Same H1 H3 ∧ H3 D = some (.lst ys) ∧ FqAt H3 ys ((L.take j).map partM)) (by rw [List.length_map]; omega) ⟨(Same.refl H1).upd_free hD, upd_same, FqAt.nil⟩ (fun j ys H3 h => ?_) (fun j ys H3 h => SqL.of (h.1 _ _ g1)) ?_ ?_
    · rw [h.2.2.1, List.length_map, List.length_take]
      exact Nat.min_le_left _ _
    · rintro j ys H3 x N M hx ⟨u1, u2, u3⟩ hN hM
      rw [List.getElem?_map] at hx
      cases e : L[j]? with
      | none => rw [e] at hx; cases hx
      | some y =>
        rw [e] at hx
        cases hx
        have tk : L.take (j + 1) = L.take j ++ [y] := by rw [List.take_add_one, e]; rfl
        refine ⟨_, rfl, y, rfl, tl y (List.mem_of_getElem? e), fun v H4 s4 hv => ?_⟩
        have ts : TSame H4 (upd H4 D (.lst (ys ++ [v]))) := TSame.upd_lst (fun _ _ e => e) (s4 _ _ u2)
        refine hN v H4 (s4 _ _ u2) ⟨(u1.trans s4).upd_free hD, upd_same, ?_⟩
        rw [tk, List.map_append]
        exact ((u3.tsame s4.tups).snoc hv).tsame ts
    rintro ys H2 ⟨s2, hD2, hF⟩
    rw [List.length_map, List.take_of_length_le (Nat.le_refl _)] at hF
    have t2 := s1.trans s2
    have hlay : PyData.canLayAll0 ((L.map partM).map dPo) = true := pos_lay _ fun p hp => by
      obtain ⟨y, hy, e⟩ := List.mem_map.mp hp
      exact part_tx (tl y hy) p e
    have okN : DOk .none := ⟨rfl, by decide⟩
    have hol : (L.map partM).length = L.length := List.length_map ..
    refine ⟨_, rfl, D, ys, .none, (L.map partM).map dPo, rfl, .inl (SqL.of hD2), pos_at hF, .non, okN, hlay, _, rfl, ?_⟩
    rw [show (if false = true then _ else ((L.map partM).map dPo).any fun d => PyData.eqv d .none) = (noM (L.map partM)).isSome from any_no _]
    cases en : noM (L.map partM) with
    | some i =>
      refine iteT ?_
      have eb : formBad (L.map partM) = some i := by unfold formBad; rw [en]
      have hid := idx_no (L.map partM)
      rw [en] at hid
      exact ⟨_, rfl, .inl ⟨rfl, _, SqL.of hD2⟩, D, ys, .non, .none, (L.map partM).map dPo, i, rfl, rfl, SqL.of hD2, pos_at hF, .non, okN, hlay, hid, by rw [List.length_map, hol]; omega, (by show 1 ≤ sizeLine; decide), raiseW rz (kE i eb) H2 _ t2⟩
    | none =>
      refine iteF ?_
      obtain ⟨ps, eps⟩ := no_some en
      refine ⟨_, rfl, D, _, rfl, .inl (SqL.of hD2), _, _, rfl, rfl, _, rfl, ?_⟩
      have hyl : ys.length = L.length := by rw [hF.1, hol]
      by_cases h8 : L.length > 8
      · refine iteTK (decide_eq_true (by rw [hyl]; omega)) ?_
        have eb : formBad (L.map partM) = some 8 := by
          unfold formBad
          rw [en]
          exact if_pos (by rw [hol]; exact h8)
        exact ⟨(by show 1 ≤ sizeLine; decide), raiseW rz (kE 8 eb) H2 _ t2⟩
      · refine iteFK (decide_eq_false (by rw [hyl]; omega)) ?_
        have eb : formBad (L.map partM) = none := by
          unfold formBad
          rw [en]
          exact if_neg (by rw [hol]; exact h8)
        refine ⟨_, rfl, D, _, rfl, .inl ⟨SqL.of hD2, fun y hy => ?_⟩⟩
        have s3 := (Same.refl H2).upd_free (o := .tup ys) hy
        exact kQ eb y ys ps _ (t2.trans s3) eps upd_same ((hF.fp eps).tsame s3.tups)
end
end SL
namespace SL
open PySem L2
def spCe (K : PySem.W.Frag) : Sp := fun vs H Q _ => ∃ (a : Addr) (ns : List Int) (k : Int), vs = [.ref a, .int k] ∧ SqL K H a (ns.map V.int) ∧ ns.length ≤ 1000 ∧ 0 ≤ k ∧ ∀ (z : Int) (H' : Hp), Same H H' → Q (.int z) H'
def spRwW : Sp := fun vs H Q _ => ∃ (c : Int) (m : Nat), vs = [.int c, .int (m : Int)] ∧ m ≤ 12 ∧ ∀ (p : Addr) (L : List Str) (H' : Hp), Same H H' → H p = none → H' p = some (.lst (L.map V.str)) → L.length = m → (∀ y ∈ L, Wd y) → Q (.ref p) H'
def spFoW : Sp := fun vs H Q _ => ∃ (a : Addr) (L : List Str) (b : Int), vs = [.ref a, .int b] ∧ H a = some (.lst (L.map V.str)) ∧ L.length ≤ 12 ∧ (∀ y ∈ L, Wd y) ∧ ∀ (p : Addr) (us : List V) (ps : List Pt) (H' : Hp), Same H H' → H p = none → H' p = some (.lst us) → FpAt H' us ps → fitsP ps L → (∀ q ∈ ps, PtOk q) → Q (.ref p) H'
theorem fitsP_snoc : ∀ {ps : List Pt} {r : List Str} {p : Pt} {z : Str}, fitsP ps r → takesP p z = true → fitsP (ps ++ [p]) (r ++ [z])
  | [], [], p, z, _, h => ⟨h, trivial⟩
  | [], _ :: _, _, _, h, _ => by cases h
  | _ :: _, [], _, _, h, _ => by cases h
  | q :: ps, y :: r, p, z, h, h2 => ⟨h.1, fitsP_snoc h.2 h2⟩
theorem ok0L : DOk (.list []) := ⟨by decide, by decide⟩
theorem cut_toW (xs : List V) (j : Nat) : cutV xs none (some (j : Int)) = xs.take j := by
  unfold cutV
  rw [HT.sIx_none, HT.sIx_nat, List.drop_zero, Nat.sub_zero]
  by_cases h : j ≤ xs.length
  · rw [Nat.min_eq_left h]
  · rw [Nat.min_eq_right (by omega), List.take_of_length_le (Nat.le_refl _), List.take_of_length_le (by omega)]
theorem cut_fromW (xs : List V) (j : Nat) : cutV xs (some (j : Int)) none = xs.drop j := by
  unfold cutV
  rw [HT.sIx_none, HT.sIx_nat]
  by_cases h : j ≤ xs.length
  · rw [Nat.min_eq_left h, List.take_of_length_le (by rw [List.length_drop]; omega)]
  · rw [Nat.min_eq_right (by omega), List.drop_of_length_le (Nat.le_refl _), List.drop_of_length_le (by omega), List.take_nil]
theorem gap_none (o : So) : sortM (gapT o.str) = none := by cases o <;> decide +kernel
theorem gap_find (o : So) : (sortsL.find? fun o' => decide (V.str (gapT o.str) = V.str (gapT o'.str))) = some o := by cases o <;> decide +kernel
theorem gap_tn (o : So) : Tn 70 (gapT o.str) := by
  have h : ∀ o : So, (decide ((gapT o.str).length ≤ 70) && (gapT o.str).cps.toList.all fun c => decide (c < 128 ∧ c ≠ 32)) = true := fun o => by cases o <;> decide +kernel
  have q := h o
  rw [Bool.and_eq_true] at q
  exact ⟨of_decide_eq_true q.1, fun c hc => of_decide_eq_true (List.all_eq_true.mp q.2 c hc)⟩
theorem shown_tn {p : Pt} (h : PtOk p) : Tn 70 (shownP p) := by
  cases p with
  | gap o =>
    obtain ⟨s, rfl⟩ := h
    exact gap_tn s
  | word z => exact (show Wd z from h).tn.mono (by decide)
theorem part_shown {p : Pt} (h : PtOk p) : partM (shownP p) = some p := by
  cases p with
  | gap o =>
    obtain ⟨s, rfl⟩ := h
    show partM (gapT s.str) = _
    unfold partM
    rw [gap_none]
    show Option.map _ (sortsL.find? fun o' => decide (V.str (gapT s.str) = V.str (gapT o'.str))) = _
    rw [gap_find]
    rfl
  | word z =>
    show partM z = _
    unfold partM
    rw [(show Wd z from h).sort]
theorem pieces_shown {ps : List Pt} (h0 : ps ≠ []) (h : ∀ p ∈ ps, PtOk p) : (piecesM (Str.join (Str.ofString " ") (ps.map shownP))).map partM = ps.map some := by
  have e : piecesM (Str.join (Str.ofString " ") (ps.map shownP)) = ps.map shownP := by
    unfold piecesM
    rw [show Str.ofString " " = (⟨#[32]⟩ : Str) from rfl, split_spl _ (by decide)]
    exact spl_join (c := 32) (ps.map shownP) [] (by simpa using h0) fun y hy x hx => by
      obtain ⟨p, hp, rfl⟩ := List.mem_map.mp hy
      exact ((shown_tn (h p hp)).2 x hx).2
  rw [e, List.map_map]
  exact List.map_congr_left fun p hp => part_shown (h p hp)
theorem formBad_none {ps : List Pt} (h8 : ps.length ≤ 8) : formBad (ps.map some) = none := by
  have hn : noM (ps.map some) = none := by
    unfold noM
    rw [List.findIdx?_eq_none_iff]
    intro o ho
    obtain ⟨p, _, rfl⟩ := List.mem_map.mp ho
    rfl
  unfold formBad
  rw [hn]
  exact if_neg (by rw [List.length_map]; omega)
theorem some_inj : ∀ {ps qs : List Pt}, ps.map some = qs.map some → ps = qs
  | [], [], _ => rfl
  | [], _ :: _, h => by cases h
  | _ :: _, [], h => by cases h
  | p :: ps, q :: qs, h => by
    rw [List.map_cons, List.map_cons] at h
    injection h with h1 h2
    injection h1 with h1
    rw [h1, some_inj h2]
theorem ptok_pt {ps : List Pt} (h : ∀ q ∈ ps, PtOk q) : ∀ p ∈ ps, PtTx p := fun p hp z e => by
  subst e
  exact (show Wd z from h _ hp).tn.tx.mono (by decide)
theorem tx_blank : Tx 1 (Str.ofString " ") := ⟨by decide, fun c hc => by
  have hc' : c ∈ [32] := hc
  have : c = 32 := by simpa using hc'
  omega⟩
section
variable {P : Program} {w : World} {K : PySem.W.Frag} {mg : Str → Option Value} {base : Heap}
theorem scCe : FnScope ["_law_script", "_law_k"] ["_law_script", "_law_k"] (defScope sCe) := ⟨rfl, rfl, rfl, by decide +kernel, rfl, by decide +kernel, by decide +kernel⟩
theorem ok_ce {f : Addr} {fd : FuncData} (F : Fun K "_law_cell_at" "_law_cell_at" sCe f fd) (T : T1 mg) : FnOk P w K mg base CX0 1 f fd ["_law_script", "_law_k"] (spCe K) := by
  refine F.ok scCe (fun vs H Q E h => ?_) (fun cdv A outer s H vs Q E hr h => ?_)
  · obtain ⟨a, ns, k, rfl, _⟩ := h
    rfl
  · obtain ⟨a, ns, k, rfl, hS, hln, k0, kk⟩ := h
    refine ⟨_, pss_cons (ps_if (pt_cmpR op_lt (pv 1) (pe_callB call_len_seq (by rfl) T.len PySem.boot_len (pa_cons (pv 0) pa_nil)) (nomark _)) (pss_one (ps_ret (pe_ix ix_list (pv 0) (pv 1) (fun _ _ => rfl)))) pss_nil)
      (pss_one (ps_ret pe_int)), ?_⟩
    refine ⟨_, rfl, _, rfl, a, _, rfl, .inl hS, _, _, rfl, rfl, _, rfl, ?_⟩
    refine ite2 (fun hlt => ?_) (fun hge => ?_)
    · have hlt' : k < ((ns.map V.int).length : Int) := of_decide_eq_true hlt
      obtain ⟨x, hx, ex⟩ := atI_someW (ns.map V.int) k k0 hlt'
      obtain ⟨z, _, rfl⟩ := List.mem_map.mp hx
      exact ⟨_, rfl, _, rfl, a, _, _, _, rfl, rfl, hS, ex, kk z H (Same.refl H)⟩
    · exact kk _ H (Same.refl H)
theorem scRw : FnScope ["_law_cell", "_law_many", "_law_row_here", "_law_k", "_law_number"] ["_law_cell", "_law_many"] (defScope sRw) := ⟨rfl, rfl, rfl, by decide +kernel, rfl, by decide +kernel, by decide +kernel⟩
theorem ok_rwW {f fW : Addr} {fd fdW : FuncData} (F : Fun K "_law_row" "_law_row" sRw f fd) (T : T1 mg)
    (FW : Fun K "_law_word" "_law_word" sWo fW fdW) (bW : Binds K fdW ["_law_cell"] []) (gW : mg "_law_word" = some (.ref fW)) (GW : FnOk P w K mg base CX0 4 fW fdW ["_law_cell"] (spWx Wd)) : FnOk P w K mg base CX0 5 f fd ["_law_cell", "_law_many"] spRwW := by
  refine F.ok scRw (fun vs H Q E h => ?_) (fun cdv A outer s H vs Q E hr h => ?_)
  · obtain ⟨c, m, rfl, _⟩ := h
    rfl
  · obtain ⟨c, m, rfl, h12, k⟩ := h
    refine ⟨_, pss_cons (ps_set (i := 2) scRw.nd rfl (Or.inl rfl) (pe_lst pa_nil))
      (pss_cons (ps_for PassesOwn.never rfl (pi_range1 rfl T.range (pa_cons (pv 1) pa_nil)) (pg_name (i := 3) scRw.nd rfl (Or.inl rfl))
        (pss_cons (ps_set (i := 4) scRw.nd rfl (Or.inl rfl) (pe_op op_mod (pe_op op_mul (pe_op op_mod (pe_op op_add (pv 0) (pe_op op_mul (pe_op op_mul pe_int (pv 3)) (pv 3))) pe_int) pe_int) pe_int))
        (pss_one (ps_expr (pe_bm PySem.F.plainAttrs_list PySem.F.slot_list_append PySem.F.type_list_append mt_append (pv 2) (pa_cons (pe_call GW hr rfl gW FW.kp bW .nil pass0 (pa_cons (pe_op op_add (pv 4) (pe_op op_fdivW (pv 0) pe_int)) pa_nil)) pa_nil))))))
      (pss_one (ps_ret (pv 2)))), ?_⟩
    refine ⟨Nat.zero_le _, fun l hl => ?_⟩
    refine ⟨_, rfl, _, rfl, by omega, by omega, ?_⟩
    rw [Int.toNat_natCast]
    refine for_range (n := m) (fun i σ H2 => ∃ (zs : List Str) (v v2 : Option V), σ = [some (.int c), some (.int (m : Int)), some (.ref l), v, v2] ∧ Same H H2 ∧ H2 l = some (.lst (zs.map V.str)) ∧ zs.length = i ∧ ∀ x ∈ zs, Wd x)
      ⟨[], none, none, rfl, (Same.refl H).upd_free hl, upd_same, rfl, fun x hx => by simp at hx⟩ ?_ ?_
    · rintro i σ H2 hi ⟨zs, v, v2, rfl, s2, hL, hlen, hin⟩
      have hsm : (zs.map V.str).length < sizeLine := small1000 (by rw [List.length_map]; omega)
      refine ⟨_, rfl, _, rfl, _, _, rfl, rfl, .inl ⟨by decide, by decide⟩, _, rfl, _, _, rfl, rfl, .inr ⟨by omega, by omega⟩, _, _, rfl, rfl, _, _, rfl, rfl, (by show (0 : Int) < 2147483647; decide), _, _, rfl, rfl, .inr ⟨by decide, by decide⟩, _, _, rfl, rfl, (by show (0 : Int) < 2147483629; decide), ?_⟩
      refine ⟨_, rfl, .inl ⟨rfl, _, SqL.of hL⟩, _, rfl, _, rfl, _, _, rfl, rfl, ⟨by decide, by decide⟩, _, _, rfl, rfl, _, rfl, fun y H3 ty s3 => ⟨l, _, _, rfl, rfl, s3 _ _ hL, hsm, zs ++ [y], _, _, rfl, (s2.trans s3).upd_free hl, by rw [upd_same, List.map_append]; rfl, by rw [List.length_append, List.length_singleton]; omega, fun x hx => ?_⟩⟩
      rcases List.mem_append.mp hx with hx | hx
      · exact hin x hx
      · rw [List.mem_singleton] at hx
        rw [hx]
        exact ty
    · rintro σ H2 ⟨zs, v, v2, rfl, s2, hL, hlen, hin⟩
      exact ⟨_, rfl, k l zs H2 s2 hl hL hlen hin⟩
theorem scFo : FnScope ["_law_row_here", "_law_bits", "_law_form_here", "_law_k"] ["_law_row_here", "_law_bits"] (defScope sFo) := ⟨rfl, rfl, rfl, by decide +kernel, rfl, by decide +kernel, by decide +kernel⟩
theorem ok_foW {f fS : Addr} {fd fdS : FuncData} (F : Fun K "_law_form" "_law_form" sFo f fd) (T : T1 mg)
    (FS : Fun K "_law_sort" "_law_sort" sLs fS fdS) (bS : Binds K fdS ["_law_text"] []) (gS : mg "_law_sort" = some (.ref fS)) (GS : FnOk P w K mg base CX0 4 fS fdS ["_law_text"] spSo) : FnOk P w K mg base CX0 5 f fd ["_law_row_here", "_law_bits"] spFoW := by
  refine F.ok scFo (fun vs H Q E h => ?_) (fun cdv A outer s H vs Q E hr h => ?_)
  · obtain ⟨a, L, b, rfl, _⟩ := h
    rfl
  · obtain ⟨a, L, b, rfl, ha, h12, hT, k⟩ := h
    refine ⟨_, pss_cons (ps_set (i := 2) scFo.nd rfl (Or.inl rfl) (pe_lst pa_nil))
      (pss_cons (ps_for PassesOwn.never rfl (pi_range1 rfl T.range (pa_cons (pe_callB call_len_seq (by rfl) T.len PySem.boot_len (pa_cons (pv 0) pa_nil)) pa_nil)) (pg_name (i := 3) scFo.nd rfl (Or.inl rfl))
        (pss_one (ps_if (pt_cmpR op_eq (pe_op op_and (pe_op op_shr (pv 1) (pv 3)) pe_int) pe_int (nomark _))
          (pss_one (ps_expr (pe_bm PySem.F.plainAttrs_list PySem.F.slot_list_append PySem.F.type_list_append mt_append (pv 2) (pa_cons (pe_tup (pa_cons pe_str (pa_cons (pe_call GS hr rfl gS FS.kp bS .nil pass0 (pa_cons (pe_ix ix_list (pv 0) (pv 3) (fun _ _ => rfl)) pa_nil)) pa_nil))) pa_nil))))
          (pss_one (ps_expr (pe_bm PySem.F.plainAttrs_list PySem.F.slot_list_append PySem.F.type_list_append mt_append (pv 2) (pa_cons (pe_tup (pa_cons pe_str (pa_cons (pe_ix ix_list (pv 0) (pv 3) (fun _ _ => rfl)) pa_nil))) pa_nil)))))))
      (pss_one (ps_ret (pv 2)))), ?_⟩
    refine ⟨Nat.zero_le _, fun l hl => ?_⟩
    have s0 := (Same.refl H).upd_free (o := .lst []) hl
    refine ⟨_, rfl, a, _, rfl, .inl (SqL.of (s0 _ _ ha)), _, rfl, by omega, by rw [List.length_map]; omega, ?_⟩
    rw [List.length_map, Int.toNat_natCast]
    refine for_range (n := L.length) (fun i σ H2 => ∃ (us : List V) (ps : List Pt) (v : Option V), σ = [some (.ref a), some (.int b), some (.ref l), v] ∧ Same H H2 ∧ H2 l = some (.lst us) ∧ FpAt H2 us ps ∧ ps.length = i ∧ fitsP ps (L.take i) ∧ ∀ q ∈ ps, PtOk q)
      ⟨[], [], none, rfl, s0, upd_same, FpAt.nil, rfl, trivial, fun q hq => by cases hq⟩ ?_ ?_
    · rintro i σ H2 hi ⟨us, ps, v, rfl, s2, hL, hP, hlen, hfit, hok⟩
      have eat : atI (L.map V.str) (0 + (i : Int)) = some (.str L[i]) := by
        rw [Int.zero_add]
        refine atI_nat ?_
        rw [List.getElem?_map]
        simp [hi]
      have hW := hT _ (List.getElem_mem hi)
      have hsm : us.length < sizeLine := small1000 (by rw [hP.1]; omega)
      have put : ∀ (p : Pt) (q : Addr) (H3 : Hp), takesP p L[i] = true → PtOk p → Same H2 H3 → PtAt H3 q p → ∃ (us' : List V) (ps' : List Pt) (v' : Option V), [some (V.ref a), some (.int b), some (.ref l), some (.int (0 + (i : Int)))] = [some (.ref a), some (.int b), some (.ref l), v'] ∧ Same H (upd H3 l (.lst (us ++ [.ref q]))) ∧ (upd H3 l (.lst (us ++ [.ref q]))) l = some (.lst us') ∧ FpAt (upd H3 l (.lst (us ++ [.ref q]))) us' ps' ∧ ps'.length = i + 1 ∧ fitsP ps' (L.take (i + 1)) ∧ ∀ q ∈ ps', PtOk q := fun p q H3 pt pk s3 hq => by
        have ts : TSame H3 (upd H3 l (.lst (us ++ [.ref q]))) := TSame.upd_lst (fun _ _ e => e) (s3 _ _ hL)
        refine ⟨us ++ [.ref q], ps ++ [p], _, rfl, (s2.trans s3).upd_free hl, upd_same, ((hP.tsame s3.tups).snoc hq).tsame ts, by rw [List.length_append, List.length_singleton, hlen], by rw [List.take_add_one, List.getElem?_eq_getElem hi]; exact fitsP_snoc hfit pt, fun x hx => ?_⟩
        rcases List.mem_append.mp hx with hx | hx
        · exact hok x hx
        · rw [List.mem_singleton] at hx
          rw [hx]
          exact pk
      refine ⟨_, rfl, _, rfl, _, _, rfl, rfl, (by show (0 : Int) ≤ 0 + (i : Int); omega), _, _, rfl, rfl, rfl, _, rfl, ?_⟩
      refine ifb ?_ ?_
      · refine ⟨_, rfl, .inl ⟨rfl, _, SqL.of hL⟩, _, rfl, _, rfl, a, _, _, _, rfl, rfl, SqL.of (s2 _ _ ha), eat, L[i], rfl, hW.tn.tx.mono (by decide), fun H3 s3 => ?_⟩
        refine ⟨(by show 2 ≤ sizeLine; decide), fun q hq => ?_⟩
        have s4 := (Same.refl H3).upd_free (o := .tup [V.str (Str.ofString "gap"), vS (sortM L[i])]) hq
        exact ⟨l, _, _, rfl, rfl, (s3.trans s4) _ _ hL, hsm, put (.gap (sortM L[i])) q _ (decide_eq_true rfl) ⟨_, hW.sort⟩ (s3.trans s4) upd_same⟩
      · refine ⟨_, rfl, .inl ⟨rfl, _, SqL.of hL⟩, _, rfl, _, rfl, a, _, _, _, rfl, rfl, SqL.of (s2 _ _ ha), eat, (by show 2 ≤ sizeLine; decide), fun q hq => ?_⟩
        have s4 := (Same.refl H2).upd_free (o := .tup [V.str (Str.ofString "word"), .str L[i]]) hq
        exact ⟨l, _, _, rfl, rfl, s4 _ _ hL, hsm, put (.word L[i]) q _ (decide_eq_true rfl) hW s4 upd_same⟩
    · rintro σ H2 ⟨us, ps, v, rfl, s2, hL, hP, hlen, hfit, hok⟩
      rw [List.take_of_length_le (Nat.le_refl _)] at hfit
      exact ⟨_, rfl, k l us ps H2 s2 hl hL hP hfit hok⟩
end
end SL
namespace SL
open PySem L2

structure NmK (K : PySem.W.Frag) (mg : Str → Option Value) (CO CL C0 C1 C2 C3 C4 : Addr) : Prop where
  gN : mg "NoForm" = some (.ref CO)
  gL : mg "LoomError" = some (.ref CL)
  vE : mg "ValueError" = none
  g0 : mg "NoRow" = some (.ref C0)
  i0 : PySem.W.kitOne K (.ref CO) (.ref C0) = some false
  g1 : mg "NoGap" = some (.ref C1)
  i1 : PySem.W.kitOne K (.ref CO) (.ref C1) = some false
  g2 : mg "NoFit" = some (.ref C2)
  i2 : PySem.W.kitOne K (.ref CO) (.ref C2) = some false
  g3 : mg "NoQuestion" = some (.ref C3)
  i3 : PySem.W.kitOne K (.ref CO) (.ref C3) = some false
  g4 : mg "Unknown" = some (.ref C4)
  i4 : PySem.W.kitOne K (.ref CO) (.ref C4) = some false
  iN : PySem.W.kitOne K (.ref CO) (.ref CO) = some true
  iV : PySem.W.kitOne K (.ref CO) (.type "ValueError") = some true
  get : excGet K CO = true
  getF : excGetF K CO "at" = true
  tL : takesX K CO (.ref CL) = true
def spRf : Sp := fun vs H Q _ => ∃ (z : Str) (i : Nat), vs = [.str z, .int (i : Int)] ∧ Tx 1000 z ∧ formBad ((piecesM z).map partM) = some i ∧ ∀ H', Same H H' → Q (.bl true) H'
def spPp : Sp := fun vs H Q _ => ∃ z : Str, vs = [.str z] ∧ Tx 1000 z ∧ ∀ v H', Same H H' → PoAt H' v (partM z) → Q v H'
def spAk : Sp := fun vs H Q _ => ∃ (p l : Addr) (us ws : List V) (ps : List Pt), vs = [.ref p, .ref l] ∧ H p = some (.tup us) ∧ FpAt H us ps ∧ H l = some (.lst ws) ∧ FpAt H ws ps ∧ ps.length ≤ 100 ∧ (∀ q ∈ ps, PtTx q) ∧ ∀ H', Same H H' → Q (.bl true) H'
theorem falses (n : Nat) : DOk (.list (List.replicate n (PyData.bool false))) := by
  have h1 : ∀ n, PyData.canLayAll0 (List.replicate n (PyData.bool false)) = true := fun n => by
    induction n with
    | zero => rfl
    | succ n ih => rw [List.replicate_succ, PyData.canLayAll0, ih]; rfl
  have h2 : ∀ n, PyData.depthAll (List.replicate n (PyData.bool false)) = 0 := fun n => by
    induction n with
    | zero => rfl
    | succ n ih => rw [List.replicate_succ, PyData.depthAll, ih]; rfl
  exact ⟨h1 n, by rw [PyData.depth, h2]; decide⟩
theorem part_gap {z : Str} {o : So} (h : (sortsL.find? fun o => decide (V.str z = V.str (gapT o.str))) = some o) : partM z = some (.gap (some o)) := by
  have e : V.str z = V.str (gapT o.str) := of_decide_eq_true (show decide (V.str z = V.str (gapT o.str)) = true from List.find?_some (p := fun (o : So) => decide (V.str z = V.str (gapT o.str))) h)
  injection e with e
  have hs : sortM z = none := by rw [e]; exact gap_none o
  unfold partM
  rw [hs]
  show Option.map _ (sortsL.find? fun o => decide (V.str z = V.str (gapT o.str))) = _
  rw [h]
  rfl
section
variable {P : Program} {w : World} {K : PySem.W.Frag} {mg : Str → Option Value} {base : Heap} {CO CL C0 C1 C2 C3 C4 : Addr}
theorem scRf : FnScope ["_law_text", "_law_at", "_law_error", "e", "_law_others"] ["_law_text", "_law_at"] (defScope sRf) := ⟨rfl, rfl, rfl, by decide +kernel, rfl, by decide +kernel, by decide +kernel⟩
theorem ok_rf {f fW : Addr} {fd dW : FuncData} (F : Fun K "_law_refused" "_law_refused" sRf f fd) (isin : mg "isinstance" = none) (int : mg "int" = none) (bool : mg "bool" = none) (N : NmK K mg CO CL C0 C1 C2 C3 C4)
    (FW : Fun K "read_form" "read_form" sRd fW dW) (bW : Binds K dW ["text"] []) (gW : mg "read_form" = some (.ref fW)) (GW : FnOk P w K mg base (CX1 P w) 7 fW dW ["text"] (spRd CO)) : FnOk P w K mg base CX0 8 f fd ["_law_text", "_law_at"] spRf := by
  refine F.ok scRf (fun vs H Q E h => ?_) (fun cdv A outer s H vs Q E hr h => ?_)
  · obtain ⟨z, i, rfl, _⟩ := h
    rfl
  · obtain ⟨z, i, rfl, tz, hm, k⟩ := h
    have hu := hr.units
    refine ⟨_, pss_cons (ps_set (i := 2) scRf.nd rfl (Or.inl rfl) pe_non)
      (pss_cons (ps_try (i := 3) ⟨rfl, rfl⟩ scRf.nd rfl rfl ⟨by rfl, by decide, .inl N.gL⟩ (pssx_one (psx_expr (pex_call GW hr rfl gW FW.kp bW .nil (pa_cons (pv 0) pa_nil)))) (fun a => pss_one (ps_set (i := 2) scRf.nd rfl (Or.inl rfl) (pv 3))))
      (pss_cons (ps_if (PW.pt (pw_or (pt_cmp (pc_isN (pv 2))) (pw_or (pt_not (pt_val (pe_callB call_isinstXD (by rfl) isin PyProof.Rows.boot_isinstance (pa_cons (pv 2) (pa_cons (pe_glob (v := .ref CO) (by rfl) N.gN rfl) pa_nil))))) (pw_or1 (pt_not (pt_val (pe_callB call_isinstXD (by rfl) isin PyProof.Rows.boot_isinstance (pa_cons (pv 2) (pa_cons (pe_bltn (v := .ty "ValueError") (by rfl) N.vE rfl rfl) pa_nil))))))))) (pss_one (ps_ret pe_bl)) pss_nil)
      (pss_cons (ps_set (i := 4) scRf.nd rfl (Or.inl rfl) (pe_lst (pa_cons (pe_callB call_isinstXD (by rfl) isin PyProof.Rows.boot_isinstance (pa_cons (pv 2) (pa_cons (pe_glob (v := .ref C0) (by rfl) N.g0 rfl) pa_nil))) (pa_cons (pe_callB call_isinstXD (by rfl) isin PyProof.Rows.boot_isinstance (pa_cons (pv 2) (pa_cons (pe_glob (v := .ref C1) (by rfl) N.g1 rfl) pa_nil))) (pa_cons (pe_callB call_isinstXD (by rfl) isin PyProof.Rows.boot_isinstance (pa_cons (pv 2) (pa_cons (pe_glob (v := .ref C2) (by rfl) N.g2 rfl) pa_nil))) pa_nil)))))
      (pss_cons (ps_if (pt_cmpR (op_neD hu) (pe_op op_catL (pv 4) (pe_lst (pa_cons (pe_callB call_isinstXD (by rfl) isin PyProof.Rows.boot_isinstance (pa_cons (pv 2) (pa_cons (pe_glob (v := .ref C3) (by rfl) N.g3 rfl) pa_nil))) (pa_cons (pe_callB call_isinstXD (by rfl) isin PyProof.Rows.boot_isinstance (pa_cons (pv 2) (pa_cons (pe_glob (v := .ref C4) (by rfl) N.g4 rfl) pa_nil))) pa_nil)))) (pe_op op_rep (pe_lst (pa_cons pe_bl pa_nil)) pe_int) (nomark _)) (pss_one (ps_ret pe_bl)) pss_nil)
      (pss_one (ps_ret (pe_and (pe_callB call_isinst (by rfl) isin PyProof.Rows.boot_isinstance (pa_cons (pe_xfld (pv 2) rfl) (pa_cons (pe_bltn (v := .ty "int") (by rfl) int PyProof.Rows.boot_int rfl) pa_nil)))
        (pe_and (pe_not (pe_callB call_isinst (by rfl) isin PyProof.Rows.boot_isinstance (pa_cons (pe_xfld (pv 2) rfl) (pa_cons (pe_bltn (v := .ty "bool") (by rfl) bool PyProof.Rows.boot_bool rfl) pa_nil))))
        (pe_one (pe_cmpR op_eq (pe_xfld (pv 2) rfl) (pv 1) (nomark _))))))))))), ?_⟩
    refine ⟨_, rfl, z, rfl, tz, fun i' hi' d H1 s1 hd1 => ⟨CO, rfl, N.tL, fun a ha => ?_⟩, fun hn => by rw [hm] at hn; cases hn⟩
    rw [hm] at hi'
    cases hi'
    have s2 := (Same.refl H1).upd_free (o := .ext (ExcAt a CO (some d))) ha
    have g2 : upd H1 a (.ext (ExcAt a CO (some d))) a = some (.ext (ExcAt a CO (some d))) := upd_same
    generalize upd H1 a (.ext (ExcAt a CO (some d))) = H2 at s2 g2
    have d2 := s2 _ _ hd1
    have dd : ∀ {H' : Hp}, Same H2 H' → ∀ d', some d = some d' → ∃ o, H' d' = some o := fun {H'} s d' e => by cases e; exact ⟨_, s _ _ d2⟩
    have r2 := Same.refl H2
    refine ⟨_, rfl, ?_⟩
    refine ⟨_, rfl, _, rfl, iteFK (decide_eq_false (fun z => by cases z)) ?_⟩
    refine ⟨_, rfl, a, _, CO, some d, true, rfl, g2, dd r2, N.get, N.iN, true, rfl, iteF ?_⟩
    refine ⟨_, rfl, a, _, CO, some d, true, rfl, g2, dd r2, N.get, N.iV, true, rfl, iteF ?_⟩
    refine ⟨_, rfl, a, _, CO, some d, false, rfl, g2, dd r2, N.get, N.i0, _, rfl, a, _, CO, some d, false, rfl, g2, dd r2, N.get, N.i1, _, rfl, a, _, CO, some d, false, rfl, g2, dd r2, N.get, N.i2, (by show 3 ≤ sizeLine; decide), fun l0 hl0 => ?_⟩
    have s3 := (Same.refl H2).upd_free (o := .lst [V.bl false, V.bl false, V.bl false]) hl0
    have g3 : upd H2 l0 (.lst [V.bl false, V.bl false, V.bl false]) l0 = some (.lst [V.bl false, V.bl false, V.bl false]) := upd_same
    generalize upd H2 l0 (.lst [V.bl false, V.bl false, V.bl false]) = H3 at s3 g3
    refine ⟨_, rfl, _, rfl, a, _, CO, some d, false, rfl, s3 _ _ g2, dd s3, N.get, N.i3, _, rfl, a, _, CO, some d, false, rfl, s3 _ _ g2, dd s3, N.get, N.i4, (by show 2 ≤ sizeLine; decide), fun l1 hl1 => ?_⟩
    have s4 := (Same.refl H3).upd_free (o := .lst [V.bl false, V.bl false]) hl1
    have g4 : upd H3 l1 (.lst [V.bl false, V.bl false]) l1 = some (.lst [V.bl false, V.bl false]) := upd_same
    generalize upd H3 l1 (.lst [V.bl false, V.bl false]) = H4 at s4 g4
    refine ⟨l0, l1, _, _, rfl, rfl, SqL.of (s4 _ _ g3), SqL.of g4, (by show 5 ≤ sizeLine; decide), fun l2 hl2 => ?_⟩
    have s5 := (Same.refl H4).upd_free (o := .lst ([V.bl false, V.bl false, V.bl false] ++ [V.bl false, V.bl false])) hl2
    have g5 : upd H4 l2 (.lst ([V.bl false, V.bl false, V.bl false] ++ [V.bl false, V.bl false])) l2 = some (.lst ([V.bl false, V.bl false, V.bl false] ++ [V.bl false, V.bl false])) := upd_same
    generalize upd H4 l2 (.lst ([V.bl false, V.bl false, V.bl false] ++ [V.bl false, V.bl false])) = H5 at s5 g5
    have t5 := s3.trans (s4.trans s5)
    refine ⟨(by show 1 ≤ sizeLine; decide), fun lx hlx => ?_⟩
    have sx := (Same.refl H5).upd_free (o := .lst [V.bl false]) hlx
    have gx : upd H5 lx (.lst [V.bl false]) lx = some (.lst [V.bl false]) := upd_same
    generalize upd H5 lx (.lst [V.bl false]) = Hx at sx gx
    refine ⟨lx, _, _, rfl, rfl, gx, by decide, by decide, (by show 5 ≤ sizeLine; decide), fun ly hly => ?_⟩
    have sy := (Same.refl Hx).upd_free (o := .lst (List.replicate (5 : Int).toNat [V.bl false]).flatten) hly
    have ds : ∀ {G : Hp}, DsAt K G (List.replicate 5 (V.bl false)) (List.replicate 5 (.bool false)) := .cons (.bl _) (.cons (.bl _) (.cons (.bl _) (.cons (.bl _) (.cons (.bl _) .nil))))
    have t6 := t5.trans (sx.trans sy)
    refine ⟨.list (List.replicate 5 (.bool false)), .list (List.replicate 5 (.bool false)), .lst (SqL.of ((sx.trans sy) _ _ g5)) ds, .lst (SqL.of upd_same) ds, falses 5, falses 5, false, ?_, iteF ?_⟩
    · rw [SeqAt.eqv_refl _ (falses 5).1]
      rfl
    have g3 := t6 _ _ g2
    have d3 := t6 _ _ d2
    generalize upd Hx ly (.lst (List.replicate (5 : Int).toNat [V.bl false]).flatten) = H6 at t6 g3 d3
    refine ⟨_, rfl, a, CO, d, _, .int (i : Int), rfl, g3, d3, rfl, N.getF, _, _, _, true, rfl, .int _, rfl, true, rfl, iteT ?_⟩
    refine ⟨_, rfl, a, CO, d, _, .int (i : Int), rfl, g3, d3, rfl, N.getF, _, _, _, false, rfl, .int _, rfl, _, rfl, true, rfl, iteT ?_⟩
    refine ⟨_, rfl, a, CO, d, _, .int (i : Int), rfl, g3, d3, rfl, N.getF, _, rfl, rfl, ?_⟩
    show Q (V.bl (decide (V.int (i : Int) = V.int (i : Int)))) H6
    rw [decide_eq_true rfl]
    exact k _ ((s1.trans s2).trans t6)
theorem scPp : FnScope ["_law_piece_here", "_law_sort_here"] ["_law_piece_here"] (defScope sPp) := ⟨rfl, rfl, rfl, by decide +kernel, rfl, by decide +kernel, by decide +kernel⟩
theorem ok_pp {f fS : Addr} {fd dS : FuncData} (F : Fun K "_law_part" "_law_part" sPp f fd)
    (FS : Fun K "_law_sort" "_law_sort" sLs fS dS) (bS : Binds K dS ["_law_text"] []) (gS : mg "_law_sort" = some (.ref fS)) (GS : FnOk P w K mg base CX0 4 fS dS ["_law_text"] spSo) : FnOk P w K mg base CX0 5 f fd ["_law_piece_here"] spPp := by
  refine F.ok scPp (fun vs H Q E h => ?_) (fun cdv A outer s H vs Q E hr h => ?_)
  · obtain ⟨z, rfl, _⟩ := h
    rfl
  · obtain ⟨z, rfl, tz, k⟩ := h
    refine ⟨_, pss_cons (ps_for PassesOwn.never rfl (pi_list (pe_lst (pa_cons pe_str (pa_cons pe_str (pa_cons pe_str (pa_cons pe_str pa_nil)))))) (pg_name (i := 1) scPp.nd rfl (Or.inl rfl))
        (pss_one (ps_if (pt_cmpR op_eq (pv 0) (pe_op op_add_str (pe_op op_add_str pe_str (pv 1)) pe_str) (nomark _)) (pss_one (ps_ret (pe_tup (pa_cons pe_str (pa_cons (pv 1) pa_nil))))) pss_nil)))
      (pss_cons (ps_if (pt_cmp (pc_isN (pe_call GS hr rfl gS FS.kp bS .nil pass0 (pa_cons (pv 0) pa_nil)))) (pss_one (ps_ret pe_non)) pss_nil)
      (pss_one (ps_ret (pe_tup (pa_cons pe_str (pa_cons (pv 0) pa_nil)))))), ?_⟩
    refine ⟨(by show 4 ≤ sizeLine; decide), fun l hl => ?_⟩
    have s1 := (Same.refl H).upd_free (o := .lst [V.str (Str.ofString "number"), .str (Str.ofString "name"), .str (Str.ofString "list"), .str (Str.ofString "mark")]) hl
    have g1 : upd H l (.lst [V.str (Str.ofString "number"), .str (Str.ofString "name"), .str (Str.ofString "list"), .str (Str.ofString "mark")]) l = some (.lst [V.str (Str.ofString "number"), .str (Str.ofString "name"), .str (Str.ofString "list"), .str (Str.ofString "mark")]) := upd_same
    generalize upd H l (.lst [V.str (Str.ofString "number"), .str (Str.ofString "name"), .str (Str.ofString "list"), .str (Str.ofString "mark")]) = H1 at s1 g1
    refine ⟨l, rfl, ⟨_, SqL.of g1⟩, ?_⟩
    refine for_list (K := K) (a := l) (xs := [V.str (Str.ofString "number"), .str (Str.ofString "name"), .str (Str.ofString "list"), .str (Str.ofString "mark")]) (fun i σ H3 => (∃ v, σ = [some (.str z), v]) ∧ Same H1 H3 ∧ sortsL.find? (fun o => decide (V.str z = V.str (gapT o.str))) = (sortsL.drop i).find? (fun o => decide (V.str z = V.str (gapT o.str)))) ⟨⟨none, rfl⟩, Same.refl _, rfl⟩ (fun i σ H3 _ h => SqL.of (h.2.1 _ _ g1)) ?_ ?_
    · rintro i x σ H3 hx ⟨⟨v, rfl⟩, s3, er⟩
      have row : ∃ o : So, x = V.str o.str ∧ sortsL.drop i = o :: sortsL.drop (i + 1) := by
        rcases i with _ | _ | _ | _ | i
        · cases hx
          exact ⟨.num, rfl, rfl⟩
        · cases hx
          exact ⟨.nam, rfl, rfl⟩
        · cases hx
          exact ⟨.lis, rfl, rfl⟩
        · cases hx
          exact ⟨.mar, rfl, rfl⟩
        · cases hx
      obtain ⟨o, rfl, hd⟩ := row
      rw [hd, List.find?_cons] at er
      have h1 := (so_tx o).1
      have big : 1000 ≤ sizeLine := by decide
      refine ⟨_, rfl, _, rfl, _, _, rfl, rfl, (by show 1 + o.str.length ≤ sizeLine; omega), _, _, rfl, rfl, (by rw [Str.length_append]; show 1 + o.str.length + 1 ≤ sizeLine; omega), rfl, _, rfl, ?_⟩
      change if decide (V.str z = V.str (gapT o.str)) = true then _ else _
      cases hz : decide (V.str z = V.str (gapT o.str)) with
      | true =>
        rw [hz] at er
        refine iteT ⟨_, rfl, (by show 2 ≤ sizeLine; decide), fun q hq => ?_⟩
        refine k (.ref q) _ (s1.trans (s3.trans ((Same.refl H3).upd_free hq))) ?_
        rw [part_gap er]
        exact ⟨q, rfl, upd_same⟩
      | false =>
        rw [hz] at er
        exact iteF ⟨⟨_, rfl⟩, s3, er⟩
    · rintro σ H3 ⟨⟨v, rfl⟩, s3, er⟩
      have er' : (sortsL.find? fun o => decide (V.str z = V.str (gapT o.str))) = none := er
      refine ⟨_, rfl, z, rfl, tz, fun H4 s4 => ⟨_, rfl, ?_⟩⟩
      have t4 := s1.trans (s3.trans s4)
      cases es : sortM z with
      | none =>
        refine iteTK rfl (k .non H4 t4 ?_)
        unfold partM
        rw [es]
        show PoAt H4 .non (Option.map _ (sortsL.find? fun o => decide (V.str z = V.str (gapT o.str))))
        rw [er']
        rfl
      | some o =>
        refine iteFK (by show decide (V.str o.str = V.non) = false; exact decide_eq_false (fun z => by cases z)) ?_
        refine ⟨_, rfl, (by show 2 ≤ sizeLine; decide), fun q hq => ?_⟩
        refine k (.ref q) _ (t4.trans ((Same.refl H4).upd_free hq)) ?_
        unfold partM
        rw [es]
        exact ⟨q, rfl, upd_same⟩
theorem scAk : FnScope ["_law_found", "_law_due", "_law_one", "_law_other"] ["_law_found", "_law_due"] (defScope sAk) := ⟨rfl, rfl, rfl, by decide +kernel, rfl, by decide +kernel, by decide +kernel⟩
theorem ok_ak {f : Addr} {fd : FuncData} (F : Fun K "_law_alike" "_law_alike" sAk f fd) (T : T1 mg) (tup : mg "tuple" = none) : FnOk P w K mg base CX0 1 f fd ["_law_found", "_law_due"] spAk := by
  refine F.ok scAk (fun vs H Q E h => ?_) (fun cdv A outer s H vs Q E hr h => ?_)
  · obtain ⟨p, l, us, ws, ps, rfl, _⟩ := h
    rfl
  · obtain ⟨p, l, us, ws, ps, rfl, hp, hP, hl, hW, h100, hT, k⟩ := h
    have hu : _ + 64 < cLine := hr.units
    refine ⟨_, pss_cons (ps_if (PW.pt (pw_or (pt_not (pt_val (pe_callB call_isinst (by rfl) T.isin PyProof.Rows.boot_isinstance (pa_cons (pv 0) (pa_cons (pe_bltn (v := .ty "tuple") (by rfl) tup PyProof.Rows.boot_tuple rfl) pa_nil)))))
          (pw_or1 (pt_cmpR op_ne (pe_callB call_len_seq (by rfl) T.len PySem.boot_len (pa_cons (pv 0) pa_nil)) (pe_callB call_len_seq (by rfl) T.len PySem.boot_len (pa_cons (pv 1) pa_nil)) (nomark _))))) (pss_one (ps_ret pe_bl)) pss_nil)
      (pss_cons (ps_for PassesOwn.never rfl (pi_zipg true false rfl T.zip (pa_cons (pv 0) (pa_cons (pv 1) pa_nil))) (pg_tup (n := 2) rfl (pgs_cons (pg_name (i := 2) scAk.nd rfl (Or.inl rfl)) (pgs_cons (pg_name (i := 3) scAk.nd rfl (Or.inl rfl)) pgs_nil)))
        (pss_one (ps_if (PW.pt (pw_or (pt_not (pt_val (pe_callB call_isinst (by rfl) T.isin PyProof.Rows.boot_isinstance (pa_cons (pv 2) (pa_cons (pe_bltn (v := .ty "tuple") (by rfl) tup PyProof.Rows.boot_tuple rfl) pa_nil)))))
          (pw_or (pt_cmpR op_ne (pe_callB call_len_seq (by rfl) T.len PySem.boot_len (pa_cons (pv 2) pa_nil)) pe_int (nomark _)) (pw_or1 (pt_cmpR (op_neD hu) (pv 2) (pv 3) (nomark _)))))) (pss_one (ps_ret pe_bl)) pss_nil)))
      (pss_one (ps_ret pe_bl))), ?_⟩
    have e1 : us.length = ws.length := by rw [hP.1, hW.1]
    refine ⟨_, rfl, _, _, _, true, rfl, .tup hp, rfl, true, rfl, iteF ⟨_, rfl, p, _, rfl, .inr (SqT.of hp), _, rfl, l, _, rfl, .inl (SqL.of hl), rfl, false, (by rw [e1, decide_eq_true rfl]; rfl), iteF ?_⟩⟩
    refine ⟨_, rfl, _, rfl, p, l, rfl, ⟨_, SqT.of hp⟩, ⟨_, SqL.of hl⟩, ?_⟩
    refine for_zipg (K := K) (t := true) (u := false) (a := p) (b := l) (xs := us) (ys := ws) e1 (fun i σ H' => (∃ v2 v3, σ = [some (.ref p), some (.ref l), v2, v3]) ∧ Same H H') ⟨⟨none, none, rfl⟩, Same.refl H⟩ (fun i σ H' _ h => ⟨SqT.of (h.2 _ _ hp), SqL.of (h.2 _ _ hl)⟩) ?_ ?_
    · rintro i x y σ H4 c hx hy ⟨⟨v2, v3, rfl⟩, s4⟩ hc
      have hi : i < ps.length := by rw [← hP.1]; exact (List.getElem?_eq_some_iff.mp hx).1
      have ep : ps[i]? = some ps[i] := List.getElem?_eq_getElem hi
      obtain ⟨q1, a1, b1⟩ := hP.2 i _ ep
      obtain ⟨q2, a2, b2⟩ := hW.2 i _ ep
      rw [hx] at a1
      rw [hy] at a2
      cases a1
      cases a2
      have tx := hT _ (List.getElem_mem hi)
      generalize ps[i] = pp at b1 b2 tx
      have s5 := (Same.refl H4).upd_free (o := .tup [V.ref q1, V.ref q2]) hc
      have t5 := s4.trans s5
      refine ⟨c, _, rfl, SqT.of upd_same, rfl, _, _, rfl, _, _, rfl, rfl, ?_⟩
      have c1 := t5 _ _ b1
      have c2 := t5 _ _ b2
      generalize upd H4 c (.tup [V.ref q1, V.ref q2]) = H5 at s5 t5 c1 c2
      have okp : DOk (dPt pp) := ⟨pt_lay tx, by rw [pt_depth]; decide⟩
      refine ⟨_, rfl, _, _, _, true, rfl, .tup c1, rfl, true, rfl, iteF ?_⟩
      refine ⟨_, rfl, q1, _, rfl, .inr (SqT.of c1), rfl, false, rfl, iteF ?_⟩
      refine ⟨_, rfl, _, rfl, dPt pp, dPt pp, pt_at c1, pt_at c2, okp, okp, false, ?_, iteF ⟨⟨_, _, rfl⟩, t5⟩⟩
      rw [show (if true = true then !PyData.eqv (dPt pp) (dPt pp) else _) = false from by rw [if_pos rfl, SeqAt.eqv_refl _ okp.1]; rfl]
    · rintro σ H4 ⟨⟨v2, v3, rfl⟩, s4⟩
      exact k H4 s4
end
end SL
namespace SL
open PySem L2
theorem pcs_at (i : Int) (h0 : 0 ≤ i) (h1 : i < 20) : ∃ y, Tn 70 y ∧ atI ([V.str (Str.ofString "<number>"), V.str (Str.ofString "<name>"), V.str (Str.ofString "<list>"), V.str (Str.ofString "<mark>"), V.str (Str.ofString "<Number>"), V.str (Str.ofString "<word>"), V.str (Str.ofString "<gap>"), V.str (Str.ofString "<number"), V.str (Str.ofString "name>"), V.str (Str.ofString "<>")] ++ [V.str (Str.ofString ""), V.str (Str.ofString "<none>"), V.str (Str.ofString "[<number>]"), V.str (Str.ofString "<list>>"), V.str (Str.ofString "<<mark>"), V.str (Str.ofString "\"mark\""), V.str (Str.ofString "<mark>\n"), V.str (Str.ofString "[a,b"), V.str (Str.ofString "number"), V.str (Str.ofString "<a>")]) i = some (V.str y) := by
  have h : i = ((0 : Nat) : Int) ∨ i = ((1 : Nat) : Int) ∨ i = ((2 : Nat) : Int) ∨ i = ((3 : Nat) : Int) ∨ i = ((4 : Nat) : Int) ∨ i = ((5 : Nat) : Int) ∨ i = ((6 : Nat) : Int) ∨ i = ((7 : Nat) : Int) ∨ i = ((8 : Nat) : Int) ∨ i = ((9 : Nat) : Int) ∨ i = ((10 : Nat) : Int) ∨ i = ((11 : Nat) : Int) ∨ i = ((12 : Nat) : Int) ∨ i = ((13 : Nat) : Int) ∨ i = ((14 : Nat) : Int) ∨ i = ((15 : Nat) : Int) ∨ i = ((16 : Nat) : Int) ∨ i = ((17 : Nat) : Int) ∨ i = ((18 : Nat) : Int) ∨ i = ((19 : Nat) : Int) := by omega
  rcases h with h | h | h | h | h | h | h | h | h | h | h | h | h | h | h | h | h | h | h | h
  · exact ⟨Str.ofString "<number>", txK (by decide +kernel), by rw [h]; exact atI_nat (j := 0) rfl⟩
  · exact ⟨Str.ofString "<name>", txK (by decide +kernel), by rw [h]; exact atI_nat (j := 1) rfl⟩
  · exact ⟨Str.ofString "<list>", txK (by decide +kernel), by rw [h]; exact atI_nat (j := 2) rfl⟩
  · exact ⟨Str.ofString "<mark>", txK (by decide +kernel), by rw [h]; exact atI_nat (j := 3) rfl⟩
  · exact ⟨Str.ofString "<Number>", txK (by decide +kernel), by rw [h]; exact atI_nat (j := 4) rfl⟩
  · exact ⟨Str.ofString "<word>", txK (by decide +kernel), by rw [h]; exact atI_nat (j := 5) rfl⟩
  · exact ⟨Str.ofString "<gap>", txK (by decide +kernel), by rw [h]; exact atI_nat (j := 6) rfl⟩
  · exact ⟨Str.ofString "<number", txK (by decide +kernel), by rw [h]; exact atI_nat (j := 7) rfl⟩
  · exact ⟨Str.ofString "name>", txK (by decide +kernel), by rw [h]; exact atI_nat (j := 8) rfl⟩
  · exact ⟨Str.ofString "<>", txK (by decide +kernel), by rw [h]; exact atI_nat (j := 9) rfl⟩
  · exact ⟨Str.ofString "", txK (by decide +kernel), by rw [h]; exact atI_nat (j := 10) rfl⟩
  · exact ⟨Str.ofString "<none>", txK (by decide +kernel), by rw [h]; exact atI_nat (j := 11) rfl⟩
  · exact ⟨Str.ofString "[<number>]", txK (by decide +kernel), by rw [h]; exact atI_nat (j := 12) rfl⟩
  · exact ⟨Str.ofString "<list>>", txK (by decide +kernel), by rw [h]; exact atI_nat (j := 13) rfl⟩
  · exact ⟨Str.ofString "<<mark>", txK (by decide +kernel), by rw [h]; exact atI_nat (j := 14) rfl⟩
  · exact ⟨Str.ofString "\"mark\"", txK (by decide +kernel), by rw [h]; exact atI_nat (j := 15) rfl⟩
  · exact ⟨Str.ofString "<mark>\n", txK (by decide +kernel), by rw [h]; exact atI_nat (j := 16) rfl⟩
  · exact ⟨Str.ofString "[a,b", txK (by decide +kernel), by rw [h]; exact atI_nat (j := 17) rfl⟩
  · exact ⟨Str.ofString "number", txK (by decide +kernel), by rw [h]; exact atI_nat (j := 18) rfl⟩
  · exact ⟨Str.ofString "<a>", txK (by decide +kernel), by rw [h]; exact atI_nat (j := 19) rfl⟩
section
variable {P : Program} {w : World} {K : PySem.W.Frag} {mg : Str → Option Value} {base : Heap}
theorem scPi : FnScope ["_law_cell", "_law_some"] ["_law_cell"] (defScope sPi) := ⟨rfl, rfl, rfl, by decide +kernel, rfl, by decide +kernel, by decide +kernel⟩
theorem ok_pi {f fW : Addr} {fd fdW : FuncData} (F : Fun K "_law_piece" "_law_piece" sPi f fd)
    (FW : Fun K "_law_word" "_law_word" sWo fW fdW) (bW : Binds K fdW ["_law_cell"] []) (gW : mg "_law_word" = some (.ref fW)) (GW : FnOk P w K mg base CX0 4 fW fdW ["_law_cell"] (spWx Wd)) : FnOk P w K mg base CX0 5 f fd ["_law_cell"] (spWx (Tn 70)) := by
  refine F.ok scPi (fun vs H Q E h => ?_) (fun cdv A outer s H vs Q E hr h => ?_)
  · obtain ⟨c, rfl, _⟩ := h
    rfl
  · obtain ⟨c, rfl, k⟩ := h
    refine ⟨_, pss_cons (ps_set (i := 1) scPi.nd rfl (Or.inl rfl) (pe_lst (pa_cons pe_str (pa_cons pe_str (pa_cons pe_str (pa_cons pe_str (pa_cons pe_str (pa_cons pe_str (pa_cons pe_str (pa_cons pe_str (pa_cons pe_str (pa_cons pe_str pa_nil))))))))))))
      (pss_cons (ps_set (i := 1) scPi.nd rfl (Or.inl rfl) (pe_op op_catL (pv 1) (pe_lst (pa_cons pe_str (pa_cons pe_str (pa_cons pe_str (pa_cons pe_str (pa_cons pe_str (pa_cons pe_str (pa_cons pe_str (pa_cons pe_str (pa_cons pe_str (pa_cons pe_str pa_nil)))))))))))))
      (pss_cons (ps_if (pt_cmpR op_eq (pe_op op_mod (pv 0) pe_int) pe_int (nomark _)) (pss_one (ps_ret (pe_call GW hr rfl gW FW.kp bW .nil pass0 (pa_cons (pe_op op_fdiv (pv 0) pe_int) pa_nil)))) pss_nil)
      (pss_one (ps_ret (pe_ix ix_list (pv 1) (pe_op op_mod (pe_op op_fdiv (pv 0) pe_int) pe_int) (fun _ _ => rfl)))))), ?_⟩
    refine ⟨(by show 10 ≤ sizeLine; decide), fun l hl => ?_⟩
    have s1 := (Same.refl H).upd_free (o := .lst [V.str (Str.ofString "<number>"), V.str (Str.ofString "<name>"), V.str (Str.ofString "<list>"), V.str (Str.ofString "<mark>"), V.str (Str.ofString "<Number>"), V.str (Str.ofString "<word>"), V.str (Str.ofString "<gap>"), V.str (Str.ofString "<number"), V.str (Str.ofString "name>"), V.str (Str.ofString "<>")]) hl
    have g1 : upd H l (.lst [V.str (Str.ofString "<number>"), V.str (Str.ofString "<name>"), V.str (Str.ofString "<list>"), V.str (Str.ofString "<mark>"), V.str (Str.ofString "<Number>"), V.str (Str.ofString "<word>"), V.str (Str.ofString "<gap>"), V.str (Str.ofString "<number"), V.str (Str.ofString "name>"), V.str (Str.ofString "<>")]) l = some (.lst [V.str (Str.ofString "<number>"), V.str (Str.ofString "<name>"), V.str (Str.ofString "<list>"), V.str (Str.ofString "<mark>"), V.str (Str.ofString "<Number>"), V.str (Str.ofString "<word>"), V.str (Str.ofString "<gap>"), V.str (Str.ofString "<number"), V.str (Str.ofString "name>"), V.str (Str.ofString "<>")]) := upd_same
    refine ⟨_, rfl, (by show 10 ≤ sizeLine; decide), fun l2 hl2 => ?_⟩
    have hl2' : upd H l (.lst [V.str (Str.ofString "<number>"), V.str (Str.ofString "<name>"), V.str (Str.ofString "<list>"), V.str (Str.ofString "<mark>"), V.str (Str.ofString "<Number>"), V.str (Str.ofString "<word>"), V.str (Str.ofString "<gap>"), V.str (Str.ofString "<number"), V.str (Str.ofString "name>"), V.str (Str.ofString "<>")]) l2 = none := hl2
    have s2 := (Same.refl (upd H l (.lst [V.str (Str.ofString "<number>"), V.str (Str.ofString "<name>"), V.str (Str.ofString "<list>"), V.str (Str.ofString "<mark>"), V.str (Str.ofString "<Number>"), V.str (Str.ofString "<word>"), V.str (Str.ofString "<gap>"), V.str (Str.ofString "<number"), V.str (Str.ofString "name>"), V.str (Str.ofString "<>")]))).upd_free (o := .lst [V.str (Str.ofString ""), V.str (Str.ofString "<none>"), V.str (Str.ofString "[<number>]"), V.str (Str.ofString "<list>>"), V.str (Str.ofString "<<mark>"), V.str (Str.ofString "\"mark\""), V.str (Str.ofString "<mark>\n"), V.str (Str.ofString "[a,b"), V.str (Str.ofString "number"), V.str (Str.ofString "<a>")]) hl2'
    refine ⟨l, l2, _, _, rfl, rfl, SqL.of (s2 _ _ g1), SqL.of upd_same, (by show 20 ≤ sizeLine; decide), fun l3 hl3 => ?_⟩
    have s3 := (Same.refl (upd (upd H l (.lst [V.str (Str.ofString "<number>"), V.str (Str.ofString "<name>"), V.str (Str.ofString "<list>"), V.str (Str.ofString "<mark>"), V.str (Str.ofString "<Number>"), V.str (Str.ofString "<word>"), V.str (Str.ofString "<gap>"), V.str (Str.ofString "<number"), V.str (Str.ofString "name>"), V.str (Str.ofString "<>")])) l2 (.lst [V.str (Str.ofString ""), V.str (Str.ofString "<none>"), V.str (Str.ofString "[<number>]"), V.str (Str.ofString "<list>>"), V.str (Str.ofString "<<mark>"), V.str (Str.ofString "\"mark\""), V.str (Str.ofString "<mark>\n"), V.str (Str.ofString "[a,b"), V.str (Str.ofString "number"), V.str (Str.ofString "<a>")]))).upd_free (o := .lst ([V.str (Str.ofString "<number>"), V.str (Str.ofString "<name>"), V.str (Str.ofString "<list>"), V.str (Str.ofString "<mark>"), V.str (Str.ofString "<Number>"), V.str (Str.ofString "<word>"), V.str (Str.ofString "<gap>"), V.str (Str.ofString "<number"), V.str (Str.ofString "name>"), V.str (Str.ofString "<>")] ++ [V.str (Str.ofString ""), V.str (Str.ofString "<none>"), V.str (Str.ofString "[<number>]"), V.str (Str.ofString "<list>>"), V.str (Str.ofString "<<mark>"), V.str (Str.ofString "\"mark\""), V.str (Str.ofString "<mark>\n"), V.str (Str.ofString "[a,b"), V.str (Str.ofString "number"), V.str (Str.ofString "<a>")])) hl3
    have t3 := s1.trans (s2.trans s3)
    refine ⟨_, rfl, _, _, rfl, rfl, (by show (0 : Int) < 3; decide), rfl, _, rfl, ?_⟩
    refine ifb ⟨_, rfl, _, _, rfl, rfl, ⟨by decide, by decide⟩, _, rfl, fun y H2 ty s4 => k y H2 (ty.tn.mono (by decide)) (t3.trans s4)⟩ ?_
    obtain ⟨y, ty, ex⟩ : ∃ y, Tn 70 y ∧ atI ([V.str (Str.ofString "<number>"), V.str (Str.ofString "<name>"), V.str (Str.ofString "<list>"), V.str (Str.ofString "<mark>"), V.str (Str.ofString "<Number>"), V.str (Str.ofString "<word>"), V.str (Str.ofString "<gap>"), V.str (Str.ofString "<number"), V.str (Str.ofString "name>"), V.str (Str.ofString "<>")] ++ [V.str (Str.ofString ""), V.str (Str.ofString "<none>"), V.str (Str.ofString "[<number>]"), V.str (Str.ofString "<list>>"), V.str (Str.ofString "<<mark>"), V.str (Str.ofString "\"mark\""), V.str (Str.ofString "<mark>\n"), V.str (Str.ofString "[a,b"), V.str (Str.ofString "number"), V.str (Str.ofString "<a>")]) (c / 3 % 20) = some (V.str y) := by
      have h0 : 0 ≤ c / 3 % 20 := by omega
      have h1 : c / 3 % 20 < 20 := by omega
      exact pcs_at _ h0 h1
    exact ⟨_, rfl, _, rfl, _, _, rfl, rfl, ⟨by decide, by decide⟩, _, _, rfl, rfl, (by show (0 : Int) < 20; decide), l3, _, _, _, rfl, rfl, SqL.of upd_same, ex, k y _ ty t3⟩
end
end SL
namespace SL
open PySem L2
def spCh : Sp := fun vs H Q _ => ∃ (l d : Addr) (L : List Str) (c0 c1 c2 c3 : Int), vs = [.ref l, .ref d] ∧ H l = some (.lst (L.map V.str)) ∧ 1 ≤ L.length ∧ L.length ≤ 8 ∧ (∀ y ∈ L, Tn 70 y) ∧ H d = some (.lst [.int c0, .int c1, .int c2, .int c3]) ∧ ∀ (p : Addr) (M : List Str) (H' : Hp), Same H H' → H' p = some (.lst (M.map V.str)) → 1 ≤ M.length → M.length ≤ 13 → (∀ y ∈ M, Tn 70 y) → Q (.ref p) H'
section
variable {P : Program} {w : World} {K : PySem.W.Frag} {mg : Str → Option Value} {base : Heap}
abbrev nCh : List Str := ["_law_pieces", "_law_cells", "_law_way", "_law_at", "_law_more"]
theorem scCh : FnScope nCh ["_law_pieces", "_law_cells"] (defScope sCh) := ⟨rfl, rfl, rfl, by decide +kernel, rfl, by decide +kernel, by decide +kernel⟩
def scopeCh : Scope := { kind := .function, names := [(".0", .local), ("_law_k", .local), ("_law_piece", .globalImplicit), ("_law_cells", .free)], isGenerator := false, isCoroutine := false, more := [] }
theorem scCh1 : BlkScope (defScope sCh) nCh ["_law_k"] ["_law_cells"] [1] scopeCh := ⟨rfl, by decide +kernel, by decide +kernel, by decide +kernel, rfl, by decide +kernel, by decide +kernel⟩
theorem mem3 {A B C : List Str} {n : Nat} (h1 : ∀ y ∈ A, Tn n y) (h2 : ∀ y ∈ B, Tn n y) (h3 : ∀ y ∈ C, Tn n y) : ∀ y ∈ A ++ B ++ C, Tn n y := fun y hy => by
  rcases List.mem_append.mp hy with hy | hy
  · rcases List.mem_append.mp hy with hy | hy
    · exact h1 y hy
    · exact h2 y hy
  · exact h3 y hy
theorem ok_ch {f fP : Addr} {fd dP : FuncData} (F : Fun K "_law_changed" "_law_changed" sCh f fd) (T : T1 mg) (max : mg "max" = none)
    (FP : Fun K "_law_piece" "_law_piece" sPi fP dP) (bP : Binds K dP ["_law_cell"] []) (gP : mg "_law_piece" = some (.ref fP)) (GP : FnOk P w K mg base CX0 5 fP dP ["_law_cell"] (spWx (Tn 70))) : FnOk P w K mg base CX0 6 f fd ["_law_pieces", "_law_cells"] spCh := by
  refine F.ok scCh (fun vs H Q E h => ?_) (fun cdv A outer s H vs Q E hr h => ?_)
  · obtain ⟨l, d, L, c0, c1, c2, c3, rfl, _⟩ := h
    rfl
  · obtain ⟨l, d, L, c0, c1, c2, c3, rfl, hl, L1, L8, hT, hd, k⟩ := h
    refine ⟨_, pss_cons (ps_set (i := 2) scCh.nd rfl (Or.inl rfl) (pe_op op_mod (pe_ix ix_list (pv 1) pe_int (fun _ _ => rfl)) pe_int))
      (pss_cons (ps_cut (ps_set (i := 3) scCh.nd rfl (Or.inl rfl) (pe_op op_mod (pe_op op_fdiv (pe_ix ix_list (pv 1) pe_int (fun _ _ => rfl)) pe_int) (pe_callB call_len_seq (by rfl) T.len PySem.boot_len (pa_cons (pv 0) pa_nil)))))
      (pss_cons (ps_if (pt_cmpR op_eq (pv 2) pe_int (nomark _)) (pss_one (ps_ret (pe_op op_catL (pe_op op_catL (pe_slice sl_list (pv 0) po_none (po_some (pv 3))) (pe_lst (pa_cons (pe_call GP hr rfl gP FP.kp bP .nil pass0 (pa_cons (pe_ix ix_list (pv 1) pe_int (fun _ _ => rfl)) pa_nil)) pa_nil))) (pe_slice sl_list (pv 0) (po_some (pe_op op_add (pv 3) pe_int)) po_none)))) pss_nil)
      (pss_cons (ps_if (pt_cmpR op_eq (pv 2) pe_int (nomark _)) (pss_one (ps_ret (pe_op op_catL (pe_op op_catL (pe_slice sl_list (pv 0) po_none (po_some (pv 3))) (pe_lst (pa_cons (pe_call GP hr rfl gP FP.kp bP .nil pass0 (pa_cons (pe_ix ix_list (pv 1) pe_int (fun _ _ => rfl)) pa_nil)) pa_nil))) (pe_slice sl_list (pv 0) (po_some (pv 3)) po_none)))) pss_nil)
      (pss_cons (ps_if (pt_cmpR op_eq (pv 2) pe_int (nomark _))
        (pss_cons (ps_setlc (i := 4) scCh1 rfl rfl rfl (pi_range1 rfl T.range (pa_cons (pe_op op_mod (pe_op op_fdiv (pe_ix ix_list (pv 1) pe_int (fun _ _ => rfl)) pe_int) pe_int) pa_nil)) (fun fp C s1 H1 => pg_name (i := 0) scCh1.nd rfl (Or.inl rfl)) (fun fp C s1 H1 => pts_nil) (fun fp C s1 H1 => pe_call GP hr rfl gP FP.kp bP .nil pass0 (pa_cons (pe_op op_fdiv (pe_ix (r := rIxL K) ix_list (pv 1) pe_int (fun _ _ => rfl)) (pe_op op_add (pv 0) pe_int)) pa_nil)) scCh.nd rfl rfl rfl)
        (pss_one (ps_ret (pe_op op_catL (pe_op op_catL (pv 0) (pv 4)) (pe_slice sl_list (pv 0) po_none (po_some (pe_callB (call_max2 rfl) (by rfl) max PyProof.Rows.boot_max (pa_cons pe_int (pa_cons (pe_op op_sub (pe_op op_sub pe_int (pe_callB call_len_seq (by rfl) T.len PySem.boot_len (pa_cons (pv 0) pa_nil))) (pe_callB call_len_seq (by rfl) T.len PySem.boot_len (pa_cons (pv 4) pa_nil))) pa_nil))))))))) pss_nil)
      (pss_one (ps_ret (pv 0))))))), ?_⟩
    have x0 : ∀ {H' : Hp}, Same H H' → SqL K H' d [.int c0, .int c1, .int c2, .int c3] := fun s' => SqL.of (s' _ _ hd)
    have i2 : atI [V.int c0, .int c1, .int c2, .int c3] 2 = some (.int c2) := atI_nat (j := 2) rfl
    have i3 : atI [V.int c0, .int c1, .int c2, .int c3] 3 = some (.int c3) := atI_nat (j := 3) rfl
    have r0 := Same.refl H
    have hlq : SqL K H l (L.map V.str) := SqL.of hl
    refine ⟨_, rfl, d, _, _, _, rfl, rfl, x0 r0, i2, _, _, rfl, rfl, (by show (0 : Int) < 4; decide), ?_⟩
    obtain ⟨at_, hat, hatl⟩ : ∃ at_ : Nat, c2 / 4 % (L.length : Int) = (at_ : Int) ∧ at_ < L.length := ⟨(c2 / 4 % (L.length : Int)).toNat, by have := Int.emod_nonneg (c2 / 4) (b := (L.length : Int)) (by omega); omega, by have := Int.emod_lt_of_pos (c2 / 4) (b := (L.length : Int)) (by omega); have := Int.emod_nonneg (c2 / 4) (b := (L.length : Int)) (by omega); omega⟩
    refine ⟨fun σ H' => σ = [some (.ref l), some (.ref d), some (.int (c2 % 4)), some (.int (at_ : Int)), none] ∧ H = H', ?_, ?_⟩
    · refine ⟨_, rfl, d, _, _, _, rfl, rfl, x0 r0, i2, _, _, rfl, rfl, ⟨by decide, by decide⟩, _, rfl, l, _, rfl, .inl hlq, _, _, rfl, rfl, (by rw [List.length_map]; omega), ?_, rfl⟩
      rw [List.length_map, ← hat]
      rfl
    rintro σ H' ⟨rfl, rfl⟩
    have lt1 : (L.take at_).length ≤ 8 := by rw [List.length_take]; omega
    -- the front, one piece, the rest
    have three : ∀ (y : Str) (R : List Str) (H1 : Hp) (q1 q2 : Addr), True := fun _ _ _ _ _ => trivial
    refine ⟨_, rfl, rfl, _, rfl, ?_⟩
    refine ifb ?_ ?_
    · refine ⟨_, rfl, _, rfl, _, rfl, l, _, rfl, hlq, fun q1 hq1 => ?_⟩
      rw [cut_toW]
      have u1 := (Same.refl H).upd_free (o := .lst ((L.map V.str).take at_)) hq1
      have f1 : upd H q1 (.lst ((L.map V.str).take at_)) q1 = some (.lst ((L.take at_).map V.str)) := by rw [upd_same, List.map_take]
      generalize upd H q1 (.lst ((L.map V.str).take at_)) = G1 at u1 f1
      refine ⟨_, rfl, d, _, _, _, rfl, rfl, x0 u1, i3, _, rfl, fun y G2 ty u2 => ?_⟩
      refine ⟨(by show 1 ≤ sizeLine; decide), fun q2 hq2 => ?_⟩
      have u3 := (Same.refl G2).upd_free (o := .lst [V.str y]) hq2
      have f3 : upd G2 q2 (.lst [V.str y]) q2 = some (.lst ([y].map V.str)) := upd_same
      generalize upd G2 q2 (.lst [V.str y]) = G3 at u3 f3
      refine ⟨q1, q2, _, _, rfl, rfl, SqL.of ((u2.trans u3) _ _ f1), SqL.of f3, Nat.le_of_lt (small1000 (by rw [List.length_map, List.length_map]; show (L.take at_).length + 1 ≤ 1000; omega)), fun q3 hq3 => ?_⟩
      have u4 := (Same.refl G3).upd_free (o := .lst ((L.take at_).map V.str ++ [y].map V.str)) hq3
      have f4 : upd G3 q3 (.lst ((L.take at_).map V.str ++ [y].map V.str)) q3 = some (.lst ((L.take at_ ++ [y]).map V.str)) := by rw [upd_same, List.map_append]
      generalize upd G3 q3 (.lst ((L.take at_).map V.str ++ [y].map V.str)) = G4 at u4 f4
      have v4 := u1.trans (u2.trans (u3.trans u4))
      refine ⟨_, rfl, _, rfl, _, _, rfl, rfl, _, rfl, l, _, rfl, SqL.of (v4 _ _ hl), fun q4 hq4 => ?_⟩
      have ec : cutV (L.map V.str) (some ((at_ : Int) + 1)) none = (L.drop (at_ + 1)).map V.str := by
        rw [show (at_ : Int) + 1 = ((at_ + 1 : Nat) : Int) from by omega, cut_fromW, List.map_drop]
      rw [ec]
      have u5 := (Same.refl G4).upd_free (o := .lst ((L.drop (at_ + 1)).map V.str)) hq4
      have f5 : upd G4 q4 (.lst ((L.drop (at_ + 1)).map V.str)) q4 = some (.lst ((L.drop (at_ + 1)).map V.str)) := upd_same
      generalize upd G4 q4 (.lst ((L.drop (at_ + 1)).map V.str)) = G5 at u5 f5
      have l2 : (L.drop (at_ + 1)).length ≤ 8 := by rw [List.length_drop]; omega
      have l3 : (L.take at_ ++ [y]).length ≤ 9 := by rw [List.length_append, List.length_singleton]; omega
      refine ⟨q3, q4, _, _, rfl, rfl, SqL.of (u5 _ _ f4), SqL.of f5, Nat.le_of_lt (small1000 (by rw [List.length_map, List.length_map]; omega)), fun q5 hq5 => ?_⟩
      refine k q5 (L.take at_ ++ [y] ++ L.drop (at_ + 1)) _ (v4.trans (u5.trans ((Same.refl G5).upd_free hq5))) (by rw [upd_same, List.map_append (l₁ := L.take at_ ++ [y])]) (by rw [List.length_append, List.length_append, List.length_singleton]; omega) (by rw [List.length_append, List.length_append, List.length_take, List.length_drop, List.length_singleton]; omega) (mem3 (fun z hz => hT z (List.mem_of_mem_take hz)) (fun z hz => by rw [List.mem_singleton.mp hz]; exact ty) (fun z hz => hT z (List.mem_of_mem_drop hz)))
    refine ⟨_, rfl, rfl, _, rfl, ?_⟩
    refine ifb ?_ ?_
    · refine ⟨_, rfl, _, rfl, _, rfl, l, _, rfl, hlq, fun q1 hq1 => ?_⟩
      rw [cut_toW]
      have u1 := (Same.refl H).upd_free (o := .lst ((L.map V.str).take at_)) hq1
      have f1 : upd H q1 (.lst ((L.map V.str).take at_)) q1 = some (.lst ((L.take at_).map V.str)) := by rw [upd_same, List.map_take]
      generalize upd H q1 (.lst ((L.map V.str).take at_)) = G1 at u1 f1
      refine ⟨_, rfl, d, _, _, _, rfl, rfl, x0 u1, i3, _, rfl, fun y G2 ty u2 => ?_⟩
      refine ⟨(by show 1 ≤ sizeLine; decide), fun q2 hq2 => ?_⟩
      have u3 := (Same.refl G2).upd_free (o := .lst [V.str y]) hq2
      have f3 : upd G2 q2 (.lst [V.str y]) q2 = some (.lst ([y].map V.str)) := upd_same
      generalize upd G2 q2 (.lst [V.str y]) = G3 at u3 f3
      refine ⟨q1, q2, _, _, rfl, rfl, SqL.of ((u2.trans u3) _ _ f1), SqL.of f3, Nat.le_of_lt (small1000 (by rw [List.length_map, List.length_map]; show (L.take at_).length + 1 ≤ 1000; omega)), fun q3 hq3 => ?_⟩
      have u4 := (Same.refl G3).upd_free (o := .lst ((L.take at_).map V.str ++ [y].map V.str)) hq3
      have f4 : upd G3 q3 (.lst ((L.take at_).map V.str ++ [y].map V.str)) q3 = some (.lst ((L.take at_ ++ [y]).map V.str)) := by rw [upd_same, List.map_append]
      generalize upd G3 q3 (.lst ((L.take at_).map V.str ++ [y].map V.str)) = G4 at u4 f4
      have v4 := u1.trans (u2.trans (u3.trans u4))
      refine ⟨_, rfl, _, rfl, _, rfl, l, _, rfl, SqL.of (v4 _ _ hl), fun q4 hq4 => ?_⟩
      have ec : cutV (L.map V.str) (some (at_ : Int)) none = (L.drop at_).map V.str := by
        rw [cut_fromW, List.map_drop]
      rw [ec]
      have u5 := (Same.refl G4).upd_free (o := .lst ((L.drop at_).map V.str)) hq4
      have f5 : upd G4 q4 (.lst ((L.drop at_).map V.str)) q4 = some (.lst ((L.drop at_).map V.str)) := upd_same
      generalize upd G4 q4 (.lst ((L.drop at_).map V.str)) = G5 at u5 f5
      have l2 : (L.drop at_).length ≤ 8 := by rw [List.length_drop]; omega
      have l3 : (L.take at_ ++ [y]).length ≤ 9 := by rw [List.length_append, List.length_singleton]; omega
      refine ⟨q3, q4, _, _, rfl, rfl, SqL.of (u5 _ _ f4), SqL.of f5, Nat.le_of_lt (small1000 (by rw [List.length_map, List.length_map]; omega)), fun q5 hq5 => ?_⟩
      refine k q5 (L.take at_ ++ [y] ++ L.drop at_) _ (v4.trans (u5.trans ((Same.refl G5).upd_free hq5))) (by rw [upd_same, List.map_append (l₁ := L.take at_ ++ [y])]) (by rw [List.length_append, List.length_append, List.length_singleton]; omega) (by rw [List.length_append, List.length_append, List.length_take, List.length_drop, List.length_singleton]; omega) (mem3 (fun z hz => hT z (List.mem_of_mem_take hz)) (fun z hz => by rw [List.mem_singleton.mp hz]; exact ty) (fun z hz => hT z (List.mem_of_mem_drop hz)))
    refine ⟨_, rfl, rfl, _, rfl, ?_⟩
    refine ifb ?_ ⟨_, rfl, k l L H r0 hl L1 (by omega) hT⟩
    refine ⟨_, rfl, d, _, _, _, rfl, rfl, x0 r0, i2, _, _, rfl, rfl, ⟨by decide, by decide⟩, _, _, rfl, rfl, (by show (0 : Int) < 4; decide), _, rfl, by omega, by omega, fun D hD => ?_⟩
    refine lc_range (n := (c2 / 32 % 4).toNat) (fun j ys H3 => Same H H3 ∧ H3 D = some (.lst ys) ∧ ∃ zs : List Str, ys = zs.map V.str ∧ zs.length = j ∧ ∀ x ∈ zs, Tn 70 x) (Nat.le_of_lt (small1000 (by omega)))
      ⟨(Same.refl H).upd_free hD, upd_same, [], rfl, rfl, fun x hx => by simp at hx⟩ (fun j ys H3 h => by obtain ⟨_, _, zs, rfl, h, _⟩ := h; rw [List.length_map]; exact Nat.le_of_eq h) ?_ ?_
    · rintro j ys H3 N M hj ⟨u1, u2, zs, rfl, hlen, hin⟩ hN hM
      refine ⟨_, rfl, d, _, _, _, rfl, rfl, x0 u1, i3, _, rfl, _, _, rfl, rfl, _, _, rfl, rfl, ⟨by omega, by omega⟩, _, rfl, fun y H4 ty s4 => hN _ H4 (s4 _ _ u2) ⟨(u1.trans s4).upd_free hD, upd_same, zs ++ [y], by rw [List.map_append]; rfl, by rw [List.length_append, List.length_singleton]; omega, fun x hx => ?_⟩⟩
      rcases List.mem_append.mp hx with hx | hx
      · exact hin x hx
      · rw [List.mem_singleton] at hx
        rw [hx]
        exact ty
    rintro ys H1 ⟨s1, hD1, zs, rfl, hzl, hzT⟩
    have hz3 : zs.length ≤ 3 := by omega
    refine ⟨_, rfl, _, rfl, l, D, _, _, rfl, rfl, SqL.of (s1 _ _ hl), SqL.of hD1, Nat.le_of_lt (small1000 (by rw [List.length_map, List.length_map]; omega)), fun q1 hq1 => ?_⟩
    have u1 := (Same.refl H1).upd_free (o := .lst (L.map V.str ++ zs.map V.str)) hq1
    have f1 : upd H1 q1 (.lst (L.map V.str ++ zs.map V.str)) q1 = some (.lst ((L ++ zs).map V.str)) := by rw [upd_same, List.map_append]
    generalize upd H1 q1 (.lst (L.map V.str ++ zs.map V.str)) = G1 at u1 f1
    have v1 := s1.trans u1
    refine ⟨_, rfl, _, rfl, l, _, rfl, .inl (SqL.of (v1 _ _ hl)), _, _, rfl, rfl, _, rfl, D, _, rfl, .inl (SqL.of (u1 _ _ hD1)), _, _, rfl, rfl, _, _, rfl, _, rfl, l, _, rfl, SqL.of (v1 _ _ hl), fun q2 hq2 => ?_⟩
    obtain ⟨j, hj, hjl⟩ : ∃ j : Nat, (if (10 : Int) - ((L.map V.str).length : Int) - ((zs.map V.str).length : Int) > 0 then (10 : Int) - ((L.map V.str).length : Int) - ((zs.map V.str).length : Int) else 0) = (j : Int) ∧ (j ≤ 10 - L.length - zs.length) := by
      rw [List.length_map, List.length_map]
      split
      · exact ⟨((10 : Int) - (L.length : Int) - (zs.length : Int)).toNat, by omega, by omega⟩
      · exact ⟨0, rfl, Nat.zero_le _⟩
    rw [hj, cut_toW]
    have u2 := (Same.refl G1).upd_free (o := .lst ((L.map V.str).take j)) hq2
    have f2 : upd G1 q2 (.lst ((L.map V.str).take j)) q2 = some (.lst ((L.take j).map V.str)) := by rw [upd_same, List.map_take]
    generalize upd G1 q2 (.lst ((L.map V.str).take j)) = G2 at u2 f2
    have lj : (L.take j).length ≤ j := by rw [List.length_take]; exact Nat.min_le_left _ _
    have lz : (L ++ zs).length = L.length + zs.length := List.length_append
    refine ⟨q1, q2, _, _, rfl, rfl, SqL.of (u2 _ _ f1), SqL.of f2, Nat.le_of_lt (small1000 (by rw [List.length_map, List.length_map]; omega)), fun q3 hq3 => ?_⟩
    refine k q3 (L ++ zs ++ L.take j) _ (v1.trans (u2.trans ((Same.refl G2).upd_free hq3))) (by rw [upd_same, List.map_append (l₁ := L ++ zs)]) (by rw [List.length_append]; omega) (by rw [List.length_append]; omega) (mem3 hT hzT (fun z hz => hT z (List.mem_of_mem_take hz)))
end
end SL
namespace SL
open PySem L2
theorem ints_atW {K : PySem.W.Frag} {H : Hp} : ∀ ns : List Nat, DsAt K H (ns.map fun (i : Nat) => V.int (i : Int)) (ns.map fun (i : Nat) => PyData.int (i : Int))
  | [] => .nil
  | n :: ns => .cons (.int n) (ints_atW ns)
theorem ints_layW : ∀ ns : List Nat, PyData.canLayAll0 (ns.map fun (i : Nat) => PyData.int (i : Int)) = true
  | [] => rfl
  | n :: ns => by
    rw [List.map_cons, PyData.canLayAll0, ints_layW ns]
    rfl
theorem ints_depthW : ∀ ns : List Nat, PyData.depthAll (ns.map fun (i : Nat) => PyData.int (i : Int)) = 0
  | [] => rfl
  | n :: ns => by
    rw [List.map_cons, PyData.depthAll, ints_depthW ns]
    rfl
theorem ints_okW (ns : List Nat) : DOk (.list (ns.map fun (i : Nat) => PyData.int (i : Int))) := ⟨ints_layW ns, by rw [PyData.depth, ints_depthW]; decide⟩
def noAt (os : List (Option Pt)) (i : Nat) : Bool := (os[i]?).any Option.isNone
def faultsO (os : List (Option Pt)) : List Nat := (List.range os.length).filter (noAt os)
theorem formBad_head (os : List (Option Pt)) : formBad os = (faultsO os ++ if os.length > 8 then [8] else []).head? := by
  unfold formBad
  cases hb : noM os with
  | none =>
    have h0 : faultsO os = [] := by
      unfold faultsO
      rw [List.filter_eq_nil_iff]
      intro i hi
      rw [List.mem_range] at hi
      have q := List.findIdx?_eq_none_iff.mp hb os[i] (List.getElem_mem hi)
      unfold noAt
      rw [List.getElem?_eq_getElem hi]
      show ¬ os[i].isNone = true
      simp only [q]
      decide
    rw [h0, List.nil_append]
    show (if os.length > 8 then some 8 else none) = _
    by_cases h8 : os.length > 8
    · rw [if_pos h8, if_pos h8]; rfl
    · rw [if_neg h8, if_neg h8]; rfl
  | some i =>
    obtain ⟨hi, hp, hj⟩ := List.findIdx?_eq_some_iff_getElem.mp hb
    have h1 : (faultsO os).head? = some i := by
      unfold faultsO
      rw [List.head?_filter, List.find?_range_eq_some]
      refine ⟨by unfold noAt; rw [List.getElem?_eq_getElem hi]; exact hp, List.mem_range.mpr hi, fun j hlt => ?_⟩
      unfold noAt
      rw [List.getElem?_eq_getElem (by omega)]
      have := hj j hlt
      show (!(os[j]'(by omega)).isNone) = true
      cases e : (os[j]'(by omega)).isNone with
      | false => rfl
      | true => exact absurd e this
    show some i = _
    rw [List.head?_append, h1]
    rfl
theorem pieces_joinN {L : List Str} {n : Nat} (h0 : L ≠ []) (h : ∀ y ∈ L, Tn n y) : piecesM (Str.join (Str.ofString " ") L) = L := by
  unfold piecesM
  rw [show Str.ofString " " = (⟨#[32]⟩ : Str) from rfl, split_spl _ (by decide)]
  exact spl_join (c := 32) L [] h0 fun y hy x hx => ((h y hy).2 x hx).2
def spLaw (K : PySem.W.Frag) : Sp := fun vs H Q _ => ∃ (a : Addr) (ns : List Int), vs = [.ref a] ∧ SqL K H a (ns.map V.int) ∧ ns.length ≤ 63 ∧ ∀ H', Q (.bl true) H'
section
variable {P : Program} {w : World} {K : PySem.W.Frag} {mg : Str → Option Value} {base : Heap} {CO : Addr}
theorem scXo : FnScope ["self", "at"] ["self", "at"] (defScope sXo) := ⟨rfl, rfl, rfl, by decide +kernel, rfl, by decide +kernel, by decide +kernel⟩
theorem ok_xo {f : Addr} {fd : FuncData} (F : Fun K "__init__" "NoForm.__init__" sXo f fd) (hS : excSet K CO "at" = true) : FnOk P w K mg base CX0 1 f fd ["self", "at"] (spNi CO) := by
  refine F.ok scXo (fun vs H Q E h => ?_) (fun cdv A outer s H vs Q E hr h => ?_)
  · obtain ⟨a, x, rfl, _⟩ := h
    rfl
  · obtain ⟨a, x, rfl, ha, k⟩ := h
    exact ⟨_, pss_one (ps_xfld (pv 0) (pv 1) rfl), _, rfl, _, rfl, a, CO, rfl, ha, hS, fun d hd hn => k d hd hn⟩
abbrev nLaw : List Str := ["_law_script", "_law_k", "_law_cells", "_law_form_here", "_law_pieces", "_law_kind", "_law_thing", "_law_text", "_law_due", "_law_faults"]
theorem scLaw : FnScope nLaw ["_law_script"] (defScope sLaw) := ⟨rfl, rfl, rfl, by decide +kernel, rfl, by decide +kernel, by decide +kernel⟩
def scopeL1 : Scope := { kind := .function, names := [(".0", .local), ("_law_j", .local), ("_law_cell_at", .globalImplicit), ("_law_k", .free), ("_law_script", .free)], isGenerator := false, isCoroutine := false, more := [] }
theorem scL1 : BlkScope (defScope sLaw) nLaw ["_law_j"] ["_law_k", "_law_script"] [1, 0] scopeL1 := ⟨rfl, by decide +kernel, by decide +kernel, by decide +kernel, rfl, by decide +kernel, by decide +kernel⟩
def scopeL2 : Scope := { kind := .function, names := [(".0", .local), ("_law_piece_here", .local), ("_law_part", .globalImplicit)], isGenerator := false, isCoroutine := false, more := [] }
theorem scL2 : BlkScope (defScope sLaw) nLaw ["_law_piece_here"] [] [] scopeL2 := ⟨rfl, by decide +kernel, by decide +kernel, by decide +kernel, rfl, by decide +kernel, by decide +kernel⟩
def scopeL3 : Scope := { kind := .function, names := [(".0", .local), ("_law_at", .local), ("_law_due", .free)], isGenerator := false, isCoroutine := false, more := [] }
theorem scL3 : BlkScope (defScope sLaw) nLaw ["_law_at"] ["_law_due"] [8] scopeL3 := ⟨rfl, by decide +kernel, by decide +kernel, by decide +kernel, rfl, by decide +kernel, by decide +kernel⟩
theorem ok_law {f fC fR fO fP fF fA fH fS fD : Addr} {fd dC dR dO dP dF dA dH dS dD : FuncData} (F : Fun K "law" "law" sLaw f fd) (T : T1 mg) (tup : mg "tuple" = none) (max : mg "max" = none) (min : mg "min" = none)
    (FC : Fun K "_law_cell_at" "_law_cell_at" sCe fC dC) (bC : Binds K dC ["_law_script", "_law_k"] []) (gC : mg "_law_cell_at" = some (.ref fC))
    (FR : Fun K "_law_row" "_law_row" sRw fR dR) (bR : Binds K dR ["_law_cell", "_law_many"] []) (gR : mg "_law_row" = some (.ref fR)) (GR : FnOk P w K mg base CX0 5 fR dR ["_law_cell", "_law_many"] spRwW)
    (FO : Fun K "_law_form" "_law_form" sFo fO dO) (bO : Binds K dO ["_law_row_here", "_law_bits"] []) (gO : mg "_law_form" = some (.ref fO)) (GO : FnOk P w K mg base CX0 5 fO dO ["_law_row_here", "_law_bits"] spFoW)
    (FP : Fun K "_law_part" "_law_part" sPp fP dP) (bP : Binds K dP ["_law_piece_here"] []) (gP : mg "_law_part" = some (.ref fP)) (GP : FnOk P w K mg base CX0 5 fP dP ["_law_piece_here"] spPp)
    (FF : Fun K "_law_refused" "_law_refused" sRf fF dF) (bF : Binds K dF ["_law_text", "_law_at"] []) (gF : mg "_law_refused" = some (.ref fF)) (GF : FnOk P w K mg base CX0 8 fF dF ["_law_text", "_law_at"] spRf)
    (FA : Fun K "_law_alike" "_law_alike" sAk fA dA) (bA : Binds K dA ["_law_found", "_law_due"] []) (gA : mg "_law_alike" = some (.ref fA)) (GA : FnOk P w K mg base CX0 1 fA dA ["_law_found", "_law_due"] spAk)
    (FH : Fun K "_law_changed" "_law_changed" sCh fH dH) (bH : Binds K dH ["_law_pieces", "_law_cells"] []) (gH : mg "_law_changed" = some (.ref fH)) (GH : FnOk P w K mg base CX0 6 fH dH ["_law_pieces", "_law_cells"] spCh)
    (FS : Fun K "shown_form" "shown_form" sSf fS dS) (bS : Binds K dS ["form"] []) (gS : mg "shown_form" = some (.ref fS)) (GS : FnOk P w K mg base CX0 2 fS dS ["form"] spSf)
    (FD : Fun K "read_form" "read_form" sRd fD dD) (bD : Binds K dD ["text"] []) (gD : mg "read_form" = some (.ref fD)) (GD : FnOk P w K mg base (CX1 P w) 7 fD dD ["text"] (spRd CO)) :
    FnOk P w K mg base CX0 9 f fd ["_law_script"] (spLaw K) := by
  have GC : FnOk P w K mg base CX0 1 fC dC ["_law_script", "_law_k"] (spCe K) := ok_ce FC T
  have GD0 := GD.calm1
  refine F.ok scLaw (fun vs H Q E h => ?_) (fun cdv A outer s H vs Q E hr h => ?_)
  · obtain ⟨a, ns, rfl, _⟩ := h
    rfl
  · obtain ⟨a, ns, rfl, hS, hlen, k⟩ := h
    have hr1 : Room 1 _ := hr.mono (by decide)
    have hr2 : Room 2 _ := hr.mono (by decide)
    have hr5 : Room 5 _ := hr.mono (by decide)
    have hr6 : Room 6 _ := hr.mono (by decide)
    have hr7 : Room 7 _ := hr.mono (by decide)
    have hu : _ + 64 < cLine := hr.units
    refine ⟨_, pss_cons (ps_for PassesOwn.never rfl (pi_rangeS rfl T.range (pa_cons pe_int (pa_cons (pe_callB (call_max2 rfl) (by rfl) max PyProof.Rows.boot_max (pa_cons pe_int (pa_cons (pe_callB (call_min2 rfl) (by rfl) min PyProof.Rows.boot_min (pa_cons (pe_callB call_len_seq (by rfl) T.len PySem.boot_len (pa_cons (pv 0) pa_nil)) (pa_cons pe_int pa_nil))) pa_nil))) (pa_cons pe_int pa_nil)))) (pg_name (i := 1) scLaw.nd rfl (Or.inr rfl))
        (pss_cons (ps_setlc (i := 2) scL1 rfl rfl rfl (pi_range1 rfl T.range (pa_cons pe_int pa_nil)) (fun fp C s1 H1 => pg_name (i := 0) scL1.nd rfl (Or.inl rfl)) (fun fp C s1 H1 => pts_nil) (fun fp C s1 H1 => pe_call GC hr1 rfl gC FC.kp bC .nil pass0 (pa_cons (pv 2) (pa_cons (pe_op op_add (pv 1) (pv 0)) pa_nil))) scLaw.nd rfl rfl rfl)
        (pss_cons (ps_set (i := 3) scLaw.nd rfl (Or.inl rfl) (pe_call GO hr5 rfl gO FO.kp bO .nil pass0 (pa_cons (pe_call GR hr5 rfl gR FR.kp bR .nil pass0 (pa_cons (pe_ix ix_list (pv 2) pe_int (fun _ _ => rfl)) (pa_cons (pe_op op_add pe_int (pe_op op_mod (pe_ix ix_list (pv 2) pe_int (fun _ _ => rfl)) pe_int)) pa_nil))) (pa_cons (pe_op op_mod (pe_op op_fdiv (pe_ix ix_list (pv 2) pe_int (fun _ _ => rfl)) pe_int) pe_int) pa_nil))))
        (pss_cons (ps_set (i := 4) scLaw.nd rfl (Or.inl rfl) (pe_lst pa_nil))
        (pss_cons (ps_for PassesOwn.never rfl (pi_list (pv 3)) (pg_tup (n := 2) rfl (pgs_cons (pg_name (i := 5) scLaw.nd rfl (Or.inl rfl)) (pgs_cons (pg_name (i := 6) scLaw.nd rfl (Or.inl rfl)) pgs_nil)))
          (pss_cons (ps_cut (ps_if (pt_cmpR op_eq (pv 5) pe_str (nomark _)) (pss_one (ps_set (i := 6) scLaw.nd rfl (Or.inl rfl) (pe_op op_add_str (pe_op op_add_str pe_str (pv 6)) pe_str))) pss_nil))
          (pss_one (ps_expr (pe_bm PySem.F.plainAttrs_list PySem.F.slot_list_append PySem.F.type_list_append mt_append (pv 4) (pa_cons (pv 6) pa_nil))))))
        (pss_cons (ps_set (i := 7) scLaw.nd rfl (Or.inl rfl) (pe_call GS hr2 rfl gS FS.kp bS .nil pass0 (pa_cons (pe_callTy call_tuple_of (by rfl) tup PyProof.Rows.boot_tuple (pa_cons (pv 3) pa_nil)) pa_nil)))
        (pss_cons (ps_if (PW.pt (pw_or (pt_not (pt_val (pe_callB call_isinst (by rfl) T.isin PyProof.Rows.boot_isinstance (pa_cons (pv 7) (pa_cons (pe_bltn (v := .ty "str") (by rfl) T.str PyProof.Rows.boot_str rfl) pa_nil)))))
            (pw_or (pt_cmpR op_ne (pv 7) (pe_bm PySem.F.plainAttrs_str PySem.F.slot_str_join PySem.F.type_str_join mt_join pe_str (pa_cons (pv 4) pa_nil)) (nomark _)) (pw_or1 (pt_not (pt_val (pe_call GA hr1 rfl gA FA.kp bA .nil pass0 (pa_cons (pe_call GD0 hr7 rfl gD FD.kp bD .nil pass0 (pa_cons (pv 7) pa_nil)) (pa_cons (pv 3) pa_nil))))))))) (pss_one (ps_ret pe_bl)) pss_nil)
        (pss_cons (ps_set (i := 4) scLaw.nd rfl (Or.inl rfl) (pe_call GH hr6 rfl gH FH.kp bH .nil pass0 (pa_cons (pv 4) (pa_cons (pv 2) pa_nil))))
        (pss_cons (ps_set (i := 8) scLaw.nd rfl (Or.inr rfl) (pe_lc scL2 rfl rfl rfl (pi_list (pv 4)) (fun fp C s1 H1 => pg_name (i := 0) scL2.nd rfl (Or.inl rfl)) (fun fp C s1 H1 => pts_nil) (fun fp C s1 H1 => pe_call GP hr5 rfl gP FP.kp bP .nil pass0 (pa_cons (pv 0) pa_nil))))
        (pss_cons (ps_setlc (i := 9) scL3 rfl rfl rfl (pi_range1 rfl T.range (pa_cons (pe_callB call_len_seq (by rfl) T.len PySem.boot_len (pa_cons (pv 8) pa_nil)) pa_nil)) (fun fp C s1 H1 => pg_name (i := 0) scL3.nd rfl (Or.inl rfl)) (fun fp C s1 H1 => pts_one (pt_cmp (pc_isN (pe_ix (r := rIxL K) ix_list (pv 1) (pv 0) (fun _ _ => rfl))))) (fun fp C s1 H1 => pv 0) scLaw.nd rfl rfl rfl)
        (pss_cons (ps_cut (ps_if (pt_cmpR op_gt (pe_callB call_len_seq (by rfl) T.len PySem.boot_len (pa_cons (pv 8) pa_nil)) pe_int (nomark _)) (pss_one (ps_expr (pe_bm PySem.F.plainAttrs_list PySem.F.slot_list_append PySem.F.type_list_append mt_append (pv 9) (pa_cons pe_int pa_nil)))) pss_nil))
        (pss_one (ps_if (pt_cmpR (op_neD hu) (pv 9) (pe_lst pa_nil) (nomark _))
          (pss_one (ps_if (pt_not (pt_val (pe_call GF hr rfl gF FF.kp bF .nil pass0 (pa_cons (pe_bm PySem.F.plainAttrs_str PySem.F.slot_str_join PySem.F.type_str_join mt_join pe_str (pa_cons (pv 4) pa_nil)) (pa_cons (pe_ix ix_list (pv 9) pe_int (fun _ _ => rfl)) pa_nil))))) (pss_one (ps_ret pe_bl)) pss_nil))
          (pss_one (ps_if (pt_not (pt_val (pe_call GA hr1 rfl gA FA.kp bA .nil pass0 (pa_cons (pe_call GD0 hr7 rfl gD FD.kp bD .nil pass0 (pa_cons (pe_bm PySem.F.plainAttrs_str PySem.F.slot_str_join PySem.F.type_str_join mt_join pe_str (pa_cons (pv 4) pa_nil)) pa_nil)) (pa_cons (pv 8) pa_nil))))) (pss_one (ps_ret pe_bl)) pss_nil)))))))))))))))
      (pss_one (ps_ret pe_bl)), ?_⟩
    have mx : ∃ m : Int, (if (if (60 : Int) < ((ns.map V.int).length : Int) then (60 : Int) else ((ns.map V.int).length : Int)) > 1 then (if (60 : Int) < ((ns.map V.int).length : Int) then (60 : Int) else ((ns.map V.int).length : Int)) else 1) = m ∧ 0 ≤ m ∧ m ≤ 63 := by
      refine ⟨_, rfl, ?_, ?_⟩
      · split <;> split <;> omega
      · rw [List.length_map]
        split <;> split <;> omega
    obtain ⟨m, hm, m0, m63⟩ := mx
    have jn : ∀ (M : List Str), (∀ y ∈ M, Tx 70 y) → M.length ≤ 13 → (M.map (·.length)).sum + M.length * (Str.ofString " ").length ≤ 16777216 := fun M h h13 => by
      have e1 : (Str.ofString " ").length = 1 := by decide +kernel
      have := sum_le h
      rw [e1]
      omega
    refine ⟨_, rfl, a, _, rfl, .inl hS, _, _, rfl, _, _, rfl, _, _, _, rfl, by decide, by decide, ⟨by decide, by decide, by rw [hm]; omega, by rw [hm]; omega⟩, ?_⟩
    rw [hm]
    refine for_step (lo := 0) (c := 4) (n := stepN 0 m 4) (fun i σ H' => ∃ v1 v2 v3 v4 v5 v6 v7 v8 v9, σ = [some (.ref a), v1, v2, v3, v4, v5, v6, v7, v8, v9] ∧ Same H H') ⟨none, none, none, none, none, none, none, none, none, rfl, Same.refl H⟩ ?_ ?_
    · rintro i σ H1 hi ⟨v1, v2, v3, v4, v5, v6, v7, v8, v9, rfl, s1⟩
      refine ⟨_, rfl, by decide, by decide, fun D hD => ?_⟩
      refine lc_range (n := 4) (fun j ys H3 => Same H1 H3 ∧ H3 D = some (.lst ys) ∧ ∃ cs : List Int, ys = cs.map V.int ∧ cs.length = j) (by decide) ⟨(Same.refl H1).upd_free hD, upd_same, [], rfl, rfl⟩ (fun j ys H3 h => by obtain ⟨_, _, zs, rfl, h⟩ := h; rw [List.length_map]; exact Nat.le_of_eq h) ?_ ?_
      · rintro j ys H3 N M hj ⟨u1, u2, cs, rfl, hcs⟩ hN hM
        refine ⟨_, rfl, _, rfl, _, rfl, _, _, rfl, rfl, a, ns, _, rfl, (s1.trans u1).seq hS, by omega, by omega, fun z H4 s4 => hN _ H4 (s4 _ _ u2) ⟨(u1.trans s4).upd_free hD, upd_same, cs ++ [z], by rw [List.map_append]; rfl, by rw [List.length_append, List.length_singleton, hcs]⟩⟩
      rintro ys H2 ⟨s2, hD2, cs, rfl, hcs⟩
      obtain ⟨c0, c1, c2, c3, rfl⟩ : ∃ c0 c1 c2 c3, cs = [c0, c1, c2, c3] := by
        rcases cs with _ | ⟨c0, _ | ⟨c1, _ | ⟨c2, _ | ⟨c3, _ | ⟨c4, cs⟩⟩⟩⟩⟩ <;> simp at hcs
        exact ⟨_, _, _, _, rfl⟩
      have x0 : ∀ {H' : Hp}, Same H2 H' → SqL K H' D [.int c0, .int c1, .int c2, .int c3] := fun s' => SqL.of (s' _ _ hD2)
      have i0 : atI [V.int c0, .int c1, .int c2, .int c3] 0 = some (.int c0) := atI_nat (j := 0) rfl
      have i1 : atI [V.int c0, .int c1, .int c2, .int c3] 1 = some (.int c1) := atI_nat (j := 1) rfl
      obtain ⟨mm, hmm, mm1, mm8⟩ : ∃ m : Nat, 1 + c0 % 8 = (m : Int) ∧ 1 ≤ m ∧ m ≤ 8 := ⟨(1 + c0 % 8).toNat, by omega, by omega, by omega⟩
      have r2 := Same.refl H2
      refine ⟨_, rfl, D, _, _, _, rfl, rfl, x0 r2, i1, _, rfl, D, _, _, _, rfl, rfl, x0 r2, i0, _, _, rfl, rfl, (by show (0 : Int) < 8; decide), _, _, rfl, rfl, ?_⟩
      refine ⟨c1, mm, (by rw [← hmm]; rfl), by omega, fun pr L H3 s3 n3 g3 hL hT => ?_⟩
      refine ⟨_, rfl, D, _, _, _, rfl, rfl, x0 s3, i0, _, _, rfl, rfl, ⟨by decide, by decide⟩, _, _, rfl, rfl, (by show (0 : Int) < 256; decide), pr, L, _, rfl, g3, by omega, hT, fun pf us ps H4 s4 n4 g4 hP hfit hok => ?_⟩
      have hpl : ps.length = L.length := by
        have : ∀ (ps : List Pt) (r : List Str), fitsP ps r → ps.length = r.length := by
          intro ps
          induction ps with
          | nil => intro r h; cases r with
            | nil => rfl
            | cons z r => cases h
          | cons p ps ih => intro r h; cases r with
            | nil => cases h
            | cons z r => rw [List.length_cons, List.length_cons, ih r h.2]
        exact this ps L hfit
      have hul : us.length = ps.length := hP.1
      have p8 : ps.length ≤ 8 := by omega
      have p1 : 1 ≤ ps.length := by omega
      have t4 : Same H2 H4 := s3.trans s4
      refine ⟨Nat.zero_le _, fun pl hplN => ?_⟩
      have s5 := (Same.refl H4).upd_free (o := .lst []) hplN
      refine ⟨_, rfl, pf, rfl, ⟨_, SqL.of (s5 _ _ g4)⟩, ?_⟩
      refine for_list (K := K) (a := pf) (xs := us) (fun j σ H' => (∃ v5 v6, σ = [some (.ref a), some (.int (0 + (i : Int) * 4)), some (.ref D), some (.ref pf), some (.ref pl), v5, v6, v7, v8, v9]) ∧ Same H4 H' ∧ H' pl = some (.lst (((ps.take j).map shownP).map V.str))) ⟨⟨_, _, rfl⟩, s5, upd_same⟩ (fun j σ H' _ h => SqL.of (h.2.1 _ _ g4)) ?_ ?_
      · rintro j x σ H6 hx ⟨⟨w5, w6, rfl⟩, s6, g6⟩
        have hj : j < ps.length := by rw [← hul]; exact (List.getElem?_eq_some_iff.mp hx).1
        have epj : ps[j]? = some ps[j] := List.getElem?_eq_getElem hj
        obtain ⟨q, q1, q2⟩ := hP.2 j _ epj
        rw [hx] at q1
        cases q1
        have pk := hok _ (List.getElem_mem hj)
        have tk : ps.take (j + 1) = ps.take j ++ [ps[j]] := by rw [List.take_add_one, epj]; rfl
        rw [tk, List.map_append, List.map_append]
        generalize ps[j] = p at q2 pk
        refine ⟨q, _, rfl, SqT.of (s6 _ _ q2), rfl, _, _, rfl, _, _, rfl, rfl, ?_⟩
        refine ⟨fun σ H' => (∃ v5, σ = [some (.ref a), some (.int (0 + (i : Int) * 4)), some (.ref D), some (.ref pf), some (.ref pl), v5, some (.str (shownP p)), v7, v8, v9]) ∧ H6 = H', ?_, ?_⟩
        · refine ⟨_, rfl, rfl, _, rfl, ?_⟩
          cases p with
          | gap o =>
            obtain ⟨so, rfl⟩ := pk
            have h1 := (so_tx so).1
            have big : 1000 ≤ sizeLine := by decide
            refine iteTK (gap_str _) ⟨_, rfl, _, _, rfl, rfl, (by show 1 + so.str.length ≤ sizeLine; omega), _, _, rfl, rfl, (by rw [Str.length_append]; show 1 + so.str.length + 1 ≤ sizeLine; omega), ⟨_, rfl⟩, rfl⟩
          | word z => exact iteFK (gap_str _) ⟨⟨_, rfl⟩, rfl⟩
        rintro σ H6' ⟨⟨w5', rfl⟩, rfl⟩
        exact ⟨_, rfl, .inl ⟨rfl, _, SqL.of g6⟩, _, rfl, pl, _, _, rfl, rfl, g6, small1000 (by rw [List.length_map, List.length_map, List.length_take]; omega), ⟨_, _, rfl⟩, s6.upd_free hplN, by rw [upd_same]; rfl⟩
      rintro σ H6 ⟨⟨w5, w6, rfl⟩, s6, g6⟩
      rw [hul, List.take_of_length_le (Nat.le_refl _)] at g6
      have hP6 := hP.tsame s6.tups
      have g46 := s6 _ _ g4
      refine ⟨_, rfl, pf, _, rfl, .inl ⟨SqL.of g46, fun ta hta => ?_⟩⟩
      have s7 := (Same.refl H6).upd_free (o := .tup us) hta
      have e7 : upd H6 ta (.tup us) ta = some (.tup us) := upd_same
      generalize upd H6 ta (.tup us) = H7 at s7 e7
      refine ⟨ta, us, ps, rfl, e7, hP6.tsame s7.tups, by omega, hok, fun H8 s8 => ?_⟩
      have t8 : Same H6 H8 := s7.trans s8
      have hx : ∀ z ∈ ps.map shownP, Tx 70 z := fun z hz => by
        obtain ⟨p, hp, rfl⟩ := List.mem_map.mp hz
        exact shown_tx (hok p hp)
      have hxn : ∀ z ∈ ps.map shownP, Tn 70 z := fun z hz => by
        obtain ⟨p, hp, rfl⟩ := List.mem_map.mp hz
        exact shown_tn (hok p hp)
      have hsl : (ps.map shownP).length = ps.length := List.length_map ..
      have hne : ps ≠ [] := fun e => by rw [e] at p1; exact absurd p1 (by decide)
      have tj := (join_tx (Str.ofString " ") tx_blank hx).mono (m := 1000) (by omega)
      have epc := pieces_shown hne hok
      have efb := formBad_none (ps := ps) p8
      refine ⟨_, rfl, _, _, _, true, rfl, .str _, rfl, true, rfl, iteF ?_⟩
      refine ⟨_, rfl, rfl, _, rfl, _, pl, ps.map shownP, rfl, rfl, SqL.of (t8 _ _ g6), jn _ hx (by omega), rfl, false, (by rw [decide_eq_true rfl]; rfl), iteF ?_⟩
      generalize Str.join (Str.ofString " ") (ps.map shownP) = z at tj epc
      rw [← epc] at efb
      refine ⟨_, rfl, z, rfl, tj, (fun i hi => by rw [efb] at hi; cases hi), fun _ b us' ps' H9 s9 e9 hb hF => ?_⟩
      rw [epc] at e9
      have e9' := some_inj e9
      subst e9'
      have t9 := t8.trans s9
      refine ⟨_, rfl, b, pf, us', us, ps, rfl, hb, hF, t9 _ _ g46, hP6.tsame t9.tups, by omega, ptok_pt hok, fun HA sA => ⟨true, rfl, iteF ?_⟩⟩
      have tA := t9.trans sA
      refine ⟨_, rfl, _, rfl, pl, D, ps.map shownP, c0, c1, c2, c3, rfl, tA _ _ g6, by omega, by omega, hxn, (t4.trans (s6.trans tA)) _ _ hD2, fun pm M HB sB gB M1 M13 hMT => ?_⟩
      have hMx : ∀ y ∈ M, Tx 70 y := fun y hy => (hMT y hy).tx
      refine ⟨_, rfl, pm, rfl, ⟨_, SqL.of gB⟩, fun D2 hD2N => ?_⟩
      refine lc_list (K := K) (a := pm) (xs := M.map V.str) (fun j ys HC => Same HB HC ∧ HC D2 = some (.lst ys) ∧ FqAt HC ys ((M.take j).map partM)) (Nat.le_of_lt (small1000 (by rw [List.length_map]; omega))) ⟨(Same.refl HB).upd_free hD2N, upd_same, FqAt.nil⟩ (fun j ys HC h => ?_) (fun j ys HC h => SqL.of (h.1 _ _ gB)) ?_ ?_
      · rw [h.2.2.1, List.length_map, List.length_take]
        exact Nat.min_le_left _ _
      · rintro j ys HC x N M' hx' ⟨u1, u2, u3⟩ hN hM
        rw [List.getElem?_map] at hx'
        cases e : M[j]? with
        | none => rw [e] at hx'; cases hx'
        | some y =>
          rw [e] at hx'
          cases hx'
          have tk : M.take (j + 1) = M.take j ++ [y] := by rw [List.take_add_one, e]; rfl
          refine ⟨_, rfl, y, rfl, (hMx y (List.mem_of_getElem? e)).mono (by decide), fun v HE sE hv => ?_⟩
          have ts : TSame HE (upd HE D2 (.lst (ys ++ [v]))) := TSame.upd_lst (fun _ _ e => e) (sE _ _ u2)
          refine hN v HE (sE _ _ u2) ⟨(u1.trans sE).upd_free hD2N, upd_same, ?_⟩
          rw [tk, List.map_append]
          exact ((u3.tsame sE.tups).snoc hv).tsame ts
      rintro ds HC ⟨sC, gC2, hFq⟩
      rw [List.length_map, List.take_of_length_le (Nat.le_refl _)] at hFq
      have hol : (M.map partM).length = M.length := List.length_map ..
      have hdl : ds.length = M.length := by rw [hFq.1, hol]
      refine ⟨_, rfl, D2, _, rfl, .inl (SqL.of gC2), _, rfl, by omega, by omega, fun D3 hD3N => ?_⟩
      rw [hdl, Int.toNat_natCast]
      refine lc_range (n := M.length) (fun j ys HE => Same HC HE ∧ HE D3 = some (.lst ys) ∧ ys = ((List.range j).filter (noAt (M.map partM))).map fun (i : Nat) => V.int (i : Int)) (Nat.le_of_lt (small1000 (by omega))) ⟨(Same.refl HC).upd_free hD3N, upd_same, rfl⟩ (fun j ys HE h => ?_) ?_ ?_
      · rw [h.2.2, List.length_map]
        refine Nat.le_trans (List.length_filter_le _ _) ?_
        rw [List.length_range]
        exact Nat.le_refl _
      · rintro j ys HE N M' hj ⟨u1, u2, rfl⟩ hN hM
        obtain ⟨o, ho⟩ : ∃ o, (M.map partM)[j]? = some o := ⟨(M.map partM)[j]'(by omega), List.getElem?_eq_getElem (by omega)⟩
        obtain ⟨v, hv1, hv2⟩ := hFq.2 j o ho
        have ev : atI ds (0 + (j : Int)) = some v := by rw [Int.zero_add]; exact atI_nat hv1
        have en : noAt (M.map partM) j = o.isNone := by unfold noAt; rw [ho]; rfl
        have ed : decide (v = V.non) = o.isNone := by
          cases o with
          | none => rw [show v = .non from hv2]; rfl
          | some p =>
            obtain ⟨q, e, _⟩ := hv2
            rw [e]
            exact decide_eq_false (fun z => by cases z)
        refine ⟨_, rfl, _, rfl, D2, _, _, _, rfl, rfl, SqL.of (u1 _ _ gC2), ev, _, rfl, ?_⟩
        rw [ed]
        cases hn : o.isNone with
        | true =>
          refine iteT ⟨_, rfl, hN _ HE u2 ⟨u1.upd_free hD3N, upd_same, ?_⟩⟩
          rw [List.range_succ, List.filter_append, List.map_append, List.filter_cons_of_pos (by rw [en, hn]), Int.zero_add]
          rfl
        | false =>
          refine iteF (hM HE ⟨u1, u2, ?_⟩)
          rw [List.range_succ, List.filter_append, List.filter_cons_of_neg (by rw [en, hn]; decide), List.filter_nil, List.append_nil]
      rintro ys HE ⟨sE, gE, rfl⟩
      rw [← hol] at gE
      change HE D3 = some (.lst ((faultsO (M.map partM)).map fun (i : Nat) => V.int (i : Int))) at gE
      have hfl : (faultsO (M.map partM)).length ≤ 13 := by
        unfold faultsO
        refine Nat.le_trans (List.length_filter_le _ _) ?_
        rw [List.length_range, hol]
        exact M13
      have rb := formBad_head (M.map partM)
      refine ⟨fun σ H' => (∃ v3 v5 v6 v7, σ = [some (.ref a), some (.int (0 + (i : Int) * 4)), some (.ref D), v3, some (.ref pm), v5, v6, v7, some (.ref D2), some (.ref D3)]) ∧ Same HC H' ∧ H' D3 = some (.lst ((faultsO (M.map partM) ++ if (M.map partM).length > 8 then [8] else []).map fun (i : Nat) => V.int (i : Int))), ?_, ?_⟩
      · refine ⟨_, rfl, D2, _, rfl, .inl (SqL.of (sE _ _ gC2)), _, _, rfl, rfl, _, rfl, ?_⟩
        by_cases h8 : (M.map partM).length > 8
        · refine iteTK (decide_eq_true (by rw [hdl]; omega)) ?_
          refine ⟨_, rfl, .inl ⟨rfl, _, SqL.of gE⟩, D3, _, _, rfl, rfl, gE, small1000 (by rw [List.length_map]; omega), ⟨_, _, _, _, rfl⟩, sE.upd_free hD3N, ?_⟩
          rw [upd_same, if_pos h8, List.map_append]
          rfl
        · refine iteFK (decide_eq_false (by rw [hdl]; omega)) ⟨⟨_, _, _, _, rfl⟩, sE, ?_⟩
          rw [if_neg h8, List.append_nil]
          exact gE
      rintro σ HF ⟨⟨w3, w5', w6', w7', rfl⟩, sF, gF3⟩
      generalize (faultsO (M.map partM) ++ if (M.map partM).length > 8 then [8] else []) = fl at rb gF3
      refine ⟨_, rfl, (by show 0 ≤ sizeLine; decide), fun e he => ?_⟩
      have sG := (Same.refl HF).upd_free (o := .lst []) he
      have gG : upd HF e (.lst []) e = some (.lst []) := upd_same
      generalize upd HF e (.lst []) = HG at sG gG
      have tG : Same HB HG := sC.trans (sF.trans sG)
      have gG3 := sG _ _ gF3
      have all : Same H HG := s1.trans (s2.trans (t4.trans (s6.trans (tA.trans (sB.trans tG)))))
      have tjM := (join_tx (Str.ofString " ") tx_blank hMx).mono (m := 1000) (by omega)
      have hMne : M ≠ [] := fun z => by rw [z] at M1; exact absurd M1 (by decide)
      have epM := pieces_joinN hMne hMT
      refine ⟨.list (fl.map fun (i : Nat) => PyData.int (i : Int)), .list [], .lst (SqL.of gG3) (ints_atW fl), .lst (SqL.of gG) .nil, ints_okW fl, ok0L, _, rfl, ?_⟩
      cases fl with
      | nil =>
        refine iteFK rfl ?_
        refine ⟨rfl, _, rfl, _, pm, M, rfl, rfl, SqL.of (tG _ _ gB), jn M hMx M13, ?_⟩
        generalize Str.join (Str.ofString " ") M = zz at tjM epM
        refine ⟨zz, rfl, tjM, (fun i hi => by rw [epM, rb] at hi; cases hi), fun _ b2 us2 ps2 HI sI eI hb2 hF2 => ?_⟩
        rw [epM] at eI
        have hFD : FpAt HI ds ps2 := ((hFq.fp eI).tsame (sF.trans (sG.trans sI)).tups)
        have h100 : ps2.length ≤ 100 := by
          have : (ps2.map some).length = M.length := by rw [← eI, hol]
          rw [List.length_map] at this
          omega
        have hT2 : ∀ q ∈ ps2, PtTx q := fun q hq => by
          have : some q ∈ M.map partM := by rw [eI]; exact List.mem_map_of_mem hq
          obtain ⟨y, hy, e⟩ := List.mem_map.mp this
          exact part_tx ((hMx y hy).mono (by decide)) q e
        exact ⟨_, rfl, b2, D2, us2, ds, ps2, rfl, hb2, hF2, (sF.trans (sG.trans sI)) _ _ gC2, hFD, h100, hT2, fun HJ sJ => ⟨true, rfl, iteF ⟨_, _, _, _, _, _, _, _, _, rfl, all.trans (sI.trans sJ)⟩⟩⟩
      | cons bq fl =>
        refine iteTK rfl ?_
        refine ⟨rfl, _, rfl, _, pm, M, rfl, rfl, SqL.of (tG _ _ gB), jn M hMx M13, ?_⟩
        exact ⟨_, rfl, D3, _, _, .int (bq : Int), rfl, rfl, SqL.of gG3, atI_nat (j := 0) rfl, _, bq, rfl, tjM, by rw [epM]; exact rb, fun HJ sJ => ⟨true, rfl, iteF ⟨_, _, _, _, _, _, _, _, _, rfl, all.trans sJ⟩⟩⟩
    · rintro σ H1 ⟨v1, v2, v3, v4, v5, v6, v7, v8, v9, rfl, s1⟩
      exact k H1
end
end SL
namespace SL
open PySem L2
abbrev Txt (mg : Str → Option Value) : Prop := T1 mg
section
variable {P : Program} {w : World} {K : PySem.W.Frag} {mg : Str → Option Value} {base : Heap} {XO XL X0 X1 X2 X3 X4 : Addr} {u8 : Value}
theorem ok_all {f fXo C0 CN CA CI CK fPt fPw fNt fNw fAt fAw fIt fIw fKt fKw fMo fIi fAl fSo fCe fOf fIn fIm fIl fLs fSi fNu fNa fMk fLi fWo fIg fSg fSf fPo fRd fRw fFo fPi fPp fAk fRf fCh : Addr} {fd dXo dPt dPw dNt dNw dAt dAw dIt dIw dKt dKw fdMo fdIi fdAl fdSo fdCe fdOf fdIn fdIm fdIl fdLs fdSi fdNu fdNa fdMk fdLi fdWo fdIg fdSg fdSf fdPo fdRd fdRw fdFo fdPi fdPp fdAk fdRf fdCh : FuncData} (F : Fun K "law" "law" sLaw f fd) (T : Txt mg) (TT : TS mg)
    (tup : mg "tuple" = none) (int : mg "int" = none) (max : mg "max" = none) (min : mg "min" = none) (g8 : mg "MOST_WORDS" = some u8) (r8 : RelV (.int 8) u8)
    (N : NmK K mg XO XL X0 X1 X2 X3 X4) (MXo : MkX K XO fXo) (FXo : Fun K "__init__" "NoForm.__init__" sXo fXo dXo) (bXo : Binds K dXo ["self", "at"] []) (hSo : excSet K XO "at" = true) (rzo : excRz K XO = true)
    (kP : Kd K mg "Sort" C0 fPt fPw dPt dPw) (FPt : Fun K "takes" "Sort.takes" sPt fPt dPt) (FPw : Fun K "word" "Sort.word" sPw fPw dPw)
    (kN : Kd K mg "Number" CN fNt fNw dNt dNw) (FNt : Fun K "takes" "Number.takes" sNt fNt dNt) (FNw : Fun K "word" "Number.word" sNw fNw dNw)
    (kA : Kd K mg "Name" CA fAt fAw dAt dAw) (FAt : Fun K "takes" "Name.takes" sAt fAt dAt) (FAw : Fun K "word" "Name.word" sAw fAw dAw)
    (kI : Kd K mg "Items" CI fIt fIw dIt dIw) (FIt : Fun K "takes" "Items.takes" sIt fIt dIt) (FIw : Fun K "word" "Items.word" sIw fIw dIw)
    (kK : Kd K mg "Mark" CK fKt fKw dKt dKw) (FKt : Fun K "takes" "Mark.takes" sKt fKt dKt) (FKw : Fun K "word" "Mark.word" sKw fKw dKw)
    (FMo : Fun K "made_of" "made_of" sMo fMo fdMo) (bMo : Binds K fdMo ["signs", "text"] []) (gMo : mg "made_of" = some (.ref fMo))
    (FIi : Fun K "is_item" "is_item" sIi fIi fdIi) (bIi : Binds K fdIi ["text"] []) (gIi : mg "is_item" = some (.ref fIi))
    (FAl : Fun K "all_sorts" "all_sorts" sAl fAl fdAl) (bAl : Binds K fdAl [] []) (gAl : mg "all_sorts" = some (.ref fAl))
    (FSo : Fun K "sort_of" "sort_of" sSo fSo fdSo) (bSo : Binds K fdSo ["text"] []) (gSo : mg "sort_of" = some (.ref fSo))
    (FCe : Fun K "_law_cell_at" "_law_cell_at" sCe fCe fdCe) (bCe : Binds K fdCe ["_law_script", "_law_k"] []) (gCe : mg "_law_cell_at" = some (.ref fCe))
    (FOf : Fun K "_law_of" "_law_of" sOf fOf fdOf) (bOf : Binds K fdOf ["_law_text", "_law_signs_here"] []) (gOf : mg "_law_of" = some (.ref fOf))
    (FIn : Fun K "_law_is_number" "_law_is_number" sIn fIn fdIn) (bIn : Binds K fdIn ["_law_text"] []) (gIn : mg "_law_is_number" = some (.ref fIn))
    (FIm : Fun K "_law_is_name" "_law_is_name" sIm fIm fdIm) (bIm : Binds K fdIm ["_law_text"] []) (gIm : mg "_law_is_name" = some (.ref fIm))
    (FIl : Fun K "_law_is_list" "_law_is_list" sIl fIl fdIl) (bIl : Binds K fdIl ["_law_text"] []) (gIl : mg "_law_is_list" = some (.ref fIl))
    (FLs : Fun K "_law_sort" "_law_sort" sLs fLs fdLs) (bLs : Binds K fdLs ["_law_text"] []) (gLs : mg "_law_sort" = some (.ref fLs))
    (FSi : Fun K "_law_signs" "_law_signs" sSi fSi fdSi) (bSi : Binds K fdSi ["_law_cell", "_law_many", "_law_signs_here"] []) (gSi : mg "_law_signs" = some (.ref fSi))
    (FNu : Fun K "_law_number_word" "_law_number_word" sNu fNu fdNu) (bNu : Binds K fdNu ["_law_cell"] []) (gNu : mg "_law_number_word" = some (.ref fNu))
    (FNa : Fun K "_law_name_word" "_law_name_word" sNa fNa fdNa) (bNa : Binds K fdNa ["_law_cell"] []) (gNa : mg "_law_name_word" = some (.ref fNa))
    (FMk : Fun K "_law_mark_word" "_law_mark_word" sMk fMk fdMk) (bMk : Binds K fdMk ["_law_cell"] []) (gMk : mg "_law_mark_word" = some (.ref fMk))
    (FLi : Fun K "_law_list_word" "_law_list_word" sLi fLi fdLi) (bLi : Binds K fdLi ["_law_cell"] []) (gLi : mg "_law_list_word" = some (.ref fLi))
    (FWo : Fun K "_law_word" "_law_word" sWo fWo fdWo) (bWo : Binds K fdWo ["_law_cell"] []) (gWo : mg "_law_word" = some (.ref fWo))
    (FIg : Fun K "is_gap" "is_gap" sIg fIg fdIg) (bIg : Binds K fdIg ["part"] []) (gIg : mg "is_gap" = some (.ref fIg))
    (FSg : Fun K "shown_gap" "shown_gap" sSg fSg fdSg) (bSg : Binds K fdSg ["sort"] []) (gSg : mg "shown_gap" = some (.ref fSg))
    (FSf : Fun K "shown_form" "shown_form" sSf fSf fdSf) (bSf : Binds K fdSf ["form"] []) (gSf : mg "shown_form" = some (.ref fSf))
    (FPo : Fun K "part_of" "part_of" sPo fPo fdPo) (bPo : Binds K fdPo ["piece"] []) (gPo : mg "part_of" = some (.ref fPo))
    (FRd : Fun K "read_form" "read_form" sRd fRd fdRd) (bRd : Binds K fdRd ["text"] []) (gRd : mg "read_form" = some (.ref fRd))
    (FRw : Fun K "_law_row" "_law_row" sRw fRw fdRw) (bRw : Binds K fdRw ["_law_cell", "_law_many"] []) (gRw : mg "_law_row" = some (.ref fRw))
    (FFo : Fun K "_law_form" "_law_form" sFo fFo fdFo) (bFo : Binds K fdFo ["_law_row_here", "_law_bits"] []) (gFo : mg "_law_form" = some (.ref fFo))
    (FPi : Fun K "_law_piece" "_law_piece" sPi fPi fdPi) (bPi : Binds K fdPi ["_law_cell"] []) (gPi : mg "_law_piece" = some (.ref fPi))
    (FPp : Fun K "_law_part" "_law_part" sPp fPp fdPp) (bPp : Binds K fdPp ["_law_piece_here"] []) (gPp : mg "_law_part" = some (.ref fPp))
    (FAk : Fun K "_law_alike" "_law_alike" sAk fAk fdAk) (bAk : Binds K fdAk ["_law_found", "_law_due"] []) (gAk : mg "_law_alike" = some (.ref fAk))
    (FRf : Fun K "_law_refused" "_law_refused" sRf fRf fdRf) (bRf : Binds K fdRf ["_law_text", "_law_at"] []) (gRf : mg "_law_refused" = some (.ref fRf))
    (FCh : Fun K "_law_changed" "_law_changed" sCh fCh fdCh) (bCh : Binds K fdCh ["_law_pieces", "_law_cells"] []) (gCh : mg "_law_changed" = some (.ref fCh))
    : FnOk P w K mg base CX0 9 f fd ["_law_script"] (spLaw K) := by
  have k1 : FnOk P w K mg base CX0 2 fNt dNt ["self", "text"] (spTk isNum) := ok_nt FNt TT FMo bMo gMo
  have k2 : FnOk P w K mg base CX0 2 fAt dAt ["self", "text"] (spTk isName) := ok_at FAt TT FMo bMo gMo
  have kI' : FnOk P w K mg base CX0 3 fIi fdIi ["text"] spIi := ok_ii FIi kN kA k1 k2
  have k3 : FnOk P w K mg base CX0 4 fIt dIt ["self", "text"] (spTk isList) := ok_it FIt TT FIi bIi gIi kI'
  have k4 : FnOk P w K mg base CX0 4 fKt dKt ["self", "text"] (spTk isMark) := ok_kt FKt TT FMo bMo gMo FIi bIi gIi kI'
  have o1 : FnOk P w K mg base CX0 1 fNw dNw ["self"] (spWo (So.str .num)) := ok_wo FNw scNw rfl
  have o2 : FnOk P w K mg base CX0 1 fAw dAw ["self"] (spWo (So.str .nam)) := ok_wo FAw scAw rfl
  have o3 : FnOk P w K mg base CX0 1 fIw dIw ["self"] (spWo (So.str .lis)) := ok_wo FIw scIw rfl
  have o4 : FnOk P w K mg base CX0 1 fKw dKw ["self"] (spWo (So.str .mar)) := ok_wo FKw scKw rfl
  have S1 : SK P w K mg base CN isNum (So.str .num) := ⟨kN.cls, ⟨fNt, dNt, kN.mt, kN.bt, k1.mono (by decide)⟩, ⟨fNw, dNw, kN.mw, kN.bw, o1.mono (by decide)⟩⟩
  have S2 : SK P w K mg base CA isName (So.str .nam) := ⟨kA.cls, ⟨fAt, dAt, kA.mt, kA.bt, k2.mono (by decide)⟩, ⟨fAw, dAw, kA.mw, kA.bw, o2.mono (by decide)⟩⟩
  have S3 : SK P w K mg base CI isList (So.str .lis) := ⟨kI.cls, ⟨fIt, dIt, kI.mt, kI.bt, k3⟩, ⟨fIw, dIw, kI.mw, kI.bw, o3.mono (by decide)⟩⟩
  have S4 : SK P w K mg base CK isMark (So.str .mar) := ⟨kK.cls, ⟨fKt, dKt, kK.mt, kK.bt, k4⟩, ⟨fKw, dKw, kK.mw, kK.bw, o4.mono (by decide)⟩⟩
  have GSo : FnOk P w K mg base CX0 5 fSo fdSo ["text"] spSo := ok_so FSo FAl bAl gAl (ok_al FAl kN kA kI kK) S1 S2 S3 S4
  have GLs : FnOk P w K mg base CX0 4 fLs fdLs ["_law_text"] spSo := ok_ls FLs T FOf bOf gOf FIn bIn gIn FIm bIm gIm FIl bIl gIl
  have GNu : FnOk P w K mg base CX0 2 fNu fdNu ["_law_cell"] (spWx fun y => isNum y = true) := ok_nuM FNu T FSi bSi gSi
  have GNa : FnOk P w K mg base CX0 2 fNa fdNa ["_law_cell"] (spWx fun y => isName y = true) := ok_naM FNa T FSi bSi gSi
  have GMk : FnOk P w K mg base CX0 2 fMk fdMk ["_law_cell"] (spWx okMark) := ok_mkM FMk T FSi bSi gSi
  have GLi := ok_liM (P := P) (w := w) (base := base) FLi T FNu bNu gNu GNu FNa bNa gNa GNa
  have GWo : FnOk P w K mg base CX0 4 fWo fdWo ["_law_cell"] (spWx Wd) := ok_wdM FWo FNu bNu gNu GNu FNa bNa gNa GNa FLi bLi gLi GLi FMk bMk gMk GMk
  have GXo : FnOk P w K mg base CX0 1 fXo dXo ["self", "at"] (spNi XO) := ok_xo FXo hSo
  have GAl := ok_al (P := P) (w := w) (base := base) FAl kN kA kI kK
  have GSf : FnOk P w K mg base CX0 2 fSf fdSf ["form"] spSf := ok_sf FSf FIg bIg gIg FSg bSg gSg
  have GPo : FnOk P w K mg base CX0 6 fPo fdPo ["piece"] spPo := ok_po FPo FSo bSo gSo GSo FAl bAl gAl GAl FSg bSg gSg S1 S2 S3 S4
  have GRd : FnOk P w K mg base (CX1 P w) 7 fRd fdRd ["text"] (spRd XO) := ok_rd FRd T.len tup g8 r8 FPo bPo gPo GPo MXo N.gN bXo GXo rzo
  have GRw : FnOk P w K mg base CX0 5 fRw fdRw ["_law_cell", "_law_many"] spRwW := ok_rwW FRw T FWo bWo gWo GWo
  have GFo : FnOk P w K mg base CX0 5 fFo fdFo ["_law_row_here", "_law_bits"] spFoW := ok_foW FFo T FLs bLs gLs GLs
  have GPi : FnOk P w K mg base CX0 5 fPi fdPi ["_law_cell"] (spWx (Tn 70)) := ok_pi FPi FWo bWo gWo GWo
  have GPp : FnOk P w K mg base CX0 5 fPp fdPp ["_law_piece_here"] spPp := ok_pp FPp FLs bLs gLs GLs
  have GAk : FnOk P w K mg base CX0 1 fAk fdAk ["_law_found", "_law_due"] spAk := ok_ak FAk T tup
  have GRf : FnOk P w K mg base CX0 8 fRf fdRf ["_law_text", "_law_at"] spRf := ok_rf FRf T.isin int T.bool N FRd bRd gRd GRd
  have GCh : FnOk P w K mg base CX0 6 fCh fdCh ["_law_pieces", "_law_cells"] spCh := ok_ch FCh T max FPi bPi gPi GPi
  exact ok_law F T tup max min FCe bCe gCe FRw bRw gRw GRw FFo bFo gFo GFo FPp bPp gPp GPp FRf bRf gRf GRf FAk bAk gAk GAk FCh bCh gCh GCh FSf bSf gSf GSf FRd bRd gRd GRd
end
end SL

namespace SL
open PySem L2
theorem all_mk {l : PySem.W.OpenLaw} {w : World} {K : PySem.W.Frag} {h : Heap} {mg : Str → Option Value} {fa C0 CN CA CI CK XO XL X0 X1 X2 X3 X4 fMo fIi fAl fSo fCe fOf fIn fIm fIl fLs fSi fNu fNa fMk fLi fWo fIg fSg fSf fPo fRd fRw fFo fPi fPp fAk fRf fCh fZ fPt fPw fNt fNw fAt fAw fIt fIw fKt fKw fXo : Addr} (X : K.In h) (G : h.Ns mainGlobals mg) (hfa : mg "law" = some (.ref fa))
    {odMo anMo odIi anIi odAl anAl odSo anSo odCe anCe odOf anOf odIn anIn odIm anIm odIl anIl odLs anLs odSi anSi odNu anNu odNa anNa odMk anMk odLi anLi odWo anWo odIg anIg odSg anSg odSf anSf odPo anPo odRd anRd odRw anRw odFo anFo odPi anPi odPp anPp odAk anAk odRf anRf odCh anCh odZ anZ odPt anPt odPw anPw odNt anNt odNw anNw odAt anAt odAw anAw odIt anIt odIw anIw odKt anKt odKw anKw odXo anXo : Option Addr} {slMo slIi slAl slSo slCe slOf slIn slIm slIl slLs slSi slNu slNa slMk slLi slWo slIg slSg slSf slPo slRd slRw slFo slPi slPp slAk slRf slCh slZ slPt slPw slNt slNw slAt slAw slIt slIw slKt slKw slXo : Array (Option Value)} {ocMo kVMo dcMo pmMo cdMo ctMo ocIi kVIi dcIi pmIi cdIi ctIi ocAl kVAl dcAl pmAl cdAl ctAl ocSo kVSo dcSo pmSo cdSo ctSo ocCe kVCe dcCe pmCe cdCe ctCe ocOf kVOf dcOf pmOf cdOf ctOf ocIn kVIn dcIn pmIn cdIn ctIn ocIm kVIm dcIm pmIm cdIm ctIm ocIl kVIl dcIl pmIl cdIl ctIl ocLs kVLs dcLs pmLs cdLs ctLs ocSi kVSi dcSi pmSi cdSi ctSi ocNu kVNu dcNu pmNu cdNu ctNu ocNa kVNa dcNa pmNa cdNa ctNa ocMk kVMk dcMk pmMk cdMk ctMk ocLi kVLi dcLi pmLi cdLi ctLi ocWo kVWo dcWo pmWo cdWo ctWo ocIg kVIg dcIg pmIg cdIg ctIg ocSg kVSg dcSg pmSg cdSg ctSg ocSf kVSf dcSf pmSf cdSf ctSf ocPo kVPo dcPo pmPo cdPo ctPo ocRd kVRd dcRd pmRd cdRd ctRd ocRw kVRw dcRw pmRw cdRw ctRw ocFo kVFo dcFo pmFo cdFo ctFo ocPi kVPi dcPi pmPi cdPi ctPi ocPp kVPp dcPp pmPp cdPp ctPp ocAk kVAk dcAk pmAk cdAk ctAk ocRf kVRf dcRf pmRf cdRf ctRf ocCh kVCh dcCh pmCh cdCh ctCh ocZ kVZ dcZ pmZ cdZ ctZ ocPt kVPt dcPt pmPt cdPt ctPt ocPw kVPw dcPw pmPw cdPw ctPw ocNt kVNt dcNt pmNt cdNt ctNt ocNw kVNw dcNw pmNw cdNw ctNw ocAt kVAt dcAt pmAt cdAt ctAt ocAw kVAw dcAw pmAw cdAw ctAw ocIt kVIt dcIt pmIt cdIt ctIt ocIw kVIw dcIw pmIw cdIw ctIw ocKt kVKt dcKt pmKt cdKt ctKt ocKw kVKw dcKw pmKw cdKw ctKw ocXo kVXo dcXo pmXo cdXo ctXo : Value}
    {tkf tks tkn tkm tka tkb tkc tk8 : Tok}
    (aC0 : PySem.W.nsIn K mainGlobals "Sort" = some (some (.ref C0)))
    (pgC0 : PySem.W.plainGet K C0 Str.empty = true)
    (hdC0 : PySem.W.hasDictIn K C0 = true)
    (poC0 : PySem.W.plainOver K C0 = true)
    (saC0 : PySem.W.findIn K (.ref C0) "__setattr__" = some (some (.builtin "object.__setattr__")))
    (mkC0 : PySem.W.makesIn K C0 = true)
    (kcC0 : PySem.W.keepIn K (.ref C0) = true)
    (haC0 : PySem.W.findIn K (.ref C0) "__class__" = some (some (.builtin "object.__class__")))
    (hmC0 : PySem.W.mroIn K C0 (.type "object") = some true)
    (inC0 : PySem.W.findIn K (.ref C0) "__init__" = some (some (.builtin "object.__init__")))
    (aCN : PySem.W.nsIn K mainGlobals "Number" = some (some (.ref CN)))
    (pgCN : PySem.W.plainGet K CN Str.empty = true)
    (hdCN : PySem.W.hasDictIn K CN = true)
    (poCN : PySem.W.plainOver K CN = true)
    (saCN : PySem.W.findIn K (.ref CN) "__setattr__" = some (some (.builtin "object.__setattr__")))
    (mkCN : PySem.W.makesIn K CN = true)
    (kcCN : PySem.W.keepIn K (.ref CN) = true)
    (haCN : PySem.W.findIn K (.ref CN) "__class__" = some (some (.builtin "object.__class__")))
    (hmCN : PySem.W.mroIn K CN (.type "object") = some true)
    (inCN : PySem.W.findIn K (.ref CN) "__init__" = some (some (.builtin "object.__init__")))
    (aCA : PySem.W.nsIn K mainGlobals "Name" = some (some (.ref CA)))
    (pgCA : PySem.W.plainGet K CA Str.empty = true)
    (hdCA : PySem.W.hasDictIn K CA = true)
    (poCA : PySem.W.plainOver K CA = true)
    (saCA : PySem.W.findIn K (.ref CA) "__setattr__" = some (some (.builtin "object.__setattr__")))
    (mkCA : PySem.W.makesIn K CA = true)
    (kcCA : PySem.W.keepIn K (.ref CA) = true)
    (haCA : PySem.W.findIn K (.ref CA) "__class__" = some (some (.builtin "object.__class__")))
    (hmCA : PySem.W.mroIn K CA (.type "object") = some true)
    (inCA : PySem.W.findIn K (.ref CA) "__init__" = some (some (.builtin "object.__init__")))
    (aCI : PySem.W.nsIn K mainGlobals "Items" = some (some (.ref CI)))
    (pgCI : PySem.W.plainGet K CI Str.empty = true)
    (hdCI : PySem.W.hasDictIn K CI = true)
    (poCI : PySem.W.plainOver K CI = true)
    (saCI : PySem.W.findIn K (.ref CI) "__setattr__" = some (some (.builtin "object.__setattr__")))
    (mkCI : PySem.W.makesIn K CI = true)
    (kcCI : PySem.W.keepIn K (.ref CI) = true)
    (haCI : PySem.W.findIn K (.ref CI) "__class__" = some (some (.builtin "object.__class__")))
    (hmCI : PySem.W.mroIn K CI (.type "object") = some true)
    (inCI : PySem.W.findIn K (.ref CI) "__init__" = some (some (.builtin "object.__init__")))
    (aCK : PySem.W.nsIn K mainGlobals "Mark" = some (some (.ref CK)))
    (pgCK : PySem.W.plainGet K CK Str.empty = true)
    (hdCK : PySem.W.hasDictIn K CK = true)
    (poCK : PySem.W.plainOver K CK = true)
    (saCK : PySem.W.findIn K (.ref CK) "__setattr__" = some (some (.builtin "object.__setattr__")))
    (mkCK : PySem.W.makesIn K CK = true)
    (kcCK : PySem.W.keepIn K (.ref CK) = true)
    (haCK : PySem.W.findIn K (.ref CK) "__class__" = some (some (.builtin "object.__class__")))
    (hmCK : PySem.W.mroIn K CK (.type "object") = some true)
    (inCK : PySem.W.findIn K (.ref CK) "__init__" = some (some (.builtin "object.__init__")))
    (aXO : PySem.W.nsIn K mainGlobals "NoForm" = some (some (.ref XO)))
    (kcXO : PySem.W.keepIn K (.ref XO) = true)
    (aXL : PySem.W.nsIn K mainGlobals "LoomError" = some (some (.ref XL)))
    (aX0 : PySem.W.nsIn K mainGlobals "NoRow" = some (some (.ref X0)))
    (aX1 : PySem.W.nsIn K mainGlobals "NoGap" = some (some (.ref X1)))
    (aX2 : PySem.W.nsIn K mainGlobals "NoFit" = some (some (.ref X2)))
    (aX3 : PySem.W.nsIn K mainGlobals "NoQuestion" = some (some (.ref X3)))
    (aX4 : PySem.W.nsIn K mainGlobals "Unknown" = some (some (.ref X4)))
    (hn : PySem.W.specialIn K (.builtin "object.__class__") "__get__" = some (some (.builtin "getset_descriptor.__get__")))
    (htk : PySem.W.takesIn K (.builtin "object.__class__") = some true)
    (xi0 : PySem.W.kitOne K (.ref XO) (.ref X0) = some false)
    (xi1 : PySem.W.kitOne K (.ref XO) (.ref X1) = some false)
    (xi2 : PySem.W.kitOne K (.ref XO) (.ref X2) = some false)
    (xi3 : PySem.W.kitOne K (.ref XO) (.ref X3) = some false)
    (xi4 : PySem.W.kitOne K (.ref XO) (.ref X4) = some false)
    (xiN : PySem.W.kitOne K (.ref XO) (.ref XO) = some true)
    (xiV : PySem.W.kitOne K (.ref XO) (.type "ValueError") = some true)
    (xge : excGet K XO = true)
    (xgf : excGetF K XO "at" = true)
    (xtL : takesX K XO (.ref XL) = true)
    (xse : excSet K XO "at" = true)
    (xrz : excRz K XO = true)
    (aMo : PySem.W.nsIn K mainGlobals "made_of" = some (some (.ref fMo)))
    (lMo : K.lookup fMo = some ⟨ocMo, odMo, .func (PySem.W.fnOf "made_of" "made_of" (defArgs sMo) (defBody sMo) (defScope sMo) .none kVMo dcMo pmMo anMo cdMo ctMo), slMo⟩)
    (cMo : PySem.W.codeIn K cdMo "made_of" = true)
    (kMo : PySem.W.keepIn K (.ref fMo) = true)
    (aIi : PySem.W.nsIn K mainGlobals "is_item" = some (some (.ref fIi)))
    (lIi : K.lookup fIi = some ⟨ocIi, odIi, .func (PySem.W.fnOf "is_item" "is_item" (defArgs sIi) (defBody sIi) (defScope sIi) .none kVIi dcIi pmIi anIi cdIi ctIi), slIi⟩)
    (cIi : PySem.W.codeIn K cdIi "is_item" = true)
    (kIi : PySem.W.keepIn K (.ref fIi) = true)
    (aAl : PySem.W.nsIn K mainGlobals "all_sorts" = some (some (.ref fAl)))
    (lAl : K.lookup fAl = some ⟨ocAl, odAl, .func (PySem.W.fnOf "all_sorts" "all_sorts" (defArgs sAl) (defBody sAl) (defScope sAl) .none kVAl dcAl pmAl anAl cdAl ctAl), slAl⟩)
    (cAl : PySem.W.codeIn K cdAl "all_sorts" = true)
    (kAl : PySem.W.keepIn K (.ref fAl) = true)
    (aSo : PySem.W.nsIn K mainGlobals "sort_of" = some (some (.ref fSo)))
    (lSo : K.lookup fSo = some ⟨ocSo, odSo, .func (PySem.W.fnOf "sort_of" "sort_of" (defArgs sSo) (defBody sSo) (defScope sSo) .none kVSo dcSo pmSo anSo cdSo ctSo), slSo⟩)
    (cSo : PySem.W.codeIn K cdSo "sort_of" = true)
    (kSo : PySem.W.keepIn K (.ref fSo) = true)
    (aCe : PySem.W.nsIn K mainGlobals "_law_cell_at" = some (some (.ref fCe)))
    (lCe : K.lookup fCe = some ⟨ocCe, odCe, .func (PySem.W.fnOf "_law_cell_at" "_law_cell_at" (defArgs sCe) (defBody sCe) (defScope sCe) .none kVCe dcCe pmCe anCe cdCe ctCe), slCe⟩)
    (cCe : PySem.W.codeIn K cdCe "_law_cell_at" = true)
    (kCe : PySem.W.keepIn K (.ref fCe) = true)
    (aOf : PySem.W.nsIn K mainGlobals "_law_of" = some (some (.ref fOf)))
    (lOf : K.lookup fOf = some ⟨ocOf, odOf, .func (PySem.W.fnOf "_law_of" "_law_of" (defArgs sOf) (defBody sOf) (defScope sOf) .none kVOf dcOf pmOf anOf cdOf ctOf), slOf⟩)
    (cOf : PySem.W.codeIn K cdOf "_law_of" = true)
    (kOf : PySem.W.keepIn K (.ref fOf) = true)
    (aIn : PySem.W.nsIn K mainGlobals "_law_is_number" = some (some (.ref fIn)))
    (lIn : K.lookup fIn = some ⟨ocIn, odIn, .func (PySem.W.fnOf "_law_is_number" "_law_is_number" (defArgs sIn) (defBody sIn) (defScope sIn) .none kVIn dcIn pmIn anIn cdIn ctIn), slIn⟩)
    (cIn : PySem.W.codeIn K cdIn "_law_is_number" = true)
    (kIn : PySem.W.keepIn K (.ref fIn) = true)
    (aIm : PySem.W.nsIn K mainGlobals "_law_is_name" = some (some (.ref fIm)))
    (lIm : K.lookup fIm = some ⟨ocIm, odIm, .func (PySem.W.fnOf "_law_is_name" "_law_is_name" (defArgs sIm) (defBody sIm) (defScope sIm) .none kVIm dcIm pmIm anIm cdIm ctIm), slIm⟩)
    (cIm : PySem.W.codeIn K cdIm "_law_is_name" = true)
    (kIm : PySem.W.keepIn K (.ref fIm) = true)
    (aIl : PySem.W.nsIn K mainGlobals "_law_is_list" = some (some (.ref fIl)))
    (lIl : K.lookup fIl = some ⟨ocIl, odIl, .func (PySem.W.fnOf "_law_is_list" "_law_is_list" (defArgs sIl) (defBody sIl) (defScope sIl) .none kVIl dcIl pmIl anIl cdIl ctIl), slIl⟩)
    (cIl : PySem.W.codeIn K cdIl "_law_is_list" = true)
    (kIl : PySem.W.keepIn K (.ref fIl) = true)
    (aLs : PySem.W.nsIn K mainGlobals "_law_sort" = some (some (.ref fLs)))
    (lLs : K.lookup fLs = some ⟨ocLs, odLs, .func (PySem.W.fnOf "_law_sort" "_law_sort" (defArgs sLs) (defBody sLs) (defScope sLs) .none kVLs dcLs pmLs anLs cdLs ctLs), slLs⟩)
    (cLs : PySem.W.codeIn K cdLs "_law_sort" = true)
    (kLs : PySem.W.keepIn K (.ref fLs) = true)
    (aSi : PySem.W.nsIn K mainGlobals "_law_signs" = some (some (.ref fSi)))
    (lSi : K.lookup fSi = some ⟨ocSi, odSi, .func (PySem.W.fnOf "_law_signs" "_law_signs" (defArgs sSi) (defBody sSi) (defScope sSi) .none kVSi dcSi pmSi anSi cdSi ctSi), slSi⟩)
    (cSi : PySem.W.codeIn K cdSi "_law_signs" = true)
    (kSi : PySem.W.keepIn K (.ref fSi) = true)
    (aNu : PySem.W.nsIn K mainGlobals "_law_number_word" = some (some (.ref fNu)))
    (lNu : K.lookup fNu = some ⟨ocNu, odNu, .func (PySem.W.fnOf "_law_number_word" "_law_number_word" (defArgs sNu) (defBody sNu) (defScope sNu) .none kVNu dcNu pmNu anNu cdNu ctNu), slNu⟩)
    (cNu : PySem.W.codeIn K cdNu "_law_number_word" = true)
    (kNu : PySem.W.keepIn K (.ref fNu) = true)
    (aNa : PySem.W.nsIn K mainGlobals "_law_name_word" = some (some (.ref fNa)))
    (lNa : K.lookup fNa = some ⟨ocNa, odNa, .func (PySem.W.fnOf "_law_name_word" "_law_name_word" (defArgs sNa) (defBody sNa) (defScope sNa) .none kVNa dcNa pmNa anNa cdNa ctNa), slNa⟩)
    (cNa : PySem.W.codeIn K cdNa "_law_name_word" = true)
    (kNa : PySem.W.keepIn K (.ref fNa) = true)
    (aMk : PySem.W.nsIn K mainGlobals "_law_mark_word" = some (some (.ref fMk)))
    (lMk : K.lookup fMk = some ⟨ocMk, odMk, .func (PySem.W.fnOf "_law_mark_word" "_law_mark_word" (defArgs sMk) (defBody sMk) (defScope sMk) .none kVMk dcMk pmMk anMk cdMk ctMk), slMk⟩)
    (cMk : PySem.W.codeIn K cdMk "_law_mark_word" = true)
    (kMk : PySem.W.keepIn K (.ref fMk) = true)
    (aLi : PySem.W.nsIn K mainGlobals "_law_list_word" = some (some (.ref fLi)))
    (lLi : K.lookup fLi = some ⟨ocLi, odLi, .func (PySem.W.fnOf "_law_list_word" "_law_list_word" (defArgs sLi) (defBody sLi) (defScope sLi) .none kVLi dcLi pmLi anLi cdLi ctLi), slLi⟩)
    (cLi : PySem.W.codeIn K cdLi "_law_list_word" = true)
    (kLi : PySem.W.keepIn K (.ref fLi) = true)
    (aWo : PySem.W.nsIn K mainGlobals "_law_word" = some (some (.ref fWo)))
    (lWo : K.lookup fWo = some ⟨ocWo, odWo, .func (PySem.W.fnOf "_law_word" "_law_word" (defArgs sWo) (defBody sWo) (defScope sWo) .none kVWo dcWo pmWo anWo cdWo ctWo), slWo⟩)
    (cWo : PySem.W.codeIn K cdWo "_law_word" = true)
    (kWo : PySem.W.keepIn K (.ref fWo) = true)
    (aIg : PySem.W.nsIn K mainGlobals "is_gap" = some (some (.ref fIg)))
    (lIg : K.lookup fIg = some ⟨ocIg, odIg, .func (PySem.W.fnOf "is_gap" "is_gap" (defArgs sIg) (defBody sIg) (defScope sIg) .none kVIg dcIg pmIg anIg cdIg ctIg), slIg⟩)
    (cIg : PySem.W.codeIn K cdIg "is_gap" = true)
    (kIg : PySem.W.keepIn K (.ref fIg) = true)
    (aSg : PySem.W.nsIn K mainGlobals "shown_gap" = some (some (.ref fSg)))
    (lSg : K.lookup fSg = some ⟨ocSg, odSg, .func (PySem.W.fnOf "shown_gap" "shown_gap" (defArgs sSg) (defBody sSg) (defScope sSg) .none kVSg dcSg pmSg anSg cdSg ctSg), slSg⟩)
    (cSg : PySem.W.codeIn K cdSg "shown_gap" = true)
    (kSg : PySem.W.keepIn K (.ref fSg) = true)
    (aSf : PySem.W.nsIn K mainGlobals "shown_form" = some (some (.ref fSf)))
    (lSf : K.lookup fSf = some ⟨ocSf, odSf, .func (PySem.W.fnOf "shown_form" "shown_form" (defArgs sSf) (defBody sSf) (defScope sSf) .none kVSf dcSf pmSf anSf cdSf ctSf), slSf⟩)
    (cSf : PySem.W.codeIn K cdSf "shown_form" = true)
    (kSf : PySem.W.keepIn K (.ref fSf) = true)
    (aPo : PySem.W.nsIn K mainGlobals "part_of" = some (some (.ref fPo)))
    (lPo : K.lookup fPo = some ⟨ocPo, odPo, .func (PySem.W.fnOf "part_of" "part_of" (defArgs sPo) (defBody sPo) (defScope sPo) .none kVPo dcPo pmPo anPo cdPo ctPo), slPo⟩)
    (cPo : PySem.W.codeIn K cdPo "part_of" = true)
    (kPo : PySem.W.keepIn K (.ref fPo) = true)
    (aRd : PySem.W.nsIn K mainGlobals "read_form" = some (some (.ref fRd)))
    (lRd : K.lookup fRd = some ⟨ocRd, odRd, .func (PySem.W.fnOf "read_form" "read_form" (defArgs sRd) (defBody sRd) (defScope sRd) .none kVRd dcRd pmRd anRd cdRd ctRd), slRd⟩)
    (cRd : PySem.W.codeIn K cdRd "read_form" = true)
    (kRd : PySem.W.keepIn K (.ref fRd) = true)
    (aRw : PySem.W.nsIn K mainGlobals "_law_row" = some (some (.ref fRw)))
    (lRw : K.lookup fRw = some ⟨ocRw, odRw, .func (PySem.W.fnOf "_law_row" "_law_row" (defArgs sRw) (defBody sRw) (defScope sRw) .none kVRw dcRw pmRw anRw cdRw ctRw), slRw⟩)
    (cRw : PySem.W.codeIn K cdRw "_law_row" = true)
    (kRw : PySem.W.keepIn K (.ref fRw) = true)
    (aFo : PySem.W.nsIn K mainGlobals "_law_form" = some (some (.ref fFo)))
    (lFo : K.lookup fFo = some ⟨ocFo, odFo, .func (PySem.W.fnOf "_law_form" "_law_form" (defArgs sFo) (defBody sFo) (defScope sFo) .none kVFo dcFo pmFo anFo cdFo ctFo), slFo⟩)
    (cFo : PySem.W.codeIn K cdFo "_law_form" = true)
    (kFo : PySem.W.keepIn K (.ref fFo) = true)
    (aPi : PySem.W.nsIn K mainGlobals "_law_piece" = some (some (.ref fPi)))
    (lPi : K.lookup fPi = some ⟨ocPi, odPi, .func (PySem.W.fnOf "_law_piece" "_law_piece" (defArgs sPi) (defBody sPi) (defScope sPi) .none kVPi dcPi pmPi anPi cdPi ctPi), slPi⟩)
    (cPi : PySem.W.codeIn K cdPi "_law_piece" = true)
    (kPi : PySem.W.keepIn K (.ref fPi) = true)
    (aPp : PySem.W.nsIn K mainGlobals "_law_part" = some (some (.ref fPp)))
    (lPp : K.lookup fPp = some ⟨ocPp, odPp, .func (PySem.W.fnOf "_law_part" "_law_part" (defArgs sPp) (defBody sPp) (defScope sPp) .none kVPp dcPp pmPp anPp cdPp ctPp), slPp⟩)
    (cPp : PySem.W.codeIn K cdPp "_law_part" = true)
    (kPp : PySem.W.keepIn K (.ref fPp) = true)
    (aAk : PySem.W.nsIn K mainGlobals "_law_alike" = some (some (.ref fAk)))
    (lAk : K.lookup fAk = some ⟨ocAk, odAk, .func (PySem.W.fnOf "_law_alike" "_law_alike" (defArgs sAk) (defBody sAk) (defScope sAk) .none kVAk dcAk pmAk anAk cdAk ctAk), slAk⟩)
    (cAk : PySem.W.codeIn K cdAk "_law_alike" = true)
    (kAk : PySem.W.keepIn K (.ref fAk) = true)
    (aRf : PySem.W.nsIn K mainGlobals "_law_refused" = some (some (.ref fRf)))
    (lRf : K.lookup fRf = some ⟨ocRf, odRf, .func (PySem.W.fnOf "_law_refused" "_law_refused" (defArgs sRf) (defBody sRf) (defScope sRf) .none kVRf dcRf pmRf anRf cdRf ctRf), slRf⟩)
    (cRf : PySem.W.codeIn K cdRf "_law_refused" = true)
    (kRf : PySem.W.keepIn K (.ref fRf) = true)
    (aCh : PySem.W.nsIn K mainGlobals "_law_changed" = some (some (.ref fCh)))
    (lCh : K.lookup fCh = some ⟨ocCh, odCh, .func (PySem.W.fnOf "_law_changed" "_law_changed" (defArgs sCh) (defBody sCh) (defScope sCh) .none kVCh dcCh pmCh anCh cdCh ctCh), slCh⟩)
    (cCh : PySem.W.codeIn K cdCh "_law_changed" = true)
    (kCh : PySem.W.keepIn K (.ref fCh) = true)
    (aZ : PySem.W.nsIn K mainGlobals "law" = some (some (.ref fZ)))
    (lZ : K.lookup fZ = some ⟨ocZ, odZ, .func (PySem.W.fnOf "law" "law" (defArgs sLaw) (defBody sLaw) (defScope sLaw) .none kVZ dcZ pmZ anZ cdZ ctZ), slZ⟩)
    (cZ : PySem.W.codeIn K cdZ "law" = true)
    (kZ : PySem.W.keepIn K (.ref fZ) = true)
    (aPt : PySem.W.findIn K (.ref C0) "takes" = some (some (.ref fPt)))
    (iPt : PySem.W.isFn K (.ref fPt) = true)
    (lPt : K.lookup fPt = some ⟨ocPt, odPt, .func (PySem.W.fnOf "takes" "Sort.takes" (defArgs sPt) (defBody sPt) (defScope sPt) .none kVPt dcPt pmPt anPt cdPt ctPt), slPt⟩)
    (cPt : PySem.W.codeIn K cdPt "Sort.takes" = true)
    (kPt : PySem.W.keepIn K (.ref fPt) = true)
    (aPw : PySem.W.findIn K (.ref C0) "word" = some (some (.ref fPw)))
    (iPw : PySem.W.isFn K (.ref fPw) = true)
    (lPw : K.lookup fPw = some ⟨ocPw, odPw, .func (PySem.W.fnOf "word" "Sort.word" (defArgs sPw) (defBody sPw) (defScope sPw) .none kVPw dcPw pmPw anPw cdPw ctPw), slPw⟩)
    (cPw : PySem.W.codeIn K cdPw "Sort.word" = true)
    (kPw : PySem.W.keepIn K (.ref fPw) = true)
    (aNt : PySem.W.findIn K (.ref CN) "takes" = some (some (.ref fNt)))
    (iNt : PySem.W.isFn K (.ref fNt) = true)
    (lNt : K.lookup fNt = some ⟨ocNt, odNt, .func (PySem.W.fnOf "takes" "Number.takes" (defArgs sNt) (defBody sNt) (defScope sNt) .none kVNt dcNt pmNt anNt cdNt ctNt), slNt⟩)
    (cNt : PySem.W.codeIn K cdNt "Number.takes" = true)
    (kNt : PySem.W.keepIn K (.ref fNt) = true)
    (aNw : PySem.W.findIn K (.ref CN) "word" = some (some (.ref fNw)))
    (iNw : PySem.W.isFn K (.ref fNw) = true)
    (lNw : K.lookup fNw = some ⟨ocNw, odNw, .func (PySem.W.fnOf "word" "Number.word" (defArgs sNw) (defBody sNw) (defScope sNw) .none kVNw dcNw pmNw anNw cdNw ctNw), slNw⟩)
    (cNw : PySem.W.codeIn K cdNw "Number.word" = true)
    (kNw : PySem.W.keepIn K (.ref fNw) = true)
    (aAt : PySem.W.findIn K (.ref CA) "takes" = some (some (.ref fAt)))
    (iAt : PySem.W.isFn K (.ref fAt) = true)
    (lAt : K.lookup fAt = some ⟨ocAt, odAt, .func (PySem.W.fnOf "takes" "Name.takes" (defArgs sAt) (defBody sAt) (defScope sAt) .none kVAt dcAt pmAt anAt cdAt ctAt), slAt⟩)
    (cAt : PySem.W.codeIn K cdAt "Name.takes" = true)
    (kAt : PySem.W.keepIn K (.ref fAt) = true)
    (aAw : PySem.W.findIn K (.ref CA) "word" = some (some (.ref fAw)))
    (iAw : PySem.W.isFn K (.ref fAw) = true)
    (lAw : K.lookup fAw = some ⟨ocAw, odAw, .func (PySem.W.fnOf "word" "Name.word" (defArgs sAw) (defBody sAw) (defScope sAw) .none kVAw dcAw pmAw anAw cdAw ctAw), slAw⟩)
    (cAw : PySem.W.codeIn K cdAw "Name.word" = true)
    (kAw : PySem.W.keepIn K (.ref fAw) = true)
    (aIt : PySem.W.findIn K (.ref CI) "takes" = some (some (.ref fIt)))
    (iIt : PySem.W.isFn K (.ref fIt) = true)
    (lIt : K.lookup fIt = some ⟨ocIt, odIt, .func (PySem.W.fnOf "takes" "Items.takes" (defArgs sIt) (defBody sIt) (defScope sIt) .none kVIt dcIt pmIt anIt cdIt ctIt), slIt⟩)
    (cIt : PySem.W.codeIn K cdIt "Items.takes" = true)
    (kIt : PySem.W.keepIn K (.ref fIt) = true)
    (aIw : PySem.W.findIn K (.ref CI) "word" = some (some (.ref fIw)))
    (iIw : PySem.W.isFn K (.ref fIw) = true)
    (lIw : K.lookup fIw = some ⟨ocIw, odIw, .func (PySem.W.fnOf "word" "Items.word" (defArgs sIw) (defBody sIw) (defScope sIw) .none kVIw dcIw pmIw anIw cdIw ctIw), slIw⟩)
    (cIw : PySem.W.codeIn K cdIw "Items.word" = true)
    (kIw : PySem.W.keepIn K (.ref fIw) = true)
    (aKt : PySem.W.findIn K (.ref CK) "takes" = some (some (.ref fKt)))
    (iKt : PySem.W.isFn K (.ref fKt) = true)
    (lKt : K.lookup fKt = some ⟨ocKt, odKt, .func (PySem.W.fnOf "takes" "Mark.takes" (defArgs sKt) (defBody sKt) (defScope sKt) .none kVKt dcKt pmKt anKt cdKt ctKt), slKt⟩)
    (cKt : PySem.W.codeIn K cdKt "Mark.takes" = true)
    (kKt : PySem.W.keepIn K (.ref fKt) = true)
    (aKw : PySem.W.findIn K (.ref CK) "word" = some (some (.ref fKw)))
    (iKw : PySem.W.isFn K (.ref fKw) = true)
    (lKw : K.lookup fKw = some ⟨ocKw, odKw, .func (PySem.W.fnOf "word" "Mark.word" (defArgs sKw) (defBody sKw) (defScope sKw) .none kVKw dcKw pmKw anKw cdKw ctKw), slKw⟩)
    (cKw : PySem.W.codeIn K cdKw "Mark.word" = true)
    (kKw : PySem.W.keepIn K (.ref fKw) = true)
    (aXo : PySem.W.findIn K (.ref XO) "__init__" = some (some (.ref fXo)))
    (iXo : PySem.W.isFn K (.ref fXo) = true)
    (lXo : K.lookup fXo = some ⟨ocXo, odXo, .func (PySem.W.fnOf "__init__" "NoForm.__init__" (defArgs sXo) (defBody sXo) (defScope sXo) .none kVXo dcXo pmXo anXo cdXo ctXo), slXo⟩)
    (cXo : PySem.W.codeIn K cdXo "NoForm.__init__" = true)
    (kXo : PySem.W.keepIn K (.ref fXo) = true)
    (mxXO : excInI K XO fXo = true)
    (tfXO : PySem.W.typeIn K (.ref fXo) = some (.type "function"))
    (qf : PySem.W.nsIn K mainGlobals "FIGURES" = some (some (.str FIG tkf)))
    (qs : PySem.W.nsIn K mainGlobals "SMALL_LETTERS" = some (some (.str SMA tks)))
    (qn : PySem.W.nsIn K mainGlobals "NAME_SIGNS" = some (some (.str NAM tkn)))
    (qm : PySem.W.nsIn K mainGlobals "MARK_SIGNS" = some (some (.str MAR tkm)))
    (qa : PySem.W.nsIn K mainGlobals "MOST_FIGURES" = some (some (.int 9 tka)))
    (qb : PySem.W.nsIn K mainGlobals "MOST_SIGNS" = some (some (.int 12 tkb)))
    (qc : PySem.W.nsIn K mainGlobals "MOST_ITEMS" = some (some (.int 4 tkc)))
    (q8 : PySem.W.nsIn K mainGlobals "MOST_WORDS" = some (some (.int 8 tk8)))
    (zall : PySem.W.nsIn K mainGlobals "all" = some none)
    (ztup : PySem.W.nsIn K mainGlobals "tuple" = some none)
    (zint : PySem.W.nsIn K mainGlobals "int" = some none)
    (zmax : PySem.W.nsIn K mainGlobals "max" = some none)
    (zmin : PySem.W.nsIn K mainGlobals "min" = some none)
    (zverr : PySem.W.nsIn K mainGlobals "ValueError" = some none)
    (zlen : PySem.W.nsIn K mainGlobals "len" = some none)
    (zrange : PySem.W.nsIn K mainGlobals "range" = some none)
    (zisin : PySem.W.nsIn K mainGlobals "isinstance" = some none)
    (zstr : PySem.W.nsIn K mainGlobals "str" = some none)
    (zbool : PySem.W.nsIn K mainGlobals "bool" = some none)
    (zzip : PySem.W.nsIn K mainGlobals "zip" = some none)
    : ∃ fd : FuncData, (∀ (s : Shared) (v : Value), BindsTo s fd ⟨[v], []⟩ [("_law_script", v)]) ∧ ∀ base : Heap, K.In base → base.Ns mainGlobals mg → FnOk l.prog w K mg base CX0 9 fa fd ["_law_script"] (spLaw K) := by
  have e := hfa.symm.trans (PySem.W.mg_of X G aZ)
  cases e
  have T : Txt mg := ⟨PySem.W.mg_none_of X G zlen, PySem.W.mg_none_of X G zrange, PySem.W.mg_none_of X G zisin, PySem.W.mg_none_of X G zstr, PySem.W.mg_none_of X G zbool, PySem.W.mg_none_of X G zzip⟩
  have mgC0 := PySem.W.mg_of X G aC0
  have clC0 : Cls K C0 := ⟨pgC0, hdC0, poC0, saC0⟩
  have MC0 : MkN K C0 := ⟨mkC0, inC0, kcC0⟩
  have mgCN := PySem.W.mg_of X G aCN
  have clCN : Cls K CN := ⟨pgCN, hdCN, poCN, saCN⟩
  have MCN : MkN K CN := ⟨mkCN, inCN, kcCN⟩
  have mgCA := PySem.W.mg_of X G aCA
  have clCA : Cls K CA := ⟨pgCA, hdCA, poCA, saCA⟩
  have MCA : MkN K CA := ⟨mkCA, inCA, kcCA⟩
  have mgCI := PySem.W.mg_of X G aCI
  have clCI : Cls K CI := ⟨pgCI, hdCI, poCI, saCI⟩
  have MCI : MkN K CI := ⟨mkCI, inCI, kcCI⟩
  have mgCK := PySem.W.mg_of X G aCK
  have clCK : Cls K CK := ⟨pgCK, hdCK, poCK, saCK⟩
  have MCK : MkN K CK := ⟨mkCK, inCK, kcCK⟩
  have mgXO := PySem.W.mg_of X G aXO
  have mgXL := PySem.W.mg_of X G aXL
  have mgX0 := PySem.W.mg_of X G aX0
  have mgX1 := PySem.W.mg_of X G aX1
  have mgX2 := PySem.W.mg_of X G aX2
  have mgX3 := PySem.W.mg_of X G aX3
  have mgX4 := PySem.W.mg_of X G aX4
  have FMo := fun_mk (st := sMo) lMo cMo kMo
  have bMo := FMo.binds (ps := ["signs", "text"]) fun _ _ _ _ _ _ us hl => match us, hl with | [_, _], _ => rfl
  have FIi := fun_mk (st := sIi) lIi cIi kIi
  have bIi := FIi.binds (ps := ["text"]) fun _ _ _ _ _ _ us hl => match us, hl with | [_], _ => rfl
  have FAl := fun_mk (st := sAl) lAl cAl kAl
  have bAl := FAl.binds (ps := []) fun _ _ _ _ _ _ us hl => match us, hl with | [], _ => rfl
  have FSo := fun_mk (st := sSo) lSo cSo kSo
  have bSo := FSo.binds (ps := ["text"]) fun _ _ _ _ _ _ us hl => match us, hl with | [_], _ => rfl
  have FCe := fun_mk (st := sCe) lCe cCe kCe
  have bCe := FCe.binds (ps := ["_law_script", "_law_k"]) fun _ _ _ _ _ _ us hl => match us, hl with | [_, _], _ => rfl
  have FOf := fun_mk (st := sOf) lOf cOf kOf
  have bOf := FOf.binds (ps := ["_law_text", "_law_signs_here"]) fun _ _ _ _ _ _ us hl => match us, hl with | [_, _], _ => rfl
  have FIn := fun_mk (st := sIn) lIn cIn kIn
  have bIn := FIn.binds (ps := ["_law_text"]) fun _ _ _ _ _ _ us hl => match us, hl with | [_], _ => rfl
  have FIm := fun_mk (st := sIm) lIm cIm kIm
  have bIm := FIm.binds (ps := ["_law_text"]) fun _ _ _ _ _ _ us hl => match us, hl with | [_], _ => rfl
  have FIl := fun_mk (st := sIl) lIl cIl kIl
  have bIl := FIl.binds (ps := ["_law_text"]) fun _ _ _ _ _ _ us hl => match us, hl with | [_], _ => rfl
  have FLs := fun_mk (st := sLs) lLs cLs kLs
  have bLs := FLs.binds (ps := ["_law_text"]) fun _ _ _ _ _ _ us hl => match us, hl with | [_], _ => rfl
  have FSi := fun_mk (st := sSi) lSi cSi kSi
  have bSi := FSi.binds (ps := ["_law_cell", "_law_many", "_law_signs_here"]) fun _ _ _ _ _ _ us hl => match us, hl with | [_, _, _], _ => rfl
  have FNu := fun_mk (st := sNu) lNu cNu kNu
  have bNu := FNu.binds (ps := ["_law_cell"]) fun _ _ _ _ _ _ us hl => match us, hl with | [_], _ => rfl
  have FNa := fun_mk (st := sNa) lNa cNa kNa
  have bNa := FNa.binds (ps := ["_law_cell"]) fun _ _ _ _ _ _ us hl => match us, hl with | [_], _ => rfl
  have FMk := fun_mk (st := sMk) lMk cMk kMk
  have bMk := FMk.binds (ps := ["_law_cell"]) fun _ _ _ _ _ _ us hl => match us, hl with | [_], _ => rfl
  have FLi := fun_mk (st := sLi) lLi cLi kLi
  have bLi := FLi.binds (ps := ["_law_cell"]) fun _ _ _ _ _ _ us hl => match us, hl with | [_], _ => rfl
  have FWo := fun_mk (st := sWo) lWo cWo kWo
  have bWo := FWo.binds (ps := ["_law_cell"]) fun _ _ _ _ _ _ us hl => match us, hl with | [_], _ => rfl
  have FIg := fun_mk (st := sIg) lIg cIg kIg
  have bIg := FIg.binds (ps := ["part"]) fun _ _ _ _ _ _ us hl => match us, hl with | [_], _ => rfl
  have FSg := fun_mk (st := sSg) lSg cSg kSg
  have bSg := FSg.binds (ps := ["sort"]) fun _ _ _ _ _ _ us hl => match us, hl with | [_], _ => rfl
  have FSf := fun_mk (st := sSf) lSf cSf kSf
  have bSf := FSf.binds (ps := ["form"]) fun _ _ _ _ _ _ us hl => match us, hl with | [_], _ => rfl
  have FPo := fun_mk (st := sPo) lPo cPo kPo
  have bPo := FPo.binds (ps := ["piece"]) fun _ _ _ _ _ _ us hl => match us, hl with | [_], _ => rfl
  have FRd := fun_mk (st := sRd) lRd cRd kRd
  have bRd := FRd.binds (ps := ["text"]) fun _ _ _ _ _ _ us hl => match us, hl with | [_], _ => rfl
  have FRw := fun_mk (st := sRw) lRw cRw kRw
  have bRw := FRw.binds (ps := ["_law_cell", "_law_many"]) fun _ _ _ _ _ _ us hl => match us, hl with | [_, _], _ => rfl
  have FFo := fun_mk (st := sFo) lFo cFo kFo
  have bFo := FFo.binds (ps := ["_law_row_here", "_law_bits"]) fun _ _ _ _ _ _ us hl => match us, hl with | [_, _], _ => rfl
  have FPi := fun_mk (st := sPi) lPi cPi kPi
  have bPi := FPi.binds (ps := ["_law_cell"]) fun _ _ _ _ _ _ us hl => match us, hl with | [_], _ => rfl
  have FPp := fun_mk (st := sPp) lPp cPp kPp
  have bPp := FPp.binds (ps := ["_law_piece_here"]) fun _ _ _ _ _ _ us hl => match us, hl with | [_], _ => rfl
  have FAk := fun_mk (st := sAk) lAk cAk kAk
  have bAk := FAk.binds (ps := ["_law_found", "_law_due"]) fun _ _ _ _ _ _ us hl => match us, hl with | [_, _], _ => rfl
  have FRf := fun_mk (st := sRf) lRf cRf kRf
  have bRf := FRf.binds (ps := ["_law_text", "_law_at"]) fun _ _ _ _ _ _ us hl => match us, hl with | [_, _], _ => rfl
  have FCh := fun_mk (st := sCh) lCh cCh kCh
  have bCh := FCh.binds (ps := ["_law_pieces", "_law_cells"]) fun _ _ _ _ _ _ us hl => match us, hl with | [_, _], _ => rfl
  have FZ := fun_mk (st := sLaw) lZ cZ kZ
  have FPt := fun_mk (st := sPt) lPt cPt kPt
  have bPt := FPt.binds (ps := ["self", "text"]) fun _ _ _ _ _ _ us hl => match us, hl with | [_, _], _ => rfl
  have FPw := fun_mk (st := sPw) lPw cPw kPw
  have bPw := FPw.binds (ps := ["self"]) fun _ _ _ _ _ _ us hl => match us, hl with | [_], _ => rfl
  have FNt := fun_mk (st := sNt) lNt cNt kNt
  have bNt := FNt.binds (ps := ["self", "text"]) fun _ _ _ _ _ _ us hl => match us, hl with | [_, _], _ => rfl
  have FNw := fun_mk (st := sNw) lNw cNw kNw
  have bNw := FNw.binds (ps := ["self"]) fun _ _ _ _ _ _ us hl => match us, hl with | [_], _ => rfl
  have FAt := fun_mk (st := sAt) lAt cAt kAt
  have bAt := FAt.binds (ps := ["self", "text"]) fun _ _ _ _ _ _ us hl => match us, hl with | [_, _], _ => rfl
  have FAw := fun_mk (st := sAw) lAw cAw kAw
  have bAw := FAw.binds (ps := ["self"]) fun _ _ _ _ _ _ us hl => match us, hl with | [_], _ => rfl
  have FIt := fun_mk (st := sIt) lIt cIt kIt
  have bIt := FIt.binds (ps := ["self", "text"]) fun _ _ _ _ _ _ us hl => match us, hl with | [_, _], _ => rfl
  have FIw := fun_mk (st := sIw) lIw cIw kIw
  have bIw := FIw.binds (ps := ["self"]) fun _ _ _ _ _ _ us hl => match us, hl with | [_], _ => rfl
  have FKt := fun_mk (st := sKt) lKt cKt kKt
  have bKt := FKt.binds (ps := ["self", "text"]) fun _ _ _ _ _ _ us hl => match us, hl with | [_, _], _ => rfl
  have FKw := fun_mk (st := sKw) lKw cKw kKw
  have bKw := FKw.binds (ps := ["self"]) fun _ _ _ _ _ _ us hl => match us, hl with | [_], _ => rfl
  have FXo := fun_mk (st := sXo) lXo cXo kXo
  have bXo := FXo.binds (ps := ["self", "at"]) fun _ _ _ _ _ _ us hl => match us, hl with | [_, _], _ => rfl
  have gMo := PySem.W.mg_of X G aMo
  have gIi := PySem.W.mg_of X G aIi
  have gAl := PySem.W.mg_of X G aAl
  have gSo := PySem.W.mg_of X G aSo
  have gCe := PySem.W.mg_of X G aCe
  have gOf := PySem.W.mg_of X G aOf
  have gIn := PySem.W.mg_of X G aIn
  have gIm := PySem.W.mg_of X G aIm
  have gIl := PySem.W.mg_of X G aIl
  have gLs := PySem.W.mg_of X G aLs
  have gSi := PySem.W.mg_of X G aSi
  have gNu := PySem.W.mg_of X G aNu
  have gNa := PySem.W.mg_of X G aNa
  have gMk := PySem.W.mg_of X G aMk
  have gLi := PySem.W.mg_of X G aLi
  have gWo := PySem.W.mg_of X G aWo
  have gIg := PySem.W.mg_of X G aIg
  have gSg := PySem.W.mg_of X G aSg
  have gSf := PySem.W.mg_of X G aSf
  have gPo := PySem.W.mg_of X G aPo
  have gRd := PySem.W.mg_of X G aRd
  have gRw := PySem.W.mg_of X G aRw
  have gFo := PySem.W.mg_of X G aFo
  have gPi := PySem.W.mg_of X G aPi
  have gPp := PySem.W.mg_of X G aPp
  have gAk := PySem.W.mg_of X G aAk
  have gRf := PySem.W.mg_of X G aRf
  have gCh := PySem.W.mg_of X G aCh
  have mPt : Meth K C0 "takes" fPt := ⟨aPt, iPt, kPt⟩
  have mPw : Meth K C0 "word" fPw := ⟨aPw, iPw, kPw⟩
  have mNt : Meth K CN "takes" fNt := ⟨aNt, iNt, kNt⟩
  have mNw : Meth K CN "word" fNw := ⟨aNw, iNw, kNw⟩
  have mAt : Meth K CA "takes" fAt := ⟨aAt, iAt, kAt⟩
  have mAw : Meth K CA "word" fAw := ⟨aAw, iAw, kAw⟩
  have mIt : Meth K CI "takes" fIt := ⟨aIt, iIt, kIt⟩
  have mIw : Meth K CI "word" fIw := ⟨aIw, iIw, kIw⟩
  have mKt : Meth K CK "takes" fKt := ⟨aKt, iKt, kKt⟩
  have mKw : Meth K CK "word" fKw := ⟨aKw, iKw, kKw⟩
  have MXO : MkX K XO fXo := ⟨mxXO, tfXO, kcXO⟩
  have TT : TS mg := ⟨T.len, PySem.W.mg_none_of X G zall, ⟨_, PySem.W.mg_of X G qf, _, rfl⟩, ⟨_, PySem.W.mg_of X G qs, _, rfl⟩, ⟨_, PySem.W.mg_of X G qn, _, rfl⟩, ⟨_, PySem.W.mg_of X G qm, _, rfl⟩, ⟨_, PySem.W.mg_of X G qa, _, rfl⟩, ⟨_, PySem.W.mg_of X G qb, _, rfl⟩, ⟨_, PySem.W.mg_of X G qc, _, rfl⟩⟩
  have g8 := PySem.W.mg_of X G q8
  have r8 : RelV (.int 8) (Value.int 8 tk8) := ⟨_, rfl⟩
  have N : NmK K mg XO XL X0 X1 X2 X3 X4 := ⟨mgXO, mgXL, PySem.W.mg_none_of X G zverr, mgX0, xi0, mgX1, xi1, mgX2, xi2, mgX3, xi3, mgX4, xi4, xiN, xiV, xge, xgf, xtL⟩
  exact ⟨PySem.W.fnOf "law" "law" (defArgs sLaw) (defBody sLaw) (defScope sLaw) .none kVZ dcZ pmZ anZ cdZ ctZ, fun s v => .of_eq rfl, fun base _ _ => ok_all FZ T TT (PySem.W.mg_none_of X G ztup) (PySem.W.mg_none_of X G zint) (PySem.W.mg_none_of X G zmax) (PySem.W.mg_none_of X G zmin) g8 r8 N MXO FXo bXo xse xrz ⟨MC0, mgC0, clC0, mPt, bPt, mPw, bPw⟩ FPt FPw ⟨MCN, mgCN, clCN, mNt, bNt, mNw, bNw⟩ FNt FNw ⟨MCA, mgCA, clCA, mAt, bAt, mAw, bAw⟩ FAt FAw ⟨MCI, mgCI, clCI, mIt, bIt, mIw, bIw⟩ FIt FIw ⟨MCK, mgCK, clCK, mKt, bKt, mKw, bKw⟩ FKt FKw FMo bMo gMo FIi bIi gIi FAl bAl gAl FSo bSo gSo FCe bCe gCe FOf bOf gOf FIn bIn gIn FIm bIm gIm FIl bIl gIl FLs bLs gLs FSi bSi gSi FNu bNu gNu FNa bNa gNa FMk bMk gMk FLi bLi gLi FWo bWo gWo FIg bIg gIg FSg bSg gSg FSf bSf gSf FPo bPo gPo FRd bRd gRd FRw bRw gRw FFo bFo gFo FPi bPi gPi FPp bPp gPp FAk bAk gAk FRf bRf gRf FCh bCh gCh⟩
theorem walk {l : PySem.W.OpenLaw} {q : Program} {loose : List Str} {XP : (Str → Option Value) → Heap → Prop} {YP : World → Heap → Prop} {d : DefRec} {K : Params → PySem.W.Frag} (hn : l.most = some 63) (hdf : d.params.defaults = [])
    (hY : ∀ (w : World) (h : Heap), YP w h → (K w.params).In h)
    (F : ∀ (w : World) (mg : Str → Option Value) (fa : Addr) (h : Heap), (K w.params).In h → h.Ns mainGlobals mg → mg d.name = some (.ref fa) →
      ∃ fd : FuncData, (∀ (s : Shared) (u : Value), BindsTo s fd ⟨[u], []⟩ [("_law_script", u)]) ∧ ∀ base : Heap, (K w.params).In base → base.Ns mainGlobals mg → FnOk l.prog w (K w.params) mg base CX0 9 fa fd ["_law_script"] (spLaw (K w.params))) :
    PySem.W.WalkO q loose XP YP l.row.toRowW d [] (fun f vs => PySem.call f vs) :=
  L2.walk_of (n := 63) (k := 9) (x := "_law_script") (CX := fun _ => CX0) (sp := fun w => spLaw (K w.params)) hn (by decide) hdf ⟨rfl, by decide, by decide⟩ hY F (fun _ _ a ns hl _ hS => ⟨a, ns, rfl, hS, hl, fun _ => rfl⟩) fun _ _ _ _ _ z => z
end SL
open PySem PySem.W PyProof.Rows
set_option maxRecDepth 100000 in
set_option maxHeartbeats 0 in
theorem PySem.Challenge.cw_logloom_k05_forms_shown_and_read_holds : PySem.Challenge.rw_logloom_k05_forms_shown_and_read.Holds := by
  w_on; o_law
  refine PySem.W.holds_open (q := SL.hQ) (loose := []) (Xt := SL.hX)
    (XP := PySem.W.XL SL.hQ [])
    (Yf := (PySem.W.kHook SL.hK SL.hA SL.hE).obs) (Ya := (PySem.W.kHook SL.hK SL.hA SL.hE).val)
    (YP := (PySem.W.kHook SL.hK SL.hA SL.hE).says)
    (N := 8078) SL.hL (PySem.W.kHook SL.hK SL.hA SL.hE).of (PySem.W.kHook SL.hK SL.hA SL.hE).keeps
    (fun s e => PySem.W.xl_of s (Bool.and_eq_true_iff.mp e).1) PySem.W.XL.keeps
    rfl rfl rfl
    (fun s e => PySem.W.recFacts_of (Bool.and_eq_true_iff.mp e).2)
    rfl (by first | assumption | decide +kernel) (by decide +kernel)
    ⟨rfl, rfl, rfl, rfl, rfl, by decide +kernel⟩ ?hw ?hc
  case hw => w_witness2
  k_fill
  refine SL.walk (l := PySem.Challenge.rw_logloom_k05_forms_shown_and_read) rfl rfl (fun w h Y => PySem.W.kIn_of Y) ?F
  case F =>
    intro w mg fa h KX G hmg
    refine' SL.all_mk KX G hmg ?aC0 ?pgC0 ?hdC0 ?poC0 ?saC0 ?mkC0 ?kcC0 ?haC0 ?hmC0 ?inC0 ?aCN ?pgCN ?hdCN ?poCN ?saCN ?mkCN ?kcCN ?haCN ?hmCN ?inCN ?aCA ?pgCA ?hdCA ?poCA ?saCA ?mkCA ?kcCA ?haCA ?hmCA ?inCA ?aCI ?pgCI ?hdCI ?poCI ?saCI ?mkCI ?kcCI ?haCI ?hmCI ?inCI ?aCK ?pgCK ?hdCK ?poCK ?saCK ?mkCK ?kcCK ?haCK ?hmCK ?inCK ?aXO ?kcXO ?aXL ?aX0 ?aX1 ?aX2 ?aX3 ?aX4 ?hn ?htk ?xi0 ?xi1 ?xi2 ?xi3 ?xi4 ?xiN ?xiV ?xge ?xgf ?xtL ?xse ?xrz ?aMo ?lMo ?cMo ?kMo ?aIi ?lIi ?cIi ?kIi ?aAl ?lAl ?cAl ?kAl ?aSo ?lSo ?cSo ?kSo ?aCe ?lCe ?cCe ?kCe ?aOf ?lOf ?cOf ?kOf ?aIn ?lIn ?cIn ?kIn ?aIm ?lIm ?cIm ?kIm ?aIl ?lIl ?cIl ?kIl ?aLs ?lLs ?cLs ?kLs ?aSi ?lSi ?cSi ?kSi ?aNu ?lNu ?cNu ?kNu ?aNa ?lNa ?cNa ?kNa ?aMk ?lMk ?cMk ?kMk ?aLi ?lLi ?cLi ?kLi ?aWo ?lWo ?cWo ?kWo ?aIg ?lIg ?cIg ?kIg ?aSg ?lSg ?cSg ?kSg ?aSf ?lSf ?cSf ?kSf ?aPo ?lPo ?cPo ?kPo ?aRd ?lRd ?cRd ?kRd ?aRw ?lRw ?cRw ?kRw ?aFo ?lFo ?cFo ?kFo ?aPi ?lPi ?cPi ?kPi ?aPp ?lPp ?cPp ?kPp ?aAk ?lAk ?cAk ?kAk ?aRf ?lRf ?cRf ?kRf ?aCh ?lCh ?cCh ?kCh ?aZ ?lZ ?cZ ?kZ ?aPt ?iPt ?lPt ?cPt ?kPt ?aPw ?iPw ?lPw ?cPw ?kPw ?aNt ?iNt ?lNt ?cNt ?kNt ?aNw ?iNw ?lNw ?cNw ?kNw ?aAt ?iAt ?lAt ?cAt ?kAt ?aAw ?iAw ?lAw ?cAw ?kAw ?aIt ?iIt ?lIt ?cIt ?kIt ?aIw ?iIw ?lIw ?cIw ?kIw ?aKt ?iKt ?lKt ?cKt ?kKt ?aKw ?iKw ?lKw ?cKw ?kKw ?aXo ?iXo ?lXo ?cXo ?kXo ?mxXO ?tfXO ?qf ?qs ?qn ?qm ?qa ?qb ?qc ?q8 ?zall ?ztup ?zint ?zmax ?zmin ?zverr ?zlen ?zrange ?zisin ?zstr ?zbool ?zzip
    (case aC0 => k_is)
    (case pgC0 => k_is)
    (case hdC0 => k_is)
    (case poC0 => k_is)
    (case saC0 => k_is)
    (case mkC0 => k_is)
    (case kcC0 => k_is)
    (case haC0 => k_is)
    (case hmC0 => k_is)
    (case inC0 => k_is)
    (case aCN => k_is)
    (case pgCN => k_is)
    (case hdCN => k_is)
    (case poCN => k_is)
    (case saCN => k_is)
    (case mkCN => k_is)
    (case kcCN => k_is)
    (case haCN => k_is)
    (case hmCN => k_is)
    (case inCN => k_is)
    (case aCA => k_is)
    (case pgCA => k_is)
    (case hdCA => k_is)
    (case poCA => k_is)
    (case saCA => k_is)
    (case mkCA => k_is)
    (case kcCA => k_is)
    (case haCA => k_is)
    (case hmCA => k_is)
    (case inCA => k_is)
    (case aCI => k_is)
    (case pgCI => k_is)
    (case hdCI => k_is)
    (case poCI => k_is)
    (case saCI => k_is)
    (case mkCI => k_is)
    (case kcCI => k_is)
    (case haCI => k_is)
    (case hmCI => k_is)
    (case inCI => k_is)
    (case aCK => k_is)
    (case pgCK => k_is)
    (case hdCK => k_is)
    (case poCK => k_is)
    (case saCK => k_is)
    (case mkCK => k_is)
    (case kcCK => k_is)
    (case haCK => k_is)
    (case hmCK => k_is)
    (case inCK => k_is)
    (case aXO => k_is)
    (case kcXO => k_is)
    (case aXL => k_is)
    (case aX0 => k_is)
    (case aX1 => k_is)
    (case aX2 => k_is)
    (case aX3 => k_is)
    (case aX4 => k_is)
    (case hn => k_is)
    (case htk => k_is)
    (case xi0 => kit_is)
    (case xi1 => kit_is)
    (case xi2 => kit_is)
    (case xi3 => kit_is)
    (case xi4 => kit_is)
    (case xiN => kit_is)
    (case xiV => kit_is)
    (case xge => (first | kernel_rfl | decide +kernel))
    (case xgf => (first | kernel_rfl | decide +kernel))
    (case xtL => (first | kernel_rfl | decide +kernel))
    (case xse => (first | kernel_rfl | decide +kernel))
    (case xrz => (first | kernel_rfl | decide +kernel))
    (case aMo => k_is)
    (case lMo => k_is)
    (case cMo => k_is)
    (case kMo => k_is)
    (case aIi => k_is)
    (case lIi => k_is)
    (case cIi => k_is)
    (case kIi => k_is)
    (case aAl => k_is)
    (case lAl => k_is)
    (case cAl => k_is)
    (case kAl => k_is)
    (case aSo => k_is)
    (case lSo => k_is)
    (case cSo => k_is)
    (case kSo => k_is)
    (case aCe => k_is)
    (case lCe => k_is)
    (case cCe => k_is)
    (case kCe => k_is)
    (case aOf => k_is)
    (case lOf => k_is)
    (case cOf => k_is)
    (case kOf => k_is)
    (case aIn => k_is)
    (case lIn => k_is)
    (case cIn => k_is)
    (case kIn => k_is)
    (case aIm => k_is)
    (case lIm => k_is)
    (case cIm => k_is)
    (case kIm => k_is)
    (case aIl => k_is)
    (case lIl => k_is)
    (case cIl => k_is)
    (case kIl => k_is)
    (case aLs => k_is)
    (case lLs => k_is)
    (case cLs => k_is)
    (case kLs => k_is)
    (case aSi => k_is)
    (case lSi => k_is)
    (case cSi => k_is)
    (case kSi => k_is)
    (case aNu => k_is)
    (case lNu => k_is)
    (case cNu => k_is)
    (case kNu => k_is)
    (case aNa => k_is)
    (case lNa => k_is)
    (case cNa => k_is)
    (case kNa => k_is)
    (case aMk => k_is)
    (case lMk => k_is)
    (case cMk => k_is)
    (case kMk => k_is)
    (case aLi => k_is)
    (case lLi => k_is)
    (case cLi => k_is)
    (case kLi => k_is)
    (case aWo => k_is)
    (case lWo => k_is)
    (case cWo => k_is)
    (case kWo => k_is)
    (case aIg => k_is)
    (case lIg => k_is)
    (case cIg => k_is)
    (case kIg => k_is)
    (case aSg => k_is)
    (case lSg => k_is)
    (case cSg => k_is)
    (case kSg => k_is)
    (case aSf => k_is)
    (case lSf => k_is)
    (case cSf => k_is)
    (case kSf => k_is)
    (case aPo => k_is)
    (case lPo => k_is)
    (case cPo => k_is)
    (case kPo => k_is)
    (case aRd => k_is)
    (case lRd => k_is)
    (case cRd => k_is)
    (case kRd => k_is)
    (case aRw => k_is)
    (case lRw => k_is)
    (case cRw => k_is)
    (case kRw => k_is)
    (case aFo => k_is)
    (case lFo => k_is)
    (case cFo => k_is)
    (case kFo => k_is)
    (case aPi => k_is)
    (case lPi => k_is)
    (case cPi => k_is)
    (case kPi => k_is)
    (case aPp => k_is)
    (case lPp => k_is)
    (case cPp => k_is)
    (case kPp => k_is)
    (case aAk => k_is)
    (case lAk => k_is)
    (case cAk => k_is)
    (case kAk => k_is)
    (case aRf => k_is)
    (case lRf => k_is)
    (case cRf => k_is)
    (case kRf => k_is)
    (case aCh => k_is)
    (case lCh => k_is)
    (case cCh => k_is)
    (case kCh => k_is)
    (case aZ => k_is)
    (case lZ => k_is)
    (case cZ => k_is)
    (case kZ => k_is)
    (case aPt => k_is)
    (case iPt => k_is)
    (case lPt => k_is)
    (case cPt => k_is)
    (case kPt => k_is)
    (case aPw => k_is)
    (case iPw => k_is)
    (case lPw => k_is)
    (case cPw => k_is)
    (case kPw => k_is)
    (case aNt => k_is)
    (case iNt => k_is)
    (case lNt => k_is)
    (case cNt => k_is)
    (case kNt => k_is)
    (case aNw => k_is)
    (case iNw => k_is)
    (case lNw => k_is)
    (case cNw => k_is)
    (case kNw => k_is)
    (case aAt => k_is)
    (case iAt => k_is)
    (case lAt => k_is)
    (case cAt => k_is)
    (case kAt => k_is)
    (case aAw => k_is)
    (case iAw => k_is)
    (case lAw => k_is)
    (case cAw => k_is)
    (case kAw => k_is)
    (case aIt => k_is)
    (case iIt => k_is)
    (case lIt => k_is)
    (case cIt => k_is)
    (case kIt => k_is)
    (case aIw => k_is)
    (case iIw => k_is)
    (case lIw => k_is)
    (case cIw => k_is)
    (case kIw => k_is)
    (case aKt => k_is)
    (case iKt => k_is)
    (case lKt => k_is)
    (case cKt => k_is)
    (case kKt => k_is)
    (case aKw => k_is)
    (case iKw => k_is)
    (case lKw => k_is)
    (case cKw => k_is)
    (case kKw => k_is)
    (case aXo => k_is)
    (case iXo => k_is)
    (case lXo => k_is)
    (case cXo => k_is)
    (case kXo => k_is)
    (case mxXO => (first | kernel_rfl | decide +kernel))
    (case tfXO => (first | kernel_rfl | decide +kernel))
    (case qf => k_is)
    (case qs => k_is)
    (case qn => k_is)
    (case qm => k_is)
    (case qa => k_is)
    (case qb => k_is)
    (case qc => k_is)
    (case q8 => k_is)
    (case zall => k_is)
    (case ztup => k_is)
    (case zint => k_is)
    (case zmax => k_is)
    (case zmin => k_is)
    (case zverr => k_is)
    (case zlen => k_is)
    (case zrange => k_is)
    (case zisin => k_is)
    (case zstr => k_is)
    (case zbool => k_is)
    (case zzip => k_is)

