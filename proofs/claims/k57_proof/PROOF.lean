import PyProof.Rows.All
import Wide.All
import OpenK.AllK
import Wide.FinOn
import Lean
import PyProof.EqAt
import PyProof.EqKinds
import PyProof.TupleCall
import PySem.Challenge.RW_logloom_k57_behind_the_end
set_option Elab.async false
set_option linter.all false
set_option maxRecDepth 100000
/-! the run of the top over a tree of objects, by the library's faster forms, in one kernel run -/
namespace HT
open PySem PySem.W
abbrev annR : Option Value := some (.ref 6)
noncomputable abbrev okQ : Thread → Bool := Fast.tw6613529449190102663 11 annR
noncomputable abbrev stQ (p : Program) (w : World) : SharedT → Thread → Option (SharedT × Thread) :=
  Fast.tw10156331382660048174 (Fast.tw11892475500146522536 Fast.tw14364793385576792824) p w
noncomputable def runQ (p : Program) (w : World) : Nat → SharedT → Thread → Option SharedT
  | 0, _, _ => none
  | fuel + 1, a, th => @Bool.rec (fun _ => Option SharedT)
      (@Bool.rec (fun _ => Option SharedT) none (@Option.rec (SharedT × Thread) (fun _ => Option SharedT) none (fun r => runQ p w fuel r.1 r.2) (stQ p w a th)) (okQ th))
      (some a) (through th)
theorem okQ_is (th : Thread) : okQ th = stepOk 11 annR th := by
  show Fast.tw6613529449190102663 11 annR th = _
  rw [← Fast.te6613529449190102663]
theorem stQ_is (p : Program) (w : World) (a : SharedT) (th : Thread) : stQ p w a th = stepT (denote treeTable) p w a th := by
  show Fast.tw10156331382660048174 (Fast.tw11892475500146522536 Fast.tw14364793385576792824) p w a th = _
  rw [← Fast.te10156331382660048174, ← Fast.te11892475500146522536, ← Fast.te14364793385576792824]
theorem runQ_top {p : Program} {w : World} : ∀ (fuel : Nat) (a b : SharedT) (th : Thread),
    runQ p w fuel a th = some b → topRun treeTable p w 11 annR fuel a.abs th = some b.abs
  | 0, _, _, _, e => by cases e
  | fuel + 1, a, b, th, e => by
    unfold runQ at e
    unfold topRun
    rw [okQ_is, stQ_is] at e
    cases e1 : through th
    · rw [e1] at e
      cases e2 : stepOk 11 annR th
      · rw [e2] at e; cases e
      · rw [e2] at e
        cases e3 : stepT (denote treeTable) p w a th with
        | none => rw [e3] at e; cases e
        | some r =>
          rw [e3] at e
          have e4 := stepT_spec (s' := r.1) (t' := r.2) e3
          rw [e4]
          exact runQ_top fuel r.1 b r.2 e
    · rw [e1] at e
      have : a = b := Option.some.inj e
      rw [this]
noncomputable def bT (P : Params) : BT :=
  .node (boot_o_0 P)
    (.node (boot_o_1 P) (.node (boot_o_3 P) (.node (boot_o_7 P) .nil .nil) .nil) (.node (boot_o_5 P) (.node (boot_o_9 P) .nil .nil) .nil))
    (.node (boot_o_2 P) (.node (boot_o_4 P) (.node (boot_o_8 P) .nil .nil) .nil) (.node (boot_o_6 P) (.node (boot_o_10 P) .nil .nil) .nil))
theorem bT_boot : ∀ P, boot_heap P = absHeap (bT P) 11 {} := fun P => by kernel_rfl
noncomputable abbrev at0 (w : World) (os : OsState) : SharedT := ⟨bT w.params, 11, {}, Array.mk [], boot_drawn, boot_toks, os⟩
theorem at0_abs (w : World) (os : OsState) : (at0 w os).abs = ⟨boot_heap w.params, Array.mk [], boot_drawn, boot_toks, os⟩ := by
  rw [bT_boot]; rfl
theorem boot_looks : ∀ P : Params, (((boot_heap P).isNs mainGlobals && (#[] : Array GenState).size == 0) = true ∧ (boot_heap P).objs.size = 11) ∧
    (boot_heap P).nsMap mainGlobals "__annotations__" = annR := fun P => ⟨⟨by kernel_rfl, by kernel_rfl⟩, by kernel_rfl⟩
/-- what is looked at behind the top, ahead of the views -/
noncomputable abbrev kept (p : Program) (P : Params) (b : Shared) : Bool :=
  staticsOk (importedModules p.main.body) (boot_heap P) b.heap && namesBound p b.heap && gensDone b && laidKept (boot_heap P) b.heap
/-- the head out of one kernel run -/
theorem left1 {p q : Program} {loose : List Str} {Xt : Shared → Bool} {α : Type} {Yf : Shared → α} {Ya : World → α} {N : Nat} {g0 : Bool}
    (e : opening p = plainProg p.main.scope.names) (hN : Nat.ble 600 N = true) (f : ∀ s, fenceModules? p s = some s)
    (run : ∀ (w : World) (os : OsState), (runQ p w N (at0 w os) (topStub p)).map (fun b =>
      (kept p w.params b.abs, Fast.tw4187177175401517315 q loose (importedModules p.main.body) Xt g0 b.abs, Yf b.abs)) = some (true, openGood q loose, Ya w)) :
    LeftO p q loose Xt Yf Ya N g0 := by
  intro w
  obtain ⟨⟨hp, gs, d, k, os⟩, o1, o2⟩ := Option.map_eq_some_iff.mp (boot_open e hN f w)
  obtain ⟨rfl, rfl, rfl, rfl⟩ : hp = boot_heap w.params ∧ gs = Array.mk [] ∧ d = boot_drawn ∧ k = boot_toks := by
    simpa using o2
  obtain ⟨⟨z1, z2⟩, z3⟩ := boot_looks w.params
  have r := run w os
  rw [← Fast.te4187177175401517315] at r
  obtain ⟨b, r1, r2⟩ := Option.map_eq_some_iff.mp r
  rw [Prod.mk.injEq, Prod.mk.injEq] at r2
  have r3 := runQ_top N _ b _ r1
  rw [at0_abs] at r3
  have r4 : topFrom treeTable p w N ⟨boot_heap w.params, Array.mk [], boot_drawn, boot_toks, os⟩ = some b.abs := by
    have k1 : kept p w.params b.abs = true := r2.1
    unfold kept at k1
    unfold topFrom
    simp only [z1, z2, z3, r3, Option.bind_some, k1]
  have r5 : openEnds treeTable p w N = some b.abs := by
    unfold openEnds
    simp only [o1, Option.bind_some, r4]
  rw [r5]
  exact congrArg some (by rw [← r2.2.1, ← r2.2.2])
end HT
namespace L2
open PySem
def inClass (s : Stmt) (j : Nat) : Stmt := match s with
  | .ClassDef _ _ _ body _ _ _ _ _ _ _ => body.getD j (.Pass ⟨0, 0, 0, 0⟩)
  | _ => .Pass ⟨0, 0, 0, 0⟩
def defArgs (s : Stmt) : Arguments := match s with
  | .FunctionDef _ a _ _ _ _ _ _ _ _ => a
  | _ => { posonlyargs := [], args := [], vararg := none, kwonlyargs := [], kw_defaults := [], kwarg := none, defaults := [] }
def defBody (s : Stmt) : List Stmt := match s with
  | .FunctionDef _ _ b _ _ _ _ _ _ _ => b
  | _ => []
def defScope (s : Stmt) : Scope := match s with
  | .FunctionDef _ _ _ _ _ _ sc _ _ _ => sc
  | _ => { kind := .function, names := [], isGenerator := false, isCoroutine := false }
end L2
namespace QL
open PySem L2
def top (i : Nat) : Stmt := PySem.Challenge.pw_logloom_k57_behind_the_end.main.body.getD i (.Pass ⟨0, 0, 0, 0⟩)
abbrev sWa : Stmt := top 10
abbrev sSw : Stmt := top 11
abbrev sBk : Stmt := inClass (top 12) 0
abbrev sOn : Stmt := inClass (top 12) 1
abbrev sRi : Stmt := inClass (top 13) 0
abbrev sRf : Stmt := inClass (top 13) 1
abbrev sWi : Stmt := inClass (top 14) 0
abbrev sWf : Stmt := inClass (top 14) 1
abbrev sHi : Stmt := inClass (top 15) 0
abbrev sHo : Stmt := inClass (top 15) 1
abbrev sHf : Stmt := inClass (top 15) 2
abbrev sAi : Stmt := inClass (top 16) 0
abbrev sAb : Stmt := inClass (top 16) 1
abbrev sAf : Stmt := inClass (top 16) 2
abbrev sTi : Stmt := inClass (top 17) 0
abbrev sTb : Stmt := inClass (top 17) 1
abbrev sTo : Stmt := inClass (top 17) 2
abbrev sTf : Stmt := inClass (top 17) 3
abbrev sJi : Stmt := inClass (top 18) 0
abbrev sJb : Stmt := inClass (top 18) 1
abbrev sJo : Stmt := inClass (top 18) 2
abbrev sBf : Stmt := inClass (top 19) 0
abbrev sEf : Stmt := inClass (top 20) 0
abbrev sNi : Stmt := inClass (top 21) 0
abbrev sNb : Stmt := inClass (top 21) 1
abbrev sNo : Stmt := inClass (top 21) 2
abbrev sNf : Stmt := inClass (top 21) 3
abbrev sCe : Stmt := top 25
abbrev sMi : Stmt := top 26
abbrev sPo : Stmt := top 27
abbrev sLe : Stmt := top 28
abbrev sEn : Stmt := top 29
abbrev sLg : Stmt := top 30
abbrev sCo : Stmt := top 31
abbrev sSh : Stmt := top 32
abbrev sNr : Stmt := top 33
abbrev sGw : Stmt := top 34
abbrev sBu : Stmt := top 35
abbrev sLaw : Stmt := top 37
abbrev sRd : Stmt := top 36
abbrev sYi : Stmt := inClass (top 8) 0
abbrev sYk : Stmt := inClass (top 8) 1
abbrev sYt : Stmt := inClass (top 8) 2
abbrev sYe : Stmt := inClass (top 8) 3
abbrev sYr : Stmt := inClass (top 8) 4
abbrev sYs : Stmt := inClass (top 8) 5
abbrev sMv : Stmt := top 7
abbrev sWk : Stmt := top 23
abbrev pGap : Str := "_law_gap"
abbrev pDue : Str := "_law_due"
end QL
namespace QL
open PySem L2
def hK : PySem.Params → PySem.W.Frag := fun P =>
  (nat_lit 2, ({ cls := Value.none, data := Data.dict #[] } : Obj)) ::
  (nat_lit 3, ({ cls := Value.type "dict", data := Data.dict #[{ hash := PyData.keyHash P (Str.ofString "__name__"), key := Value.str (Str.ofString "__name__") 165, val := Value.str (Str.ofString "law_logloom_k57_behind_the_end") 795 }, { hash := PyData.keyHash P (Str.ofString "__doc__"), key := Value.str (Str.ofString "__doc__") 166, val := Value.none }, { hash := PyData.keyHash P (Str.ofString "__package__"), key := Value.str (Str.ofString "__package__") 167, val := Value.none }, { hash := PyData.keyHash P (Str.ofString "__loader__"), key := Value.str (Str.ofString "__loader__") 168, val := Value.builtin "__main__.__loader__#opaque" }, { hash := PyData.keyHash P (Str.ofString "__spec__"), key := Value.str (Str.ofString "__spec__") 169, val := Value.none }, { hash := PyData.keyHash P (Str.ofString "__annotations__"), key := Value.str (Str.ofString "__annotations__") 170, val := Value.ref 6 }, { hash := PyData.keyHash P (Str.ofString "__builtins__"), key := Value.str (Str.ofString "__builtins__") 171, val := Value.ref 4 }, { hash := PyData.keyHash P (Str.ofString "__file__"), key := Value.str (Str.ofString "__file__") 173, val := Value.str (Str.ofString "/claim/cut.py") 172 }, { hash := PyData.keyHash P (Str.ofString "__cached__"), key := Value.str (Str.ofString "__cached__") 174, val := Value.none }, { hash := PyData.keyHash P (Str.ofString "LoomError"), key := Value.str (Str.ofString "LoomError") 206, val := Value.ref 24 }, { hash := PyData.keyHash P (Str.ofString "NoQuestion"), key := Value.str (Str.ofString "NoQuestion") 231, val := Value.ref 44 }, { hash := PyData.keyHash P (Str.ofString "Ended"), key := Value.str (Str.ofString "Ended") 247, val := Value.ref 56 }, { hash := PyData.keyHash P (Str.ofString "Spoiled"), key := Value.str (Str.ofString "Spoiled") 263, val := Value.ref 68 }, { hash := PyData.keyHash P (Str.ofString "Untaught"), key := Value.str (Str.ofString "Untaught") 279, val := Value.ref 80 }, { hash := PyData.keyHash P (Str.ofString "moved"), key := Value.str (Str.ofString "moved") 287, val := Value.ref 87 }, { hash := PyData.keyHash P (Str.ofString "Watch"), key := Value.str (Str.ofString "Watch") 364, val := Value.ref 139 }, { hash := PyData.keyHash P (Str.ofString "word_at"), key := Value.str (Str.ofString "word_at") 374, val := Value.ref 150 }, { hash := PyData.keyHash P (Str.ofString "same_word"), key := Value.str (Str.ofString "same_word") 385, val := Value.ref 157 }, { hash := PyData.keyHash P (Str.ofString "Question"), key := Value.str (Str.ofString "Question") 428, val := Value.ref 188 }, { hash := PyData.keyHash P (Str.ofString "Row"), key := Value.str (Str.ofString "Row") 462, val := Value.ref 216 }, { hash := PyData.keyHash P (Str.ofString "With"), key := Value.str (Str.ofString "With") 499, val := Value.ref 242 }, { hash := PyData.keyHash P (Str.ofString "Behind"), key := Value.str (Str.ofString "Behind") 547, val := Value.ref 275 }, { hash := PyData.keyHash P (Str.ofString "Ahead"), key := Value.str (Str.ofString "Ahead") 595, val := Value.ref 308 }, { hash := PyData.keyHash P (Str.ofString "Times"), key := Value.str (Str.ofString "Times") 644, val := Value.ref 346 }, { hash := PyData.keyHash P (Str.ofString "Joint"), key := Value.str (Str.ofString "Joint") 685, val := Value.ref 379 }, { hash := PyData.keyHash P (Str.ofString "Both"), key := Value.str (Str.ofString "Both") 712, val := Value.ref 398 }, { hash := PyData.keyHash P (Str.ofString "Either"), key := Value.str (Str.ofString "Either") 738, val := Value.ref 417 }, { hash := PyData.keyHash P (Str.ofString "Not"), key := Value.str (Str.ofString "Not") 786, val := Value.ref 457 }, { hash := PyData.keyHash P (Str.ofString "walked"), key := Value.str (Str.ofString "walked") 794, val := Value.ref 464 }, { hash := PyData.keyHash P (Str.ofString "_law_cell_at"), key := Value.str (Str.ofString "_law_cell_at") 804, val := Value.ref 471 }, { hash := PyData.keyHash P (Str.ofString "_law_mix"), key := Value.str (Str.ofString "_law_mix") 812, val := Value.ref 478 }, { hash := PyData.keyHash P (Str.ofString "_law_pool"), key := Value.str (Str.ofString "_law_pool") 828, val := Value.ref 485 }, { hash := PyData.keyHash P (Str.ofString "_law_letters"), key := Value.str (Str.ofString "_law_letters") 836, val := Value.ref 492 }, { hash := PyData.keyHash P (Str.ofString "_law_entry"), key := Value.str (Str.ofString "_law_entry") 842, val := Value.ref 497 }, { hash := PyData.keyHash P (Str.ofString "_law_log"), key := Value.str (Str.ofString "_law_log") 848, val := Value.ref 502 }, { hash := PyData.keyHash P (Str.ofString "_law_count"), key := Value.str (Str.ofString "_law_count") 856, val := Value.ref 509 }, { hash := PyData.keyHash P (Str.ofString "_law_short"), key := Value.str (Str.ofString "_law_short") 869, val := Value.ref 516 }, { hash := PyData.keyHash P (Str.ofString "_law_nearer"), key := Value.str (Str.ofString "_law_nearer") 877, val := Value.ref 523 }, { hash := PyData.keyHash P (Str.ofString "_law_grown"), key := Value.str (Str.ofString "_law_grown") 891, val := Value.ref 530 }, { hash := PyData.keyHash P (Str.ofString "_law_built"), key := Value.str (Str.ofString "_law_built") 899, val := Value.ref 537 }, { hash := PyData.keyHash P (Str.ofString "_law_refused"), key := Value.str (Str.ofString "_law_refused") 910, val := Value.ref 544 }, { hash := PyData.keyHash P (Str.ofString "law"), key := Value.str (Str.ofString "law") 916, val := Value.ref 549 }] 42 } : Obj)) ::
  (nat_lit 15, ({ cls := Value.type "tuple", data := Data.seq #[Value.type "ValueError"] } : Obj)) ::
  (nat_lit 22, ({ cls := Value.type "tuple", data := Data.seq #[] } : Obj)) ::
  (nat_lit 23, ({ cls := Value.type "dict", data := Data.dict #[{ hash := PyData.keyHash P (Str.ofString "__module__"), key := Value.str (Str.ofString "__module__") 196, val := Value.str (Str.ofString "logloom.errors") 187 }, { hash := PyData.keyHash P (Str.ofString "__firstlineno__"), key := Value.str (Str.ofString "__firstlineno__") 200, val := Value.int 2 199 }, { hash := PyData.keyHash P (Str.ofString "__static_attributes__"), key := Value.str (Str.ofString "__static_attributes__") 201, val := Value.ref 22 }, { hash := PyData.keyHash P (Str.ofString "__weakref__"), key := Value.str (Str.ofString "__weakref__") 203, val := Value.ref 25 }, { hash := PyData.keyHash P (Str.ofString "__doc__"), key := Value.str (Str.ofString "__doc__") 204, val := Value.none }] 3 } : Obj)) ::
  (nat_lit 24, ({ cls := Value.type "type", data := Data.cls { name := Str.ofString "LoomError", bases := [Value.type "ValueError"], mro := [Value.ref 24, Value.type "ValueError", Value.type "Exception", Value.type "BaseException", Value.type "object"], ns := 23, qualname := Str.ofString "LoomError", subclasses := [Value.ref 44, Value.ref 56, Value.ref 68, Value.ref 80] }, slots := #[some (Value.ref 15), none, some (Value.str (Str.ofString "LoomError") 189), some (Value.str (Str.ofString "LoomError") 197), some (Value.builtin "ValueError.__new__"), some (Value.bool true)] } : Obj)) ::
  (nat_lit 25, ({ cls := Value.type "getset_descriptor", data := Data.fields #[Value.str (Str.ofString "__weakref__") 202, Value.ref 24, Value.builtin "ExceptionGroup.__weakref__", Value.none] } : Obj)) ::
  (nat_lit 28, ({ cls := Value.type "tuple", data := Data.seq #[Value.ref 24] } : Obj)) ::
  (nat_lit 35, ({ cls := Value.type "tuple", data := Data.seq #[] } : Obj)) ::
  (nat_lit 37, ({ cls := Value.type "tuple", data := Data.seq #[Value.str (Str.ofString "self") 222, Value.str (Str.ofString "at") 223] } : Obj)) ::
  (nat_lit 38, ({ cls := Value.type "tuple", data := Data.seq #[] } : Obj)) ::
  (nat_lit 40, ({ cls := Value.type "code", data := Data.fields #[Value.str (Str.ofString "__init__") 219, Value.str (Str.ofString "NoQuestion.__init__") 220, Value.str (Str.ofString "/claim/cut.py") 221, Value.int 6 0, Value.int 2 0, Value.int 0 0, Value.int 0 0, Value.int 3 0, Value.ref 35, Value.bool true, Value.int 181 0, Value.ref 36, Value.none, Value.ref 37, Value.ref 38, Value.ref 39, Value.int 224 0, Value.int 6 0, Value.str (Str.ofString "/claim/cut.py") 225] } : Obj)) ::
  (nat_lit 41, (⟨(Value.type "function"), (none), .func (PySem.W.fnOf (Str.ofString "__init__") (Str.ofString "NoQuestion.__init__") (defArgs (inClass (top 2) 0)) (defBody (inClass (top 2) 0)) (defScope (inClass (top 2) 0)) (Value.none) (Value.none) (Value.none) (Value.str (Str.ofString "logloom.errors") 187) (none) (Value.ref 40) (Value.none)), (#[])⟩ : Obj)) ::
  (nat_lit 42, ({ cls := Value.type "tuple", data := Data.seq #[Value.str (Str.ofString "at") 227] } : Obj)) ::
  (nat_lit 43, ({ cls := Value.type "dict", data := Data.dict #[{ hash := PyData.keyHash P (Str.ofString "__module__"), key := Value.str (Str.ofString "__module__") 214, val := Value.str (Str.ofString "logloom.errors") 187 }, { hash := PyData.keyHash P (Str.ofString "__firstlineno__"), key := Value.str (Str.ofString "__firstlineno__") 218, val := Value.int 4 217 }, { hash := PyData.keyHash P (Str.ofString "__init__"), key := Value.str (Str.ofString "__init__") 226, val := Value.ref 41 }, { hash := PyData.keyHash P (Str.ofString "__static_attributes__"), key := Value.str (Str.ofString "__static_attributes__") 228, val := Value.ref 42 }, { hash := PyData.keyHash P (Str.ofString "__doc__"), key := Value.str (Str.ofString "__doc__") 229, val := Value.none }] 2 } : Obj)) ::
  (nat_lit 44, ({ cls := Value.type "type", data := Data.cls { name := Str.ofString "NoQuestion", bases := [Value.ref 24], mro := [Value.ref 44, Value.ref 24, Value.type "ValueError", Value.type "Exception", Value.type "BaseException", Value.type "object"], ns := 43, qualname := Str.ofString "NoQuestion" }, slots := #[some (Value.ref 28), none, some (Value.str (Str.ofString "NoQuestion") 207), some (Value.str (Str.ofString "NoQuestion") 215), some (Value.builtin "ValueError.__new__"), some (Value.bool true)] } : Obj)) ::
  (nat_lit 47, ({ cls := Value.type "tuple", data := Data.seq #[Value.ref 24] } : Obj)) ::
  (nat_lit 54, ({ cls := Value.type "tuple", data := Data.seq #[] } : Obj)) ::
  (nat_lit 55, ({ cls := Value.type "dict", data := Data.dict #[{ hash := PyData.keyHash P (Str.ofString "__module__"), key := Value.str (Str.ofString "__module__") 239, val := Value.str (Str.ofString "logloom.errors") 187 }, { hash := PyData.keyHash P (Str.ofString "__firstlineno__"), key := Value.str (Str.ofString "__firstlineno__") 243, val := Value.int 8 242 }, { hash := PyData.keyHash P (Str.ofString "__static_attributes__"), key := Value.str (Str.ofString "__static_attributes__") 244, val := Value.ref 54 }, { hash := PyData.keyHash P (Str.ofString "__doc__"), key := Value.str (Str.ofString "__doc__") 245, val := Value.none }] 2 } : Obj)) ::
  (nat_lit 56, ({ cls := Value.type "type", data := Data.cls { name := Str.ofString "Ended", bases := [Value.ref 24], mro := [Value.ref 56, Value.ref 24, Value.type "ValueError", Value.type "Exception", Value.type "BaseException", Value.type "object"], ns := 55, qualname := Str.ofString "Ended" }, slots := #[some (Value.ref 47), none, some (Value.str (Str.ofString "Ended") 232), some (Value.str (Str.ofString "Ended") 240), some (Value.builtin "ValueError.__new__"), some (Value.bool true)] } : Obj)) ::
  (nat_lit 59, ({ cls := Value.type "tuple", data := Data.seq #[Value.ref 24] } : Obj)) ::
  (nat_lit 66, ({ cls := Value.type "tuple", data := Data.seq #[] } : Obj)) ::
  (nat_lit 67, ({ cls := Value.type "dict", data := Data.dict #[{ hash := PyData.keyHash P (Str.ofString "__module__"), key := Value.str (Str.ofString "__module__") 255, val := Value.str (Str.ofString "logloom.errors") 187 }, { hash := PyData.keyHash P (Str.ofString "__firstlineno__"), key := Value.str (Str.ofString "__firstlineno__") 259, val := Value.int 10 258 }, { hash := PyData.keyHash P (Str.ofString "__static_attributes__"), key := Value.str (Str.ofString "__static_attributes__") 260, val := Value.ref 66 }, { hash := PyData.keyHash P (Str.ofString "__doc__"), key := Value.str (Str.ofString "__doc__") 261, val := Value.none }] 2 } : Obj)) ::
  (nat_lit 68, ({ cls := Value.type "type", data := Data.cls { name := Str.ofString "Spoiled", bases := [Value.ref 24], mro := [Value.ref 68, Value.ref 24, Value.type "ValueError", Value.type "Exception", Value.type "BaseException", Value.type "object"], ns := 67, qualname := Str.ofString "Spoiled" }, slots := #[some (Value.ref 59), none, some (Value.str (Str.ofString "Spoiled") 248), some (Value.str (Str.ofString "Spoiled") 256), some (Value.builtin "ValueError.__new__"), some (Value.bool true)] } : Obj)) ::
  (nat_lit 71, ({ cls := Value.type "tuple", data := Data.seq #[Value.ref 24] } : Obj)) ::
  (nat_lit 78, ({ cls := Value.type "tuple", data := Data.seq #[] } : Obj)) ::
  (nat_lit 79, ({ cls := Value.type "dict", data := Data.dict #[{ hash := PyData.keyHash P (Str.ofString "__module__"), key := Value.str (Str.ofString "__module__") 271, val := Value.str (Str.ofString "logloom.errors") 187 }, { hash := PyData.keyHash P (Str.ofString "__firstlineno__"), key := Value.str (Str.ofString "__firstlineno__") 275, val := Value.int 12 274 }, { hash := PyData.keyHash P (Str.ofString "__static_attributes__"), key := Value.str (Str.ofString "__static_attributes__") 276, val := Value.ref 78 }, { hash := PyData.keyHash P (Str.ofString "__doc__"), key := Value.str (Str.ofString "__doc__") 277, val := Value.none }] 2 } : Obj)) ::
  (nat_lit 80, ({ cls := Value.type "type", data := Data.cls { name := Str.ofString "Untaught", bases := [Value.ref 24], mro := [Value.ref 80, Value.ref 24, Value.type "ValueError", Value.type "Exception", Value.type "BaseException", Value.type "object"], ns := 79, qualname := Str.ofString "Untaught" }, slots := #[some (Value.ref 71), none, some (Value.str (Str.ofString "Untaught") 264), some (Value.str (Str.ofString "Untaught") 272), some (Value.builtin "ValueError.__new__"), some (Value.bool true)] } : Obj)) ::
  (nat_lit 83, ({ cls := Value.type "tuple", data := Data.seq #[] } : Obj)) ::
  (nat_lit 86, ({ cls := Value.type "code", data := Data.fields #[Value.str (Str.ofString "moved") 282, Value.str (Str.ofString "moved") 283, Value.str (Str.ofString "/claim/cut.py") 284, Value.int 15 0, Value.int 2 0, Value.int 0 0, Value.int 0 0, Value.int 3 0, Value.ref 83, Value.bool true, Value.int 181 0, Value.ref 84, Value.none, Value.none, Value.none, Value.ref 85, Value.int 285 0, Value.int 15 0, Value.str (Str.ofString "/claim/cut.py") 286] } : Obj)) ::
  (nat_lit 87, (⟨(Value.type "function"), (none), .func (PySem.W.fnOf (Str.ofString "moved") (Str.ofString "moved") (defArgs (top 7)) (defBody (top 7)) (defScope (top 7)) (Value.none) (Value.none) (Value.none) (Value.str (Str.ofString "logloom.watches") 280) (none) (Value.ref 86) (Value.none)), (#[])⟩ : Obj)) ::
  (nat_lit 95, ({ cls := Value.type "tuple", data := Data.seq #[] } : Obj)) ::
  (nat_lit 97, ({ cls := Value.type "tuple", data := Data.seq #[Value.str (Str.ofString "self") 303, Value.str (Str.ofString "question") 304] } : Obj)) ::
  (nat_lit 98, ({ cls := Value.type "tuple", data := Data.seq #[] } : Obj)) ::
  (nat_lit 100, ({ cls := Value.type "code", data := Data.fields #[Value.str (Str.ofString "__init__") 300, Value.str (Str.ofString "Watch.__init__") 301, Value.str (Str.ofString "/claim/cut.py") 302, Value.int 19 0, Value.int 2 0, Value.int 0 0, Value.int 0 0, Value.int 3 0, Value.ref 95, Value.bool true, Value.int 181 0, Value.ref 96, Value.none, Value.ref 97, Value.ref 98, Value.ref 99, Value.int 305 0, Value.int 19 0, Value.str (Str.ofString "/claim/cut.py") 306] } : Obj)) ::
  (nat_lit 101, (⟨(Value.type "function"), (none), .func (PySem.W.fnOf (Str.ofString "__init__") (Str.ofString "Watch.__init__") (defArgs (inClass (top 8) 0)) (defBody (inClass (top 8) 0)) (defScope (inClass (top 8) 0)) (Value.none) (Value.none) (Value.none) (Value.str (Str.ofString "logloom.watches") 280) (none) (Value.ref 100) (Value.none)), (#[])⟩ : Obj)) ::
  (nat_lit 102, ({ cls := Value.type "tuple", data := Data.seq #[] } : Obj)) ::
  (nat_lit 104, ({ cls := Value.type "tuple", data := Data.seq #[Value.str (Str.ofString "self") 311] } : Obj)) ::
  (nat_lit 105, ({ cls := Value.type "tuple", data := Data.seq #[] } : Obj)) ::
  (nat_lit 107, ({ cls := Value.type "code", data := Data.fields #[Value.str (Str.ofString "kept") 308, Value.str (Str.ofString "Watch.kept") 309, Value.str (Str.ofString "/claim/cut.py") 310, Value.int 26 0, Value.int 1 0, Value.int 0 0, Value.int 0 0, Value.int 3 0, Value.ref 102, Value.bool true, Value.int 181 0, Value.ref 103, Value.none, Value.ref 104, Value.ref 105, Value.ref 106, Value.int 312 0, Value.int 26 0, Value.str (Str.ofString "/claim/cut.py") 313] } : Obj)) ::
  (nat_lit 108, (⟨(Value.type "function"), (none), .func (PySem.W.fnOf (Str.ofString "kept") (Str.ofString "Watch.kept") (defArgs (inClass (top 8) 1)) (defBody (inClass (top 8) 1)) (defScope (inClass (top 8) 1)) (Value.none) (Value.none) (Value.none) (Value.str (Str.ofString "logloom.watches") 280) (none) (Value.ref 107) (Value.none)), (#[])⟩ : Obj)) ::
  (nat_lit 109, ({ cls := Value.type "tuple", data := Data.seq #[] } : Obj)) ::
  (nat_lit 111, ({ cls := Value.type "tuple", data := Data.seq #[Value.str (Str.ofString "self") 318, Value.str (Str.ofString "piece") 319, Value.str (Str.ofString "entries") 320] } : Obj)) ::
  (nat_lit 112, ({ cls := Value.type "tuple", data := Data.seq #[] } : Obj)) ::
  (nat_lit 114, ({ cls := Value.type "code", data := Data.fields #[Value.str (Str.ofString "take") 315, Value.str (Str.ofString "Watch.take") 316, Value.str (Str.ofString "/claim/cut.py") 317, Value.int 29 0, Value.int 2 0, Value.int 0 0, Value.int 0 0, Value.int 3 0, Value.ref 109, Value.bool true, Value.int 181 0, Value.ref 110, Value.none, Value.ref 111, Value.ref 112, Value.ref 113, Value.int 321 0, Value.int 29 0, Value.str (Str.ofString "/claim/cut.py") 322] } : Obj)) ::
  (nat_lit 115, (⟨(Value.type "function"), (none), .func (PySem.W.fnOf (Str.ofString "take") (Str.ofString "Watch.take") (defArgs (inClass (top 8) 2)) (defBody (inClass (top 8) 2)) (defScope (inClass (top 8) 2)) (Value.none) (Value.none) (Value.none) (Value.str (Str.ofString "logloom.watches") 280) (none) (Value.ref 114) (Value.none)), (#[])⟩ : Obj)) ::
  (nat_lit 116, ({ cls := Value.type "tuple", data := Data.seq #[] } : Obj)) ::
  (nat_lit 118, ({ cls := Value.type "tuple", data := Data.seq #[Value.str (Str.ofString "self") 327, Value.str (Str.ofString "told") 328] } : Obj)) ::
  (nat_lit 119, ({ cls := Value.type "tuple", data := Data.seq #[] } : Obj)) ::
  (nat_lit 121, ({ cls := Value.type "code", data := Data.fields #[Value.str (Str.ofString "end") 324, Value.str (Str.ofString "Watch.end") 325, Value.str (Str.ofString "/claim/cut.py") 326, Value.int 34 0, Value.int 1 0, Value.int 0 0, Value.int 0 0, Value.int 3 0, Value.ref 116, Value.bool true, Value.int 181 0, Value.ref 117, Value.none, Value.ref 118, Value.ref 119, Value.ref 120, Value.int 329 0, Value.int 34 0, Value.str (Str.ofString "/claim/cut.py") 330] } : Obj)) ::
  (nat_lit 122, (⟨(Value.type "function"), (none), .func (PySem.W.fnOf (Str.ofString "end") (Str.ofString "Watch.end") (defArgs (inClass (top 8) 3)) (defBody (inClass (top 8) 3)) (defScope (inClass (top 8) 3)) (Value.none) (Value.none) (Value.none) (Value.str (Str.ofString "logloom.watches") 280) (none) (Value.ref 121) (Value.none)), (#[])⟩ : Obj)) ::
  (nat_lit 123, ({ cls := Value.type "tuple", data := Data.seq #[] } : Obj)) ::
  (nat_lit 125, ({ cls := Value.type "tuple", data := Data.seq #[Value.str (Str.ofString "self") 335] } : Obj)) ::
  (nat_lit 126, ({ cls := Value.type "tuple", data := Data.seq #[] } : Obj)) ::
  (nat_lit 128, ({ cls := Value.type "code", data := Data.fields #[Value.str (Str.ofString "refuse_if_over") 332, Value.str (Str.ofString "Watch.refuse_if_over") 333, Value.str (Str.ofString "/claim/cut.py") 334, Value.int 41 0, Value.int 1 0, Value.int 0 0, Value.int 0 0, Value.int 3 0, Value.ref 123, Value.bool true, Value.int 181 0, Value.ref 124, Value.none, Value.ref 125, Value.ref 126, Value.ref 127, Value.int 336 0, Value.int 41 0, Value.str (Str.ofString "/claim/cut.py") 337] } : Obj)) ::
  (nat_lit 129, (⟨(Value.type "function"), (none), .func (PySem.W.fnOf (Str.ofString "refuse_if_over") (Str.ofString "Watch.refuse_if_over") (defArgs (inClass (top 8) 4)) (defBody (inClass (top 8) 4)) (defScope (inClass (top 8) 4)) (Value.none) (Value.none) (Value.none) (Value.str (Str.ofString "logloom.watches") 280) (none) (Value.ref 128) (Value.none)), (#[])⟩ : Obj)) ::
  (nat_lit 130, ({ cls := Value.type "tuple", data := Data.seq #[] } : Obj)) ::
  (nat_lit 132, ({ cls := Value.type "tuple", data := Data.seq #[Value.str (Str.ofString "self") 342, Value.str (Str.ofString "entries") 343, Value.str (Str.ofString "stop") 344, Value.str (Str.ofString "told") 345, Value.str (Str.ofString "n") 346, Value.str (Str.ofString "rows") 347, Value.str (Str.ofString "first") 348] } : Obj)) ::
  (nat_lit 133, ({ cls := Value.type "tuple", data := Data.seq #[] } : Obj)) ::
  (nat_lit 135, ({ cls := Value.type "code", data := Data.fields #[Value.str (Str.ofString "settle") 339, Value.str (Str.ofString "Watch.settle") 340, Value.str (Str.ofString "/claim/cut.py") 341, Value.int 45 0, Value.int 3 0, Value.int 0 0, Value.int 0 0, Value.int 3 0, Value.ref 130, Value.bool true, Value.int 181 0, Value.ref 131, Value.none, Value.ref 132, Value.ref 133, Value.ref 134, Value.int 349 0, Value.int 45 0, Value.str (Str.ofString "/claim/cut.py") 350] } : Obj)) ::
  (nat_lit 136, (⟨(Value.type "function"), (none), .func (PySem.W.fnOf (Str.ofString "settle") (Str.ofString "Watch.settle") (defArgs (inClass (top 8) 5)) (defBody (inClass (top 8) 5)) (defScope (inClass (top 8) 5)) (Value.none) (Value.none) (Value.none) (Value.str (Str.ofString "logloom.watches") 280) (none) (Value.ref 135) (Value.none)), (#[])⟩ : Obj)) ::
  (nat_lit 137, ({ cls := Value.type "tuple", data := Data.seq #[Value.str (Str.ofString "entries") 352, Value.str (Str.ofString "first") 353, Value.str (Str.ofString "over") 354, Value.str (Str.ofString "question") 355, Value.str (Str.ofString "settled") 356] } : Obj)) ::
  (nat_lit 138, ({ cls := Value.type "dict", data := Data.dict #[{ hash := PyData.keyHash P (Str.ofString "__module__"), key := Value.str (Str.ofString "__module__") 295, val := Value.str (Str.ofString "logloom.watches") 280 }, { hash := PyData.keyHash P (Str.ofString "__firstlineno__"), key := Value.str (Str.ofString "__firstlineno__") 299, val := Value.int 17 298 }, { hash := PyData.keyHash P (Str.ofString "__init__"), key := Value.str (Str.ofString "__init__") 307, val := Value.ref 101 }, { hash := PyData.keyHash P (Str.ofString "kept"), key := Value.str (Str.ofString "kept") 314, val := Value.ref 108 }, { hash := PyData.keyHash P (Str.ofString "take"), key := Value.str (Str.ofString "take") 323, val := Value.ref 115 }, { hash := PyData.keyHash P (Str.ofString "end"), key := Value.str (Str.ofString "end") 331, val := Value.ref 122 }, { hash := PyData.keyHash P (Str.ofString "refuse_if_over"), key := Value.str (Str.ofString "refuse_if_over") 338, val := Value.ref 129 }, { hash := PyData.keyHash P (Str.ofString "settle"), key := Value.str (Str.ofString "settle") 351, val := Value.ref 136 }, { hash := PyData.keyHash P (Str.ofString "__static_attributes__"), key := Value.str (Str.ofString "__static_attributes__") 357, val := Value.ref 137 }, { hash := PyData.keyHash P (Str.ofString "__dict__"), key := Value.str (Str.ofString "__dict__") 359, val := Value.ref 140 }, { hash := PyData.keyHash P (Str.ofString "__weakref__"), key := Value.str (Str.ofString "__weakref__") 361, val := Value.ref 141 }, { hash := PyData.keyHash P (Str.ofString "__doc__"), key := Value.str (Str.ofString "__doc__") 362, val := Value.none }] 4 } : Obj)) ::
  (nat_lit 139, ({ cls := Value.type "type", data := Data.cls { name := Str.ofString "Watch", bases := [Value.type "object"], mro := [Value.ref 139, Value.type "object"], ns := 138, qualname := Str.ofString "Watch" }, slots := #[none, none, some (Value.str (Str.ofString "Watch") 288), some (Value.str (Str.ofString "Watch") 296), some (Value.builtin "object.__new__"), some (Value.bool true)] } : Obj)) ::
  (nat_lit 140, ({ cls := Value.type "getset_descriptor", data := Data.fields #[Value.str (Str.ofString "__dict__") 358, Value.ref 139, Value.builtin "function.__dict__", Value.builtin "function.__dict__#set"] } : Obj)) ::
  (nat_lit 141, ({ cls := Value.type "getset_descriptor", data := Data.fields #[Value.str (Str.ofString "__weakref__") 360, Value.ref 139, Value.builtin "ExceptionGroup.__weakref__", Value.none] } : Obj)) ::
  (nat_lit 144, ({ cls := Value.type "tuple", data := Data.seq #[] } : Obj)) ::
  (nat_lit 146, ({ cls := Value.type "tuple", data := Data.seq #[Value.str (Str.ofString "entry") 370, Value.str (Str.ofString "place") 371] } : Obj)) ::
  (nat_lit 147, ({ cls := Value.type "tuple", data := Data.seq #[] } : Obj)) ::
  (nat_lit 149, ({ cls := Value.type "code", data := Data.fields #[Value.str (Str.ofString "word_at") 367, Value.str (Str.ofString "word_at") 368, Value.str (Str.ofString "/claim/cut.py") 369, Value.int 57 0, Value.int 2 0, Value.int 0 0, Value.int 0 0, Value.int 3 0, Value.ref 144, Value.bool true, Value.int 181 0, Value.ref 145, Value.none, Value.ref 146, Value.ref 147, Value.ref 148, Value.int 372 0, Value.int 57 0, Value.str (Str.ofString "/claim/cut.py") 373] } : Obj)) ::
  (nat_lit 150, (⟨(Value.type "function"), (none), .func (PySem.W.fnOf (Str.ofString "word_at") (Str.ofString "word_at") (defArgs (top 10)) (defBody (top 10)) (defScope (top 10)) (Value.none) (Value.none) (Value.none) (Value.str (Str.ofString "logloom.questions") 365) (none) (Value.ref 149) (Value.none)), (#[])⟩ : Obj)) ::
  (nat_lit 151, ({ cls := Value.type "tuple", data := Data.seq #[] } : Obj)) ::
  (nat_lit 153, ({ cls := Value.type "tuple", data := Data.seq #[Value.str (Str.ofString "entry") 378, Value.str (Str.ofString "place") 379, Value.str (Str.ofString "other") 380, Value.str (Str.ofString "away") 381, Value.str (Str.ofString "word") 382] } : Obj)) ::
  (nat_lit 154, ({ cls := Value.type "tuple", data := Data.seq #[] } : Obj)) ::
  (nat_lit 156, ({ cls := Value.type "code", data := Data.fields #[Value.str (Str.ofString "same_word") 375, Value.str (Str.ofString "same_word") 376, Value.str (Str.ofString "/claim/cut.py") 377, Value.int 61 0, Value.int 4 0, Value.int 0 0, Value.int 0 0, Value.int 3 0, Value.ref 151, Value.bool true, Value.int 181 0, Value.ref 152, Value.none, Value.ref 153, Value.ref 154, Value.ref 155, Value.int 383 0, Value.int 61 0, Value.str (Str.ofString "/claim/cut.py") 384] } : Obj)) ::
  (nat_lit 157, (⟨(Value.type "function"), (none), .func (PySem.W.fnOf (Str.ofString "same_word") (Str.ofString "same_word") (defArgs (top 11)) (defBody (top 11)) (defScope (top 11)) (Value.none) (Value.none) (Value.none) (Value.str (Str.ofString "logloom.questions") 365) (none) (Value.ref 156) (Value.none)), (#[])⟩ : Obj)) ::
  (nat_lit 165, ({ cls := Value.type "tuple", data := Data.seq #[] } : Obj)) ::
  (nat_lit 167, ({ cls := Value.type "tuple", data := Data.seq #[Value.str (Str.ofString "self") 401] } : Obj)) ::
  (nat_lit 168, ({ cls := Value.type "tuple", data := Data.seq #[] } : Obj)) ::
  (nat_lit 170, ({ cls := Value.type "code", data := Data.fields #[Value.str (Str.ofString "back") 398, Value.str (Str.ofString "Question.back") 399, Value.str (Str.ofString "/claim/cut.py") 400, Value.int 66 0, Value.int 1 0, Value.int 0 0, Value.int 0 0, Value.int 3 0, Value.ref 165, Value.bool true, Value.int 181 0, Value.ref 166, Value.none, Value.ref 167, Value.ref 168, Value.ref 169, Value.int 402 0, Value.int 66 0, Value.str (Str.ofString "/claim/cut.py") 403] } : Obj)) ::
  (nat_lit 171, (⟨(Value.type "function"), (none), .func (PySem.W.fnOf (Str.ofString "back") (Str.ofString "Question.back") (defArgs (inClass (top 12) 0)) (defBody (inClass (top 12) 0)) (defScope (inClass (top 12) 0)) (Value.none) (Value.none) (Value.none) (Value.str (Str.ofString "logloom.questions") 365) (none) (Value.ref 170) (Value.none)), (#[])⟩ : Obj)) ::
  (nat_lit 172, ({ cls := Value.type "tuple", data := Data.seq #[] } : Obj)) ::
  (nat_lit 174, ({ cls := Value.type "tuple", data := Data.seq #[Value.str (Str.ofString "self") 408] } : Obj)) ::
  (nat_lit 175, ({ cls := Value.type "tuple", data := Data.seq #[] } : Obj)) ::
  (nat_lit 177, ({ cls := Value.type "code", data := Data.fields #[Value.str (Str.ofString "on") 405, Value.str (Str.ofString "Question.on") 406, Value.str (Str.ofString "/claim/cut.py") 407, Value.int 69 0, Value.int 1 0, Value.int 0 0, Value.int 0 0, Value.int 3 0, Value.ref 172, Value.bool true, Value.int 181 0, Value.ref 173, Value.none, Value.ref 174, Value.ref 175, Value.ref 176, Value.int 409 0, Value.int 69 0, Value.str (Str.ofString "/claim/cut.py") 410] } : Obj)) ::
  (nat_lit 178, (⟨(Value.type "function"), (none), .func (PySem.W.fnOf (Str.ofString "on") (Str.ofString "Question.on") (defArgs (inClass (top 12) 1)) (defBody (inClass (top 12) 1)) (defScope (inClass (top 12) 1)) (Value.none) (Value.none) (Value.none) (Value.str (Str.ofString "logloom.questions") 365) (none) (Value.ref 177) (Value.none)), (#[])⟩ : Obj)) ::
  (nat_lit 179, ({ cls := Value.type "tuple", data := Data.seq #[] } : Obj)) ::
  (nat_lit 181, ({ cls := Value.type "tuple", data := Data.seq #[Value.str (Str.ofString "self") 415, Value.str (Str.ofString "log") 416, Value.str (Str.ofString "n") 417] } : Obj)) ::
  (nat_lit 182, ({ cls := Value.type "tuple", data := Data.seq #[] } : Obj)) ::
  (nat_lit 184, ({ cls := Value.type "code", data := Data.fields #[Value.str (Str.ofString "found") 412, Value.str (Str.ofString "Question.found") 413, Value.str (Str.ofString "/claim/cut.py") 414, Value.int 72 0, Value.int 3 0, Value.int 0 0, Value.int 0 0, Value.int 3 0, Value.ref 179, Value.bool true, Value.int 181 0, Value.ref 180, Value.none, Value.ref 181, Value.ref 182, Value.ref 183, Value.int 418 0, Value.int 72 0, Value.str (Str.ofString "/claim/cut.py") 419] } : Obj)) ::
  (nat_lit 185, (⟨(Value.type "function"), (none), .func (PySem.W.fnOf (Str.ofString "found") (Str.ofString "Question.found") (defArgs (inClass (top 12) 2)) (defBody (inClass (top 12) 2)) (defScope (inClass (top 12) 2)) (Value.none) (Value.none) (Value.none) (Value.str (Str.ofString "logloom.questions") 365) (none) (Value.ref 184) (Value.none)), (#[])⟩ : Obj)) ::
  (nat_lit 186, ({ cls := Value.type "tuple", data := Data.seq #[] } : Obj)) ::
  (nat_lit 187, ({ cls := Value.type "dict", data := Data.dict #[{ hash := PyData.keyHash P (Str.ofString "__module__"), key := Value.str (Str.ofString "__module__") 393, val := Value.str (Str.ofString "logloom.questions") 365 }, { hash := PyData.keyHash P (Str.ofString "__firstlineno__"), key := Value.str (Str.ofString "__firstlineno__") 397, val := Value.int 64 396 }, { hash := PyData.keyHash P (Str.ofString "back"), key := Value.str (Str.ofString "back") 404, val := Value.ref 171 }, { hash := PyData.keyHash P (Str.ofString "on"), key := Value.str (Str.ofString "on") 411, val := Value.ref 178 }, { hash := PyData.keyHash P (Str.ofString "found"), key := Value.str (Str.ofString "found") 420, val := Value.ref 185 }, { hash := PyData.keyHash P (Str.ofString "__static_attributes__"), key := Value.str (Str.ofString "__static_attributes__") 421, val := Value.ref 186 }, { hash := PyData.keyHash P (Str.ofString "__dict__"), key := Value.str (Str.ofString "__dict__") 423, val := Value.ref 189 }, { hash := PyData.keyHash P (Str.ofString "__weakref__"), key := Value.str (Str.ofString "__weakref__") 425, val := Value.ref 190 }, { hash := PyData.keyHash P (Str.ofString "__doc__"), key := Value.str (Str.ofString "__doc__") 426, val := Value.none }] 4 } : Obj)) ::
  (nat_lit 188, ({ cls := Value.type "type", data := Data.cls { name := Str.ofString "Question", bases := [Value.type "object"], mro := [Value.ref 188, Value.type "object"], ns := 187, qualname := Str.ofString "Question", subclasses := [Value.ref 216, Value.ref 242, Value.ref 275, Value.ref 308, Value.ref 346, Value.ref 379, Value.ref 457] }, slots := #[none, none, some (Value.str (Str.ofString "Question") 386), some (Value.str (Str.ofString "Question") 394), some (Value.builtin "object.__new__"), some (Value.bool true)] } : Obj)) ::
  (nat_lit 189, ({ cls := Value.type "getset_descriptor", data := Data.fields #[Value.str (Str.ofString "__dict__") 422, Value.ref 188, Value.builtin "function.__dict__", Value.builtin "function.__dict__#set"] } : Obj)) ::
  (nat_lit 190, ({ cls := Value.type "getset_descriptor", data := Data.fields #[Value.str (Str.ofString "__weakref__") 424, Value.ref 188, Value.builtin "ExceptionGroup.__weakref__", Value.none] } : Obj)) ::
  (nat_lit 193, ({ cls := Value.type "tuple", data := Data.seq #[Value.ref 188] } : Obj)) ::
  (nat_lit 200, ({ cls := Value.type "tuple", data := Data.seq #[] } : Obj)) ::
  (nat_lit 202, ({ cls := Value.type "tuple", data := Data.seq #[Value.str (Str.ofString "self") 444, Value.str (Str.ofString "letter") 445] } : Obj)) ::
  (nat_lit 203, ({ cls := Value.type "tuple", data := Data.seq #[] } : Obj)) ::
  (nat_lit 205, ({ cls := Value.type "code", data := Data.fields #[Value.str (Str.ofString "__init__") 441, Value.str (Str.ofString "Row.__init__") 442, Value.str (Str.ofString "/claim/cut.py") 443, Value.int 76 0, Value.int 2 0, Value.int 0 0, Value.int 0 0, Value.int 3 0, Value.ref 200, Value.bool true, Value.int 181 0, Value.ref 201, Value.none, Value.ref 202, Value.ref 203, Value.ref 204, Value.int 446 0, Value.int 76 0, Value.str (Str.ofString "/claim/cut.py") 447] } : Obj)) ::
  (nat_lit 206, (⟨(Value.type "function"), (none), .func (PySem.W.fnOf (Str.ofString "__init__") (Str.ofString "Row.__init__") (defArgs (inClass (top 13) 0)) (defBody (inClass (top 13) 0)) (defScope (inClass (top 13) 0)) (Value.none) (Value.none) (Value.none) (Value.str (Str.ofString "logloom.questions") 365) (none) (Value.ref 205) (Value.none)), (#[])⟩ : Obj)) ::
  (nat_lit 207, ({ cls := Value.type "tuple", data := Data.seq #[] } : Obj)) ::
  (nat_lit 209, ({ cls := Value.type "tuple", data := Data.seq #[Value.str (Str.ofString "self") 452, Value.str (Str.ofString "log") 453, Value.str (Str.ofString "n") 454] } : Obj)) ::
  (nat_lit 210, ({ cls := Value.type "tuple", data := Data.seq #[] } : Obj)) ::
  (nat_lit 212, ({ cls := Value.type "code", data := Data.fields #[Value.str (Str.ofString "found") 449, Value.str (Str.ofString "Row.found") 450, Value.str (Str.ofString "/claim/cut.py") 451, Value.int 79 0, Value.int 3 0, Value.int 0 0, Value.int 0 0, Value.int 3 0, Value.ref 207, Value.bool true, Value.int 181 0, Value.ref 208, Value.none, Value.ref 209, Value.ref 210, Value.ref 211, Value.int 455 0, Value.int 79 0, Value.str (Str.ofString "/claim/cut.py") 456] } : Obj)) ::
  (nat_lit 213, (⟨(Value.type "function"), (none), .func (PySem.W.fnOf (Str.ofString "found") (Str.ofString "Row.found") (defArgs (inClass (top 13) 1)) (defBody (inClass (top 13) 1)) (defScope (inClass (top 13) 1)) (Value.none) (Value.none) (Value.none) (Value.str (Str.ofString "logloom.questions") 365) (none) (Value.ref 212) (Value.none)), (#[])⟩ : Obj)) ::
  (nat_lit 214, ({ cls := Value.type "tuple", data := Data.seq #[Value.str (Str.ofString "wanted") 458] } : Obj)) ::
  (nat_lit 215, ({ cls := Value.type "dict", data := Data.dict #[{ hash := PyData.keyHash P (Str.ofString "__module__"), key := Value.str (Str.ofString "__module__") 436, val := Value.str (Str.ofString "logloom.questions") 365 }, { hash := PyData.keyHash P (Str.ofString "__firstlineno__"), key := Value.str (Str.ofString "__firstlineno__") 440, val := Value.int 74 439 }, { hash := PyData.keyHash P (Str.ofString "__init__"), key := Value.str (Str.ofString "__init__") 448, val := Value.ref 206 }, { hash := PyData.keyHash P (Str.ofString "found"), key := Value.str (Str.ofString "found") 457, val := Value.ref 213 }, { hash := PyData.keyHash P (Str.ofString "__static_attributes__"), key := Value.str (Str.ofString "__static_attributes__") 459, val := Value.ref 214 }, { hash := PyData.keyHash P (Str.ofString "__doc__"), key := Value.str (Str.ofString "__doc__") 460, val := Value.none }] 2 } : Obj)) ::
  (nat_lit 216, ({ cls := Value.type "type", data := Data.cls { name := Str.ofString "Row", bases := [Value.ref 188], mro := [Value.ref 216, Value.ref 188, Value.type "object"], ns := 215, qualname := Str.ofString "Row" }, slots := #[some (Value.ref 193), none, some (Value.str (Str.ofString "Row") 429), some (Value.str (Str.ofString "Row") 437), some (Value.builtin "object.__new__"), some (Value.bool true)] } : Obj)) ::
  (nat_lit 219, ({ cls := Value.type "tuple", data := Data.seq #[Value.ref 188] } : Obj)) ::
  (nat_lit 226, ({ cls := Value.type "tuple", data := Data.seq #[] } : Obj)) ::
  (nat_lit 228, ({ cls := Value.type "tuple", data := Data.seq #[Value.str (Str.ofString "self") 478, Value.str (Str.ofString "letter") 479, Value.str (Str.ofString "gap") 480, Value.str (Str.ofString "word") 481] } : Obj)) ::
  (nat_lit 229, ({ cls := Value.type "tuple", data := Data.seq #[] } : Obj)) ::
  (nat_lit 231, ({ cls := Value.type "code", data := Data.fields #[Value.str (Str.ofString "__init__") 475, Value.str (Str.ofString "With.__init__") 476, Value.str (Str.ofString "/claim/cut.py") 477, Value.int 83 0, Value.int 4 0, Value.int 0 0, Value.int 0 0, Value.int 3 0, Value.ref 226, Value.bool true, Value.int 181 0, Value.ref 227, Value.none, Value.ref 228, Value.ref 229, Value.ref 230, Value.int 482 0, Value.int 83 0, Value.str (Str.ofString "/claim/cut.py") 483] } : Obj)) ::
  (nat_lit 232, (⟨(Value.type "function"), (none), .func (PySem.W.fnOf (Str.ofString "__init__") (Str.ofString "With.__init__") (defArgs (inClass (top 14) 0)) (defBody (inClass (top 14) 0)) (defScope (inClass (top 14) 0)) (Value.none) (Value.none) (Value.none) (Value.str (Str.ofString "logloom.questions") 365) (none) (Value.ref 231) (Value.none)), (#[])⟩ : Obj)) ::
  (nat_lit 233, ({ cls := Value.type "tuple", data := Data.seq #[] } : Obj)) ::
  (nat_lit 235, ({ cls := Value.type "tuple", data := Data.seq #[Value.str (Str.ofString "self") 488, Value.str (Str.ofString "log") 489, Value.str (Str.ofString "n") 490] } : Obj)) ::
  (nat_lit 236, ({ cls := Value.type "tuple", data := Data.seq #[] } : Obj)) ::
  (nat_lit 238, ({ cls := Value.type "code", data := Data.fields #[Value.str (Str.ofString "found") 485, Value.str (Str.ofString "With.found") 486, Value.str (Str.ofString "/claim/cut.py") 487, Value.int 87 0, Value.int 3 0, Value.int 0 0, Value.int 0 0, Value.int 3 0, Value.ref 233, Value.bool true, Value.int 181 0, Value.ref 234, Value.none, Value.ref 235, Value.ref 236, Value.ref 237, Value.int 491 0, Value.int 87 0, Value.str (Str.ofString "/claim/cut.py") 492] } : Obj)) ::
  (nat_lit 239, (⟨(Value.type "function"), (none), .func (PySem.W.fnOf (Str.ofString "found") (Str.ofString "With.found") (defArgs (inClass (top 14) 1)) (defBody (inClass (top 14) 1)) (defScope (inClass (top 14) 1)) (Value.none) (Value.none) (Value.none) (Value.str (Str.ofString "logloom.questions") 365) (none) (Value.ref 238) (Value.none)), (#[])⟩ : Obj)) ::
  (nat_lit 240, ({ cls := Value.type "tuple", data := Data.seq #[Value.str (Str.ofString "here") 494, Value.str (Str.ofString "wanted") 495] } : Obj)) ::
  (nat_lit 241, ({ cls := Value.type "dict", data := Data.dict #[{ hash := PyData.keyHash P (Str.ofString "__module__"), key := Value.str (Str.ofString "__module__") 470, val := Value.str (Str.ofString "logloom.questions") 365 }, { hash := PyData.keyHash P (Str.ofString "__firstlineno__"), key := Value.str (Str.ofString "__firstlineno__") 474, val := Value.int 81 473 }, { hash := PyData.keyHash P (Str.ofString "__init__"), key := Value.str (Str.ofString "__init__") 484, val := Value.ref 232 }, { hash := PyData.keyHash P (Str.ofString "found"), key := Value.str (Str.ofString "found") 493, val := Value.ref 239 }, { hash := PyData.keyHash P (Str.ofString "__static_attributes__"), key := Value.str (Str.ofString "__static_attributes__") 496, val := Value.ref 240 }, { hash := PyData.keyHash P (Str.ofString "__doc__"), key := Value.str (Str.ofString "__doc__") 497, val := Value.none }] 2 } : Obj)) ::
  (nat_lit 242, ({ cls := Value.type "type", data := Data.cls { name := Str.ofString "With", bases := [Value.ref 188], mro := [Value.ref 242, Value.ref 188, Value.type "object"], ns := 241, qualname := Str.ofString "With" }, slots := #[some (Value.ref 219), none, some (Value.str (Str.ofString "With") 463), some (Value.str (Str.ofString "With") 471), some (Value.builtin "object.__new__"), some (Value.bool true)] } : Obj)) ::
  (nat_lit 245, ({ cls := Value.type "tuple", data := Data.seq #[Value.ref 188] } : Obj)) ::
  (nat_lit 252, ({ cls := Value.type "tuple", data := Data.seq #[] } : Obj)) ::
  (nat_lit 254, ({ cls := Value.type "tuple", data := Data.seq #[Value.str (Str.ofString "self") 515, Value.str (Str.ofString "letter") 516, Value.str (Str.ofString "gap") 517, Value.str (Str.ofString "other") 518, Value.str (Str.ofString "there") 519, Value.str (Str.ofString "reach") 520] } : Obj)) ::
  (nat_lit 255, ({ cls := Value.type "tuple", data := Data.seq #[] } : Obj)) ::
  (nat_lit 257, ({ cls := Value.type "code", data := Data.fields #[Value.str (Str.ofString "__init__") 512, Value.str (Str.ofString "Behind.__init__") 513, Value.str (Str.ofString "/claim/cut.py") 514, Value.int 91 0, Value.int 6 0, Value.int 0 0, Value.int 0 0, Value.int 3 0, Value.ref 252, Value.bool true, Value.int 181 0, Value.ref 253, Value.none, Value.ref 254, Value.ref 255, Value.ref 256, Value.int 521 0, Value.int 91 0, Value.str (Str.ofString "/claim/cut.py") 522] } : Obj)) ::
  (nat_lit 258, (⟨(Value.type "function"), (none), .func (PySem.W.fnOf (Str.ofString "__init__") (Str.ofString "Behind.__init__") (defArgs (inClass (top 15) 0)) (defBody (inClass (top 15) 0)) (defScope (inClass (top 15) 0)) (Value.none) (Value.none) (Value.none) (Value.str (Str.ofString "logloom.questions") 365) (none) (Value.ref 257) (Value.none)), (#[])⟩ : Obj)) ::
  (nat_lit 259, ({ cls := Value.type "tuple", data := Data.seq #[] } : Obj)) ::
  (nat_lit 261, ({ cls := Value.type "tuple", data := Data.seq #[Value.str (Str.ofString "self") 527] } : Obj)) ::
  (nat_lit 262, ({ cls := Value.type "tuple", data := Data.seq #[] } : Obj)) ::
  (nat_lit 264, ({ cls := Value.type "code", data := Data.fields #[Value.str (Str.ofString "on") 524, Value.str (Str.ofString "Behind.on") 525, Value.str (Str.ofString "/claim/cut.py") 526, Value.int 96 0, Value.int 1 0, Value.int 0 0, Value.int 0 0, Value.int 3 0, Value.ref 259, Value.bool true, Value.int 181 0, Value.ref 260, Value.none, Value.ref 261, Value.ref 262, Value.ref 263, Value.int 528 0, Value.int 96 0, Value.str (Str.ofString "/claim/cut.py") 529] } : Obj)) ::
  (nat_lit 265, (⟨(Value.type "function"), (none), .func (PySem.W.fnOf (Str.ofString "on") (Str.ofString "Behind.on") (defArgs (inClass (top 15) 1)) (defBody (inClass (top 15) 1)) (defScope (inClass (top 15) 1)) (Value.none) (Value.none) (Value.none) (Value.str (Str.ofString "logloom.questions") 365) (none) (Value.ref 264) (Value.none)), (#[])⟩ : Obj)) ::
  (nat_lit 266, ({ cls := Value.type "tuple", data := Data.seq #[] } : Obj)) ::
  (nat_lit 268, ({ cls := Value.type "tuple", data := Data.seq #[Value.str (Str.ofString "self") 534, Value.str (Str.ofString "log") 535, Value.str (Str.ofString "n") 536, Value.str (Str.ofString "row") 537] } : Obj)) ::
  (nat_lit 269, ({ cls := Value.type "tuple", data := Data.seq #[] } : Obj)) ::
  (nat_lit 271, ({ cls := Value.type "code", data := Data.fields #[Value.str (Str.ofString "found") 531, Value.str (Str.ofString "Behind.found") 532, Value.str (Str.ofString "/claim/cut.py") 533, Value.int 99 0, Value.int 3 0, Value.int 0 0, Value.int 0 0, Value.int 3 0, Value.ref 266, Value.bool true, Value.int 181 0, Value.ref 267, Value.none, Value.ref 268, Value.ref 269, Value.ref 270, Value.int 538 0, Value.int 99 0, Value.str (Str.ofString "/claim/cut.py") 539] } : Obj)) ::
  (nat_lit 272, (⟨(Value.type "function"), (none), .func (PySem.W.fnOf (Str.ofString "found") (Str.ofString "Behind.found") (defArgs (inClass (top 15) 2)) (defBody (inClass (top 15) 2)) (defScope (inClass (top 15) 2)) (Value.none) (Value.none) (Value.none) (Value.str (Str.ofString "logloom.questions") 365) (none) (Value.ref 271) (Value.none)), (#[])⟩ : Obj)) ::
  (nat_lit 273, ({ cls := Value.type "tuple", data := Data.seq #[Value.str (Str.ofString "away") 541, Value.str (Str.ofString "here") 542, Value.str (Str.ofString "reach") 543] } : Obj)) ::
  (nat_lit 274, ({ cls := Value.type "dict", data := Data.dict #[{ hash := PyData.keyHash P (Str.ofString "__module__"), key := Value.str (Str.ofString "__module__") 507, val := Value.str (Str.ofString "logloom.questions") 365 }, { hash := PyData.keyHash P (Str.ofString "__firstlineno__"), key := Value.str (Str.ofString "__firstlineno__") 511, val := Value.int 89 510 }, { hash := PyData.keyHash P (Str.ofString "__init__"), key := Value.str (Str.ofString "__init__") 523, val := Value.ref 258 }, { hash := PyData.keyHash P (Str.ofString "on"), key := Value.str (Str.ofString "on") 530, val := Value.ref 265 }, { hash := PyData.keyHash P (Str.ofString "found"), key := Value.str (Str.ofString "found") 540, val := Value.ref 272 }, { hash := PyData.keyHash P (Str.ofString "__static_attributes__"), key := Value.str (Str.ofString "__static_attributes__") 544, val := Value.ref 273 }, { hash := PyData.keyHash P (Str.ofString "__doc__"), key := Value.str (Str.ofString "__doc__") 545, val := Value.none }] 2 } : Obj)) ::
  (nat_lit 275, ({ cls := Value.type "type", data := Data.cls { name := Str.ofString "Behind", bases := [Value.ref 188], mro := [Value.ref 275, Value.ref 188, Value.type "object"], ns := 274, qualname := Str.ofString "Behind" }, slots := #[some (Value.ref 245), none, some (Value.str (Str.ofString "Behind") 500), some (Value.str (Str.ofString "Behind") 508), some (Value.builtin "object.__new__"), some (Value.bool true)] } : Obj)) ::
  (nat_lit 278, ({ cls := Value.type "tuple", data := Data.seq #[Value.ref 188] } : Obj)) ::
  (nat_lit 285, ({ cls := Value.type "tuple", data := Data.seq #[] } : Obj)) ::
  (nat_lit 287, ({ cls := Value.type "tuple", data := Data.seq #[Value.str (Str.ofString "self") 563, Value.str (Str.ofString "letter") 564, Value.str (Str.ofString "gap") 565, Value.str (Str.ofString "other") 566, Value.str (Str.ofString "there") 567, Value.str (Str.ofString "reach") 568] } : Obj)) ::
  (nat_lit 288, ({ cls := Value.type "tuple", data := Data.seq #[] } : Obj)) ::
  (nat_lit 290, ({ cls := Value.type "code", data := Data.fields #[Value.str (Str.ofString "__init__") 560, Value.str (Str.ofString "Ahead.__init__") 561, Value.str (Str.ofString "/claim/cut.py") 562, Value.int 106 0, Value.int 6 0, Value.int 0 0, Value.int 0 0, Value.int 3 0, Value.ref 285, Value.bool true, Value.int 181 0, Value.ref 286, Value.none, Value.ref 287, Value.ref 288, Value.ref 289, Value.int 569 0, Value.int 106 0, Value.str (Str.ofString "/claim/cut.py") 570] } : Obj)) ::
  (nat_lit 291, (⟨(Value.type "function"), (none), .func (PySem.W.fnOf (Str.ofString "__init__") (Str.ofString "Ahead.__init__") (defArgs (inClass (top 16) 0)) (defBody (inClass (top 16) 0)) (defScope (inClass (top 16) 0)) (Value.none) (Value.none) (Value.none) (Value.str (Str.ofString "logloom.questions") 365) (none) (Value.ref 290) (Value.none)), (#[])⟩ : Obj)) ::
  (nat_lit 292, ({ cls := Value.type "tuple", data := Data.seq #[] } : Obj)) ::
  (nat_lit 294, ({ cls := Value.type "tuple", data := Data.seq #[Value.str (Str.ofString "self") 575] } : Obj)) ::
  (nat_lit 295, ({ cls := Value.type "tuple", data := Data.seq #[] } : Obj)) ::
  (nat_lit 297, ({ cls := Value.type "code", data := Data.fields #[Value.str (Str.ofString "back") 572, Value.str (Str.ofString "Ahead.back") 573, Value.str (Str.ofString "/claim/cut.py") 574, Value.int 111 0, Value.int 1 0, Value.int 0 0, Value.int 0 0, Value.int 3 0, Value.ref 292, Value.bool true, Value.int 181 0, Value.ref 293, Value.none, Value.ref 294, Value.ref 295, Value.ref 296, Value.int 576 0, Value.int 111 0, Value.str (Str.ofString "/claim/cut.py") 577] } : Obj)) ::
  (nat_lit 298, (⟨(Value.type "function"), (none), .func (PySem.W.fnOf (Str.ofString "back") (Str.ofString "Ahead.back") (defArgs (inClass (top 16) 1)) (defBody (inClass (top 16) 1)) (defScope (inClass (top 16) 1)) (Value.none) (Value.none) (Value.none) (Value.str (Str.ofString "logloom.questions") 365) (none) (Value.ref 297) (Value.none)), (#[])⟩ : Obj)) ::
  (nat_lit 299, ({ cls := Value.type "tuple", data := Data.seq #[] } : Obj)) ::
  (nat_lit 301, ({ cls := Value.type "tuple", data := Data.seq #[Value.str (Str.ofString "self") 582, Value.str (Str.ofString "log") 583, Value.str (Str.ofString "n") 584, Value.str (Str.ofString "row") 585] } : Obj)) ::
  (nat_lit 302, ({ cls := Value.type "tuple", data := Data.seq #[] } : Obj)) ::
  (nat_lit 304, ({ cls := Value.type "code", data := Data.fields #[Value.str (Str.ofString "found") 579, Value.str (Str.ofString "Ahead.found") 580, Value.str (Str.ofString "/claim/cut.py") 581, Value.int 114 0, Value.int 3 0, Value.int 0 0, Value.int 0 0, Value.int 3 0, Value.ref 299, Value.bool true, Value.int 181 0, Value.ref 300, Value.none, Value.ref 301, Value.ref 302, Value.ref 303, Value.int 586 0, Value.int 114 0, Value.str (Str.ofString "/claim/cut.py") 587] } : Obj)) ::
  (nat_lit 305, (⟨(Value.type "function"), (none), .func (PySem.W.fnOf (Str.ofString "found") (Str.ofString "Ahead.found") (defArgs (inClass (top 16) 2)) (defBody (inClass (top 16) 2)) (defScope (inClass (top 16) 2)) (Value.none) (Value.none) (Value.none) (Value.str (Str.ofString "logloom.questions") 365) (none) (Value.ref 304) (Value.none)), (#[])⟩ : Obj)) ::
  (nat_lit 306, ({ cls := Value.type "tuple", data := Data.seq #[Value.str (Str.ofString "away") 589, Value.str (Str.ofString "here") 590, Value.str (Str.ofString "reach") 591] } : Obj)) ::
  (nat_lit 307, ({ cls := Value.type "dict", data := Data.dict #[{ hash := PyData.keyHash P (Str.ofString "__module__"), key := Value.str (Str.ofString "__module__") 555, val := Value.str (Str.ofString "logloom.questions") 365 }, { hash := PyData.keyHash P (Str.ofString "__firstlineno__"), key := Value.str (Str.ofString "__firstlineno__") 559, val := Value.int 104 558 }, { hash := PyData.keyHash P (Str.ofString "__init__"), key := Value.str (Str.ofString "__init__") 571, val := Value.ref 291 }, { hash := PyData.keyHash P (Str.ofString "back"), key := Value.str (Str.ofString "back") 578, val := Value.ref 298 }, { hash := PyData.keyHash P (Str.ofString "found"), key := Value.str (Str.ofString "found") 588, val := Value.ref 305 }, { hash := PyData.keyHash P (Str.ofString "__static_attributes__"), key := Value.str (Str.ofString "__static_attributes__") 592, val := Value.ref 306 }, { hash := PyData.keyHash P (Str.ofString "__doc__"), key := Value.str (Str.ofString "__doc__") 593, val := Value.none }] 2 } : Obj)) ::
  (nat_lit 308, ({ cls := Value.type "type", data := Data.cls { name := Str.ofString "Ahead", bases := [Value.ref 188], mro := [Value.ref 308, Value.ref 188, Value.type "object"], ns := 307, qualname := Str.ofString "Ahead" }, slots := #[some (Value.ref 278), none, some (Value.str (Str.ofString "Ahead") 548), some (Value.str (Str.ofString "Ahead") 556), some (Value.builtin "object.__new__"), some (Value.bool true)] } : Obj)) ::
  (nat_lit 311, ({ cls := Value.type "tuple", data := Data.seq #[Value.ref 188] } : Obj)) ::
  (nat_lit 318, ({ cls := Value.type "tuple", data := Data.seq #[] } : Obj)) ::
  (nat_lit 320, ({ cls := Value.type "tuple", data := Data.seq #[Value.str (Str.ofString "self") 611, Value.str (Str.ofString "reach") 612, Value.str (Str.ofString "least") 613, Value.str (Str.ofString "question") 614] } : Obj)) ::
  (nat_lit 321, ({ cls := Value.type "tuple", data := Data.seq #[] } : Obj)) ::
  (nat_lit 323, ({ cls := Value.type "code", data := Data.fields #[Value.str (Str.ofString "__init__") 608, Value.str (Str.ofString "Times.__init__") 609, Value.str (Str.ofString "/claim/cut.py") 610, Value.int 121 0, Value.int 4 0, Value.int 0 0, Value.int 0 0, Value.int 3 0, Value.ref 318, Value.bool true, Value.int 181 0, Value.ref 319, Value.none, Value.ref 320, Value.ref 321, Value.ref 322, Value.int 615 0, Value.int 121 0, Value.str (Str.ofString "/claim/cut.py") 616] } : Obj)) ::
  (nat_lit 324, (⟨(Value.type "function"), (none), .func (PySem.W.fnOf (Str.ofString "__init__") (Str.ofString "Times.__init__") (defArgs (inClass (top 17) 0)) (defBody (inClass (top 17) 0)) (defScope (inClass (top 17) 0)) (Value.none) (Value.none) (Value.none) (Value.str (Str.ofString "logloom.questions") 365) (none) (Value.ref 323) (Value.none)), (#[])⟩ : Obj)) ::
  (nat_lit 325, ({ cls := Value.type "tuple", data := Data.seq #[] } : Obj)) ::
  (nat_lit 327, ({ cls := Value.type "tuple", data := Data.seq #[Value.str (Str.ofString "self") 621] } : Obj)) ::
  (nat_lit 328, ({ cls := Value.type "tuple", data := Data.seq #[] } : Obj)) ::
  (nat_lit 330, ({ cls := Value.type "code", data := Data.fields #[Value.str (Str.ofString "back") 618, Value.str (Str.ofString "Times.back") 619, Value.str (Str.ofString "/claim/cut.py") 620, Value.int 126 0, Value.int 1 0, Value.int 0 0, Value.int 0 0, Value.int 3 0, Value.ref 325, Value.bool true, Value.int 181 0, Value.ref 326, Value.none, Value.ref 327, Value.ref 328, Value.ref 329, Value.int 622 0, Value.int 126 0, Value.str (Str.ofString "/claim/cut.py") 623] } : Obj)) ::
  (nat_lit 331, (⟨(Value.type "function"), (none), .func (PySem.W.fnOf (Str.ofString "back") (Str.ofString "Times.back") (defArgs (inClass (top 17) 1)) (defBody (inClass (top 17) 1)) (defScope (inClass (top 17) 1)) (Value.none) (Value.none) (Value.none) (Value.str (Str.ofString "logloom.questions") 365) (none) (Value.ref 330) (Value.none)), (#[])⟩ : Obj)) ::
  (nat_lit 332, ({ cls := Value.type "tuple", data := Data.seq #[] } : Obj)) ::
  (nat_lit 334, ({ cls := Value.type "tuple", data := Data.seq #[Value.str (Str.ofString "self") 628] } : Obj)) ::
  (nat_lit 335, ({ cls := Value.type "tuple", data := Data.seq #[] } : Obj)) ::
  (nat_lit 337, ({ cls := Value.type "code", data := Data.fields #[Value.str (Str.ofString "on") 625, Value.str (Str.ofString "Times.on") 626, Value.str (Str.ofString "/claim/cut.py") 627, Value.int 129 0, Value.int 1 0, Value.int 0 0, Value.int 0 0, Value.int 3 0, Value.ref 332, Value.bool true, Value.int 181 0, Value.ref 333, Value.none, Value.ref 334, Value.ref 335, Value.ref 336, Value.int 629 0, Value.int 129 0, Value.str (Str.ofString "/claim/cut.py") 630] } : Obj)) ::
  (nat_lit 338, (⟨(Value.type "function"), (none), .func (PySem.W.fnOf (Str.ofString "on") (Str.ofString "Times.on") (defArgs (inClass (top 17) 2)) (defBody (inClass (top 17) 2)) (defScope (inClass (top 17) 2)) (Value.none) (Value.none) (Value.none) (Value.str (Str.ofString "logloom.questions") 365) (none) (Value.ref 337) (Value.none)), (#[])⟩ : Obj)) ::
  (nat_lit 339, ({ cls := Value.type "tuple", data := Data.seq #[] } : Obj)) ::
  (nat_lit 342, ({ cls := Value.type "code", data := Data.fields #[Value.str (Str.ofString "found") 632, Value.str (Str.ofString "Times.found") 633, Value.str (Str.ofString "/claim/cut.py") 634, Value.int 132 0, Value.int 3 0, Value.int 0 0, Value.int 0 0, Value.int 3 0, Value.ref 339, Value.bool true, Value.int 181 0, Value.ref 340, Value.none, Value.none, Value.none, Value.ref 341, Value.int 635 0, Value.int 132 0, Value.str (Str.ofString "/claim/cut.py") 636] } : Obj)) ::
  (nat_lit 343, (⟨(Value.type "function"), (none), .func (PySem.W.fnOf (Str.ofString "found") (Str.ofString "Times.found") (defArgs (inClass (top 17) 3)) (defBody (inClass (top 17) 3)) (defScope (inClass (top 17) 3)) (Value.none) (Value.none) (Value.none) (Value.str (Str.ofString "logloom.questions") 365) (none) (Value.ref 342) (Value.none)), (#[])⟩ : Obj)) ::
  (nat_lit 344, ({ cls := Value.type "tuple", data := Data.seq #[Value.str (Str.ofString "inner") 638, Value.str (Str.ofString "least") 639, Value.str (Str.ofString "reach") 640] } : Obj)) ::
  (nat_lit 345, ({ cls := Value.type "dict", data := Data.dict #[{ hash := PyData.keyHash P (Str.ofString "__module__"), key := Value.str (Str.ofString "__module__") 603, val := Value.str (Str.ofString "logloom.questions") 365 }, { hash := PyData.keyHash P (Str.ofString "__firstlineno__"), key := Value.str (Str.ofString "__firstlineno__") 607, val := Value.int 119 606 }, { hash := PyData.keyHash P (Str.ofString "__init__"), key := Value.str (Str.ofString "__init__") 617, val := Value.ref 324 }, { hash := PyData.keyHash P (Str.ofString "back"), key := Value.str (Str.ofString "back") 624, val := Value.ref 331 }, { hash := PyData.keyHash P (Str.ofString "on"), key := Value.str (Str.ofString "on") 631, val := Value.ref 338 }, { hash := PyData.keyHash P (Str.ofString "found"), key := Value.str (Str.ofString "found") 637, val := Value.ref 343 }, { hash := PyData.keyHash P (Str.ofString "__static_attributes__"), key := Value.str (Str.ofString "__static_attributes__") 641, val := Value.ref 344 }, { hash := PyData.keyHash P (Str.ofString "__doc__"), key := Value.str (Str.ofString "__doc__") 642, val := Value.none }] 2 } : Obj)) ::
  (nat_lit 346, ({ cls := Value.type "type", data := Data.cls { name := Str.ofString "Times", bases := [Value.ref 188], mro := [Value.ref 346, Value.ref 188, Value.type "object"], ns := 345, qualname := Str.ofString "Times" }, slots := #[some (Value.ref 311), none, some (Value.str (Str.ofString "Times") 596), some (Value.str (Str.ofString "Times") 604), some (Value.builtin "object.__new__"), some (Value.bool true)] } : Obj)) ::
  (nat_lit 349, ({ cls := Value.type "tuple", data := Data.seq #[Value.ref 188] } : Obj)) ::
  (nat_lit 356, ({ cls := Value.type "tuple", data := Data.seq #[] } : Obj)) ::
  (nat_lit 358, ({ cls := Value.type "tuple", data := Data.seq #[Value.str (Str.ofString "self") 660, Value.str (Str.ofString "one") 661, Value.str (Str.ofString "other") 662] } : Obj)) ::
  (nat_lit 359, ({ cls := Value.type "tuple", data := Data.seq #[] } : Obj)) ::
  (nat_lit 361, ({ cls := Value.type "code", data := Data.fields #[Value.str (Str.ofString "__init__") 657, Value.str (Str.ofString "Joint.__init__") 658, Value.str (Str.ofString "/claim/cut.py") 659, Value.int 138 0, Value.int 3 0, Value.int 0 0, Value.int 0 0, Value.int 3 0, Value.ref 356, Value.bool true, Value.int 181 0, Value.ref 357, Value.none, Value.ref 358, Value.ref 359, Value.ref 360, Value.int 663 0, Value.int 138 0, Value.str (Str.ofString "/claim/cut.py") 664] } : Obj)) ::
  (nat_lit 362, (⟨(Value.type "function"), (none), .func (PySem.W.fnOf (Str.ofString "__init__") (Str.ofString "Joint.__init__") (defArgs (inClass (top 18) 0)) (defBody (inClass (top 18) 0)) (defScope (inClass (top 18) 0)) (Value.none) (Value.none) (Value.none) (Value.str (Str.ofString "logloom.questions") 365) (none) (Value.ref 361) (Value.none)), (#[])⟩ : Obj)) ::
  (nat_lit 363, ({ cls := Value.type "tuple", data := Data.seq #[] } : Obj)) ::
  (nat_lit 365, ({ cls := Value.type "tuple", data := Data.seq #[Value.str (Str.ofString "self") 669] } : Obj)) ::
  (nat_lit 366, ({ cls := Value.type "tuple", data := Data.seq #[] } : Obj)) ::
  (nat_lit 368, ({ cls := Value.type "code", data := Data.fields #[Value.str (Str.ofString "back") 666, Value.str (Str.ofString "Joint.back") 667, Value.str (Str.ofString "/claim/cut.py") 668, Value.int 142 0, Value.int 1 0, Value.int 0 0, Value.int 0 0, Value.int 3 0, Value.ref 363, Value.bool true, Value.int 181 0, Value.ref 364, Value.none, Value.ref 365, Value.ref 366, Value.ref 367, Value.int 670 0, Value.int 142 0, Value.str (Str.ofString "/claim/cut.py") 671] } : Obj)) ::
  (nat_lit 369, (⟨(Value.type "function"), (none), .func (PySem.W.fnOf (Str.ofString "back") (Str.ofString "Joint.back") (defArgs (inClass (top 18) 1)) (defBody (inClass (top 18) 1)) (defScope (inClass (top 18) 1)) (Value.none) (Value.none) (Value.none) (Value.str (Str.ofString "logloom.questions") 365) (none) (Value.ref 368) (Value.none)), (#[])⟩ : Obj)) ::
  (nat_lit 370, ({ cls := Value.type "tuple", data := Data.seq #[] } : Obj)) ::
  (nat_lit 372, ({ cls := Value.type "tuple", data := Data.seq #[Value.str (Str.ofString "self") 676] } : Obj)) ::
  (nat_lit 373, ({ cls := Value.type "tuple", data := Data.seq #[] } : Obj)) ::
  (nat_lit 375, ({ cls := Value.type "code", data := Data.fields #[Value.str (Str.ofString "on") 673, Value.str (Str.ofString "Joint.on") 674, Value.str (Str.ofString "/claim/cut.py") 675, Value.int 145 0, Value.int 1 0, Value.int 0 0, Value.int 0 0, Value.int 3 0, Value.ref 370, Value.bool true, Value.int 181 0, Value.ref 371, Value.none, Value.ref 372, Value.ref 373, Value.ref 374, Value.int 677 0, Value.int 145 0, Value.str (Str.ofString "/claim/cut.py") 678] } : Obj)) ::
  (nat_lit 376, (⟨(Value.type "function"), (none), .func (PySem.W.fnOf (Str.ofString "on") (Str.ofString "Joint.on") (defArgs (inClass (top 18) 2)) (defBody (inClass (top 18) 2)) (defScope (inClass (top 18) 2)) (Value.none) (Value.none) (Value.none) (Value.str (Str.ofString "logloom.questions") 365) (none) (Value.ref 375) (Value.none)), (#[])⟩ : Obj)) ::
  (nat_lit 377, ({ cls := Value.type "tuple", data := Data.seq #[Value.str (Str.ofString "one") 680, Value.str (Str.ofString "other") 681] } : Obj)) ::
  (nat_lit 378, ({ cls := Value.type "dict", data := Data.dict #[{ hash := PyData.keyHash P (Str.ofString "__module__"), key := Value.str (Str.ofString "__module__") 652, val := Value.str (Str.ofString "logloom.questions") 365 }, { hash := PyData.keyHash P (Str.ofString "__firstlineno__"), key := Value.str (Str.ofString "__firstlineno__") 656, val := Value.int 136 655 }, { hash := PyData.keyHash P (Str.ofString "__init__"), key := Value.str (Str.ofString "__init__") 665, val := Value.ref 362 }, { hash := PyData.keyHash P (Str.ofString "back"), key := Value.str (Str.ofString "back") 672, val := Value.ref 369 }, { hash := PyData.keyHash P (Str.ofString "on"), key := Value.str (Str.ofString "on") 679, val := Value.ref 376 }, { hash := PyData.keyHash P (Str.ofString "__static_attributes__"), key := Value.str (Str.ofString "__static_attributes__") 682, val := Value.ref 377 }, { hash := PyData.keyHash P (Str.ofString "__doc__"), key := Value.str (Str.ofString "__doc__") 683, val := Value.none }] 2 } : Obj)) ::
  (nat_lit 379, ({ cls := Value.type "type", data := Data.cls { name := Str.ofString "Joint", bases := [Value.ref 188], mro := [Value.ref 379, Value.ref 188, Value.type "object"], ns := 378, qualname := Str.ofString "Joint", subclasses := [Value.ref 398, Value.ref 417] }, slots := #[some (Value.ref 349), none, some (Value.str (Str.ofString "Joint") 645), some (Value.str (Str.ofString "Joint") 653), some (Value.builtin "object.__new__"), some (Value.bool true)] } : Obj)) ::
  (nat_lit 382, ({ cls := Value.type "tuple", data := Data.seq #[Value.ref 379] } : Obj)) ::
  (nat_lit 389, ({ cls := Value.type "tuple", data := Data.seq #[] } : Obj)) ::
  (nat_lit 391, ({ cls := Value.type "tuple", data := Data.seq #[Value.str (Str.ofString "self") 701, Value.str (Str.ofString "log") 702, Value.str (Str.ofString "n") 703, Value.str (Str.ofString "rows") 704, Value.str (Str.ofString "others") 705] } : Obj)) ::
  (nat_lit 392, ({ cls := Value.type "tuple", data := Data.seq #[] } : Obj)) ::
  (nat_lit 394, ({ cls := Value.type "code", data := Data.fields #[Value.str (Str.ofString "found") 698, Value.str (Str.ofString "Both.found") 699, Value.str (Str.ofString "/claim/cut.py") 700, Value.int 149 0, Value.int 3 0, Value.int 0 0, Value.int 0 0, Value.int 3 0, Value.ref 389, Value.bool true, Value.int 181 0, Value.ref 390, Value.none, Value.ref 391, Value.ref 392, Value.ref 393, Value.int 706 0, Value.int 149 0, Value.str (Str.ofString "/claim/cut.py") 707] } : Obj)) ::
  (nat_lit 395, (⟨(Value.type "function"), (none), .func (PySem.W.fnOf (Str.ofString "found") (Str.ofString "Both.found") (defArgs (inClass (top 19) 0)) (defBody (inClass (top 19) 0)) (defScope (inClass (top 19) 0)) (Value.none) (Value.none) (Value.none) (Value.str (Str.ofString "logloom.questions") 365) (none) (Value.ref 394) (Value.none)), (#[])⟩ : Obj)) ::
  (nat_lit 396, ({ cls := Value.type "tuple", data := Data.seq #[] } : Obj)) ::
  (nat_lit 397, ({ cls := Value.type "dict", data := Data.dict #[{ hash := PyData.keyHash P (Str.ofString "__module__"), key := Value.str (Str.ofString "__module__") 693, val := Value.str (Str.ofString "logloom.questions") 365 }, { hash := PyData.keyHash P (Str.ofString "__firstlineno__"), key := Value.str (Str.ofString "__firstlineno__") 697, val := Value.int 147 696 }, { hash := PyData.keyHash P (Str.ofString "found"), key := Value.str (Str.ofString "found") 708, val := Value.ref 395 }, { hash := PyData.keyHash P (Str.ofString "__static_attributes__"), key := Value.str (Str.ofString "__static_attributes__") 709, val := Value.ref 396 }, { hash := PyData.keyHash P (Str.ofString "__doc__"), key := Value.str (Str.ofString "__doc__") 710, val := Value.none }] 2 } : Obj)) ::
  (nat_lit 398, ({ cls := Value.type "type", data := Data.cls { name := Str.ofString "Both", bases := [Value.ref 379], mro := [Value.ref 398, Value.ref 379, Value.ref 188, Value.type "object"], ns := 397, qualname := Str.ofString "Both" }, slots := #[some (Value.ref 382), none, some (Value.str (Str.ofString "Both") 686), some (Value.str (Str.ofString "Both") 694), some (Value.builtin "object.__new__"), some (Value.bool true)] } : Obj)) ::
  (nat_lit 401, ({ cls := Value.type "tuple", data := Data.seq #[Value.ref 379] } : Obj)) ::
  (nat_lit 408, ({ cls := Value.type "tuple", data := Data.seq #[] } : Obj)) ::
  (nat_lit 410, ({ cls := Value.type "tuple", data := Data.seq #[Value.str (Str.ofString "self") 728, Value.str (Str.ofString "log") 729, Value.str (Str.ofString "n") 730, Value.str (Str.ofString "rows") 731] } : Obj)) ::
  (nat_lit 411, ({ cls := Value.type "tuple", data := Data.seq #[] } : Obj)) ::
  (nat_lit 413, ({ cls := Value.type "code", data := Data.fields #[Value.str (Str.ofString "found") 725, Value.str (Str.ofString "Either.found") 726, Value.str (Str.ofString "/claim/cut.py") 727, Value.int 157 0, Value.int 3 0, Value.int 0 0, Value.int 0 0, Value.int 3 0, Value.ref 408, Value.bool true, Value.int 181 0, Value.ref 409, Value.none, Value.ref 410, Value.ref 411, Value.ref 412, Value.int 732 0, Value.int 157 0, Value.str (Str.ofString "/claim/cut.py") 733] } : Obj)) ::
  (nat_lit 414, (⟨(Value.type "function"), (none), .func (PySem.W.fnOf (Str.ofString "found") (Str.ofString "Either.found") (defArgs (inClass (top 20) 0)) (defBody (inClass (top 20) 0)) (defScope (inClass (top 20) 0)) (Value.none) (Value.none) (Value.none) (Value.str (Str.ofString "logloom.questions") 365) (none) (Value.ref 413) (Value.none)), (#[])⟩ : Obj)) ::
  (nat_lit 415, ({ cls := Value.type "tuple", data := Data.seq #[] } : Obj)) ::
  (nat_lit 416, ({ cls := Value.type "dict", data := Data.dict #[{ hash := PyData.keyHash P (Str.ofString "__module__"), key := Value.str (Str.ofString "__module__") 720, val := Value.str (Str.ofString "logloom.questions") 365 }, { hash := PyData.keyHash P (Str.ofString "__firstlineno__"), key := Value.str (Str.ofString "__firstlineno__") 724, val := Value.int 155 723 }, { hash := PyData.keyHash P (Str.ofString "found"), key := Value.str (Str.ofString "found") 734, val := Value.ref 414 }, { hash := PyData.keyHash P (Str.ofString "__static_attributes__"), key := Value.str (Str.ofString "__static_attributes__") 735, val := Value.ref 415 }, { hash := PyData.keyHash P (Str.ofString "__doc__"), key := Value.str (Str.ofString "__doc__") 736, val := Value.none }] 2 } : Obj)) ::
  (nat_lit 417, ({ cls := Value.type "type", data := Data.cls { name := Str.ofString "Either", bases := [Value.ref 379], mro := [Value.ref 417, Value.ref 379, Value.ref 188, Value.type "object"], ns := 416, qualname := Str.ofString "Either" }, slots := #[some (Value.ref 401), none, some (Value.str (Str.ofString "Either") 713), some (Value.str (Str.ofString "Either") 721), some (Value.builtin "object.__new__"), some (Value.bool true)] } : Obj)) ::
  (nat_lit 420, ({ cls := Value.type "tuple", data := Data.seq #[Value.ref 188] } : Obj)) ::
  (nat_lit 427, ({ cls := Value.type "tuple", data := Data.seq #[] } : Obj)) ::
  (nat_lit 429, ({ cls := Value.type "tuple", data := Data.seq #[Value.str (Str.ofString "self") 754, Value.str (Str.ofString "one") 755] } : Obj)) ::
  (nat_lit 430, ({ cls := Value.type "tuple", data := Data.seq #[] } : Obj)) ::
  (nat_lit 432, ({ cls := Value.type "code", data := Data.fields #[Value.str (Str.ofString "__init__") 751, Value.str (Str.ofString "Not.__init__") 752, Value.str (Str.ofString "/claim/cut.py") 753, Value.int 162 0, Value.int 2 0, Value.int 0 0, Value.int 0 0, Value.int 3 0, Value.ref 427, Value.bool true, Value.int 181 0, Value.ref 428, Value.none, Value.ref 429, Value.ref 430, Value.ref 431, Value.int 756 0, Value.int 162 0, Value.str (Str.ofString "/claim/cut.py") 757] } : Obj)) ::
  (nat_lit 433, (⟨(Value.type "function"), (none), .func (PySem.W.fnOf (Str.ofString "__init__") (Str.ofString "Not.__init__") (defArgs (inClass (top 21) 0)) (defBody (inClass (top 21) 0)) (defScope (inClass (top 21) 0)) (Value.none) (Value.none) (Value.none) (Value.str (Str.ofString "logloom.questions") 365) (none) (Value.ref 432) (Value.none)), (#[])⟩ : Obj)) ::
  (nat_lit 434, ({ cls := Value.type "tuple", data := Data.seq #[] } : Obj)) ::
  (nat_lit 436, ({ cls := Value.type "tuple", data := Data.seq #[Value.str (Str.ofString "self") 762] } : Obj)) ::
  (nat_lit 437, ({ cls := Value.type "tuple", data := Data.seq #[] } : Obj)) ::
  (nat_lit 439, ({ cls := Value.type "code", data := Data.fields #[Value.str (Str.ofString "back") 759, Value.str (Str.ofString "Not.back") 760, Value.str (Str.ofString "/claim/cut.py") 761, Value.int 165 0, Value.int 1 0, Value.int 0 0, Value.int 0 0, Value.int 3 0, Value.ref 434, Value.bool true, Value.int 181 0, Value.ref 435, Value.none, Value.ref 436, Value.ref 437, Value.ref 438, Value.int 763 0, Value.int 165 0, Value.str (Str.ofString "/claim/cut.py") 764] } : Obj)) ::
  (nat_lit 440, (⟨(Value.type "function"), (none), .func (PySem.W.fnOf (Str.ofString "back") (Str.ofString "Not.back") (defArgs (inClass (top 21) 1)) (defBody (inClass (top 21) 1)) (defScope (inClass (top 21) 1)) (Value.none) (Value.none) (Value.none) (Value.str (Str.ofString "logloom.questions") 365) (none) (Value.ref 439) (Value.none)), (#[])⟩ : Obj)) ::
  (nat_lit 441, ({ cls := Value.type "tuple", data := Data.seq #[] } : Obj)) ::
  (nat_lit 443, ({ cls := Value.type "tuple", data := Data.seq #[Value.str (Str.ofString "self") 769] } : Obj)) ::
  (nat_lit 444, ({ cls := Value.type "tuple", data := Data.seq #[] } : Obj)) ::
  (nat_lit 446, ({ cls := Value.type "code", data := Data.fields #[Value.str (Str.ofString "on") 766, Value.str (Str.ofString "Not.on") 767, Value.str (Str.ofString "/claim/cut.py") 768, Value.int 168 0, Value.int 1 0, Value.int 0 0, Value.int 0 0, Value.int 3 0, Value.ref 441, Value.bool true, Value.int 181 0, Value.ref 442, Value.none, Value.ref 443, Value.ref 444, Value.ref 445, Value.int 770 0, Value.int 168 0, Value.str (Str.ofString "/claim/cut.py") 771] } : Obj)) ::
  (nat_lit 447, (⟨(Value.type "function"), (none), .func (PySem.W.fnOf (Str.ofString "on") (Str.ofString "Not.on") (defArgs (inClass (top 21) 2)) (defBody (inClass (top 21) 2)) (defScope (inClass (top 21) 2)) (Value.none) (Value.none) (Value.none) (Value.str (Str.ofString "logloom.questions") 365) (none) (Value.ref 446) (Value.none)), (#[])⟩ : Obj)) ::
  (nat_lit 448, ({ cls := Value.type "tuple", data := Data.seq #[] } : Obj)) ::
  (nat_lit 450, ({ cls := Value.type "tuple", data := Data.seq #[Value.str (Str.ofString "self") 776, Value.str (Str.ofString "log") 777, Value.str (Str.ofString "n") 778] } : Obj)) ::
  (nat_lit 451, ({ cls := Value.type "tuple", data := Data.seq #[] } : Obj)) ::
  (nat_lit 453, ({ cls := Value.type "code", data := Data.fields #[Value.str (Str.ofString "found") 773, Value.str (Str.ofString "Not.found") 774, Value.str (Str.ofString "/claim/cut.py") 775, Value.int 171 0, Value.int 3 0, Value.int 0 0, Value.int 0 0, Value.int 3 0, Value.ref 448, Value.bool true, Value.int 181 0, Value.ref 449, Value.none, Value.ref 450, Value.ref 451, Value.ref 452, Value.int 779 0, Value.int 171 0, Value.str (Str.ofString "/claim/cut.py") 780] } : Obj)) ::
  (nat_lit 454, (⟨(Value.type "function"), (none), .func (PySem.W.fnOf (Str.ofString "found") (Str.ofString "Not.found") (defArgs (inClass (top 21) 3)) (defBody (inClass (top 21) 3)) (defScope (inClass (top 21) 3)) (Value.none) (Value.none) (Value.none) (Value.str (Str.ofString "logloom.questions") 365) (none) (Value.ref 453) (Value.none)), (#[])⟩ : Obj)) ::
  (nat_lit 455, ({ cls := Value.type "tuple", data := Data.seq #[Value.str (Str.ofString "one") 782] } : Obj)) ::
  (nat_lit 456, ({ cls := Value.type "dict", data := Data.dict #[{ hash := PyData.keyHash P (Str.ofString "__module__"), key := Value.str (Str.ofString "__module__") 746, val := Value.str (Str.ofString "logloom.questions") 365 }, { hash := PyData.keyHash P (Str.ofString "__firstlineno__"), key := Value.str (Str.ofString "__firstlineno__") 750, val := Value.int 160 749 }, { hash := PyData.keyHash P (Str.ofString "__init__"), key := Value.str (Str.ofString "__init__") 758, val := Value.ref 433 }, { hash := PyData.keyHash P (Str.ofString "back"), key := Value.str (Str.ofString "back") 765, val := Value.ref 440 }, { hash := PyData.keyHash P (Str.ofString "on"), key := Value.str (Str.ofString "on") 772, val := Value.ref 447 }, { hash := PyData.keyHash P (Str.ofString "found"), key := Value.str (Str.ofString "found") 781, val := Value.ref 454 }, { hash := PyData.keyHash P (Str.ofString "__static_attributes__"), key := Value.str (Str.ofString "__static_attributes__") 783, val := Value.ref 455 }, { hash := PyData.keyHash P (Str.ofString "__doc__"), key := Value.str (Str.ofString "__doc__") 784, val := Value.none }] 2 } : Obj)) ::
  (nat_lit 457, ({ cls := Value.type "type", data := Data.cls { name := Str.ofString "Not", bases := [Value.ref 188], mro := [Value.ref 457, Value.ref 188, Value.type "object"], ns := 456, qualname := Str.ofString "Not" }, slots := #[some (Value.ref 420), none, some (Value.str (Str.ofString "Not") 739), some (Value.str (Str.ofString "Not") 747), some (Value.builtin "object.__new__"), some (Value.bool true)] } : Obj)) ::
  (nat_lit 460, ({ cls := Value.type "tuple", data := Data.seq #[] } : Obj)) ::
  (nat_lit 463, ({ cls := Value.type "code", data := Data.fields #[Value.str (Str.ofString "walked") 789, Value.str (Str.ofString "walked") 790, Value.str (Str.ofString "/claim/cut.py") 791, Value.int 174 0, Value.int 2 0, Value.int 0 0, Value.int 0 0, Value.int 3 0, Value.ref 460, Value.bool true, Value.int 181 0, Value.ref 461, Value.none, Value.none, Value.none, Value.ref 462, Value.int 792 0, Value.int 174 0, Value.str (Str.ofString "/claim/cut.py") 793] } : Obj)) ::
  (nat_lit 464, (⟨(Value.type "function"), (none), .func (PySem.W.fnOf (Str.ofString "walked") (Str.ofString "walked") (defArgs (top 23)) (defBody (top 23)) (defScope (top 23)) (Value.none) (Value.none) (Value.none) (Value.str (Str.ofString "logloom.walking") 787) (none) (Value.ref 463) (Value.none)), (#[])⟩ : Obj)) ::
  (nat_lit 465, ({ cls := Value.type "tuple", data := Data.seq #[] } : Obj)) ::
  (nat_lit 467, ({ cls := Value.type "tuple", data := Data.seq #[Value.str (Str.ofString "_law_script") 800, Value.str (Str.ofString "_law_k") 801] } : Obj)) ::
  (nat_lit 468, ({ cls := Value.type "tuple", data := Data.seq #[] } : Obj)) ::
  (nat_lit 470, ({ cls := Value.type "code", data := Data.fields #[Value.str (Str.ofString "_law_cell_at") 797, Value.str (Str.ofString "_law_cell_at") 798, Value.str (Str.ofString "/claim/cut.py") 799, Value.int 178 0, Value.int 2 0, Value.int 0 0, Value.int 0 0, Value.int 3 0, Value.ref 465, Value.bool true, Value.int 181 0, Value.ref 466, Value.none, Value.ref 467, Value.ref 468, Value.ref 469, Value.int 802 0, Value.int 178 0, Value.str (Str.ofString "/claim/cut.py") 803] } : Obj)) ::
  (nat_lit 471, (⟨(Value.type "function"), (none), .func (PySem.W.fnOf (Str.ofString "_law_cell_at") (Str.ofString "_law_cell_at") (defArgs (top 25)) (defBody (top 25)) (defScope (top 25)) (Value.none) (Value.none) (Value.none) (Value.str (Str.ofString "law_logloom_k57_behind_the_end") 795) (none) (Value.ref 470) (Value.none)), (#[])⟩ : Obj)) ::
  (nat_lit 472, ({ cls := Value.type "tuple", data := Data.seq #[] } : Obj)) ::
  (nat_lit 474, ({ cls := Value.type "tuple", data := Data.seq #[Value.str (Str.ofString "_law_cell") 808, Value.str (Str.ofString "_law_k") 809] } : Obj)) ::
  (nat_lit 475, ({ cls := Value.type "tuple", data := Data.seq #[] } : Obj)) ::
  (nat_lit 477, ({ cls := Value.type "code", data := Data.fields #[Value.str (Str.ofString "_law_mix") 805, Value.str (Str.ofString "_law_mix") 806, Value.str (Str.ofString "/claim/cut.py") 807, Value.int 182 0, Value.int 2 0, Value.int 0 0, Value.int 0 0, Value.int 3 0, Value.ref 472, Value.bool true, Value.int 181 0, Value.ref 473, Value.none, Value.ref 474, Value.ref 475, Value.ref 476, Value.int 810 0, Value.int 182 0, Value.str (Str.ofString "/claim/cut.py") 811] } : Obj)) ::
  (nat_lit 478, (⟨(Value.type "function"), (none), .func (PySem.W.fnOf (Str.ofString "_law_mix") (Str.ofString "_law_mix") (defArgs (top 26)) (defBody (top 26)) (defScope (top 26)) (Value.none) (Value.none) (Value.none) (Value.str (Str.ofString "law_logloom_k57_behind_the_end") 795) (none) (Value.ref 477) (Value.none)), (#[])⟩ : Obj)) ::
  (nat_lit 479, ({ cls := Value.type "tuple", data := Data.seq #[] } : Obj)) ::
  (nat_lit 481, ({ cls := Value.type "tuple", data := Data.seq #[Value.str (Str.ofString "_law_cell") 816, Value.str (Str.ofString "_law_other") 817, Value.str (Str.ofString "_law_small") 818, Value.str (Str.ofString "_law_size") 819, Value.str (Str.ofString "_law_name") 820, Value.str (Str.ofString "_law_k") 821, Value.str (Str.ofString "_law_at") 822, Value.str (Str.ofString "_law_turned") 823, Value.str (Str.ofString "_law_number") 824, Value.str (Str.ofString "_law_items") 825] } : Obj)) ::
  (nat_lit 482, ({ cls := Value.type "tuple", data := Data.seq #[] } : Obj)) ::
  (nat_lit 484, ({ cls := Value.type "code", data := Data.fields #[Value.str (Str.ofString "_law_pool") 813, Value.str (Str.ofString "_law_pool") 814, Value.str (Str.ofString "/claim/cut.py") 815, Value.int 184 0, Value.int 2 0, Value.int 0 0, Value.int 0 0, Value.int 3 0, Value.ref 479, Value.bool true, Value.int 181 0, Value.ref 480, Value.none, Value.ref 481, Value.ref 482, Value.ref 483, Value.int 826 0, Value.int 184 0, Value.str (Str.ofString "/claim/cut.py") 827] } : Obj)) ::
  (nat_lit 485, (⟨(Value.type "function"), (none), .func (PySem.W.fnOf (Str.ofString "_law_pool") (Str.ofString "_law_pool") (defArgs (top 27)) (defBody (top 27)) (defScope (top 27)) (Value.none) (Value.none) (Value.none) (Value.str (Str.ofString "law_logloom_k57_behind_the_end") 795) (none) (Value.ref 484) (Value.none)), (#[])⟩ : Obj)) ::
  (nat_lit 486, ({ cls := Value.type "tuple", data := Data.seq #[] } : Obj)) ::
  (nat_lit 488, ({ cls := Value.type "tuple", data := Data.seq #[Value.str (Str.ofString "_law_cell") 832, Value.str (Str.ofString "_law_first") 833] } : Obj)) ::
  (nat_lit 489, ({ cls := Value.type "tuple", data := Data.seq #[] } : Obj)) ::
  (nat_lit 491, ({ cls := Value.type "code", data := Data.fields #[Value.str (Str.ofString "_law_letters") 829, Value.str (Str.ofString "_law_letters") 830, Value.str (Str.ofString "/claim/cut.py") 831, Value.int 197 0, Value.int 1 0, Value.int 0 0, Value.int 0 0, Value.int 3 0, Value.ref 486, Value.bool true, Value.int 181 0, Value.ref 487, Value.none, Value.ref 488, Value.ref 489, Value.ref 490, Value.int 834 0, Value.int 197 0, Value.str (Str.ofString "/claim/cut.py") 835] } : Obj)) ::
  (nat_lit 492, (⟨(Value.type "function"), (none), .func (PySem.W.fnOf (Str.ofString "_law_letters") (Str.ofString "_law_letters") (defArgs (top 28)) (defBody (top 28)) (defScope (top 28)) (Value.none) (Value.none) (Value.none) (Value.str (Str.ofString "law_logloom_k57_behind_the_end") 795) (none) (Value.ref 491) (Value.none)), (#[])⟩ : Obj)) ::
  (nat_lit 493, ({ cls := Value.type "tuple", data := Data.seq #[] } : Obj)) ::
  (nat_lit 496, ({ cls := Value.type "code", data := Data.fields #[Value.str (Str.ofString "_law_entry") 837, Value.str (Str.ofString "_law_entry") 838, Value.str (Str.ofString "/claim/cut.py") 839, Value.int 200 0, Value.int 3 0, Value.int 0 0, Value.int 0 0, Value.int 3 0, Value.ref 493, Value.bool true, Value.int 181 0, Value.ref 494, Value.none, Value.none, Value.none, Value.ref 495, Value.int 840 0, Value.int 200 0, Value.str (Str.ofString "/claim/cut.py") 841] } : Obj)) ::
  (nat_lit 497, (⟨(Value.type "function"), (none), .func (PySem.W.fnOf (Str.ofString "_law_entry") (Str.ofString "_law_entry") (defArgs (top 29)) (defBody (top 29)) (defScope (top 29)) (Value.none) (Value.none) (Value.none) (Value.str (Str.ofString "law_logloom_k57_behind_the_end") 795) (none) (Value.ref 496) (Value.none)), (#[])⟩ : Obj)) ::
  (nat_lit 498, ({ cls := Value.type "tuple", data := Data.seq #[] } : Obj)) ::
  (nat_lit 501, ({ cls := Value.type "code", data := Data.fields #[Value.str (Str.ofString "_law_log") 843, Value.str (Str.ofString "_law_log") 844, Value.str (Str.ofString "/claim/cut.py") 845, Value.int 205 0, Value.int 3 0, Value.int 0 0, Value.int 0 0, Value.int 3 0, Value.ref 498, Value.bool true, Value.int 181 0, Value.ref 499, Value.none, Value.none, Value.none, Value.ref 500, Value.int 846 0, Value.int 205 0, Value.str (Str.ofString "/claim/cut.py") 847] } : Obj)) ::
  (nat_lit 502, (⟨(Value.type "function"), (none), .func (PySem.W.fnOf (Str.ofString "_law_log") (Str.ofString "_law_log") (defArgs (top 30)) (defBody (top 30)) (defScope (top 30)) (Value.none) (Value.none) (Value.none) (Value.str (Str.ofString "law_logloom_k57_behind_the_end") 795) (none) (Value.ref 501) (Value.none)), (#[])⟩ : Obj)) ::
  (nat_lit 503, ({ cls := Value.type "tuple", data := Data.seq #[] } : Obj)) ::
  (nat_lit 505, ({ cls := Value.type "tuple", data := Data.seq #[Value.str (Str.ofString "_law_cell") 852, Value.str (Str.ofString "_law_k") 853] } : Obj)) ::
  (nat_lit 506, ({ cls := Value.type "tuple", data := Data.seq #[] } : Obj)) ::
  (nat_lit 508, ({ cls := Value.type "code", data := Data.fields #[Value.str (Str.ofString "_law_count") 849, Value.str (Str.ofString "_law_count") 850, Value.str (Str.ofString "/claim/cut.py") 851, Value.int 207 0, Value.int 2 0, Value.int 0 0, Value.int 0 0, Value.int 3 0, Value.ref 503, Value.bool true, Value.int 181 0, Value.ref 504, Value.none, Value.ref 505, Value.ref 506, Value.ref 507, Value.int 854 0, Value.int 207 0, Value.str (Str.ofString "/claim/cut.py") 855] } : Obj)) ::
  (nat_lit 509, (⟨(Value.type "function"), (none), .func (PySem.W.fnOf (Str.ofString "_law_count") (Str.ofString "_law_count") (defArgs (top 31)) (defBody (top 31)) (defScope (top 31)) (Value.none) (Value.none) (Value.none) (Value.str (Str.ofString "law_logloom_k57_behind_the_end") 795) (none) (Value.ref 508) (Value.none)), (#[])⟩ : Obj)) ::
  (nat_lit 510, ({ cls := Value.type "tuple", data := Data.seq #[] } : Obj)) ::
  (nat_lit 512, ({ cls := Value.type "tuple", data := Data.seq #[Value.str (Str.ofString "_law_cell") 860, Value.str (Str.ofString "_law_letters_here") 861, Value.str (Str.ofString "_law_pool_here") 862, Value.str (Str.ofString "_law_kind") 863, Value.str (Str.ofString "_law_letter") 864, Value.str (Str.ofString "_law_gap") 865, Value.str (Str.ofString "_law_other") 866] } : Obj)) ::
  (nat_lit 513, ({ cls := Value.type "tuple", data := Data.seq #[] } : Obj)) ::
  (nat_lit 515, ({ cls := Value.type "code", data := Data.fields #[Value.str (Str.ofString "_law_short") 857, Value.str (Str.ofString "_law_short") 858, Value.str (Str.ofString "/claim/cut.py") 859, Value.int 209 0, Value.int 3 0, Value.int 0 0, Value.int 0 0, Value.int 3 0, Value.ref 510, Value.bool true, Value.int 181 0, Value.ref 511, Value.none, Value.ref 512, Value.ref 513, Value.ref 514, Value.int 867 0, Value.int 209 0, Value.str (Str.ofString "/claim/cut.py") 868] } : Obj)) ::
  (nat_lit 516, (⟨(Value.type "function"), (none), .func (PySem.W.fnOf (Str.ofString "_law_short") (Str.ofString "_law_short") (defArgs (top 32)) (defBody (top 32)) (defScope (top 32)) (Value.none) (Value.none) (Value.none) (Value.str (Str.ofString "law_logloom_k57_behind_the_end") 795) (none) (Value.ref 515) (Value.none)), (#[])⟩ : Obj)) ::
  (nat_lit 517, ({ cls := Value.type "tuple", data := Data.seq #[] } : Obj)) ::
  (nat_lit 519, ({ cls := Value.type "tuple", data := Data.seq #[Value.str (Str.ofString "_law_asked") 873, Value.str (Str.ofString "_law_within") 874] } : Obj)) ::
  (nat_lit 520, ({ cls := Value.type "tuple", data := Data.seq #[] } : Obj)) ::
  (nat_lit 522, ({ cls := Value.type "code", data := Data.fields #[Value.str (Str.ofString "_law_nearer") 870, Value.str (Str.ofString "_law_nearer") 871, Value.str (Str.ofString "/claim/cut.py") 872, Value.int 219 0, Value.int 2 0, Value.int 0 0, Value.int 0 0, Value.int 3 0, Value.ref 517, Value.bool true, Value.int 181 0, Value.ref 518, Value.none, Value.ref 519, Value.ref 520, Value.ref 521, Value.int 875 0, Value.int 219 0, Value.str (Str.ofString "/claim/cut.py") 876] } : Obj)) ::
  (nat_lit 523, (⟨(Value.type "function"), (none), .func (PySem.W.fnOf (Str.ofString "_law_nearer") (Str.ofString "_law_nearer") (defArgs (top 33)) (defBody (top 33)) (defScope (top 33)) (Value.none) (Value.none) (Value.none) (Value.str (Str.ofString "law_logloom_k57_behind_the_end") 795) (none) (Value.ref 522) (Value.none)), (#[])⟩ : Obj)) ::
  (nat_lit 524, ({ cls := Value.type "tuple", data := Data.seq #[] } : Obj)) ::
  (nat_lit 526, ({ cls := Value.type "tuple", data := Data.seq #[Value.str (Str.ofString "_law_cells") 881, Value.str (Str.ofString "_law_letters_here") 882, Value.str (Str.ofString "_law_pool_here") 883, Value.str (Str.ofString "_law_within") 884, Value.str (Str.ofString "_law_cell") 885, Value.str (Str.ofString "_law_counts") 886, Value.str (Str.ofString "_law_one") 887, Value.str (Str.ofString "_law_other") 888] } : Obj)) ::
  (nat_lit 527, ({ cls := Value.type "tuple", data := Data.seq #[] } : Obj)) ::
  (nat_lit 529, ({ cls := Value.type "code", data := Data.fields #[Value.str (Str.ofString "_law_grown") 878, Value.str (Str.ofString "_law_grown") 879, Value.str (Str.ofString "/claim/cut.py") 880, Value.int 223 0, Value.int 4 0, Value.int 0 0, Value.int 0 0, Value.int 3 0, Value.ref 524, Value.bool true, Value.int 181 0, Value.ref 525, Value.none, Value.ref 526, Value.ref 527, Value.ref 528, Value.int 889 0, Value.int 223 0, Value.str (Str.ofString "/claim/cut.py") 890] } : Obj)) ::
  (nat_lit 530, (⟨(Value.type "function"), (none), .func (PySem.W.fnOf (Str.ofString "_law_grown") (Str.ofString "_law_grown") (defArgs (top 34)) (defBody (top 34)) (defScope (top 34)) (Value.none) (Value.none) (Value.none) (Value.str (Str.ofString "law_logloom_k57_behind_the_end") 795) (none) (Value.ref 529) (Value.none)), (#[])⟩ : Obj)) ::
  (nat_lit 531, ({ cls := Value.type "tuple", data := Data.seq #[] } : Obj)) ::
  (nat_lit 533, ({ cls := Value.type "tuple", data := Data.seq #[Value.str (Str.ofString "_law_asked") 895, Value.str (Str.ofString "_law_kind") 896] } : Obj)) ::
  (nat_lit 534, ({ cls := Value.type "tuple", data := Data.seq #[] } : Obj)) ::
  (nat_lit 536, ({ cls := Value.type "code", data := Data.fields #[Value.str (Str.ofString "_law_built") 892, Value.str (Str.ofString "_law_built") 893, Value.str (Str.ofString "/claim/cut.py") 894, Value.int 237 0, Value.int 1 0, Value.int 0 0, Value.int 0 0, Value.int 3 0, Value.ref 531, Value.bool true, Value.int 181 0, Value.ref 532, Value.none, Value.ref 533, Value.ref 534, Value.ref 535, Value.int 897 0, Value.int 237 0, Value.str (Str.ofString "/claim/cut.py") 898] } : Obj)) ::
  (nat_lit 537, (⟨(Value.type "function"), (none), .func (PySem.W.fnOf (Str.ofString "_law_built") (Str.ofString "_law_built") (defArgs (top 35)) (defBody (top 35)) (defScope (top 35)) (Value.none) (Value.none) (Value.none) (Value.str (Str.ofString "law_logloom_k57_behind_the_end") 795) (none) (Value.ref 536) (Value.none)), (#[])⟩ : Obj)) ::
  (nat_lit 538, ({ cls := Value.type "tuple", data := Data.seq #[] } : Obj)) ::
  (nat_lit 540, ({ cls := Value.type "tuple", data := Data.seq #[Value.str (Str.ofString "_law_watch") 903, Value.str (Str.ofString "_law_piece") 904, Value.str (Str.ofString "_law_told") 905, Value.str (Str.ofString "e") 906, Value.str (Str.ofString "_law_based") 907] } : Obj)) ::
  (nat_lit 541, ({ cls := Value.type "tuple", data := Data.seq #[] } : Obj)) ::
  (nat_lit 543, ({ cls := Value.type "code", data := Data.fields #[Value.str (Str.ofString "_law_refused") 900, Value.str (Str.ofString "_law_refused") 901, Value.str (Str.ofString "/claim/cut.py") 902, Value.int 254 0, Value.int 2 0, Value.int 0 0, Value.int 0 0, Value.int 3 0, Value.ref 538, Value.bool true, Value.int 181 0, Value.ref 539, Value.none, Value.ref 540, Value.ref 541, Value.ref 542, Value.int 908 0, Value.int 254 0, Value.str (Str.ofString "/claim/cut.py") 909] } : Obj)) ::
  (nat_lit 544, (⟨(Value.type "function"), (none), .func (PySem.W.fnOf (Str.ofString "_law_refused") (Str.ofString "_law_refused") (defArgs (top 36)) (defBody (top 36)) (defScope (top 36)) (Value.none) (Value.none) (Value.none) (Value.str (Str.ofString "law_logloom_k57_behind_the_end") 795) (none) (Value.ref 543) (Value.none)), (#[])⟩ : Obj)) ::
  (nat_lit 545, ({ cls := Value.type "tuple", data := Data.seq #[] } : Obj)) ::
  (nat_lit 548, ({ cls := Value.type "code", data := Data.fields #[Value.str (Str.ofString "law") 911, Value.str (Str.ofString "law") 912, Value.str (Str.ofString "/claim/cut.py") 913, Value.int 270 0, Value.int 1 0, Value.int 0 0, Value.int 0 0, Value.int 3 0, Value.ref 545, Value.bool true, Value.int 181 0, Value.ref 546, Value.none, Value.none, Value.none, Value.ref 547, Value.int 914 0, Value.int 270 0, Value.str (Str.ofString "/claim/cut.py") 915] } : Obj)) ::
  (nat_lit 549, (⟨(Value.type "function"), (none), .func (PySem.W.fnOf (Str.ofString "law") (Str.ofString "law") (defArgs (top 37)) (defBody (top 37)) (defScope (top 37)) (Value.none) (Value.none) (Value.none) (Value.str (Str.ofString "law_logloom_k57_behind_the_end") 795) (none) (Value.ref 548) (Value.none)), (#[])⟩ : Obj)) :: []
def hA : List PySem.Addr := nat_lit 2 :: nat_lit 3 :: nat_lit 15 :: nat_lit 22 :: nat_lit 23 :: nat_lit 24 :: nat_lit 25 :: nat_lit 28 :: nat_lit 35 :: nat_lit 37 :: nat_lit 38 :: nat_lit 40 :: nat_lit 41 :: nat_lit 42 :: nat_lit 43 :: nat_lit 44 :: nat_lit 47 :: nat_lit 54 :: nat_lit 55 :: nat_lit 56 :: nat_lit 59 :: nat_lit 66 :: nat_lit 67 :: nat_lit 68 :: nat_lit 71 :: nat_lit 78 :: nat_lit 79 :: nat_lit 80 :: nat_lit 83 :: nat_lit 86 :: nat_lit 87 :: nat_lit 95 :: nat_lit 97 :: nat_lit 98 :: nat_lit 100 :: nat_lit 101 :: nat_lit 102 :: nat_lit 104 :: nat_lit 105 :: nat_lit 107 :: nat_lit 108 :: nat_lit 109 :: nat_lit 111 :: nat_lit 112 :: nat_lit 114 :: nat_lit 115 :: nat_lit 116 :: nat_lit 118 :: nat_lit 119 :: nat_lit 121 :: nat_lit 122 :: nat_lit 123 :: nat_lit 125 :: nat_lit 126 :: nat_lit 128 :: nat_lit 129 :: nat_lit 130 :: nat_lit 132 :: nat_lit 133 :: nat_lit 135 :: nat_lit 136 :: nat_lit 137 :: nat_lit 138 :: nat_lit 139 :: nat_lit 140 :: nat_lit 141 :: nat_lit 144 :: nat_lit 146 :: nat_lit 147 :: nat_lit 149 :: nat_lit 150 :: nat_lit 151 :: nat_lit 153 :: nat_lit 154 :: nat_lit 156 :: nat_lit 157 :: nat_lit 165 :: nat_lit 167 :: nat_lit 168 :: nat_lit 170 :: nat_lit 171 :: nat_lit 172 :: nat_lit 174 :: nat_lit 175 :: nat_lit 177 :: nat_lit 178 :: nat_lit 179 :: nat_lit 181 :: nat_lit 182 :: nat_lit 184 :: nat_lit 185 :: nat_lit 186 :: nat_lit 187 :: nat_lit 188 :: nat_lit 189 :: nat_lit 190 :: nat_lit 193 :: nat_lit 200 :: nat_lit 202 :: nat_lit 203 :: nat_lit 205 :: nat_lit 206 :: nat_lit 207 :: nat_lit 209 :: nat_lit 210 :: nat_lit 212 :: nat_lit 213 :: nat_lit 214 :: nat_lit 215 :: nat_lit 216 :: nat_lit 219 :: nat_lit 226 :: nat_lit 228 :: nat_lit 229 :: nat_lit 231 :: nat_lit 232 :: nat_lit 233 :: nat_lit 235 :: nat_lit 236 :: nat_lit 238 :: nat_lit 239 :: nat_lit 240 :: nat_lit 241 :: nat_lit 242 :: nat_lit 245 :: nat_lit 252 :: nat_lit 254 :: nat_lit 255 :: nat_lit 257 :: nat_lit 258 :: nat_lit 259 :: nat_lit 261 :: nat_lit 262 :: nat_lit 264 :: nat_lit 265 :: nat_lit 266 :: nat_lit 268 :: nat_lit 269 :: nat_lit 271 :: nat_lit 272 :: nat_lit 273 :: nat_lit 274 :: nat_lit 275 :: nat_lit 278 :: nat_lit 285 :: nat_lit 287 :: nat_lit 288 :: nat_lit 290 :: nat_lit 291 :: nat_lit 292 :: nat_lit 294 :: nat_lit 295 :: nat_lit 297 :: nat_lit 298 :: nat_lit 299 :: nat_lit 301 :: nat_lit 302 :: nat_lit 304 :: nat_lit 305 :: nat_lit 306 :: nat_lit 307 :: nat_lit 308 :: nat_lit 311 :: nat_lit 318 :: nat_lit 320 :: nat_lit 321 :: nat_lit 323 :: nat_lit 324 :: nat_lit 325 :: nat_lit 327 :: nat_lit 328 :: nat_lit 330 :: nat_lit 331 :: nat_lit 332 :: nat_lit 334 :: nat_lit 335 :: nat_lit 337 :: nat_lit 338 :: nat_lit 339 :: nat_lit 342 :: nat_lit 343 :: nat_lit 344 :: nat_lit 345 :: nat_lit 346 :: nat_lit 349 :: nat_lit 356 :: nat_lit 358 :: nat_lit 359 :: nat_lit 361 :: nat_lit 362 :: nat_lit 363 :: nat_lit 365 :: nat_lit 366 :: nat_lit 368 :: nat_lit 369 :: nat_lit 370 :: nat_lit 372 :: nat_lit 373 :: nat_lit 375 :: nat_lit 376 :: nat_lit 377 :: nat_lit 378 :: nat_lit 379 :: nat_lit 382 :: nat_lit 389 :: nat_lit 391 :: nat_lit 392 :: nat_lit 394 :: nat_lit 395 :: nat_lit 396 :: nat_lit 397 :: nat_lit 398 :: nat_lit 401 :: nat_lit 408 :: nat_lit 410 :: nat_lit 411 :: nat_lit 413 :: nat_lit 414 :: nat_lit 415 :: nat_lit 416 :: nat_lit 417 :: nat_lit 420 :: nat_lit 427 :: nat_lit 429 :: nat_lit 430 :: nat_lit 432 :: nat_lit 433 :: nat_lit 434 :: nat_lit 436 :: nat_lit 437 :: nat_lit 439 :: nat_lit 440 :: nat_lit 441 :: nat_lit 443 :: nat_lit 444 :: nat_lit 446 :: nat_lit 447 :: nat_lit 448 :: nat_lit 450 :: nat_lit 451 :: nat_lit 453 :: nat_lit 454 :: nat_lit 455 :: nat_lit 456 :: nat_lit 457 :: nat_lit 460 :: nat_lit 463 :: nat_lit 464 :: nat_lit 465 :: nat_lit 467 :: nat_lit 468 :: nat_lit 470 :: nat_lit 471 :: nat_lit 472 :: nat_lit 474 :: nat_lit 475 :: nat_lit 477 :: nat_lit 478 :: nat_lit 479 :: nat_lit 481 :: nat_lit 482 :: nat_lit 484 :: nat_lit 485 :: nat_lit 486 :: nat_lit 488 :: nat_lit 489 :: nat_lit 491 :: nat_lit 492 :: nat_lit 493 :: nat_lit 496 :: nat_lit 497 :: nat_lit 498 :: nat_lit 501 :: nat_lit 502 :: nat_lit 503 :: nat_lit 505 :: nat_lit 506 :: nat_lit 508 :: nat_lit 509 :: nat_lit 510 :: nat_lit 512 :: nat_lit 513 :: nat_lit 515 :: nat_lit 516 :: nat_lit 517 :: nat_lit 519 :: nat_lit 520 :: nat_lit 522 :: nat_lit 523 :: nat_lit 524 :: nat_lit 526 :: nat_lit 527 :: nat_lit 529 :: nat_lit 530 :: nat_lit 531 :: nat_lit 533 :: nat_lit 534 :: nat_lit 536 :: nat_lit 537 :: nat_lit 538 :: nat_lit 540 :: nat_lit 541 :: nat_lit 543 :: nat_lit 544 :: nat_lit 545 :: nat_lit 548 :: nat_lit 549 :: []
theorem hE : ∀ P, hA = (hK P).map (·.1) := fun _ => by kernel_rfl
def hQ : PySem.Program := { PySem.Challenge.pw_logloom_k57_behind_the_end with
  main := { PySem.Challenge.pw_logloom_k57_behind_the_end.main with
    body := [top 1, top 2, top 3, top 4, top 5, top 7, top 8, top 10, top 11, top 12, top 13, top 14, top 15, top 16, top 17, top 18, top 19, top 20, top 21, top 23, top 25, top 26, top 27, top 28, top 29, top 30, top 31, top 32, top 33, top 34, top 35, top 36, top 37] } }
abbrev hH : PySem.W.Hook := PySem.W.kHook hK hA hE
abbrev hX (s : PySem.Shared) : Bool := PySem.W.xlAt hQ [] s &&
  PySem.W.recOk (PySem.W.RowW.records (PySem.W.OpenRow.toRowW (PySem.W.OpenLaw.row PySem.Challenge.rw_logloom_k57_behind_the_end))) s
set_option maxHeartbeats 0 in
theorem hL : PySem.W.LeftO PySem.Challenge.pw_logloom_k57_behind_the_end hQ [] hX hH.obs hH.val 10134 :=
  HT.left1 rfl rfl (fun _ => rfl) (fun w os => by kernel_rfl)
end QL

namespace L2
open PySem PySem.Spec PyProof.Rows


abbrev Key := Sum Int Str
def keyIs : Key → Value → Bool
  | .inl k, v => Value.isInt k v
  | .inr x, v => Value.isStrOf x v
def keyH (w : World) : Key → Int
  | .inl k => hashInt k
  | .inr x => hashStr w x
theorem keyIs_shape : ∀ {k : Key} {v : Value}, keyIs k v = true → (∃ i t, k = Sum.inl i ∧ v = Value.int i t) ∨ (∃ x t, k = Sum.inr x ∧ v = Value.str x t)
  | .inl i, v, h => by
    obtain ⟨t, e⟩ := Value.isInt_shape (k := i) (v := v) h
    exact .inl ⟨i, t, rfl, e⟩
  | .inr x, v, h => by
    obtain ⟨t, e⟩ := Value.isStrOf_shape (x := x) (v := v) h
    exact .inr ⟨x, t, rfl, e⟩
theorem key_ll (a b : Int) : decide ((Sum.inl a : Key) = Sum.inl b) = (a == b) := by
  by_cases e : a = b
  · subst e; simp
  · have h : ¬ (Sum.inl a : Key) = Sum.inl b := fun q => e (Sum.inl.inj q)
    rw [decide_eq_false h]
    exact (beq_eq_false_iff_ne.mpr e).symm
theorem key_rr (a b : Str) : decide ((Sum.inr a : Key) = Sum.inr b) = decide (a = b) := by
  by_cases e : a = b
  · subst e; simp
  · have h : ¬ (Sum.inr a : Key) = Sum.inr b := fun q => e (Sum.inr.inj q)
    rw [decide_eq_false h, decide_eq_false e]
theorem key_lr (a : Int) (b : Str) : decide ((Sum.inl a : Key) = Sum.inr b) = false := decide_eq_false (fun q => nomatch q)
theorem key_rl (a : Str) (b : Int) : decide ((Sum.inr a : Key) = Sum.inl b) = false := decide_eq_false (fun q => nomatch q)

def mixKind (prog : Program) (w : World) : PySem.KeyKind prog w Key where
  is := keyIs
  hash := keyH w
  inj := fun v a b ha hb => by
    rcases keyIs_shape ha with ⟨i, t, rfl, rfl⟩ | ⟨x, t, rfl, rfl⟩
    · rcases keyIs_shape hb with ⟨j, u, rfl, e⟩ | ⟨y, u, rfl, e⟩
      · injection e with e1 _; rw [e1]
      · exact nomatch e
    · rcases keyIs_shape hb with ⟨j, u, rfl, e⟩ | ⟨y, u, rfl, e⟩
      · exact nomatch e
      · injection e with e1 _; rw [e1]
  byValue := fun k v h => by
    rcases keyIs_shape h with ⟨i, t, rfl, rfl⟩ | ⟨x, t, rfl, rfl⟩ <;> rfl
  pyHash := fun hv h => by
    rcases keyIs_shape hv with ⟨i, t, rfl, rfl⟩ | ⟨x, t, rfl, rfl⟩
    · exact wpAny_pyHash_int h
    · exact wpAny_pyHash_str h
  eqBool := fun hu hv h => by
    rcases keyIs_shape hu with ⟨i, t, rfl, rfl⟩ | ⟨x, t, rfl, rfl⟩
    · rcases keyIs_shape hv with ⟨j, u, rfl, rfl⟩ | ⟨y, u, rfl, rfl⟩
      · rw [key_ll] at h; exact wpAny_eqBool_int h
      · rw [key_lr] at h; exact SeqAt.EqAt.int_str i t y u _ _ _ _ h
    · rcases keyIs_shape hv with ⟨j, u, rfl, rfl⟩ | ⟨y, u, rfl, rfl⟩
      · rw [key_rl] at h; exact SeqAt.EqAt.str_int x t j u _ _ _ _ h
      · rw [key_rr] at h; exact wpAny_eqBool_str h
  «strs» := fun k x t v h => by
    rcases keyIs_shape h with ⟨i, u, rfl, e⟩ | ⟨y, u, rfl, e⟩
    · exact nomatch e
    · injection e with e1 _
      subst e1
      cases v <;> rfl

end L2

namespace L2
open PySem PySem.Spec PyProof.Rows


inductive V where
  | non | bl (b : Bool) | int (i : Int) | str (x : Str) | byt (b : Array UInt8) | flt (b : UInt64) | ref (a : Addr) | ty (n : String)
  deriving DecidableEq

def RelV : V → Value → Prop
  | .non, u => u = Value.none
  | .bl b, u => u = Value.bool b
  | .int i, u => ∃ t, u = Value.int i t
  | .str x, u => ∃ t, u = Value.str x t
  | .byt b, u => ∃ t, u = Value.bytes b t
  | .flt b, u => ∃ t, u = Value.float b t
  | .ref a, u => u = Value.ref a
  | .ty n, u => u = Value.type n

abbrev Vals : List V → List Value → Prop := Paired RelV
theorem Vals.length {xs : List V} {us : List Value} (r : Vals xs us) : xs.length = us.length := Paired.length r
theorem Vals.get : ∀ {xs : List V} {us : List Value} {i : Nat} {x : V}, Vals xs us → xs[i]? = some x → ∃ u, us[i]? = some u ∧ RelV x u
  | _, _, _, _, .nil, e => by simp at e
  | _, _, 0, _, .cons r _, e => by simp at e; subst e; exact ⟨_, rfl, r⟩
  | _, _, i + 1, x, .cons _ t, e => by
    obtain ⟨u, h1, h2⟩ := Vals.get (i := i) (x := x) t (by simpa using e)
    exact ⟨u, by simpa using h1, h2⟩
theorem Vals.append : ∀ {xs ys : List V} {us ws : List Value}, Vals xs us → Vals ys ws → Vals (xs ++ ys) (us ++ ws)
  | _, _, _, _, .nil, s => s
  | _, _, _, _, .cons r t, s => .cons r (Vals.append t s)
theorem Vals.take : ∀ {xs : List V} {us : List Value} (n : Nat), Vals xs us → Vals (xs.take n) (us.take n)
  | _, _, 0, _ => .nil
  | _, _, _ + 1, .nil => .nil
  | _, _, n + 1, .cons r t => .cons r (Vals.take n t)
theorem Vals.drop : ∀ {xs : List V} {us : List Value} (n : Nat), Vals xs us → Vals (xs.drop n) (us.drop n)
  | _, _, 0, r => r
  | _, _, _ + 1, .nil => .nil
  | _, _, n + 1, .cons _ t => Vals.drop n t
def RelO : Option V → Option Value → Prop
  | some v, some u => RelV v u
  | none, none => True
  | _, _ => False
def KV {κ : Type} : List (κ × V) → List (κ × Value) → Prop := Paired fun (p : κ × V) (q : κ × Value) => p.1 = q.1 ∧ RelV p.2 q.2


def kV : Key → V
  | .inl i => .int i
  | .inr x => .str x


inductive HO where
  
  | lst (xs : List V)
  
  | tup (xs : List V)
  
  | dK (kvs : List (Key × V)) | dT (kvs : List (List Key × V))
  
  | set (S : Int → Bool) (n : Nat)
  
  | ins (C dx : Addr) (fs : List (Str × V))
  
  | own (x : Addr)
  
  | xd (fs : List (Str × V))
  
  | met (f x : Addr)
  
  | rng (lo hi : Int)
  
  | frz (o : Obj) (u : HO)
  
  | tbl (ps : Array Value)
  
  | ext (φ : Heap → Prop)

abbrev Hp := Addr → Option HO
def upd (H : Hp) (a : Addr) (o : HO) : Hp := fun b => if b = a then some o else H b
theorem upd_same {H : Hp} {a : Addr} {o : HO} : upd H a o a = some o := by unfold upd; rw [if_pos rfl]
theorem upd_ne {H : Hp} {a b : Addr} {o : HO} (h : b ≠ a) : upd H a o b = H b := by unfold upd; rw [if_neg h]
theorem ne_of {H : Hp} {a b : Addr} {o u : HO} (h : H a = some o) (h' : H b = some u) (d : o ≠ u) : a ≠ b := by
  intro e; subst e; rw [h] at h'; exact d (Option.some.inj h')
theorem ne_of_none {H : Hp} {a b : Addr} {o : HO} (h : H a = some o) (h' : H b = none) : a ≠ b := by
  intro e; subst e; rw [h] at h'; cases h'

section
variable (P : Program) (w : World)
def ObjOk (H : Hp) (h : Heap) (a : Addr) : HO → Prop
  | .lst xs => xs.length ≤ sizeLine ∧ ∃ (its : List Value) (n : Nat), Vals xs its ∧ h.get? a = some { cls := .type "list", data := .seq its.toArray n }
  | .tup xs => xs.length ≤ sizeLine ∧ ∃ its : List Value, Vals xs its ∧ IsTup h a its.toArray
  | .dK kvs => kvs.length ≤ sizeLine ∧ (a == sysModules) = false ∧ ∃ vs, KV kvs vs ∧ h.DictOf (mixKind P w) a vs
  | .dT kvs => kvs.length ≤ sizeLine ∧ (a == sysModules) = false ∧ ∃ xs : List (List Key × Addr × Value),
      Paired (fun (p : List Key × V) (q : List Key × Addr × Value) => p.1 = q.1 ∧ H q.2.1 = some (.tup (p.1.map kV)) ∧ RelV p.2 q.2.2) kvs xs ∧
      ∃ o es ep, h.get? a = some o ∧ o.ExactDict ∧ o.data = .dict es ep ∧ es.toList = xs.map (entryOfKey (tupleKind (mixKind P w))) ∧ (xs.map (·.1)).Nodup
  | .set S n => h.SetOf (intKind P w) a S n
  | .ins C dx fs => H dx = some (.own a) ∧ fs.length ≤ 1000 ∧ dx ≠ a ∧ h.get? a = some (PySem.W.instObj C dx) ∧
      ∃ mA, h.Ns1 dx mA ∧ (∀ f, RelO (fs.lookup f) (mA f)) ∧ PySem.Within mA (fs.map (·.1))
  | .own _ => ∃ o, h.get? a = some o
  | .xd fs => ∃ mA, h.Ns1 a mA ∧ ∀ f, RelO (fs.lookup f) (mA f)
  | .rng lo hi => ∃ t u v, h.get? a = some { cls := .type "range", data := .fields #[.int lo t, .int hi u, .int 1 v] }
  | .frz o u => h.get? a = some o ∧ ObjOk H h a u
  | .tbl ps => h.get? a = some { cls := .none, data := .fields ps }
  | .met f x => h.get? a = some (PySem.W.methodObj (.ref f) (.ref x))
  | .ext φ => φ h ∧ (∃ o, h.get? a = some o) ∧ ∀ h1 h2 : Heap, φ h1 → (∀ o, h1.get? a = some o → h2.get? a = some o) → φ h2

def HOk (H : Hp) (h : Heap) : Prop := ∀ a o, H a = some o → ObjOk P w H h a o
end

section
variable {P : Program} {w : World} {H H' : Hp} {h h' : Heap} {a : Addr} {o : HO}
theorem ObjOk.lt (x : ObjOk P w H h a o) : a < h.objs.size := by
  cases o with
  | lst xs => obtain ⟨_, _, _, _, e⟩ := x; exact Heap.lt_size e
  | tup xs => obtain ⟨_, _, _, p⟩ := x; exact p.lt
  | dK kvs => obtain ⟨_, _, _, _, o, _, _, e, _⟩ := x; exact Heap.lt_size e
  | dT kvs => obtain ⟨_, _, _, _, o, _, _, e, _⟩ := x; exact Heap.lt_size e
  | set S n => obtain ⟨o, _, _, _, e, _⟩ := x; exact Heap.lt_size e
  | ins C dx fs => obtain ⟨_, _, _, e, _⟩ := x; exact Heap.lt_size e
  | own y => obtain ⟨_, e⟩ := x; exact Heap.lt_size e
  | xd fs => obtain ⟨_, ⟨_, _, _, e, _⟩, _⟩ := x; exact Heap.lt_size e
  | rng lo hi => obtain ⟨_, _, _, e⟩ := x; exact Heap.lt_size e
  | frz ob u => obtain ⟨e, _⟩ := x; exact Heap.lt_size e
  | tbl ps => exact Heap.lt_size (show h.get? a = some _ from x)
  | met f y => exact Heap.lt_size (show h.get? a = some _ from x)
  | ext φ => obtain ⟨_, ⟨_, e⟩, _⟩ := x; exact Heap.lt_size e
theorem Paired.mapP {α β : Type} {F G : α → β → Prop} : ∀ {l₁ : List α} {l₂ : List β}, Paired F l₁ l₂ → (∀ a b, F a b → G a b) → Paired G l₁ l₂
  | _, _, .nil, _ => .nil
  | _, _, .cons r t, f => .cons (f _ _ r) (Paired.mapP t f)
theorem ObjOk.stay (x : ObjOk P w H h a o) (k : ∀ b u, (b = a ∨ H b = some (.own a)) → h.get? b = some u → h'.get? b = some u)
    (ho : ∀ b, H b = some (.own a) → H' b = some (.own a)) (ht : ∀ b xs, H b = some (.tup xs) → H' b = some (.tup xs)) : ObjOk P w H' h' a o := by
  induction o with
  | lst xs => obtain ⟨z, its, n, r, e⟩ := x; exact ⟨z, its, n, r, k _ _ (.inl rfl) e⟩
  | tup xs => obtain ⟨z, its, r, ob, e, c⟩ := x; exact ⟨z, its, r, ob, k _ _ (.inl rfl) e, c⟩
  | dK kvs => obtain ⟨z, y, vs, r, ob, es, ep, e, c⟩ := x; exact ⟨z, y, vs, r, ob, es, ep, k _ _ (.inl rfl) e, c⟩
  | dT kvs =>
    obtain ⟨z, y, xs, r, ob, es, ep, e, c⟩ := x
    exact ⟨z, y, xs, Paired.mapP r fun p q z => ⟨z.1, ht _ _ z.2.1, z.2.2⟩, ob, es, ep, k _ _ (.inl rfl) e, c⟩
  | set S n => obtain ⟨ob, es, ep, t, e, c⟩ := x; exact ⟨ob, es, ep, t, k _ _ (.inl rfl) e, c⟩
  | ins C dx fs =>
    obtain ⟨d, z, ne, e, mA, ⟨od, es, ep, e2, c⟩, r⟩ := x
    exact ⟨ho _ d, z, ne, k _ _ (.inl rfl) e, mA, ⟨od, es, ep, k _ _ (.inr d) e2, c⟩, r⟩
  | own y => obtain ⟨ob, e⟩ := x; exact ⟨ob, k _ _ (.inl rfl) e⟩
  | xd fs => obtain ⟨mA, ⟨od, es, ep, e, c⟩, r⟩ := x; exact ⟨mA, ⟨od, es, ep, k _ _ (.inl rfl) e, c⟩, r⟩
  | rng lo hi => obtain ⟨t, u, v, e⟩ := x; exact ⟨t, u, v, k _ _ (.inl rfl) e⟩
  | frz ob u ih => obtain ⟨e, q⟩ := x; exact ⟨k _ _ (.inl rfl) e, ih q⟩
  | tbl ps =>
    have e : h.get? a = some { cls := .none, data := .fields ps } := x
    show h'.get? a = some { cls := .none, data := .fields ps }
    exact k a _ (.inl rfl) e
  | met f y =>
    have e : h.get? a = some (PySem.W.methodObj (.ref f) (.ref y)) := x
    show h'.get? a = some (PySem.W.methodObj (.ref f) (.ref y))
    exact k a _ (.inl rfl) e
  | ext φ => obtain ⟨p, ⟨o, e⟩, st⟩ := x; exact ⟨st _ _ p fun o q => k _ _ (.inl rfl) q, ⟨o, k _ _ (.inl rfl) e⟩, st⟩
theorem HOk.lt (x : HOk P w H h) (e : H a = some o) : a < h.objs.size := (x a o e).lt
theorem HOk.fresh (x : HOk P w H h) (e : h.objs.size ≤ a) : H a = none := by
  cases q : H a with
  | none => rfl
  | some u => exact absurd (Nat.lt_of_lt_of_le (x.lt q) e) (Nat.lt_irrefl _)

theorem HOk.kept (x : HOk P w H h) (k : ∀ b u, h.get? b = some u → h'.get? b = some u) : HOk P w H h' := fun a o e =>
  (x a o e).stay (fun b u _ q => k b u q) (fun _ q => q) fun _ _ q => q

theorem HOk.laid (x : HOk P w H h) (k : ∀ b u, h.get? b = some u → h'.get? b = some u) (hp : h.objs.size ≤ a) (new : ObjOk P w (upd H a o) h' a o) : HOk P w (upd H a o) h' := fun b u e => by
  have hn := x.fresh hp
  by_cases hb : b = a
  · subst hb; rw [upd_same] at e; cases e; exact new
  · rw [upd_ne hb] at e
    exact (x b u e).stay (fun c v _ q => k c v q) (fun c q => by rw [upd_ne (ne_of_none q hn)]; exact q) fun c xs q => by rw [upd_ne (ne_of_none q hn)]; exact q
end


def Rd (H : Hp) (a : Addr) (u : HO) : Prop := H a = some u ∨ ∃ o, H a = some (.frz o u)
theorem Rd.ok {P : Program} {w : World} {H : Hp} {h : Heap} {a : Addr} {u : HO} (r : Rd H a u) (x : HOk P w H h) : ObjOk P w H h a u := by
  rcases r with r | ⟨o, r⟩
  · exact x a u r
  · obtain ⟨_, q⟩ := x a _ r
    exact q

def Mut : Option HO → Prop
  | some (.lst _) => True
  | some (.dK _) => True
  | some (.dT _) => True
  | some (.set _ _) => True
  | some (.ins _ _ _) => True
  | some (.ext _) => True
  | _ => False
section
variable {P : Program} {w : World} {H : Hp} {h h' : Heap} {x e : Addr} {o' : HO}

theorem HOk.write (ok : HOk P w H h) (mu : Mut (H x)) (he : e = x ∨ H e = some (.own x)) (k : ∀ b u, b ≠ e → h.get? b = some u → h'.get? b = some u) (heo : ∃ u, h'.get? e = some u)
    (new : ObjOk P w (upd H x o') h' x o') : HOk P w (upd H x o') h' := fun b u q => by
  have nown : ∀ c y, H c = some (.own y) → c ≠ x := fun c y r z => by subst z; rw [r] at mu; exact mu
  have ntup : ∀ c xs, H c = some (.tup xs) → c ≠ x := fun c xs r z => by subst z; rw [r] at mu; exact mu
  by_cases hb : b = x
  · subst hb; rw [upd_same] at q; cases q; exact new
  · rw [upd_ne hb] at q
    by_cases hbe : b = e
    · have q' : H b = some (.own x) := by
        rcases he with z | z
        · exact absurd (hbe.trans z) hb
        · rw [hbe]; exact z
      rw [q] at q'; cases q'
      obtain ⟨v, hv⟩ := heo
      exact ⟨v, by rw [hbe]; exact hv⟩
    · refine (ok b u q).stay (fun c v hc r => k c v ?_ r) (fun c r => by rw [upd_ne (nown c b r)]; exact r) fun c xs r => by rw [upd_ne (ntup c xs r)]; exact r
      rcases hc with rfl | hc
      · exact hbe
      · rintro rfl
        rcases he with z | z
        · exact nown c b hc z
        · rw [hc] at z; cases z; exact hb rfl
end


structure Un (fs ex : List Addr) (H H' : Hp) (h h' : Heap) : Prop where
  keep : ∀ b o, h.get? b = some o → H b = none → b ∉ fs → b ∉ ex → h'.get? b = some o
  slot : ∀ b o, h.get? b = some o → H b = none → b ∈ fs → b ∉ ex → ∃ sl, h'.get? b = some { o with slots := sl }
  free : ∀ b o, h.get? b = some o → H b = none → b ∉ ex → H' b = none
  there : ∀ b o, h.get? b = some o → b ∉ ex → ∃ o', h'.get? b = some o'
  tups : ∀ b xs, H b = some (.tup xs) → H' b = some (.tup xs)
  frzs : ∀ b o u, H b = some (.frz o u) → H' b = some (.frz o u)
  tbls : ∀ b ps, H b = some (.tbl ps) → ∃ more, H' b = some (.tbl (ps ++ more))
section
variable {fs fs' ex ex' : List Addr} {H H1 H2 : Hp} {h h1 h2 h' : Heap} {a x e : Addr} {o : HO}
theorem Un.any (u : Un fs ex H H1 h h1) {b : Addr} {ob : Obj} (q : h.get? b = some ob) (n : H b = none) (hx : b ∉ ex) : ∃ sl, h1.get? b = some { ob with slots := sl } := by
  by_cases hb : b ∈ fs
  · exact u.slot b ob q n hb hx
  · exact ⟨ob.slots, u.keep b ob q n hb hx⟩
theorem Un.kept (k : ∀ b u, h.get? b = some u → h'.get? b = some u) : Un fs ex H H h h' :=
  ⟨fun b ob q _ _ _ => k b ob q, fun b ob q _ _ _ => ⟨ob.slots, k b ob q⟩, fun _ _ _ n _ => n, fun b ob q _ => ⟨ob, k b ob q⟩, fun _ _ q => q, fun _ _ _ q => q, fun _ ps q => ⟨#[], by rw [q]; simp⟩⟩
theorem Un.refl : Un fs ex H H h h := Un.kept fun _ _ q => q
theorem Un.laid (k : ∀ b u, h.get? b = some u → h'.get? b = some u) (hp : h.objs.size ≤ a) (hn : H a = none) : Un fs ex H (upd H a o) h h' where
  keep := fun b u q _ _ _ => k b u q
  slot := fun b u q _ _ _ => ⟨u.slots, k b u q⟩
  free := fun b u q n _ => by rw [upd_ne (Nat.ne_of_lt (Nat.lt_of_lt_of_le (Heap.lt_size q) hp))]; exact n
  there := fun b u q _ => ⟨u, k b u q⟩
  tups := fun b xs q => by rw [upd_ne (ne_of_none q hn)]; exact q
  frzs := fun b u xs q => by rw [upd_ne (ne_of_none q hn)]; exact q
  tbls := fun b ps q => ⟨#[], by rw [upd_ne (ne_of_none q hn), q]; simp⟩
theorem Un.write (mu : Mut (H x)) (he : e = x ∨ H e = some (.own x)) (k : ∀ b u, b ≠ e → h.get? b = some u → h'.get? b = some u) (heo : ∃ u, h'.get? e = some u) : Un fs ex H (upd H x o) h h' := by
  have hx : ∀ b, H b = none → b ≠ x := fun b n z => by subst z; rw [n] at mu; exact mu
  have hb : ∀ b, H b = none → b ≠ e := fun b n z => by
    subst z
    rcases he with r | r
    · exact hx b n r
    · rw [n] at r; cases r
  have hm : ∀ b u, H b = some u → ¬ Mut (some u) → b ≠ x := fun b u q nm z => by subst z; rw [q] at mu; exact nm mu
  refine ⟨fun b u q n _ _ => k b u (hb b n) q, fun b u q n _ _ => ⟨u.slots, k b u (hb b n) q⟩, fun b u q n _ => by rw [upd_ne (hx b n)]; exact n, fun b u q _ => ?_,
    fun b xs q => by rw [upd_ne (hm b _ q fun z => z)]; exact q, fun b u xs q => by rw [upd_ne (hm b _ q fun z => z)]; exact q, fun b ps q => ⟨#[], by rw [upd_ne (hm b _ q fun z => z), q]; simp⟩⟩
  by_cases hbe : b = e
  · subst hbe; exact heo
  · exact ⟨u, k b u hbe q⟩
end


def trk (h : Heap) (H : Hp) : List Addr := (List.range h.objs.size).filter fun a => (H a).isSome
def hidT (h : Heap) (H : Hp) : Heap := PySem.W.hideAll h (trk h H)
theorem hidT_size (h : Heap) (H : Hp) : (hidT h H).objs.size = h.objs.size := PySem.W.hideAll_size _ _
theorem hidT_get {h : Heap} {H : Hp} {b : Addr} {o : Obj} (e : h.get? b = some o) (n : H b = none) : (hidT h H).get? b = some o :=
  PySem.W.hideAll_get _ e fun hm => by
    have q : (H b).isSome = true := (List.mem_filter.mp hm).2
    rw [n] at q; simp at q
theorem of_hidT {h : Heap} {H : Hp} {b : Addr} {o : Obj} (e : (hidT h H).get? b = some o) : h.get? b = some o ∧ H b = none := by
  have e' : h.get? b = some o := PySem.W.of_hideAll (trk h H) e
  refine ⟨e', ?_⟩
  cases q : H b with
  | none => rfl
  | some x =>
    have hm : b ∈ trk h H := List.mem_filter.mpr ⟨List.mem_range.mpr (Heap.lt_size e'), by simp [q]⟩
    have z : (hidT h H).get? b = none := PySem.W.hideAll_none (trk h H) hm
    rw [z] at e; cases e


end L2

namespace L2
open PySem PySem.Spec PyProof.Rows


structure Mod (K : PySem.W.Frag) (mg : Str → Option Value) (base : Heap) : Prop where
  kin : K.In base
  glob : base.Ns mainGlobals mg
  blt : ∃ mb, base.Ns builtinsNs mb ∧ ∀ x : Str, x ≠ "__name__" → mb x = bootBuiltins x
  nolimit : base.NoLimit


structure Cx where
  prog : Program
  w : World
  K : PySem.W.Frag
  mg : Str → Option Value
  base : Heap
  A : Around
  N : List Str
  s₀ : Shared
  H₀ : Hp
  env : Env
  outer : List Env
  stack : List Env
  ex : List Addr
  fn : Str → Bool
  calm : Bool
  pn : List (Addr × Obj)
  xe : Value → Shared → Prop

def frs (l : List Env) : List Addr := l.filterMap (·.frame)
abbrev Cx.fs (X : Cx) : List Addr := frs X.outer

def Vis (sc : Scope) (x : Str) : Prop := sc.names.lookup x = some .local ∨ sc.names.lookup x = some .cell ∨ sc.names.lookup x = some .free
def Loc (sc : Scope) (x : Str) : Prop := sc.names.lookup x = some .local ∨ sc.names.lookup x = some .cell
def Look (env : Env) (h : Heap) (m : Str → Option Value) (x : Str) (u : Value) : Prop :=
  (env.kindOf x = some .local ∧ m x = some u) ∨ ((env.kindOf x = some .cell ∨ env.kindOf x = some .free) ∧ ∃ c, env.cells.lookup x = some c ∧ h.IsCell c (some u))

structure Cx.Ok (X : Cx) : Prop where
  mod : Mod X.K X.mg X.base
  kind : X.env.scope.kind = .function
  glob : X.env.globals = mainGlobals
  blt : X.env.builtins = builtinsNs
  above : X.s₀.heap.objs.size ≤ X.env.locals
  inj : ∀ x y c, X.env.cells.lookup x = some c → X.env.cells.lookup y = some c → x = y
  has : ∀ x, (X.env.kindOf x = some .cell ∨ X.env.kindOf x = some .free) → ∃ c, X.env.cells.lookup x = some c
  cab : ∀ x c, X.fn x = true → X.env.cells.lookup x = some c → X.s₀.heap.objs.size ≤ c
  hd : X.calm = true → X.A.handled = none
  frames : X.A.frames = some X.stack
  stk : X.stack = X.outer ∨ (X.stack = X.env :: X.outer ∧ X.env.frame = some X.env.locals)
  exf : ∀ b ∈ X.ex, b ≠ X.env.locals ∧ ∀ x c, X.env.cells.lookup x = some c → c ≠ b
  bs : ∀ b o, X.base.get? b = some o → X.s₀.heap.get? b = some o ∧ X.H₀ b = none
  bsz : X.base.objs.size ≤ X.s₀.heap.objs.size
  noex : ∀ b o, X.base.get? b = some o → b ∉ X.ex
  exfs : ∀ b ∈ X.ex, b ∉ X.fs
  funs : X.s₀.heap.FunFrames X.base X.outer
  frf : ∀ b ∈ X.fs, X.H₀ b = none

structure Inv (X : Cx) (pins : List (Addr × Obj)) (σ : List (Option V)) (H : Hp) (s : Shared) : Prop where
  ok : X.Ok
  os : s.os = X.s₀.os
  bare : AllBare s.gens
  base : Un X.fs X.ex X.H₀ H X.s₀.heap s.heap
  loc : ∃ m, s.heap.Ns X.env.locals m ∧ ∀ (i : Nat) (x : Str) (v : V), X.N[i]? = some x → σ[i]? = some (some v) → Vis X.env.scope x → ∃ u, RelV v u ∧ Look X.env s.heap m x u
  cell : ∀ x c, X.env.cells.lookup x = some c → ∃ v, s.heap.IsCell c v
  free : H X.env.locals = none
  freeC : ∀ x c, X.env.cells.lookup x = some c → H c = none
  pin : ∀ p ∈ X.pn ++ pins, s.heap.get? p.1 = some p.2 ∧ H p.1 = none ∧ p.1 ≠ X.env.locals ∧ p.1 ∉ X.fs ∧ ∀ v, p.2.data ≠ .cell v
  hok : HOk X.prog X.w H s.heap
  len : σ.length = X.N.length

section
variable {X : Cx} {pins : List (Addr × Obj)} {σ : List (Option V)} {H H' : Hp} {s : Shared} {h' : Heap}

theorem Cx.Ok.nofr (ok : X.Ok) {b : Addr} {o : Obj} (e : X.base.get? b = some o) : b ∉ X.fs := fun hb => by
  have := (ok.funs.mem hb).1
  rw [e] at this; cases this
theorem Inv.bs (I : Inv X pins σ H s) : ∀ b o, X.base.get? b = some o → s.heap.get? b = some o ∧ H b = none := fun b o e =>
  ⟨I.base.keep b o (I.ok.bs b o e).1 (I.ok.bs b o e).2 (I.ok.nofr e) (I.ok.noex b o e), I.base.free b o (I.ok.bs b o e).1 (I.ok.bs b o e).2 (I.ok.noex b o e)⟩
theorem Inv.bk (I : Inv X pins σ H s) : ∀ b o, X.base.get? b = some o → s.heap.get? b = some o := fun b o e => (I.bs b o e).1
theorem Inv.mod (I : Inv X pins σ H s) : Mod X.K X.mg X.base := I.ok.mod
theorem Inv.kIn (I : Inv X pins σ H s) : X.K.In s.heap := I.ok.mod.kin.keeps I.bk
theorem Inv.lt (I : Inv X pins σ H s) : X.env.locals < s.heap.objs.size := let ⟨_, hn, _⟩ := I.loc; hn.lt
theorem Inv.sz (I : Inv X pins σ H s) : X.s₀.heap.objs.size ≤ s.heap.objs.size := Nat.le_trans I.ok.above (Nat.le_of_lt I.lt)
theorem Inv.nofs (I : Inv X pins σ H s) {a : Addr} (h : s.heap.objs.size ≤ a) : a ∉ X.fs := fun hb => by
  obtain ⟨_, o, ho, _⟩ := I.ok.funs.mem hb
  exact absurd (Nat.lt_of_lt_of_le (Heap.lt_size ho) (Nat.le_trans I.sz h)) (Nat.lt_irrefl _)
theorem Inv.cne (I : Inv X pins σ H s) : ∀ x c, X.env.cells.lookup x = some c → c ≠ X.env.locals := fun x c e z => by
  obtain ⟨v, o, ho, hd⟩ := I.cell x c e
  obtain ⟨m, ⟨o', es, ep, ho', hd', _⟩, _⟩ := I.loc
  rw [z, ho'] at ho; cases ho; rw [hd'] at hd; cases hd
theorem Inv.funs (I : Inv X pins σ H s) : s.heap.FunFrames X.base X.outer := by
  have all : ∀ (l : List Env), (∀ b ∈ frs l, b ∈ X.fs) → X.s₀.heap.FunFrames X.base l → s.heap.FunFrames X.base l := by
    intro l
    induction l with
    | nil => intro _ _; trivial
    | cons env r ih =>
      intro hs hl
      obtain ⟨hk, ⟨L, o, hf, hn, ho, hd⟩, hr⟩ := hl
      have hL : L ∈ X.fs := hs L (by unfold frs; rw [List.filterMap_cons, hf]; exact List.mem_cons_self)
      obtain ⟨sl, e⟩ := I.base.slot L o ho (I.ok.frf L hL) hL fun z => I.ok.exfs L z hL
      exact ⟨hk, ⟨L, _, hf, hn, e, hd⟩, ih (fun b hb => hs b (by unfold frs; rw [List.filterMap_cons, hf]; exact List.mem_cons_of_mem _ hb)) hr⟩
  exact all X.outer (fun _ hb => hb) I.ok.funs


theorem Inv.stack (I : Inv X pins σ H s) : s.heap.FunFrames X.base X.stack := by
  rcases I.ok.stk with e | ⟨e, hf⟩
  · rw [e]; exact I.funs
  · rw [e]
    obtain ⟨m, hn, _⟩ := I.loc
    refine .cons (by rw [I.ok.kind]; decide) hf hn ?_ I.funs
    exact Heap.get?_none_of_le (Nat.le_trans I.ok.bsz I.ok.above)
theorem Inv.stkSub (I : Inv X pins σ H s) : ∀ b ∈ frs X.stack, b ∈ X.env.locals :: X.fs := fun b hb => by
  rcases I.ok.stk with e | ⟨e, hf⟩
  · rw [e] at hb; exact List.mem_cons_of_mem _ hb
  · rw [e] at hb
    unfold frs at hb
    rw [List.filterMap_cons, hf] at hb
    exact hb
theorem Inv.stkFree (I : Inv X pins σ H s) : ∀ b ∈ frs X.stack, H b = none := fun b hb => by
  rcases List.mem_cons.mp (I.stkSub b hb) with e | hb
  · rw [e]; exact I.free
  · obtain ⟨_, o, ho, _⟩ := I.ok.funs.mem hb
    exact I.base.free b o ho (I.ok.frf b hb) fun z => I.ok.exfs b z hb


theorem Inv.step {g' : Array GenState} {t' : Nat} {d' : Drawn} {ch : List Addr} (I : Inv X pins σ H s)
    (hch : ∀ b ∈ ch, (b ∈ X.ex ∨ X.s₀.heap.objs.size ≤ b) ∧ b ≠ X.env.locals ∧ (∀ x c, X.env.cells.lookup x = some c → c ≠ b) ∧ ∀ p ∈ X.pn ++ pins, p.1 ≠ b)
    (keep : ∀ b o, b ≠ X.env.locals → b ∉ X.fs → b ∉ ch → s.heap.get? b = some o → H b = none → h'.get? b = some o)
    (slot : ∀ b o, b ≠ X.env.locals → b ∈ X.fs → b ∉ ch → s.heap.get? b = some o → H b = none → ∃ sl, h'.get? b = some { o with slots := sl }) (free : ∀ b o, b ∉ ch → s.heap.get? b = some o → H b = none → H' b = none)
    (there : ∀ b o, b ∉ ch → s.heap.get? b = some o → ∃ o', h'.get? b = some o')
    (tups : ∀ b xs, H b = some (.tup xs) → H' b = some (.tup xs)) (frzs : ∀ b o u, H b = some (.frz o u) → H' b = some (.frz o u)) (tbls : ∀ b ps, H b = some (.tbl ps) → ∃ more, H' b = some (.tbl (ps ++ more)))
    (ns : ∀ m, s.heap.Ns X.env.locals m → h'.Ns X.env.locals m) (hok : HOk X.prog X.w H' h') (hg : AllBare g') :
    Inv X pins σ H' { s with heap := h', gens := g', drawn := d', toks := t' } := by
  have neL : ∀ b o, X.s₀.heap.get? b = some o → b ≠ X.env.locals := fun b o e => Nat.ne_of_lt (Nat.lt_of_lt_of_le (Heap.lt_size e) I.ok.above)
  have neC : ∀ b o, X.s₀.heap.get? b = some o → b ∉ X.ex → b ∉ ch := fun b o e hx hb => by
    rcases (hch b hb).1 with z | z
    · exact hx z
    · exact absurd (Nat.lt_of_lt_of_le (Heap.lt_size e) z) (Nat.lt_irrefl _)
  have cellK : ∀ x c, X.env.cells.lookup x = some c → ∀ v, s.heap.IsCell c v → h'.IsCell c v := fun x c e v ⟨o, ho, hd⟩ => by
    have nch : c ∉ ch := fun z => (hch c z).2.2.1 x c e rfl
    by_cases hc : c ∈ X.fs
    · obtain ⟨sl, q⟩ := slot c o (I.cne x c e) hc nch ho (I.freeC x c e)
      exact ⟨_, q, hd⟩
    · exact ⟨o, keep c o (I.cne x c e) hc nch ho (I.freeC x c e), hd⟩
  refine ⟨I.ok, I.os, hg, ⟨fun b o e n hb hx => ?_, fun b o e n hb hx => ?_, fun b o e n hx => ?_, fun b o e hx => ?_, fun b xs e => tups b xs (I.base.tups b xs e), fun b o xs e => frzs b o xs (I.base.frzs b o xs e), fun b ps e => ?_⟩, ?_, fun x c e => ?_, ?_, fun x c e => ?_, fun p hp => ?_, hok, I.len⟩
  · exact keep b o (neL b o e) hb (neC b o e hx) (I.base.keep b o e n hb hx) (I.base.free b o e n hx)
  · obtain ⟨sl, e1⟩ := I.base.slot b o e n hb hx
    obtain ⟨sl', e2⟩ := slot b _ (neL b o e) hb (neC b o e hx) e1 (I.base.free b o e n hx)
    exact ⟨sl', e2⟩
  · obtain ⟨o', e1⟩ := I.base.there b o e hx
    exact free b o' (neC b o e hx) e1 (I.base.free b o e n hx)
  · obtain ⟨o', e1⟩ := I.base.there b o e hx
    exact there b o' (neC b o e hx) e1
  · obtain ⟨m1, e1⟩ := I.base.tbls b ps e
    obtain ⟨m2, e2⟩ := tbls b _ e1
    exact ⟨m1 ++ m2, by rw [e2, Array.append_assoc]⟩
  · obtain ⟨m, hn, hl⟩ := I.loc
    refine ⟨m, ns m hn, fun i x v e1 e2 e3 => ?_⟩
    obtain ⟨u, r, l⟩ := hl i x v e1 e2 e3
    refine ⟨u, r, ?_⟩
    rcases l with l | ⟨k, c, e, z⟩
    · exact .inl l
    · exact .inr ⟨k, c, e, cellK x c e _ z⟩
  · obtain ⟨v, z⟩ := I.cell x c e
    exact ⟨v, cellK x c e v z⟩
  · obtain ⟨m, ⟨o, _, _, ho, _⟩, _⟩ := I.loc
    exact free _ o (fun z => (hch _ z).2.1 rfl) ho I.free
  · obtain ⟨v, o, ho, hd⟩ := I.cell x c e
    exact free c o (fun z => (hch c z).2.2.1 x c e rfl) ho (I.freeC x c e)
  · obtain ⟨e, n, ne, nf, d⟩ := I.pin p hp
    have nch : p.1 ∉ ch := fun z => (hch p.1 z).2.2.2 p hp rfl
    exact ⟨keep p.1 p.2 ne nf nch e n, free p.1 p.2 nch e n, ne, nf, d⟩

theorem Inv.un {t' : Nat} (I : Inv X pins σ H s) (u : Un X.fs [] H H' s.heap h') (hok : HOk X.prog X.w H' h') : Inv X pins σ H' { s with heap := h', toks := t' } := by
  obtain ⟨m, ⟨o, es, ep, ho, r⟩, _⟩ := id I.loc
  obtain ⟨sl, hL⟩ := u.any ho I.free (by simp)
  exact I.step (g' := s.gens) (d' := s.drawn) (ch := []) (fun _ z => nomatch z) (fun b o _ hb _ e n => u.keep b o e n hb (by simp)) (fun b o _ hb _ e n => u.slot b o e n hb (by simp)) (fun b o _ e n => u.free b o e n (by simp)) (fun b o _ e => u.there b o e (by simp)) u.tups u.frzs u.tbls (fun m' hm => by
    obtain ⟨o', es', ep', ho', r'⟩ := hm
    rw [ho] at ho'; cases ho'
    exact ⟨_, es', ep', hL, r'⟩) hok I.bare

theorem Inv.call {g' : Array GenState} {t' : Nat} {d' : Drawn} {ch : List Addr} (I : Inv X pins σ H s) (u : Un (frs X.stack) ch H H' s.heap h') (hok : HOk X.prog X.w H' h') (hg : AllBare g')
    (hch : ∀ b ∈ ch, (b ∈ X.ex ∨ X.s₀.heap.objs.size ≤ b) ∧ b ≠ X.env.locals ∧ (∀ x c, X.env.cells.lookup x = some c → c ≠ b) ∧ ∀ p ∈ X.pn ++ pins, p.1 ≠ b) :
    Inv X pins σ H' { s with heap := h', gens := g', drawn := d', toks := t' } := by
  obtain ⟨m, ⟨o, es, ep, ho, r⟩, _⟩ := id I.loc
  obtain ⟨sl, hL⟩ := u.any ho I.free fun z => (hch _ z).2.1 rfl
  exact I.step (ch := ch) hch (fun b o hL hb hc e n => u.keep b o e n (fun z => (List.mem_cons.mp (I.stkSub b z)).elim hL hb) hc) (fun b o _ _ hc e n => u.any e n hc) (fun b o hc e n => u.free b o e n hc) (fun b o hc e => u.there b o e hc) u.tups u.frzs u.tbls (fun m' hm => by
    obtain ⟨o', es', ep', ho', r'⟩ := hm
    rw [ho] at ho'; cases ho'
    exact ⟨_, es', ep', hL, r'⟩) hok hg

theorem Inv.turned {t' : Nat} {it : Addr} (I : Inv X pins σ H s) (k : ∀ b o, b ≠ it → s.heap.get? b = some o → h'.get? b = some o) (hn : H it = none) (hL : it ≠ X.env.locals)
    (h1 : it ∈ X.ex ∨ X.s₀.heap.objs.size ≤ it) (h2 : ∀ x c, X.env.cells.lookup x = some c → c ≠ it) (h3 : ∀ p ∈ X.pn ++ pins, p.1 ≠ it) : Inv X pins σ H { s with heap := h', toks := t' } := by
  have nit : ∀ b u, H b = some u → b ≠ it := fun b u e z => by rw [z, hn] at e; cases e
  refine I.step (g' := s.gens) (d' := s.drawn) (ch := [it]) (fun b hb => ?_) (fun b o _ _ hc e _ => k b o (fun z => hc (by simp [z])) e) (fun b o _ _ hc e _ => ⟨o.slots, k b o (fun z => hc (by simp [z])) e⟩) (fun _ _ _ _ n => n)
    (fun b o hc e => ⟨o, k b o (fun z => hc (by simp [z])) e⟩) (fun _ _ e => e) (fun _ _ _ e => e) (fun b ps e => ⟨#[], by rw [e]; simp⟩) (fun m hm => ?_) (fun b u e => ?_) I.bare
  · have e : b = it := by simpa using hb
    subst e
    exact ⟨h1, hL, h2, h3⟩
  · obtain ⟨o, es, ep, ho, r⟩ := hm
    exact ⟨o, es, ep, k _ o (Ne.symm hL) ho, r⟩
  · refine (I.hok b u e).stay (fun c v hc q => k c v ?_ q) (fun _ q => q) fun _ _ q => q
    rcases hc with z | z
    · rw [z]; exact nit b u e
    · exact nit c _ z
theorem Inv.tok (I : Inv X pins σ H s) (t : Nat) : Inv X pins σ H { s with toks := t } := I.un (h' := s.heap) (t' := t) Un.refl I.hok

theorem Inv.kept {t' : Nat} (I : Inv X pins σ H s) (k : ∀ b u, s.heap.get? b = some u → h'.get? b = some u) : Inv X pins σ H { s with heap := h', toks := t' } := I.un (Un.kept k) (I.hok.kept k)

theorem Inv.laid {a : Addr} {o : HO} {t' : Nat} (I : Inv X pins σ H s) (k : ∀ b u, s.heap.get? b = some u → h'.get? b = some u) (hp : s.heap.objs.size ≤ a) (new : ObjOk X.prog X.w (upd H a o) h' a o) :
    Inv X pins σ (upd H a o) { s with heap := h', toks := t' } := I.un (Un.laid k hp (I.hok.fresh hp)) (I.hok.laid k hp new)

theorem Inv.write {x e : Addr} {o : HO} {t' : Nat} (I : Inv X pins σ H s) (mu : Mut (H x)) (he : e = x ∨ H e = some (.own x)) (k : ∀ b u, b ≠ e → s.heap.get? b = some u → h'.get? b = some u) (heo : ∃ u, h'.get? e = some u)
    (new : ObjOk X.prog X.w (upd H x o) h' x o) : Inv X pins σ (upd H x o) { s with heap := h', toks := t' } := I.un (Un.write mu he k heo) (I.hok.write mu he k heo new)

theorem Inv.pins_of {pins' : List (Addr × Obj)} (I : Inv X pins σ H s) (h : ∀ p ∈ pins', s.heap.get? p.1 = some p.2 ∧ H p.1 = none ∧ p.1 ≠ X.env.locals ∧ p.1 ∉ X.fs ∧ ∀ v, p.2.data ≠ .cell v) : Inv X pins' σ H s :=
  ⟨I.ok, I.os, I.bare, I.base, I.loc, I.cell, I.free, I.freeC, fun p hp => (List.mem_append.mp hp).elim (fun z => I.pin p (List.mem_append_left _ z)) (h p), I.hok, I.len⟩

theorem nodup_ix {N : List Str} (hN : N.Nodup) {i j : Nat} {x : Str} (a : N[i]? = some x) (b : N[j]? = some x) : i = j := by
  obtain ⟨h1, e1⟩ := List.getElem?_eq_some_iff.mp a
  obtain ⟨h2, e2⟩ := List.getElem?_eq_some_iff.mp b
  exact (List.getElem_inj hN).mp (e1.trans e2.symm)


theorem store_ok2 {M : Model} {A : Around} {E : Value → Shared → Prop} {i : Nat} {x : Str} {v : V} {u : Value} {Q : Unit → Shared → Prop} (I : Inv X pins σ H s) (hN : X.N.Nodup) (hi : X.N[i]? = some x) (hx : Loc X.env.scope x) (r : RelV v u)
    (h : ∀ s', Inv X pins (σ.set i (some v)) H s' → (∃ a, Heap.SameBut a s.heap s'.heap ∧ (a = X.env.locals ∨ X.env.cells.lookup x = some a)) → Q () s') (hf : X.fn x = true ∨ X.env.scope.names.lookup x = some .local := by first | exact .inl rfl | exact .inr rfl | assumption) : wpAny M A (storeName X.env x u) Q E s := by
  obtain ⟨m, hn, hl⟩ := id I.loc
  have hcls : (X.env.scope.kind == .class || (X.env.scope.kind == .module && X.env.locals != X.env.globals)) = false := by rw [I.ok.kind]; rfl
  have hiσ : i < σ.length := by rw [I.len]; exact (List.getElem?_eq_some_iff.mp hi).1
  have cne := I.cne
  have tracked : ∀ {a : Addr} {h' : Heap}, (∃ o, s.heap.get? a = some o ∧ H a = none) → Heap.SameBut a s.heap h' → HOk X.prog X.w H h' := fun {a h'} ha hs b ob e => by
    obtain ⟨_, _, hfree⟩ := ha
    refine (I.hok b ob e).stay (fun c w' hc q => (hs.2 c ?_).trans q) (fun _ q => q) fun _ _ q => q
    rintro rfl
    rcases hc with rfl | hc
    · rw [hfree] at e; cases e
    · rw [hfree] at hc; cases hc
  rcases hx with hk | hk
  · refine wpAny_storeName_local hk hn (fun h' hn' hs => ?_) hcls
    obtain ⟨oL, _, _, hoL, _⟩ := id hn
    refine h _ ⟨I.ok, I.os, I.bare, ⟨fun b o e n hb hx => ?_, fun b o e n hb hx => ?_, I.base.free, fun b o e hx => ?_, I.base.tups, I.base.frzs, I.base.tbls⟩, ⟨_, hn', fun j y v' e1 e2 e3 => ?_⟩, fun y c e => ?_, I.free, I.freeC, fun p hp => ?_, tracked ⟨oL, hoL, I.free⟩ hs, by simpa using I.len⟩ ⟨_, hs, .inl rfl⟩
    · exact (hs.2 b (Nat.ne_of_lt (Nat.lt_of_lt_of_le (Heap.lt_size e) I.ok.above))).trans (I.base.keep b o e n hb hx)
    · obtain ⟨sl, e1⟩ := I.base.slot b o e n hb hx
      exact ⟨sl, (hs.2 b (Nat.ne_of_lt (Nat.lt_of_lt_of_le (Heap.lt_size e) I.ok.above))).trans e1⟩
    · obtain ⟨o', e1⟩ := I.base.there b o e hx
      exact ⟨o', (hs.2 b (Nat.ne_of_lt (Nat.lt_of_lt_of_le (Heap.lt_size e) I.ok.above))).trans e1⟩
    · by_cases hj : j = i
      · subst hj
        rw [hi] at e1; cases e1
        rw [List.getElem?_set_self hiσ] at e2
        cases e2
        exact ⟨u, r, .inl ⟨hk, by simp⟩⟩
      · rw [List.getElem?_set_ne (Ne.symm hj)] at e2
        obtain ⟨u', r', q⟩ := hl j y v' e1 e2 e3
        refine ⟨u', r', ?_⟩
        rcases q with ⟨k, e⟩ | ⟨k, c, e, z⟩
        · refine .inl ⟨k, ?_⟩
          have : y ≠ x := fun e => hj (nodup_ix hN e1 (e ▸ hi))
          simp [this, e]
        · exact .inr ⟨k, c, e, z.sameBut hs (cne y c e)⟩
    · obtain ⟨w', z⟩ := I.cell y c e
      exact ⟨w', z.sameBut hs (cne y c e)⟩
    · obtain ⟨e, n, ne, nf, d⟩ := I.pin p hp
      exact ⟨(hs.2 p.1 ne).trans e, n, ne, nf, d⟩
  · have hfn : X.fn x = true := by
      rcases hf with z | z
      · exact z
      · rw [z] at hk; cases hk
    obtain ⟨c, hc⟩ := I.ok.has x (.inl hk)
    obtain ⟨w', z⟩ := I.cell x c hc
    refine wpAny_storeName_cell I.ok.kind hk hc z (fun h' hc' hs => ?_)
    obtain ⟨oc, hoc, hocd⟩ := id z
    refine h { s with heap := h' } ⟨I.ok, I.os, I.bare, ⟨fun b o e n hb hx => ?_, fun b o e n hb hx => ?_, I.base.free, fun b o e hx => ?_, I.base.tups, I.base.frzs, I.base.tbls⟩, ⟨m, hn.sameBut hs (Ne.symm (cne x c hc)), fun j y v' e1 e2 e3 => ?_⟩, fun y c' e => ?_, I.free, I.freeC, fun p hp => ?_, tracked ⟨oc, hoc, I.freeC x c hc⟩ hs, by simpa using I.len⟩ ⟨c, hs, .inr hc⟩
    · exact (hs.2 b (Nat.ne_of_lt (Nat.lt_of_lt_of_le (Heap.lt_size e) (I.ok.cab x c hfn hc)))).trans (I.base.keep b o e n hb hx)
    · obtain ⟨sl, e1⟩ := I.base.slot b o e n hb hx
      exact ⟨sl, (hs.2 b (Nat.ne_of_lt (Nat.lt_of_lt_of_le (Heap.lt_size e) (I.ok.cab x c hfn hc)))).trans e1⟩
    · obtain ⟨o', e1⟩ := I.base.there b o e hx
      exact ⟨o', (hs.2 b (Nat.ne_of_lt (Nat.lt_of_lt_of_le (Heap.lt_size e) (I.ok.cab x c hfn hc)))).trans e1⟩
    · by_cases hj : j = i
      · subst hj
        rw [hi] at e1; cases e1
        rw [List.getElem?_set_self hiσ] at e2
        cases e2
        exact ⟨u, r, .inr ⟨.inl hk, c, hc, hc'⟩⟩
      · rw [List.getElem?_set_ne (Ne.symm hj)] at e2
        obtain ⟨u', r', q⟩ := hl j y v' e1 e2 e3
        refine ⟨u', r', ?_⟩
        rcases q with q | ⟨k, c', e, z'⟩
        · exact .inl q
        · refine .inr ⟨k, c', e, z'.sameBut hs ?_⟩
          rintro rfl
          exact hj (nodup_ix hN e1 (I.ok.inj _ _ _ e hc ▸ hi))
    · by_cases hcc : c' = c
      · subst hcc; exact ⟨_, hc'⟩
      · obtain ⟨w2, z2⟩ := I.cell y c' e
        exact ⟨w2, z2.sameBut hs hcc⟩
    · obtain ⟨e, n, ne, nf, d⟩ := I.pin p hp
      refine ⟨(hs.2 p.1 ?_).trans e, n, ne, nf, d⟩
      intro q
      rw [q, hoc] at e
      have q' : oc = p.2 := Option.some.inj e
      exact d w' (by rw [← q']; exact hocd)
theorem store_ok {M : Model} {A : Around} {E : Value → Shared → Prop} {i : Nat} {x : Str} {v : V} {u : Value} {Q : Unit → Shared → Prop} (I : Inv X pins σ H s) (hN : X.N.Nodup) (hi : X.N[i]? = some x) (hx : Loc X.env.scope x) (r : RelV v u)
    (h : ∀ s', Inv X pins (σ.set i (some v)) H s' → Q () s') (hf : X.fn x = true ∨ X.env.scope.names.lookup x = some .local := by first | exact .inl rfl | exact .inr rfl | assumption) : wpAny M A (storeName X.env x u) Q E s :=
  store_ok2 I hN hi hx r (fun s' I' _ => h s' I') hf

theorem Inv.call' {s' : Shared} {ch : List Addr} (I : Inv X pins σ H s) (ho : s'.os = s.os) (u : Un (frs X.stack) ch H H' s.heap s'.heap) (hok : HOk X.prog X.w H' s'.heap) (hg : AllBare s'.gens)
    (hch : ∀ b ∈ ch, (b ∈ X.ex ∨ X.s₀.heap.objs.size ≤ b) ∧ b ≠ X.env.locals ∧ (∀ x c, X.env.cells.lookup x = some c → c ≠ b) ∧ ∀ p ∈ X.pn ++ pins, p.1 ≠ b) : Inv X pins σ H' s' := by
  obtain ⟨h', g', d', t', o'⟩ := s'
  have e : o' = s.os := ho
  subst e
  exact I.call (g' := g') (t' := t') (d' := d') u hok hg hch
end



abbrev XK := Value → Option Addr → Hp → Prop
abbrev St := List (Option V)
abbrev VK := V → Hp → Prop

abbrev TE := St → Hp → VK → Prop
abbrev TT := St → Hp → (Bool → Hp → Prop) → Prop
abbrev TA := St → Hp → (List V → Hp → Prop) → Prop

structure Ends where
  nx : St → Hp → Prop
  rt : VK
  bk : St → Hp → Prop := fun _ _ => False
  ct : St → Hp → Prop := fun _ _ => False
abbrev TS := Ends → St → Hp → Prop

def EP (X : Cx) (pins : List (Addr × Obj)) (σ : St) (Q : VK) (u : Value) (s' : Shared) : Prop := ∃ v H', Inv X pins σ H' s' ∧ RelV v u ∧ Q v H'
def TP (X : Cx) (pins : List (Addr × Obj)) (σ : St) (Q : Bool → Hp → Prop) (b : Bool) (s' : Shared) : Prop := ∃ H', Inv X pins σ H' s' ∧ Q b H'
def AP (X : Cx) (pins : List (Addr × Obj)) (σ : St) (Q : List V → Hp → Prop) (us : List Value) (s' : Shared) : Prop := ∃ vs H', Inv X pins σ H' s' ∧ Vals vs us ∧ Q vs H'
def SP (X : Cx) (pins : List (Addr × Obj)) (D : Ends) (f : Flow) (s' : Shared) : Prop :=
  match f with
  | .next => ∃ σ' H', Inv X pins σ' H' s' ∧ D.nx σ' H'
  | .brk => ∃ σ' H', Inv X pins σ' H' s' ∧ D.bk σ' H'
  | .cont => ∃ σ' H', Inv X pins σ' H' s' ∧ D.ct σ' H'
  | .ret u => ∃ v σ' H', Inv X pins σ' H' s' ∧ RelV v u ∧ D.rt v H'

def PE (X : Cx) (e : Expr) (t : TE) : Prop :=
  ∀ (pins : List (Addr × Obj)) (s : Shared) (σ : St) (H : Hp) (Q : VK), Inv X pins σ H s → t σ H Q → wpAny (model X.prog X.w) X.A (eval e X.env) (EP X pins σ Q) X.xe s
def PT (X : Cx) (e : Expr) (t : TT) : Prop :=
  ∀ (pins : List (Addr × Obj)) (s : Shared) (σ : St) (H : Hp) (Q : Bool → Hp → Prop), Inv X pins σ H s → t σ H Q → wpAny (model X.prog X.w) X.A (isTrue e X.env (eval e X.env)) (TP X pins σ Q) X.xe s

def PW (X : Cx) (e : Expr) (t : TT) : Prop :=
  ∀ (whole : Sem Value) (pins : List (Addr × Obj)) (s : Shared) (σ : St) (H : Hp) (Q : Bool → Hp → Prop), Inv X pins σ H s → t σ H Q → wpAny (model X.prog X.w) X.A (isTrue e X.env whole) (TP X pins σ Q) X.xe s
theorem PW.pt {X : Cx} {e : Expr} {t : TT} (h : PW X e t) : PT X e t := h _

def PA (X : Cx) (es : List Expr) (t : TA) : Prop :=
  ∀ (pos : Pos) (pins : List (Addr × Obj)) (s : Shared) (σ : St) (H : Hp) (Q : List V → Hp → Prop), Inv X pins σ H s → t σ H Q → wpAny (model X.prog X.w) X.A (spliced (backTo pos (starEach es X.env))) (AP X pins σ Q) X.xe s
def PS (X : Cx) (st : Stmt) (t : TS) : Prop :=
  ∀ (pins : List (Addr × Obj)) (s : Shared) (σ : St) (H : Hp) (D : Ends), Inv X pins σ H s → t D σ H → wpAny (model X.prog X.w) X.A (exec st X.env) (SP X pins D) X.xe s
def PSs (X : Cx) (st : List Stmt) (t : TS) : Prop :=
  ∀ (pins : List (Addr × Obj)) (s : Shared) (σ : St) (H : Hp) (D : Ends), Inv X pins σ H s → t D σ H → wpAny (model X.prog X.w) X.A (execs st X.env) (SP X pins D) X.xe s

theorem thn {α : Type} {t : Sem α} {Q Q' : α → Shared → Prop} {M : Model} {A : Around} {E : Value → Shared → Prop} {s : Shared} (h : wpAny M A t Q E s) (hQ : ∀ a s, Q a s → Q' a s) : wpAny M A t Q' E s := wpAny_mono h hQ fun _ _ x => x
end L2

namespace L2
open PySem PySem.Spec PyProof.Rows
section
variable {X : Cx}


def tVar (i : Nat) : TE := fun σ H Q => ∃ v, σ[i]? = some (some v) ∧ Q v H
def tC (v : V) : TE := fun _ H Q => Q v H
theorem pe_var {i : Nat} {x : Str} {pos : Pos} (hN : X.N[i]? = some x) (hv : Vis X.env.scope x) (hd : (x == ("__debug__" : Str)) = false := by decide) (hcd : (x == ("__classdict__" : Str)) = false := by decide) : PE X (.Name x pos) (tVar i) := by
  intro pins s σ H Q I h
  obtain ⟨v, e, h⟩ := h
  obtain ⟨m, hn, hl⟩ := I.loc
  obtain ⟨u, r, l⟩ := hl i x v hN e hv
  have fin : EP X pins σ Q u s := ⟨v, H, I, r, h⟩
  rcases l with ⟨hk, hm⟩ | ⟨hk, c, hc, hcell⟩
  · exact wpAny_Name (wpAny_loadName_local I.ok.kind hk hn hm fin) hd
  · rcases hk with hk | hk
    · exact wpAny_Name (wpAny_loadName_cell I.ok.kind hk hc hcell fin) hd
    · exact wpAny_Name (wpAny_loadName_free I.ok.kind hk hc hcell fin hcd) hd
theorem pe_int {i j pos} : PE X (.Constant (.int i) j pos) (tC (.int i)) := fun _ _ _ H _ I h => wpAny_Constant_int ⟨.int i, H, I.tok _, ⟨_, rfl⟩, h⟩
theorem pe_bl {b j pos} : PE X (.Constant (.bool b) j pos) (tC (.bl b)) := fun _ _ _ H _ I h => Constant_bool ⟨.bl b, H, I, rfl, h⟩
theorem pe_non {j pos} : PE X (.Constant .none j pos) (tC .non) := fun _ _ _ H _ I h => Constant_none ⟨.non, H, I, rfl, h⟩
theorem pe_str {x j pos} : PE X (.Constant (.str x) j pos) (tC (.str x)) := fun _ _ _ H _ I h => Calls.Constant_str ⟨.str x, H, I.tok _, ⟨_, rfl⟩, h⟩


def Gl (X : Cx) (x : Str) : Prop := X.env.kindOf x = some .globalImplicit
theorem ld_glob {E : Value → Shared → Prop} {pins : List (Addr × Obj)} {s : Shared} {σ : St} {H : Hp} {x : Str} {u : Value} {pos : Pos} {Q : Value → Shared → Prop} (I : Inv X pins σ H s) (hg : Gl X x) (hm : X.mg x = some u) (h : Q u s)
    (hd : (x == ("__debug__" : Str)) = false := by decide) : wpAny (model X.prog X.w) X.A (eval (.Name x pos) X.env) Q E s :=
  Calls.Name_function_global I.ok.kind hg (Calls.loadGlobal_global (by rw [I.ok.glob]; exact I.mod.glob.keeps I.bk) hm h) hd
theorem ld_blt {E : Value → Shared → Prop} {pins : List (Addr × Obj)} {s : Shared} {σ : St} {H : Hp} {x : Str} {u : Value} {pos : Pos} {Q : Value → Shared → Prop} (I : Inv X pins σ H s) (hg : Gl X x) (hm : X.mg x = none) (hv : bootBuiltins x = some u) (h : Q u s)
    (hn : x ≠ "__name__" := by decide) (hd : (x == ("__debug__" : Str)) = false := by decide) : wpAny (model X.prog X.w) X.A (eval (.Name x pos) X.env) Q E s := by
  obtain ⟨mb, h1, h2⟩ := I.mod.blt
  exact Calls.Name_function_global I.ok.kind hg (Calls.loadGlobal_builtin (by rw [I.ok.glob]; exact I.mod.glob.keeps I.bk) hm (by rw [I.ok.blt]; exact h1.keeps I.bk) ((h2 x hn).trans hv) h) hd

theorem pe_glob {x : Str} {v : V} {u : Value} {pos : Pos} (hg : Gl X x) (hm : X.mg x = some u) (r : RelV v u) (hd : (x == ("__debug__" : Str)) = false := by decide) : PE X (.Name x pos) (tC v) :=
  fun _ _ _ H _ I h => ld_glob I hg hm ⟨v, H, I, r, h⟩ hd
theorem pe_bltn {x : Str} {v : V} {u : Value} {pos : Pos} (hg : Gl X x) (hm : X.mg x = none) (hv : bootBuiltins x = some u) (r : RelV v u) (hn : x ≠ "__name__" := by decide) (hd : (x == ("__debug__" : Str)) = false := by decide) : PE X (.Name x pos) (tC v) :=
  fun _ _ _ H _ I h => ld_blt I hg hm hv ⟨v, H, I, r, h⟩ hn hd



variable {a b : Expr} {ta tb : TE} {pos : Pos}
def PC (X : Cx) (op : CmpOp) (a b : Expr) (t : TE) : Prop :=
  ∀ (pins : List (Addr × Obj)) (s : Shared) (σ : St) (H : Hp) (Q : VK), Inv X pins σ H s → t σ H Q →
    wpAny (model X.prog X.w) X.A (eval a X.env) (fun v s₁ => wpAny (model X.prog X.w) X.A (eval b X.env) (fun u s₂ => wpAny (model X.prog X.w) X.A (compareOp op v u) (EP X pins σ Q) X.xe s₂) X.xe s₁) X.xe s
theorem nobehind (b : Expr) {op : CmpOp} (h : op ≠ .In) (h2 : op ≠ .NotIn) : behindInMarks op b = false := by
  have e1 : (op == CmpOp.In) = false := by cases op <;> first | rfl | exact absurd rfl h
  have e2 : (op == CmpOp.NotIn) = false := by cases op <;> first | rfl | exact absurd rfl h2
  cases b <;> simp [behindInMarks, e1, e2]
def tIsN (ta : TE) : TE := fun σ H Q => ta σ H fun x H1 => Q (.bl (decide (x = .non))) H1
def tNotN (ta : TE) : TE := fun σ H Q => ta σ H fun x H1 => Q (.bl (!decide (x = .non))) H1
theorem RelV.none_iff {x : V} {v : Value} (r : RelV x v) : (v == Value.none) = decide (x = .non) := by
  cases x with
  | non => cases r; rfl
  | bl _ => cases r; rfl
  | int _ => obtain ⟨t, rfl⟩ := r; rfl
  | str _ => obtain ⟨t, rfl⟩ := r; rfl
  | byt _ => obtain ⟨t, rfl⟩ := r; rfl
  | flt _ => obtain ⟨t, rfl⟩ := r; rfl
  | ref _ => cases r; rfl
  | ty _ => cases r; rfl
theorem pc_isN {j pos'} (ha : PE X a ta) : PC X .Is a (.Constant .none j pos') (tIsN ta) := by
  intro pins s σ H Q I h
  refine thn (ha pins s σ H _ I h) fun v s1 ⟨x, H1, I1, r1, q1⟩ => ?_
  exact Constant_none (is_none_gen ⟨.bl _, H1, I1, by rw [r1.none_iff]; rfl, q1⟩)
theorem pc_notN {j pos'} (ha : PE X a ta) : PC X .IsNot a (.Constant .none j pos') (tNotN ta) := by
  intro pins s σ H Q I h
  refine thn (ha pins s σ H _ I h) fun v s1 ⟨x, H1, I1, r1, q1⟩ => ?_
  exact Constant_none (isnot_none_gen ⟨.bl _, H1, I1, by rw [r1.none_iff]; rfl, q1⟩)

def tB (t : TE) : TT := fun σ H Q => t σ H fun x H1 => ∃ c, x = .bl c ∧ Q c H1
theorem pe_cmp {op : CmpOp} {t : TE} (h : PC X op a b t) (h1 : behindInMarks op b = false := by first | exact nobehind _ (by decide) (by decide) | rfl) : PE X (.Compare a [op] [b] pos) t := fun pins s σ H Q I hw => wpAny_Compare1 (h pins s σ H Q I hw) h1
theorem pt_cmp {op : CmpOp} {t : TE} (h : PC X op a b t) (h1 : behindInMarks op b = false := by first | exact nobehind _ (by decide) (by decide) | rfl) : PT X (.Compare a [op] [b] pos) (tB t) := by
  intro pins s σ H Q I hw
  refine wpAny_isTrue_Compare1 (thn (h pins s σ H _ I hw) fun v s1 h1 => thn h1 fun u s2 h2 => thn h2 fun c s3 ⟨x, H1, I1, r1, q1⟩ => ?_) h1
  obtain ⟨d, rfl, q⟩ := q1
  cases r1
  exact wpAny_truthy_bool ⟨H1, I1, q⟩

theorem pt_val {e : Expr} {t : TE} (h : PE X e t) (he : ∀ whole, isTrue e X.env whole = (do let v ← whole; standAt e.pos; holding [v] (truthy v)) := by intro _; rfl) : PT X e (tB t) := by
  intro pins s σ H Q I hw
  refine isTrue_plain (thn (h pins s σ H _ I hw) fun v s1 ⟨x, H1, I1, r1, q1⟩ => ?_) (he _)
  obtain ⟨d, rfl, q⟩ := q1
  cases r1
  exact wpAny_truthy_bool ⟨H1, I1, q⟩


variable {tA tB' : TT} {rest : List Expr}
def tAnd (t u : TT) : TT := fun σ H Q => t σ H fun c H1 => if c = true then u σ H1 Q else Q false H1
def tOr (t u : TT) : TT := fun σ H Q => t σ H fun c H1 => if c = true then Q true H1 else u σ H1 Q
def tNot (t : TT) : TT := fun σ H Q => t σ H fun c H1 => Q (!c) H1
theorem pw_and1 (ha : PT X a tA) : PW X (.BoolOp .And [a] pos) tA := by
  intro wh pins s σ H Q I h
  refine isTrue_and (thn (ha pins s σ H Q I h) fun c s1 e => ?_)
  cases c with
  | true => exact isTrue_and_nil e
  | false => exact e
theorem pw_or1 (ha : PT X a tA) : PW X (.BoolOp .Or [a] pos) tA := by
  intro wh pins s σ H Q I h
  refine isTrue_or (thn (ha pins s σ H Q I h) fun c s1 e => ?_)
  cases c with
  | false => exact isTrue_or_nil e
  | true => exact e
theorem pw_and (ha : PT X a tA) (hb : PW X (.BoolOp .And (b :: rest) pos) tB') : PW X (.BoolOp .And (a :: b :: rest) pos) (tAnd tA tB') := by
  intro wh pins s σ H Q I h
  refine isTrue_and (thn (ha pins s σ H _ I h) fun c s1 ⟨H1, I1, q1⟩ => ?_)
  cases c with
  | true => exact hb wh pins s1 σ H1 Q I1 q1
  | false => exact ⟨H1, I1, q1⟩
theorem pw_or (ha : PT X a tA) (hb : PW X (.BoolOp .Or (b :: rest) pos) tB') : PW X (.BoolOp .Or (a :: b :: rest) pos) (tOr tA tB') := by
  intro wh pins s σ H Q I h
  refine isTrue_or (thn (ha pins s σ H _ I h) fun c s1 ⟨H1, I1, q1⟩ => ?_)
  cases c with
  | true => exact ⟨H1, I1, q1⟩
  | false => exact hb wh pins s1 σ H1 Q I1 q1
theorem pt_not (ha : PT X a tA) : PT X (.UnaryOp .Not a pos) (tNot tA) := by
  intro pins s σ H Q I h
  exact isTrue_not (ha pins s σ H (fun c H1 => Q (!c) H1) I h)

def tAndV (ta tb : TE) : TE := fun σ H Q => ta σ H fun x H1 => ∃ c, x = .bl c ∧ if c = true then tb σ H1 Q else Q (.bl false) H1
def tOrV (ta tb : TE) : TE := fun σ H Q => ta σ H fun x H1 => ∃ c, x = .bl c ∧ if c = true then Q (.bl true) H1 else tb σ H1 Q
theorem pe_one {op} {t : TE} (h : PE X a t) : PE X (.BoolOp op [a] pos) t := fun pins s σ H Q I hw => BoolOp_one (h pins s σ H Q I hw)
theorem pe_and (ha : PE X a ta) (hb : PE X (.BoolOp .And (b :: rest) pos) tb) : PE X (.BoolOp .And (a :: b :: rest) pos) (tAndV ta tb) := by
  intro pins s σ H Q I h
  refine BoolOp_and (thn (ha pins s σ H _ I h) fun v s1 ⟨x, H1, I1, r1, q1⟩ => ?_)
  obtain ⟨c, rfl, q1⟩ := q1
  cases r1
  refine wpAny_truthy_bool ?_
  cases c with
  | true => exact hb pins s1 σ H1 Q I1 q1
  | false => exact ⟨.bl false, H1, I1, rfl, q1⟩
theorem pe_or (ha : PE X a ta) (hb : PE X (.BoolOp .Or (b :: rest) pos) tb) : PE X (.BoolOp .Or (a :: b :: rest) pos) (tOrV ta tb) := by
  intro pins s σ H Q I h
  refine BoolOp_or (thn (ha pins s σ H _ I h) fun v s1 ⟨x, H1, I1, r1, q1⟩ => ?_)
  obtain ⟨c, rfl, q1⟩ := q1
  cases r1
  refine wpAny_truthy_bool ?_
  cases c with
  | false => exact hb pins s1 σ H1 Q I1 q1
  | true => exact ⟨.bl true, H1, I1, rfl, q1⟩
def tIf (t : TT) (ta tb : TE) : TE := fun σ H Q => t σ H fun c H1 => if c = true then ta σ H1 Q else tb σ H1 Q
theorem pe_ifExp {c : Expr} (hc : PT X c tA) (ha : PE X a ta) (hb : PE X b tb) : PE X (.IfExp c a b pos) (tIf tA ta tb) := by
  intro pins s σ H Q I h
  refine wpAny_IfExp (thn (hc pins s σ H _ I h) fun d s1 ⟨H1, I1, q1⟩ => ?_)
  cases d with
  | true => exact ha pins s1 σ H1 Q I1 q1
  | false => exact hb pins s1 σ H1 Q I1 q1
end
end L2

namespace L2
open PySem PySem.Spec PyProof.Rows


def SqL (K : PySem.W.Frag) (H : Hp) (a : Addr) (xs : List V) : Prop :=
  Rd H a (.lst xs) ∨
    ∃ (o : Obj) (its : Array Value) (n : Nat), K.lookup a = some o ∧ o.cls = .type "list" ∧ o.dict = none ∧ o.data = .seq its n ∧ its.size ≤ sizeLine ∧ Vals xs its.toList
def SqT (K : PySem.W.Frag) (H : Hp) (a : Addr) (xs : List V) : Prop :=
  Rd H a (.tup xs) ∨
    ∃ (o : Obj) (its : Array Value) (n : Nat), K.lookup a = some o ∧ o.cls = .type "tuple" ∧ o.data = .seq its n ∧ its.size ≤ sizeLine ∧ Vals xs its.toList
def absV : Value → Option V
  | .none => some .non
  | .bool b => some (.bl b)
  | .int i _ => some (.int i)
  | .str x _ => some (.str x)
  | .bytes b _ => some (.byt b)
  | .float b _ => some (.flt b)
  | .ref a => some (.ref a)
  | .type n => some (.ty n)
  | _ => none
theorem RelV.abs {x : V} {u : Value} (r : RelV x u) : absV u = some x := by
  cases x with
  | non => cases r; rfl
  | bl _ => cases r; rfl
  | int _ => obtain ⟨t, rfl⟩ := r; rfl
  | str _ => obtain ⟨t, rfl⟩ := r; rfl
  | byt _ => obtain ⟨t, rfl⟩ := r; rfl
  | flt _ => obtain ⟨t, rfl⟩ := r; rfl
  | ref _ => cases r; rfl
  | ty _ => cases r; rfl
theorem RelV.inj {x y : V} {u : Value} (r : RelV x u) (q : RelV y u) : x = y := Option.some.inj (r.abs.symm.trans q.abs)
theorem Vals.inj : ∀ {xs ys : List V} {us : List Value}, Vals xs us → Vals ys us → xs = ys
  | _, _, _, .nil, .nil => rfl
  | _, _, _, .cons r t, .cons r' t' => by rw [r.inj r', Vals.inj t t']
section
variable {X : Cx} {pins : List (Addr × Obj)} {σ : St} {H : Hp} {s : Shared} {a : Addr} {xs ys : List V}
theorem SqL.of {K : PySem.W.Frag} (h : H a = some (.lst xs)) : SqL K H a xs := .inl (.inl h)
theorem SqT.of {K : PySem.W.Frag} (h : H a = some (.tup xs)) : SqT K H a xs := .inl (.inl h)
theorem Inv.list (I : Inv X pins σ H s) (h : SqL X.K H a xs) : ∃ its : List Value, Vals xs its ∧ PlainL s.heap a its.toArray ∧ xs.length ≤ sizeLine := by
  rcases h with h | ⟨o, its, n, hk, hc, hd, hs, hz, r⟩
  · obtain ⟨z, its, n, r, e⟩ := h.ok I.hok
    exact ⟨its, r, ⟨_, n, e, rfl, rfl, rfl⟩, z⟩
  · refine ⟨its.toList, r, ⟨o, n, I.kIn a o hk, hc, hd, by simpa using hs⟩, ?_⟩
    have e := r.length
    simp only [Array.length_toList] at e
    omega
theorem Inv.tuple (I : Inv X pins σ H s) (h : SqT X.K H a xs) : ∃ its : List Value, Vals xs its ∧ IsTup s.heap a its.toArray ∧ xs.length ≤ sizeLine := by
  rcases h with h | ⟨o, its, n, hk, hc, hs, hz, r⟩
  · obtain ⟨z, its, r, p⟩ := h.ok I.hok
    exact ⟨its, r, p, z⟩
  · refine ⟨its.toList, r, ⟨o, I.kIn a o hk, hc, n, by simpa using hs⟩, ?_⟩
    have e := r.length
    simp only [Array.length_toList] at e
    omega
theorem Inv.list_inj (I : Inv X pins σ H s) (h : SqL X.K H a xs) (h' : SqL X.K H a ys) : xs = ys := by
  obtain ⟨its, r, ⟨o, n, e, _, _, d⟩, _⟩ := I.list h
  obtain ⟨its', r', ⟨o', n', e', _, _, d'⟩, _⟩ := I.list h'
  rw [e] at e'; cases e'
  rw [d] at d'
  injection d' with d1 _
  have : its = its' := by simpa using congrArg Array.toList d1
  subst this
  exact r.inj r'
theorem Inv.tuple_inj (I : Inv X pins σ H s) (h : SqT X.K H a xs) (h' : SqT X.K H a ys) : xs = ys := by
  obtain ⟨its, r, ⟨o, e, _, n, d⟩, _⟩ := I.tuple h
  obtain ⟨its', r', ⟨o', e', _, n', d'⟩, _⟩ := I.tuple h'
  rw [e] at e'; cases e'
  rw [d] at d'
  injection d' with d1 _
  have : its = its' := by simpa using congrArg Array.toList d1
  subst this
  exact r.inj r'
end


abbrev Cx.wish (X : Cx) (E : Value → Shared → Prop) : Cx := { X with xe := E }

abbrev Cx.nox (X : Cx) : Cx := X.wish fun _ _ => False
theorem Cx.Ok.wish {X : Cx} (ok : X.Ok) (E : Value → Shared → Prop) : (X.wish E).Ok :=
  ⟨ok.mod, ok.kind, ok.glob, ok.blt, ok.above, ok.inj, ok.has, ok.cab, ok.hd, ok.frames, ok.stk, ok.exf, ok.bs, ok.bsz, ok.noex, ok.exfs, ok.funs, ok.frf⟩
theorem Cx.Ok.unwish {X : Cx} {E : Value → Shared → Prop} (ok : (X.wish E).Ok) : X.Ok :=
  ⟨ok.mod, ok.kind, ok.glob, ok.blt, ok.above, ok.inj, ok.has, ok.cab, ok.hd, ok.frames, ok.stk, ok.exf, ok.bs, ok.bsz, ok.noex, ok.exfs, ok.funs, ok.frf⟩
section
variable {X : Cx} {pins : List (Addr × Obj)} {σ : St} {H : Hp} {s : Shared} {E : Value → Shared → Prop}
theorem Inv.wish (I : Inv X pins σ H s) (E : Value → Shared → Prop) : Inv (X.wish E) pins σ H s := ⟨I.ok.wish E, I.os, I.bare, I.base, I.loc, I.cell, I.free, I.freeC, I.pin, I.hok, I.len⟩
theorem Inv.unwish (I : Inv (X.wish E) pins σ H s) : Inv X pins σ H s := ⟨I.ok.unwish, I.os, I.bare, I.base, I.loc, I.cell, I.free, I.freeC, I.pin, I.hok, I.len⟩
theorem SP.unwish {D : Ends} {f : Flow} {s' : Shared} (h : SP (X.wish E) pins D f s') : SP X pins D f s' := by
  cases f with
  | next => obtain ⟨σ', H', I, q⟩ := h; exact ⟨σ', H', I.unwish, q⟩
  | brk => obtain ⟨σ', H', I, q⟩ := h; exact ⟨σ', H', I.unwish, q⟩
  | cont => obtain ⟨σ', H', I, q⟩ := h; exact ⟨σ', H', I.unwish, q⟩
  | ret u => obtain ⟨v, σ', H', I, r, q⟩ := h; exact ⟨v, σ', H', I.unwish, r, q⟩
theorem PSs.nox {st : List Stmt} {t : TS} (h : PSs X.nox st t) : PSs X st t := fun pins s σ H D I hw =>
  wpAny_mono (h pins s σ H D (I.wish _) hw) (fun _ _ q => q.unwish) fun _ _ z => False.elim z
end


section
variable {X : Cx} {st : Stmt} {rest : List Stmt} {t u : TS} {e : Expr} {te : TE} {pos : Pos}
def tNext : TS := fun D σ H => D.nx σ H
def tSeq (t u : TS) : TS := fun D σ H => t { D with nx := u D } σ H
theorem pss_nil : PSs X [] tNext := fun _ _ σ H _ I h => wpAny_execs_nil ⟨σ, H, I, h⟩
theorem pss_cons (h1 : PS X st t) (h2 : PSs X rest u) : PSs X (st :: rest) (tSeq t u) := by
  intro pins s σ H D I h
  refine wpAny_execs_cons (thn (h1 pins s σ H { D with nx := u D } I h) fun f s1 q => ?_)
  cases f with
  | next =>
    obtain ⟨σ', H', I', q⟩ := q
    exact h2 pins s1 σ' H' D I' q
  | ret v => exact q
  | brk => exact q
  | cont => exact q
theorem pss_one (h1 : PS X st t) : PSs X [st] t := by
  intro pins s σ H D I h
  refine wpAny_execs_cons (thn (h1 pins s σ H D I h) fun f s1 q => ?_)
  cases f with
  | next => exact wpAny_execs_nil q
  | ret v => exact q
  | brk => exact q
  | cont => exact q
theorem Inv.quiet {pins : List (Addr × Obj)} {σ : St} {H : Hp} {s : Shared} (I : Inv X pins σ H s) : interactive X.env = false := by simp [interactive, I.ok.kind]

def tDrop (te : TE) : TS := fun D σ H => te σ H fun _ H1 => D.nx σ H1
theorem ps_expr (he : PE X e te) (hs : swapsWith e none pos.line X.env = pure false := by rfl) : PS X (.Expr e pos) (tDrop te) := by
  intro pins s σ H D I h
  exact wpAny_Expr_any (thn (he pins s σ H _ I h) fun v s1 ⟨x, H1, I1, r1, q1⟩ => ⟨σ, H1, I1, q1⟩) I.quiet hs
def tRet (te : TE) : TS := fun D σ H => te σ H D.rt
theorem ps_ret (he : PE X e te) : PS X (.Return (some e) pos) (tRet te) := by
  intro pins s σ H D I h
  exact wpAny_Return_some (thn (he pins s σ H _ I h) fun v s1 ⟨x, H1, I1, r1, q1⟩ => ⟨x, σ, H1, I1, r1, q1⟩)
def tIfS (c : TT) (t u : TS) : TS := fun D σ H => c σ H fun b H1 => if b = true then t D σ H1 else u D σ H1
theorem ps_if {c : Expr} {a b : List Stmt} {tc : TT} (hc : PT X c tc) (ha : PSs X a t) (hb : PSs X b u) : PS X (.If c a b pos) (tIfS tc t u) := by
  intro pins s σ H D I h
  refine wpAny_If (thn (hc pins s σ H _ I h) fun d s1 ⟨H1, I1, q1⟩ => ?_)
  cases d with
  | true => exact ha pins s1 σ H1 D I1 q1
  | false => exact hb pins s1 σ H1 D I1 q1

def tNever : TS := fun _ _ _ => False
theorem pss_never {sts : List Stmt} : PSs X sts tNever := fun _ _ _ _ _ _ h => h.elim
end


abbrev TG := V → St → Hp → (St → Hp → Prop) → Prop
def PG (X : Cx) (target : Expr) (t : TG) : Prop :=
  ∀ (pins : List (Addr × Obj)) (s : Shared) (σ : St) (H : Hp) (v : V) (u : Value) (Q : St → Hp → Prop), Inv X pins σ H s → RelV v u → t v σ H Q →
    wpAny (model X.prog X.w) X.A (assign target X.env u) (fun _ s' => ∃ σ' H', Inv X pins σ' H' s' ∧ Q σ' H') X.xe s

section
variable {X : Cx} {pos : Pos}
def gName (i : Nat) : TG := fun v σ H Q => Q (σ.set i (some v)) H
theorem pg_name {i : Nat} {x : Str} (hN : X.N.Nodup) (hi : X.N[i]? = some x) (hx : Loc X.env.scope x) (hf : X.fn x = true ∨ X.env.scope.names.lookup x = some .local := by first | exact .inl rfl | exact .inr rfl | assumption) : PG X (.Name x pos) (gName i) := by
  intro pins s σ H v u Q I r h
  exact wpAny_assign_Name (store_ok I hN hi hx r (fun s' I' => ⟨_, H, I', h⟩) hf)
def tAsg (te : TE) (g : TG) : TS := fun D σ H => te σ H fun x H1 => g x σ H1 D.nx
theorem ps_set {i : Nat} {x : Str} {e : Expr} {te : TE} {pos' : Pos} (hN : X.N.Nodup) (hi : X.N[i]? = some x) (hx : Loc X.env.scope x) (he : PE X e te) (hs : swapsWith e (some (.Name x pos')) pos.line X.env = pure false := by rfl) (hf : X.fn x = true ∨ X.env.scope.names.lookup x = some .local := by first | exact .inl rfl | exact .inr rfl | assumption) :
    PS X (.Assign [.Name x pos'] e pos) (tAsg te (gName i)) := by
  intro pins s σ H D I h
  refine wpAny_Assign_Name (thn (he pins s σ H _ I h) fun v s1 ⟨y, H1, I1, r1, q1⟩ => ?_) hs
  exact store_ok I1 hN hi hx r1 (fun s2 I2 => ⟨_, H1, I2, q1⟩) hf

end


section
variable {X : Cx} {pos : Pos}

end



structure It where
  go : Nat → Hp → Prop
  yld : Nat → Hp → V → Hp → Prop
  stop : Nat → Hp → Prop

def FpOk (X : Cx) (pins : List (Addr × Obj)) (H : Hp) (b : Addr) : Prop :=
  H b = none ∧ b ≠ X.env.locals ∧ b ∉ X.fs ∧ (b ∈ X.ex ∨ X.s₀.heap.objs.size ≤ b) ∧ (∀ x c, X.env.cells.lookup x = some c → c ≠ b) ∧ ∀ p ∈ X.pn ++ pins, p.1 ≠ b
theorem Inv.fpOk {X : Cx} {pins : List (Addr × Obj)} {σ : St} {H H' : Hp} {s : Shared} {b : Addr} (I : Inv X pins σ H s) (hb : s.heap.objs.size ≤ b) (hn : H' b = none) : FpOk X pins H' b := by
  refine ⟨hn, Nat.ne_of_gt (Nat.lt_of_lt_of_le I.lt hb), I.nofs hb, .inr (Nat.le_trans I.sz hb), fun x c e z => ?_, fun p hp z => ?_⟩
  · obtain ⟨v, q⟩ := I.cell x c e
    exact absurd (Nat.lt_of_lt_of_le q.lt (by rw [z]; exact hb)) (Nat.lt_irrefl _)
  · exact absurd (Nat.lt_of_lt_of_le (Heap.lt_size (I.pin p hp).1) (by rw [z]; exact hb)) (Nat.lt_irrefl _)
structure Turn (P : Program) (w : World) (K : PySem.W.Frag) (tg : Expr) (J : It) (fp : List Addr) (it : Addr) (tn : Nat → Heap → Prop) : Prop where
  mem : it ∈ fp
  obj : ∀ i h, tn i h → ∀ b ∈ fp, ∃ o, h.get? b = some o ∧ ∀ v, o.data ≠ .cell v
  keep : ∀ i h h', tn i h → (∀ b ∈ fp, ∀ o, h.get? b = some o → h'.get? b = some o) → tn i h'
  item : ∀ (X : Cx), X.prog = P → X.w = w → X.K = K → X.calm = true → ∀ (i : Nat) (pins : List (Addr × Obj)) (s : Shared) (σ : St) (H : Hp) (E : Value → Shared → Prop), Inv X pins σ H s → (∀ b ∈ fp, FpOk X pins H b) → tn i s.heap → J.go i H →
    wpAny (model P w) X.A (pyNext (.ref it)) (fun r s1 => ∃ u, r = some u ∧
      wpAny (model P w) X.A (letOwnedTupleGo tg (.ref it) u) (fun _ s2 => ∃ x H', Inv X pins σ H' s2 ∧ RelV x u ∧ J.yld i H x H' ∧ tn (i + 1) s2.heap ∧ ∀ b ∈ fp, H' b = none) E s1) E s
  done : ∀ (X : Cx), X.prog = P → X.w = w → X.K = K → X.calm = true → ∀ (i : Nat) (pins : List (Addr × Obj)) (s : Shared) (σ : St) (H : Hp) (E : Value → Shared → Prop), Inv X pins σ H s → (∀ b ∈ fp, FpOk X pins H b) → tn i s.heap → J.stop i H →
    wpAny (model P w) X.A (pyNext (.ref it)) (fun r s1 => r = none ∧ Inv X pins σ H s1) E s
  self : ∀ (A : Around) (i : Nat) (s : Shared) (Q : Value → Shared → Prop) (E : Value → Shared → Prop), tn i s.heap → Q (.ref it) s → wpAny (model P w) A (pyIter (.ref it)) Q E s
abbrev TI := St → Hp → (It → Hp → Prop) → Prop

def PIE (X : Cx) (pins : List (Addr × Obj)) (σ : St) (tg : Expr) (R : It → Hp → Prop) (itv : Value) (s2 : Shared) : Prop :=
  ∃ (it : Addr) (fp : List Addr) (tn : Nat → Heap → Prop) (J : It) (H' : Hp), itv = .ref it ∧ Inv X pins σ H' s2 ∧ Turn X.prog X.w X.K tg J fp it tn ∧ tn 0 s2.heap ∧ (∀ b ∈ fp, FpOk X pins H' b) ∧ R J H'
def PI (X : Cx) (tg iter : Expr) (wi : TI) : Prop :=
  ∀ (pins : List (Addr × Obj)) (s : Shared) (σ : St) (H : Hp) (R : It → Hp → Prop), Inv X pins σ H s → wi σ H R →
    wpAny (model X.prog X.w) X.A (eval iter X.env) (fun v s1 => wpAny (model X.prog X.w) X.A (pyIter v) (PIE X pins σ tg R) X.xe s1) X.xe s


theorem go_of {M : Model} {A : Around} {E : Value → Shared → Prop} {s : Shared} {tg : Expr} {it : Addr} {u : Value} {o : Obj} {n : String} {vs : Array Value} {Q : Unit → Shared → Prop} (ho : s.heap.get? it = some o) (hc : o.cls = .type n) (hd : o.data = .fields vs)
    (hn : ["enumerate", "zip", "dict_itemiterator", "dict_reverseitemiterator", "odict_iterator", "itertools.zip_longest", "itertools.pairwise"].contains n = false) (hQ : Q () s) : wpAny M A (letOwnedTupleGo tg (.ref it) u) Q E s := by
  unfold letOwnedTupleGo
  cases tg <;> first
    | exact wpAny_pure hQ
    | (cases u <;> first
        | exact wpAny_pure hQ
        | (refine wpAny_bind (wpAny_load ho ?_)
           rw [hc, hd]
           show wpAny M A (if (["enumerate", "zip", "dict_itemiterator", "dict_reverseitemiterator", "odict_iterator", "itertools.zip_longest", "itertools.pairwise"].contains n && vs[0]? == some (rawInt _)) = true then _ else _) Q E s
           rw [if_neg (by intro h; rw [hn, Bool.false_and] at h; cases h)]
           exact wpAny_pure hQ))


def Itl (K : PySem.W.Frag) (a : Addr) : It :=
  ⟨fun i H => ∃ xs x, SqL K H a xs ∧ xs[i]? = some x, fun i H x H' => H' = H ∧ ∀ xs, SqL K H a xs → xs[i]? = some x, fun i H => ∃ xs, SqL K H a xs ∧ xs.length ≤ i⟩
def Itt (K : PySem.W.Frag) (a : Addr) : It :=
  ⟨fun i H => ∃ xs x, SqT K H a xs ∧ xs[i]? = some x, fun i H x H' => H' = H ∧ ∀ xs, SqT K H a xs → xs[i]? = some x, fun i H => ∃ xs, SqT K H a xs ∧ xs.length ≤ i⟩

def Itr (lo : Int) (n : Nat) : It := ⟨fun i _ => i < n, fun i H x H' => H' = H ∧ x = .int (lo + i), fun i _ => n ≤ i⟩
theorem turn_list {P : Program} {w : World} {K : PySem.W.Frag} {tg : Expr} (a it : Addr) : Turn P w K tg (Itl K a) [it] it (fun i h => h.IsListIter it a i) where
  mem := by simp
  obj := fun i h st b hb => by
    have e : b = it := by simpa using hb
    subst e
    obtain ⟨o, e, c, d⟩ := st
    exact ⟨o, e, fun v z => by rw [d] at z; cases z⟩
  keep := fun i h h' st k => st.at fun o e => k it (by simp) o e
  item := by
    intro X hP hw hK hc i pins s σ H E I hf st hg
    subst hP hw hK
    obtain ⟨xs, x, hq, hx⟩ := hg
    obtain ⟨its, rv, p, hz⟩ := I.list hq
    obtain ⟨u, hu, ru⟩ := rv.get hx
    obtain ⟨f0, f1, f2, f3, f4, f5⟩ := hf it (by simp)
    refine wpAny_pyNext_list_item st p.isList (x := u) (by simpa using hu) fun h' st' sb => ?_
    have I1 : Inv X pins σ H { s with heap := h' } := I.turned (t' := s.toks) (fun b o hb e => (sb.2 b hb).trans e) f0 f1 f3 f4 f5
    obtain ⟨o, e, c, d⟩ := id st'
    exact ⟨u, rfl, go_of (s := { s with heap := h' }) e c d (by decide) ⟨x, H, I1, ru, ⟨rfl, fun ys hy => by rw [I.list_inj hy hq]; exact hx⟩, st', fun b hb => (hf b hb).1⟩⟩
  done := by
    intro X hP hw hK hc i pins s σ H E I hf st hg
    subst hP hw hK
    obtain ⟨xs, hq, hx⟩ := hg
    obtain ⟨its, rv, p, hz⟩ := I.list hq
    obtain ⟨f0, f1, f2, f3, f4, f5⟩ := hf it (by simp)
    have hl := rv.length
    exact wpAny_pyNext_list_end (I.ok.hd hc) st p.isList (by simp; omega) fun h' eb => ⟨rfl, I.turned (t' := s.toks) (fun b o hb e => eb b o hb e) f0 f1 f3 f4 f5⟩
  self := fun _ _ _ _ _ st h => wpAny_pyIter_listiter st h
theorem turn_tuple {P : Program} {w : World} {K : PySem.W.Frag} {tg : Expr} (a it : Addr) : Turn P w K tg (Itt K a) [it] it (fun i h => h.IsTupleIter it a i) where
  mem := by simp
  obj := fun i h st b hb => by
    have e : b = it := by simpa using hb
    subst e
    obtain ⟨o, e, c, d⟩ := st
    exact ⟨o, e, fun v z => by rw [d] at z; cases z⟩
  keep := fun i h h' st k => st.at fun o e => k it (by simp) o e
  item := by
    intro X hP hw hK hc i pins s σ H E I hf st hg
    subst hP hw hK
    obtain ⟨xs, x, hq, hx⟩ := hg
    obtain ⟨its, rv, p, hz⟩ := I.tuple hq
    obtain ⟨u, hu, ru⟩ := rv.get hx
    obtain ⟨f0, f1, f2, f3, f4, f5⟩ := hf it (by simp)
    refine wpAny_pyNext_tuple_item st (show s.heap.IsTuple a its.toArray from p) (x := u) (by simpa using hu) fun h' st' sb => ?_
    have I1 : Inv X pins σ H { s with heap := h' } := I.turned (t' := s.toks) (fun b o hb e => (sb.2 b hb).trans e) f0 f1 f3 f4 f5
    obtain ⟨o, e, c, d⟩ := id st'
    exact ⟨u, rfl, go_of (s := { s with heap := h' }) e c d (by decide) ⟨x, H, I1, ru, ⟨rfl, fun ys hy => by rw [I.tuple_inj hy hq]; exact hx⟩, st', fun b hb => (hf b hb).1⟩⟩
  done := by
    intro X hP hw hK hc i pins s σ H E I hf st hg
    subst hP hw hK
    obtain ⟨xs, hq, hx⟩ := hg
    obtain ⟨its, rv, p, hz⟩ := I.tuple hq
    obtain ⟨f0, f1, f2, f3, f4, f5⟩ := hf it (by simp)
    have hl := rv.length
    exact wpAny_pyNext_tuple_end (I.ok.hd hc) st (show s.heap.IsTuple a its.toArray from p) (by simp; omega) fun h' eb => ⟨rfl, I.turned (t' := s.toks) (fun b o hb e => eb b o hb e) f0 f1 f3 f4 f5⟩
  self := fun _ _ _ _ _ st h => wpAny_pyIter_tupleiter st h
theorem turn_range {P : Program} {w : World} {K : PySem.W.Frag} {tg : Expr} (it : Addr) (lo : Int) (n : Nat) : Turn P w K tg (Itr lo n) [it] it (fun i h => IsRangeIter h it (lo + (i : Nat) * 1) ((n : Int) - (i : Nat)) 1) where
  mem := by simp
  obj := fun i h st b hb => by
    have e : b = it := by simpa using hb
    subst e
    exact ⟨_, st, fun v z => by
      have z' : Data.fields _ = Data.cell v := z
      cases z'⟩
  keep := fun i h h' st k => k it (by simp) _ st
  item := by
    intro X hP hw hK hc i pins s σ H E I hf st hg
    subst hP hw hK
    obtain ⟨f0, f1, f2, f3, f4, f5⟩ := hf it (by simp)
    have W := Walks.range (prog := X.prog) (w := X.w) (I.ok.hd hc) it lo 1 n
    refine W.item i s _ _ hg st fun v h' tk hv st' kk => ?_
    obtain ⟨t, rfl⟩ := hv
    have I1 : Inv X pins σ H { s with heap := h', toks := tk } := I.turned (fun b o hb e => kk b o (by simpa using hb) e) f0 f1 f3 f4 f5
    refine ⟨_, rfl, go_of (s := { s with heap := h', toks := tk }) (n := "range_iterator") st' rfl rfl (by decide) ⟨.int (lo + i), H, I1, ⟨t, ?_⟩, ⟨rfl, rfl⟩, st', fun b hb => (hf b hb).1⟩⟩
    rw [Int.mul_one]
  done := by
    intro X hP hw hK hc i pins s σ H E I hf st hg
    subst hP hw hK
    obtain ⟨f0, f1, f2, f3, f4, f5⟩ := hf it (by simp)
    exact wpAny_pyNext_range_end (I.ok.hd hc) st (by have : n ≤ i := hg; omega) fun h' eb => ⟨rfl, I.turned (t' := s.toks) (fun b o hb e => eb b o hb e) f0 f1 f3 f4 f5⟩
  self := fun _ _ _ _ _ st h => wpAny_pyIter_rangeiter st h
end L2

namespace L2
open PySem PySem.Spec PyProof.Rows
section
variable {X : Cx} {tg : Expr}
def iList (K : PySem.W.Frag) (tl : TE) : TI := fun σ H R => tl σ H fun x H1 => ∃ a, x = .ref a ∧ (∃ xs, SqL K H1 a xs) ∧ R (Itl K a) H1
def iTup (K : PySem.W.Frag) (tl : TE) : TI := fun σ H R => tl σ H fun x H1 => ∃ a, x = .ref a ∧ (∃ xs, SqT K H1 a xs) ∧ R (Itt K a) H1
theorem pi_list {l : Expr} {tl : TE} (hl : PE X l tl) : PI X tg l (iList X.K tl) := by
  intro pins s σ H R I h
  refine thn (hl pins s σ H _ I h) fun v s1 ⟨x, H1, I1, r1, q1⟩ => ?_
  obtain ⟨a, e, ⟨xs, hq⟩, q⟩ := q1
  subst e
  cases r1
  obtain ⟨its, rv, p, hz⟩ := I1.list hq
  refine wpAny_pyIter_list p.isList ?_
  refine ⟨s1.heap.objs.size, [s1.heap.objs.size], _, _, H1, rfl, I1.kept (t' := s1.toks) fun b o e => Heap.get?_push_of_some _ e, turn_list a _, ⟨_, Heap.get?_push_size _ rfl, rfl, rfl⟩, fun b hb => ?_, q⟩
  have e : b = s1.heap.objs.size := by simpa using hb
  subst e
  exact I1.fpOk (Nat.le_refl _) (I1.hok.fresh (Nat.le_refl _))
theorem pi_tup {l : Expr} {tl : TE} (hl : PE X l tl) : PI X tg l (iTup X.K tl) := by
  intro pins s σ H R I h
  refine thn (hl pins s σ H _ I h) fun v s1 ⟨x, H1, I1, r1, q1⟩ => ?_
  obtain ⟨a, e, ⟨xs, hq⟩, q⟩ := q1
  subst e
  cases r1
  obtain ⟨its, rv, p, hz⟩ := I1.tuple hq
  refine wpAny_pyIter_tuple (show s1.heap.IsTuple a its.toArray from p) ?_
  refine ⟨s1.heap.objs.size, [s1.heap.objs.size], _, _, H1, rfl, I1.kept (t' := s1.toks) fun b o e => Heap.get?_push_of_some _ e, turn_tuple a _, ⟨_, Heap.get?_push_size _ rfl, rfl, rfl⟩, fun b hb => ?_, q⟩
  have e : b = s1.heap.objs.size := by simpa using hb
  subst e
  exact I1.fpOk (Nat.le_refl _) (I1.hok.fresh (Nat.le_refl _))

theorem range_it {pins : List (Addr × Obj)} {σ : St} {H : Hp} {s : Shared} {R : It → Hp → Prop} {E : Value → Shared → Prop} {lo hi : Int} {t u v : Tok} {tk : Nat} (I : Inv X pins σ H s) (h1 : -(2 ^ 62) ≤ lo) (h2 : lo < 2 ^ 62) (h3 : -(2 ^ 62) ≤ hi) (h4 : hi < 2 ^ 62)
    (q : R (Itr lo (hi - lo).toNat) H) : wpAny (model X.prog X.w) X.A (pyIter (.ref s.heap.objs.size)) (PIE X pins σ tg R) E { s with heap := s.heap.push { cls := .type "range", data := .fields #[.int lo t, .int hi u, .int 1 v] }, toks := tk } := by
  refine wpAny_pyIter_range (IsRange.new ..) (small_one h1 h2 h3 h4) ?_
  have I1 : Inv X pins σ H { s with heap := s.heap.push { cls := .type "range", data := .fields #[.int lo t, .int hi u, .int 1 v] }, toks := tk } := I.kept fun b o e => Heap.get?_push_of_some _ e
  refine ⟨(s.heap.push { cls := .type "range", data := .fields #[.int lo t, .int hi u, .int 1 v] }).objs.size, [(s.heap.push { cls := .type "range", data := .fields #[.int lo t, .int hi u, .int 1 v] }).objs.size], _, _, H, rfl,
    I1.kept (t' := tk) fun b o e => Heap.get?_push_of_some _ e, turn_range _ lo (hi - lo).toNat, ?_, fun b hb => ?_, q⟩
  · have e1 : lo + ((0 : Nat) : Int) * 1 = lo := by simp
    have e2 : (((hi - lo).toNat : Nat) : Int) - ((0 : Nat) : Int) = Builtin.Range.rangeSize lo hi 1 := by rw [rangeSize_one]; split <;> omega
    show IsRangeIter _ _ (lo + ((0 : Nat) : Int) * 1) ((((hi - lo).toNat : Nat) : Int) - ((0 : Nat) : Int)) 1
    rw [e1, e2]
    exact Heap.get?_push_size _ rfl
  · have e : b = (s.heap.push { cls := .type "range", data := .fields #[.int lo t, .int hi u, .int 1 v] }).objs.size := by simpa using hb
    subst e
    exact I1.fpOk (Nat.le_refl _) (I1.hok.fresh (Nat.le_refl _))
def iRng1 (ta : TA) : TI := fun σ H R => ta σ H fun vs H1 => ∃ j : Int, vs = [.int j] ∧ -(2 ^ 62) ≤ j ∧ j < 2 ^ 62 ∧ R (Itr 0 j.toNat) H1
def iRng2 (ta : TA) : TI := fun σ H R => ta σ H fun vs H1 => ∃ i j : Int, vs = [.int i, .int j] ∧ (-(2 ^ 62) ≤ i ∧ i < 2 ^ 62 ∧ -(2 ^ 62) ≤ j ∧ j < 2 ^ 62) ∧ R (Itr i (j - i).toNat) H1
theorem pi_range1 {a : Expr} {ta : TA} {p pos : Pos} (hg : Gl X "range") (hm : X.mg "range" = none) (ha : PA X [a] ta) (hs : starEach [a] X.env = [(false, eval a X.env)] := by rfl) : PI X tg (.Call (.Name "range" p) [a] [] pos) (iRng1 ta) := by
  intro pins s σ H R I h
  refine Call_ (ld_blt I hg hm boot_range (PyProof.Rows.callWith_type1 (thn (ha pos pins s σ H _ I h) fun us s1 ⟨vs, H1, I1, r1, q1⟩ => ?_) hs rfl))
  obtain ⟨j, e, q1, q2, q⟩ := q1
  subst e
  cases r1 with
  | cons r rr =>
    cases rr
    obtain ⟨t, rfl⟩ := r
    exact call_range_1 (range_it I1 (by omega) (by omega) q1 q2 (by simpa using q))
theorem pi_range2 {a b : Expr} {ta : TA} {p pos : Pos} (hg : Gl X "range") (hm : X.mg "range" = none) (ha : PA X [a, b] ta) (hs : starEach [a, b] X.env = [(false, eval a X.env), (false, eval b X.env)] := by rfl) (hs2 : starEach [b] X.env = [(false, eval b X.env)] := by rfl) :
    PI X tg (.Call (.Name "range" p) [a, b] [] pos) (iRng2 ta) := by
  intro pins s σ H R I h
  refine Call_ (ld_blt I hg hm boot_range (PyProof.Rows.callWith_type1 (thn (ha pos pins s σ H _ I h) fun us s1 ⟨vs, H1, I1, r1, q1⟩ => ?_) (by rw [hs, hs2]) (by rw [hs2]; rfl)))
  obtain ⟨i, j, e, ⟨q1, q2, q3, q4⟩, q⟩ := q1
  subst e
  cases r1 with
  | cons r rr =>
    cases rr with
    | cons r' rr =>
      cases rr
      obtain ⟨t, rfl⟩ := r
      obtain ⟨t', rfl⟩ := r'
      exact call_range_2 (range_it I1 q1 q2 q3 q4 q)



def tFor (wi : TI) (g : TG) (tb : TS) : TS := fun D σ H => wi σ H fun J H1 => ∃ W : Nat → Nat → St → Hp → Prop, (∃ m, W 0 m σ H1) ∧ ∀ i m σ H, W i m σ H →
  (J.stop i H ∧ D.nx σ H) ∨ (J.go i H ∧ ∃ N : St → Hp → Prop, (∀ σ' H', N σ' H' → ∃ m', m' < m ∧ W (i + 1) m' σ' H') ∧ ∀ x H', J.yld i H x H' → g x σ H' fun σ2 H2 => tb { D with nx := N, ct := N, bk := D.nx } σ2 H2)

def pinsAt (fp : List Addr) (h : Heap) : List (Addr × Obj) := fp.filterMap fun b => (h.get? b).map fun o => (b, o)
theorem mem_pinsAt {fp : List Addr} {h : Heap} {b : Addr} {o : Obj} (hb : b ∈ fp) (e : h.get? b = some o) : (b, o) ∈ pinsAt fp h := List.mem_filterMap.mpr ⟨b, hb, by rw [e]; rfl⟩
theorem of_pinsAt {fp : List Addr} {h : Heap} {p : Addr × Obj} (hp : p ∈ pinsAt fp h) : p.1 ∈ fp ∧ h.get? p.1 = some p.2 := by
  obtain ⟨b, hb, e⟩ := List.mem_filterMap.mp hp
  cases q : h.get? b with
  | none => rw [q] at e; cases e
  | some o =>
    rw [q] at e
    have e' : (b, o) = p := Option.some.inj e
    subst e'
    exact ⟨hb, q⟩
theorem Inv.pinned {pins : List (Addr × Obj)} {σ : St} {H : Hp} {s : Shared} {fp : List Addr} (I : Inv X pins σ H s) (hf : ∀ b ∈ fp, FpOk X pins H b) (ho : ∀ b ∈ fp, ∃ o, s.heap.get? b = some o ∧ ∀ v, o.data ≠ .cell v) : Inv X (pins ++ pinsAt fp s.heap) σ H s :=
  I.pins_of fun p hp => (List.mem_append.mp hp).elim (fun z => I.pin p (List.mem_append_right _ z)) fun z => by
    obtain ⟨hb, e⟩ := of_pinsAt z
    obtain ⟨f0, f1, f2, _⟩ := hf p.1 hb
    obtain ⟨o, e', d⟩ := ho p.1 hb
    rw [e] at e'; cases e'
    exact ⟨e, f0, f1, f2, d⟩
theorem Inv.unpinned {pins pl : List (Addr × Obj)} {σ : St} {H : Hp} {s : Shared} (I : Inv X (pins ++ pl) σ H s) : Inv X pins σ H s := I.pins_of fun p hp => I.pin p (List.mem_append_right _ (List.mem_append_left _ hp))
theorem ps_for {iter : Expr} {body : List Stmt} {wi : TI} {g : TG} {tb : TS} {pos : Pos} (hp : PassesOwn (model X.prog X.w) X.A X.env X.xe) (hc : X.calm = true) (hi : PI X tg iter wi) (hg : PG X tg g) (hb : PSs X body tb)
    (hs : ∀ x, foldedSetIterable iter X.env x = pure x := by intro _; rfl) : PS X (.For tg iter body [] pos) (tFor wi g tb) := by
  intro pins s σ H D I h
  refine wpAny_For (thn (hi pins s σ H _ I h) fun v s1 h1 => thn h1 fun itv s2 h2 => ?_) hs
  obtain ⟨it, fp, tn, J, H2, e, I2, T, st2, f2, W, ⟨m0, w0⟩, turn⟩ := h2
  subst e
  -- what stays true of the iterator's objects through the loop
  have stat : ∀ {H' : Hp}, (∀ b ∈ fp, H' b = none) → ∀ b ∈ fp, FpOk X pins H' b := fun hn b hb => ⟨hn b hb, (f2 b hb).2⟩
  refine codeAny_forLoop_any (fun n s' => ∃ i σ' H', Inv X pins σ' H' s' ∧ tn i s'.heap ∧ (∀ b ∈ fp, H' b = none) ∧ W i n σ' H') ?_ m0 ⟨0, σ, H2, I2, st2, fun b hb => (f2 b hb).1, w0⟩
  rintro n s3 ⟨i, σ3, H3, I3, st3, fr3, w3⟩
  rcases turn i n σ3 H3 w3 with ⟨stop, qn⟩ | ⟨go, N, hN, step⟩
  · refine wpAny_passesOwn hp (thn (T.done X rfl rfl rfl hc i pins s3 σ3 H3 X.xe I3 (stat fr3) st3 stop) fun r s4 ⟨hr, I4⟩ => ?_)
    subst hr
    exact wpAny_execs_nil ⟨σ3, H3, I4, qn⟩
  · refine wpAny_passesOwn hp (thn (T.item X rfl rfl rfl hc i pins s3 σ3 H3 X.xe I3 (stat fr3) st3 go) fun r s4 ⟨u, hr, h4⟩ => ?_)
    subst hr
    refine wpAny_passesOwn hp (thn h4 fun _ s5 ⟨x, H5, I5, r5, y5, st5, fr5⟩ => ?_)
    have I5' := I5.pinned (stat fr5) (T.obj _ _ st5)
    refine wpAny_passesOwn hp (thn (hg _ s5 σ3 H5 x u _ I5' r5 (step x H5 y5)) fun _ s6 ⟨σ6, H6, I6, q6⟩ => ?_)
    refine wpAny_passesOwn hp (thn (hb _ s6 σ6 H6 _ I6 q6) fun f s7 q7 => ?_)
    have again : ∀ {σ7 : St} {H7 : Hp}, Inv X (pins ++ pinsAt fp s5.heap) σ7 H7 s7 → N σ7 H7 → ∃ m, m < n ∧ ∃ i σ' H', Inv X pins σ' H' s7 ∧ tn i s7.heap ∧ (∀ b ∈ fp, H' b = none) ∧ W i m σ' H' := fun {σ7 H7} I7 n7 => by
      obtain ⟨m', hm, w7⟩ := hN σ7 H7 n7
      refine ⟨m', hm, i + 1, σ7, H7, I7.unpinned, T.keep _ _ _ st5 fun b hb o e => (I7.pin (b, o) (List.mem_append_right _ (List.mem_append_right _ (mem_pinsAt hb e)))).1, fun b hb => ?_, w7⟩
      obtain ⟨o, e, d⟩ := T.obj _ _ st5 b hb
      exact (I7.pin (b, o) (List.mem_append_right _ (List.mem_append_right _ (mem_pinsAt hb e)))).2.1
    cases f with
    | next => obtain ⟨σ7, H7, I7, n7⟩ := q7; exact again I7 n7
    | cont => obtain ⟨σ7, H7, I7, n7⟩ := q7; exact again I7 n7
    | brk => obtain ⟨σ7, H7, I7, q7⟩ := q7; exact ⟨σ7, H7, I7.unpinned, q7⟩
    | ret v => obtain ⟨x7, σ7, H7, I7, r7, q7⟩ := q7; exact ⟨x7, σ7, H7, I7.unpinned, r7, q7⟩
end



theorem for_range {lo : Int} {n : Nat} {g : TG} {tb : TS} {D : Ends} {σ : St} {H : Hp} (Pv : Nat → St → Hp → Prop) (h0 : Pv 0 σ H)
    (hs : ∀ i σ H, i < n → Pv i σ H → g (.int (lo + i)) σ H fun σ2 H2 => tb { D with nx := Pv (i + 1), ct := Pv (i + 1), bk := D.nx } σ2 H2) (hd : ∀ σ H, Pv n σ H → D.nx σ H) :
    ∃ W : Nat → Nat → St → Hp → Prop, (∃ m, W 0 m σ H) ∧ ∀ i m σ H, W i m σ H →
      ((Itr lo n).stop i H ∧ D.nx σ H) ∨ ((Itr lo n).go i H ∧ ∃ N : St → Hp → Prop, (∀ σ' H', N σ' H' → ∃ m', m' < m ∧ W (i + 1) m' σ' H') ∧ ∀ x H', (Itr lo n).yld i H x H' → g x σ H' fun σ2 H2 => tb { D with nx := N, ct := N, bk := D.nx } σ2 H2) := by
  refine ⟨fun i m σ H => m = n - i ∧ i ≤ n ∧ Pv i σ H, ⟨n, by simp, Nat.zero_le _, h0⟩, ?_⟩
  rintro i m σ H ⟨rfl, hi, p⟩
  by_cases hlt : i < n
  · refine .inr ⟨hlt, Pv (i + 1), fun σ' H' p' => ⟨n - (i + 1), by omega, rfl, hlt, p'⟩, fun x H' y => ?_⟩
    obtain ⟨e, y⟩ := y
    subst e y
    exact hs i σ _ hlt p
  · have e : i = n := by omega
    subst e
    exact .inl ⟨Nat.le_refl _, hd σ H p⟩

end L2

namespace L2
open PySem PySem.Spec PyProof.Rows

abbrev R2 := V → V → Hp → VK → Prop

def OpR (X : Cx) (f : Value → Value → Sem Value) (r : R2) : Prop :=
  ∀ (pins : List (Addr × Obj)) (s : Shared) (σ : St) (H : Hp) (x y : V) (v u : Value) (Q : VK), Inv X pins σ H s → RelV x v → RelV y u → r x y H Q →
    wpAny (model X.prog X.w) X.A (f v u) (EP X pins σ Q) X.xe s

def UnR (X : Cx) (f : Value → Sem Value) (r : V → Hp → VK → Prop) : Prop :=
  ∀ (pins : List (Addr × Obj)) (s : Shared) (σ : St) (H : Hp) (x : V) (v : Value) (Q : VK), Inv X pins σ H s → RelV x v → r x H Q →
    wpAny (model X.prog X.w) X.A (f v) (EP X pins σ Q) X.xe s

def CallR (X : Cx) (f : Value) (r : List V → Hp → VK → Prop) : Prop :=
  ∀ (pins : List (Addr × Obj)) (s : Shared) (σ : St) (H : Hp) (xs : List V) (us : List Value) (Q : VK), Inv X pins σ H s → Vals xs us → r xs H Q →
    wpAny (model X.prog X.w) X.A (call f us) (EP X pins σ Q) X.xe s

def tOp (r : R2) (ta tb : TE) : TE := fun σ H Q => ta σ H fun x H1 => tb σ H1 fun y H2 => r x y H2 Q
def tUn (r : V → Hp → VK → Prop) (ta : TE) : TE := fun σ H Q => ta σ H fun x H1 => r x H1 Q

def rI (C : Int → Int → Prop) (g : Int → Int → V) : R2 := fun x y H Q => ∃ i j, x = .int i ∧ y = .int j ∧ C i j ∧ Q (g i j) H
def rI0 (g : Int → Int → V) : R2 := fun x y H Q => ∃ i j, x = .int i ∧ y = .int j ∧ Q (g i j) H
def rU (g : Int → V) : V → Hp → VK → Prop := fun x H Q => ∃ i, x = .int i ∧ Q (g i) H

section
variable {X : Cx} {a b c : Expr} {ta tb tc : TE} {pos : Pos}

theorem binT (ha : PE X a ta) (hb : PE X b tb) {pins : List (Addr × Obj)} {s : Shared} {σ : St} {H : Hp} {R : V → V → Hp → Prop} (I : Inv X pins σ H s)
    (h : ta σ H fun x H1 => tb σ H1 fun y H2 => R x y H2) {Q : Value → Shared → Prop} {f : Value → Value → Sem Value}
    (hf : ∀ v u s2 x y H2, Inv X pins σ H2 s2 → RelV x v → RelV y u → R x y H2 → wpAny (model X.prog X.w) X.A (f v u) Q X.xe s2) :
    wpAny (model X.prog X.w) X.A (eval a X.env) (fun v s₁ => wpAny (model X.prog X.w) X.A (eval b X.env) (fun u s₂ => wpAny (model X.prog X.w) X.A (f v u) Q X.xe s₂) X.xe s₁) X.xe s := by
  refine thn (ha pins s σ H _ I h) fun v s1 ⟨x, H1, I1, r1, q1⟩ => ?_
  refine thn (hb pins s1 σ H1 _ I1 q1) fun u s2 ⟨y, H2, I2, r2, q2⟩ => ?_
  exact hf v u s2 x y H2 I2 r1 r2 q2

theorem pe_op {op : Operator} {r : R2} (ho : OpR X (binaryOp op) r) (ha : PE X a ta) (hb : PE X b tb) : PE X (.BinOp a op b pos) (tOp r ta tb) := by
  intro pins s σ H Q I h
  exact wpAny_BinOp (binT ha hb I h fun v u s2 x y H2 I2 rx ry q => ho pins s2 σ H2 x y v u Q I2 rx ry q)
theorem pe_un {op : UnaryOp} {r : V → Hp → VK → Prop} (ho : UnR X (unaryOp op) r) (ha : PE X a ta) : PE X (.UnaryOp op a pos) (tUn r ta) := by
  intro pins s σ H Q I h
  exact UnaryOp_ (thn (ha pins s σ H _ I h) fun v s1 ⟨x, H1, I1, r1, q1⟩ => ho pins s1 σ H1 x v Q I1 r1 q1)

theorem opI {f : Value → Value → Sem Value} {C : Int → Int → Prop} {g : Int → Int → Int}
    (rule : ∀ (i j : Int) (t u : Tok) (s : Shared) (Q : Value → Shared → Prop) (E : Value → Shared → Prop), C i j → Q (.int (g i j) s.toks) { s with toks := s.toks + 1 } → wpAny (model X.prog X.w) X.A (f (.int i t) (.int j u)) Q E s) :
    OpR X f (rI C fun i j => .int (g i j)) := by
  intro pins s σ H x y v u Q I rx ry h
  obtain ⟨i, j, rfl, rfl, hc, q⟩ := h
  obtain ⟨t, rfl⟩ := rx
  obtain ⟨t', rfl⟩ := ry
  exact rule i j t t' s _ _ hc ⟨.int (g i j), H, I.tok _, ⟨_, rfl⟩, q⟩
theorem opI0 {f : Value → Value → Sem Value} {g : Int → Int → Int}
    (rule : ∀ (i j : Int) (t u : Tok) (s : Shared) (Q : Value → Shared → Prop) (E : Value → Shared → Prop), Q (.int (g i j) s.toks) { s with toks := s.toks + 1 } → wpAny (model X.prog X.w) X.A (f (.int i t) (.int j u)) Q E s) :
    OpR X f (rI0 fun i j => .int (g i j)) := by
  intro pins s σ H x y v u Q I rx ry h
  obtain ⟨i, j, rfl, rfl, q⟩ := h
  obtain ⟨t, rfl⟩ := rx
  obtain ⟨t', rfl⟩ := ry
  exact rule i j t t' s _ _ ⟨.int (g i j), H, I.tok _, ⟨_, rfl⟩, q⟩
theorem opB0 {f : Value → Value → Sem Value} {g : Int → Int → Bool}
    (rule : ∀ (i j : Int) (t u : Tok) (s : Shared) (Q : Value → Shared → Prop) (E : Value → Shared → Prop), Q (.bool (g i j)) s → wpAny (model X.prog X.w) X.A (f (.int i t) (.int j u)) Q E s) :
    OpR X f (rI0 fun i j => .bl (g i j)) := by
  intro pins s σ H x y v u Q I rx ry h
  obtain ⟨i, j, rfl, rfl, q⟩ := h
  obtain ⟨t, rfl⟩ := rx
  obtain ⟨t', rfl⟩ := ry
  exact rule i j t t' s _ _ ⟨.bl (g i j), H, I, rfl, q⟩

def CDiv (i j : Int) : Prop := 0 < j ∧ j < 1073741824
def CMul (i j : Int) : Prop := (-(2 ^ 64) < i ∧ i < 2 ^ 64) ∨ (-(2 ^ 64) < j ∧ j < 2 ^ 64)
theorem CMul.ok {i j : Int} (h : CMul i j) : IntMulOk i j := by
  rcases h with ⟨h1, h2⟩ | ⟨h1, h2⟩
  · exact .of_left (intBits_le_64 h1 h2)
  · exact .of_right (intBits_le_64 h1 h2)
theorem op_add : OpR X (binaryOp .Add) (rI0 fun i j => .int (i + j)) := opI0 fun _ _ _ _ _ _ _ q => add_int q
theorem op_sub : OpR X (binaryOp .Sub) (rI0 fun i j => .int (i - j)) := opI0 fun _ _ _ _ _ _ _ q => sub_int q
theorem op_mul : OpR X (binaryOp .Mult) (rI CMul fun i j => .int (i * j)) := opI fun _ _ _ _ _ _ _ hc q => mul_int q hc.ok

theorem op_fdiv : OpR X (binaryOp .FloorDiv) (rI CDiv fun i j => .int (i / j)) := opI fun i j _ _ _ _ _ hc q => by
  have h1 : (0 : Int) < j := hc.1
  have h2 : j < 1073741824 := hc.2
  exact floordiv_int (by omega) (by rw [Int.fdiv_eq_ediv_of_nonneg i (by omega)]; exact q) (.inl (PyProof.noPylong_small (by omega)))
theorem op_mod : OpR X (binaryOp .Mod) (rI (fun _ j => 0 < j) fun i j => .int (i % j)) := opI fun i j _ _ _ _ _ hc q => by
  have h1 : (0 : Int) < j := hc
  exact mod_int' (by omega) (by rw [Int.fmod_eq_emod_of_nonneg i (by omega)]; exact q)
theorem unI {f : Value → Sem Value} {g : Int → Int}
    (rule : ∀ (i : Int) (t : Tok) (s : Shared) (Q : Value → Shared → Prop) (E : Value → Shared → Prop), Q (.int (g i) s.toks) { s with toks := s.toks + 1 } → wpAny (model X.prog X.w) X.A (f (.int i t)) Q E s) :
    UnR X f (rU fun i => .int (g i)) := by
  intro pins s σ H x v Q I rx h
  obtain ⟨i, rfl, q⟩ := h
  obtain ⟨t, rfl⟩ := rx
  exact rule i t s _ _ ⟨.int (g i), H, I.tok _, ⟨_, rfl⟩, q⟩
theorem un_neg : UnR X (unaryOp .USub) (rU fun i => .int (-i)) := unI fun _ _ _ _ _ q => neg_int q
end



def scal : V → V → Bool
  | .non, .non => true | .non, .int _ => true | .int _, .non => true | .non, .bl _ => true | .bl _, .non => true | .non, .str _ => true | .str _, .non => true
  | .int _, .int _ => true | .bl _, .bl _ => true | .str _, .str _ => true | .byt _, .byt _ => true
  | .int _, .str _ => true | .str _, .int _ => true | .bl _, .str _ => true | .str _, .bl _ => true
  | _, _ => false
def rEq : R2 := fun x y H Q => scal x y = true ∧ Q (.bl (decide (x = y))) H
def rNe : R2 := fun x y H Q => scal x y = true ∧ Q (.bl (!decide (x = y))) H

theorem dec_int {i j : Int} : decide (V.int i = V.int j) = (i == j) := by
  rw [Bool.eq_iff_iff]
  simp
theorem dec_bl {i j : Bool} : decide (V.bl i = V.bl j) = (i == j) := by
  rw [Bool.eq_iff_iff]
  simp
theorem dec_str {i j : Str} : decide (V.str i = V.str j) = (i == j) := by
  rw [Bool.eq_iff_iff]
  simp
theorem dec_byt {i j : Array UInt8} : decide (V.byt i = V.byt j) = (i.toList == j.toList) := by
  rw [Bool.eq_iff_iff]
  cases i
  cases j
  simp

section
variable {X : Cx} {a b c : Expr} {ta tb tc : TE} {pos : Pos}
theorem fin_bl {pins : List (Addr × Obj)} {σ : St} {H : Hp} {s : Shared} {Q : VK} {k k' : Bool} (I : Inv X pins σ H s) (q : Q (.bl k) H) (e : k = k') : EP X pins σ Q (.bool k') s := by
  subst e
  exact ⟨.bl k, H, I, rfl, q⟩
theorem op_eq : OpR X (compareOp .Eq) rEq := by
  intro pins s σ H x y v u Q I rx ry h
  obtain ⟨hs, q⟩ := h
  cases x with
  | non =>
    cases rx
    cases y with
    | non => cases ry; exact PySem.EqNone.eq_none_none (fin_bl I q (by simp))
    | bl j => cases ry; exact PySem.EqNone.eq_none_bool (fin_bl I q (by simp))
    | int j => obtain ⟨t', rfl⟩ := ry; exact PySem.EqNone.eq_none_int (fin_bl I q (by simp))
    | str j => obtain ⟨t', rfl⟩ := ry; exact PySem.EqNone.eq_none_str (fin_bl I q (by simp))
    | _ => exact absurd (show false = true from hs) Bool.false_ne_true
  | bl i =>
    cases rx
    cases y with
    | non => cases ry; exact PySem.EqNone.eq_bool_none (fin_bl I q (by simp))
    | bl j => cases ry; exact eq_bool (fin_bl I q dec_bl)
    | str j => obtain ⟨t', rfl⟩ := ry; exact PySem.EqMixed.eq_bool_str (fin_bl I q (by simp))
    | _ => exact absurd (show false = true from hs) Bool.false_ne_true
  | int i =>
    obtain ⟨t, rfl⟩ := rx
    cases y with
    | non => cases ry; exact PySem.EqNone.eq_int_none (fin_bl I q (by simp))
    | int j => obtain ⟨t', rfl⟩ := ry; exact eq_int (fin_bl I q dec_int)
    | str j => obtain ⟨t', rfl⟩ := ry; exact PySem.EqMixed.eq_int_str (fin_bl I q (by simp))
    | _ => exact absurd (show false = true from hs) Bool.false_ne_true
  | str i =>
    obtain ⟨t, rfl⟩ := rx
    cases y with
    | non => cases ry; exact PySem.EqNone.eq_str_none (fin_bl I q (by simp))
    | bl j => cases ry; exact PySem.EqMixed.eq_str_bool (fin_bl I q (by simp))
    | int j => obtain ⟨t', rfl⟩ := ry; exact PySem.EqMixed.eq_str_int (fin_bl I q (by simp))
    | str j => obtain ⟨t', rfl⟩ := ry; exact eq_str (fin_bl I q dec_str)
    | _ => exact absurd (show false = true from hs) Bool.false_ne_true
  | byt i =>
    obtain ⟨t, rfl⟩ := rx
    cases y with
    | byt j => obtain ⟨t', rfl⟩ := ry; exact PySem.W.eq_bytes (fin_bl I q dec_byt)
    | _ => exact absurd (show false = true from hs) Bool.false_ne_true
  | _ => cases y <;> exact absurd (show false = true from hs) Bool.false_ne_true
theorem op_ne : OpR X (compareOp .NotEq) rNe := by
  intro pins s σ H x y v u Q I rx ry h
  obtain ⟨hs, q⟩ := h
  cases x with
  | non =>
    cases rx
    cases y with
    | non => cases ry; exact PySem.EqNone.ne_none_none (fin_bl I q (by simp))
    | bl j => cases ry; exact PySem.EqNone.ne_none_bool (fin_bl I q (by simp))
    | int j => obtain ⟨t', rfl⟩ := ry; exact PySem.EqNone.ne_none_int (fin_bl I q (by simp))
    | str j => obtain ⟨t', rfl⟩ := ry; exact PySem.EqNone.ne_none_str (fin_bl I q (by simp))
    | _ => exact absurd (show false = true from hs) Bool.false_ne_true
  | bl i =>
    cases rx
    cases y with
    | non => cases ry; exact PySem.EqNone.ne_bool_none (fin_bl I q (by simp))
    | bl j => cases ry; exact ne_bool (fin_bl I q (congrArg not dec_bl))
    | str j => obtain ⟨t', rfl⟩ := ry; exact PySem.EqMixed.ne_bool_str (fin_bl I q (by simp))
    | _ => exact absurd (show false = true from hs) Bool.false_ne_true
  | int i =>
    obtain ⟨t, rfl⟩ := rx
    cases y with
    | non => cases ry; exact PySem.EqNone.ne_int_none (fin_bl I q (by simp))
    | int j => obtain ⟨t', rfl⟩ := ry; exact ne_int (fin_bl I q (congrArg not dec_int))
    | str j => obtain ⟨t', rfl⟩ := ry; exact PySem.EqMixed.ne_int_str (fin_bl I q (by simp))
    | _ => exact absurd (show false = true from hs) Bool.false_ne_true
  | str i =>
    obtain ⟨t, rfl⟩ := rx
    cases y with
    | non => cases ry; exact PySem.EqNone.ne_str_none (fin_bl I q (by simp))
    | bl j => cases ry; exact PySem.EqMixed.ne_str_bool (fin_bl I q (by simp))
    | int j => obtain ⟨t', rfl⟩ := ry; exact PySem.EqMixed.ne_str_int (fin_bl I q (by simp))
    | str j => obtain ⟨t', rfl⟩ := ry; exact ne_str (fin_bl I q (congrArg not dec_str))
    | _ => exact absurd (show false = true from hs) Bool.false_ne_true
  | byt i =>
    obtain ⟨t, rfl⟩ := rx
    cases y with
    | byt j => obtain ⟨t', rfl⟩ := ry; exact PySem.W.ne_bytes (fin_bl I q (congrArg not dec_byt))
    | _ => exact absurd (show false = true from hs) Bool.false_ne_true
  | _ => cases y <;> exact absurd (show false = true from hs) Bool.false_ne_true

theorem op_lt : OpR X (compareOp .Lt) (rI0 fun i j => .bl (decide (i < j))) := opB0 fun _ _ _ _ _ _ _ q => lt_int q
theorem op_le : OpR X (compareOp .LtE) (rI0 fun i j => .bl (decide (i ≤ j))) := opB0 fun _ _ _ _ _ _ _ q => le_int q
theorem op_gt : OpR X (compareOp .Gt) (rI0 fun i j => .bl (decide (j < i))) := opB0 fun _ _ _ _ _ _ _ q => gt_int q
theorem op_ge : OpR X (compareOp .GtE) (rI0 fun i j => .bl (decide (j ≤ i))) := opB0 fun _ _ _ _ _ _ _ q => ge_int q
theorem nomark (b : Expr) {op : CmpOp} (h : op ≠ .In := by decide) (h2 : op ≠ .NotIn := by decide) : behindInMarks op b = false := by
  have e1 : (op == CmpOp.In) = false := by cases op <;> first | rfl | exact absurd rfl h
  have e2 : (op == CmpOp.NotIn) = false := by cases op <;> first | rfl | exact absurd rfl h2
  cases b <;> simp [behindInMarks, e1, e2]

theorem pe_cmpR {op : CmpOp} {r : R2} (ho : OpR X (compareOp op) r) (ha : PE X a ta) (hb : PE X b tb) (hm : behindInMarks op b = false) : PE X (.Compare a [op] [b] pos) (tOp r ta tb) := by
  intro pins s σ H Q I h
  exact wpAny_Compare1 (binT ha hb I h fun v u s2 x y H2 I2 rx ry q => ho pins s2 σ H2 x y v u Q I2 rx ry q) hm

def tTest (t : TE) : TT := fun σ H Q => t σ H fun x H' => ∃ k, x = .bl k ∧ Q k H'
theorem pt_cmpR {op : CmpOp} {r : R2} (ho : OpR X (compareOp op) r) (ha : PE X a ta) (hb : PE X b tb) (hm : behindInMarks op b = false) : PT X (.Compare a [op] [b] pos) (tTest (tOp r ta tb)) := by
  intro pins s σ H Q I h
  refine wpAny_isTrue_Compare1 (thn (ha pins s σ H _ I h) fun v s1 ⟨x, H1, I1, r1, q1⟩ => thn (hb pins s1 σ H1 _ I1 q1) fun u s2 ⟨y, H2, I2, r2, q2⟩ =>
    thn (ho pins s2 σ H2 x y v u _ I2 r1 r2 q2) fun c s3 ⟨z, H3, I3, r3, k, e, q3⟩ => ?_) hm
  subst e
  cases r3
  exact wpAny_truthy_bool ⟨H3, I3, q3⟩

def tChain (r r' : R2) (ta tb tc : TE) : TE := fun σ H Q => ta σ H fun x H1 => tb σ H1 fun y H2 => r x y H2 fun z H3 => ∃ k, z = .bl k ∧
  (if k = true then tc σ H3 fun w' H4 => r' y w' H4 Q else Q (.bl false) H3)
theorem pe_chain {op op' : CmpOp} {r r' : R2} (ho : OpR X (compareOp op) r) (ho' : OpR X (compareOp op') r') (ha : PE X a ta) (hb : PE X b tb) (hc : PE X c tc)
    (hm : lastMarks [op, op'] [b, c] = false := by with_unfolding_all rfl) : PE X (.Compare a [op, op'] [b, c] pos) (tChain r r' ta tb tc) := by
  intro pins s σ H Q I h
  refine Compare_chain (thn (ha pins s σ H _ I h) fun v s1 ⟨x, H1, I1, r1, q1⟩ => chain_link (thn (hb pins s1 σ H1 _ I1 q1) fun u s2 ⟨y, H2, I2, r2, q2⟩ =>
    thn (ho pins s2 σ H2 x y v u _ I2 r1 r2 q2) fun d s3 ⟨z, H3, I3, r3, k, e, q3⟩ => ?_)) hm
  subst e
  cases r3
  refine wpAny_truthy_bool ?_
  cases k with
  | false => exact ite_ff ⟨.bl false, H3, I3, rfl, q3⟩
  | true => exact ite_tt (chain_last (thn (hc pins s3 σ H3 _ I3 q3) fun w' s4 ⟨z', H4, I4, r4, q4⟩ => ho' pins s4 σ H4 y z' u w' Q I4 r2 r4 q4))
theorem pt_chain {op op' : CmpOp} {r r' : R2} (ho : OpR X (compareOp op) r) (ho' : OpR X (compareOp op') r') (ha : PE X a ta) (hb : PE X b tb) (hc : PE X c tc)
    (hm : lastMarks [op, op'] [b, c] = false := by with_unfolding_all rfl) : PT X (.Compare a [op, op'] [b, c] pos) (tTest (tChain r r' ta tb tc)) := by
  intro pins s σ H Q I h
  refine isTrue_chain (thn (ha pins s σ H _ I h) fun v s1 ⟨x, H1, I1, r1, q1⟩ => test_link (thn (hb pins s1 σ H1 _ I1 q1) fun u s2 ⟨y, H2, I2, r2, q2⟩ =>
    thn (ho pins s2 σ H2 x y v u _ I2 r1 r2 q2) fun d s3 ⟨z, H3, I3, r3, k, e, q3⟩ => ?_)) hm
  subst e
  cases r3
  refine wpAny_truthy_bool ?_
  cases k with
  | false =>
    obtain ⟨k', e', q'⟩ := q3
    cases e'
    exact ite_ff ⟨H3, I3, q'⟩
  | true =>
    refine ite_tt (test_last (thn (hc pins s3 σ H3 _ I3 q3) fun w' s4 ⟨z', H4, I4, r4, q4⟩ => thn (ho' pins s4 σ H4 y z' u w' _ I4 r2 r4 q4) fun d' s5 ⟨z2, H5, I5, r5, k2, e2, q5⟩ => ?_))
    subst e2
    cases r5
    exact wpAny_truthy_bool ⟨H5, I5, q5⟩



theorem line63 : (sizeLine : Nat) < 2 ^ 63 := by rw [sizeLine_eq]; decide
theorem op_add_str : OpR X (binaryOp .Add) (fun x y H Q => ∃ i j, x = .str i ∧ y = .str j ∧ i.length + j.length ≤ sizeLine ∧ Q (.str (i ++ j)) H) := by
  intro pins s σ H x y v u Q I rx ry h
  obtain ⟨i, j, rfl, rfl, hz, q⟩ := h
  obtain ⟨t, rfl⟩ := rx
  obtain ⟨t', rfl⟩ := ry
  exact add_str (fun t' tk => ⟨.str (i ++ j), H, I.tok _, ⟨_, rfl⟩, q⟩) hz
theorem vals1 {x : V} {us : List Value} (r : Vals [x] us) : ∃ u, us = [u] ∧ RelV x u := by
  cases r with
  | cons r1 r2 => cases r2; exact ⟨_, rfl, r1⟩
theorem vals2 {x y : V} {us : List Value} (r : Vals [x, y] us) : ∃ u w', us = [u, w'] ∧ RelV x u ∧ RelV y w' := by
  cases r with
  | cons r1 r2 =>
    cases r2 with
    | cons r3 r4 => cases r4; exact ⟨_, _, rfl, r1, r3⟩
theorem call_max2 (hc : X.calm = true) : CallR X (.builtin "max") (fun xs H Q => ∃ i j, xs = [.int i, .int j] ∧ Q (.int (if j > i then j else i)) H) := by
  intro pins s σ H xs us Q I r h
  obtain ⟨i, j, rfl, q⟩ := h
  obtain ⟨u, w', rfl, ⟨t, rfl⟩, ⟨t', rfl⟩⟩ := vals2 r
  refine max_two_ints (I.ok.hd hc) fun h' tk k => ⟨_, H, I.kept k, ?_, q⟩
  by_cases hj : j > i
  · rw [if_pos hj, if_pos hj]; exact ⟨_, rfl⟩
  · rw [if_neg hj, if_neg hj]; exact ⟨_, rfl⟩
theorem call_min2 (hc : X.calm = true) : CallR X (.builtin "min") (fun xs H Q => ∃ i j, xs = [.int i, .int j] ∧ Q (.int (if j < i then j else i)) H) := by
  intro pins s σ H xs us Q I r h
  obtain ⟨i, j, rfl, q⟩ := h
  obtain ⟨u, w', rfl, ⟨t, rfl⟩, ⟨t', rfl⟩⟩ := vals2 r
  refine min_two_ints (I.ok.hd hc) fun h' tk k => ⟨_, H, I.kept k, ?_, q⟩
  by_cases hj : j < i
  · rw [if_pos hj, if_pos hj]; exact ⟨_, rfl⟩
  · rw [if_neg hj, if_neg hj]; exact ⟨_, rfl⟩
theorem call_str_int : CallR X (.type "str") (fun xs H Q => ∃ i, xs = [.int i] ∧ i.natAbs.log2 < 1920 ∧ Q (.str (toString i)) H) := by
  intro pins s σ H xs us Q I r h
  obtain ⟨i, rfl, hz, q⟩ := h
  obtain ⟨u, rfl, t, rfl⟩ := vals1 r
  exact PySem.P.str_of_int hz ⟨.str _, H, I.tok _, ⟨_, rfl⟩, q⟩
end
end L2

namespace L2
open PySem PySem.Spec PyProof.Rows


structure ObjM (h : Heap) (x dx C : Addr) (mA : Str → Option Value) : Prop where
  obj : h.get? x = some (PySem.W.instObj C dx)
  ns : h.Ns1 dx mA
  ne : dx ≠ x

theorem lookIn_ns {h : Heap} {dx : Addr} {mA : Str → Option Value} (n : h.Ns1 dx mA) : ∃ od, h.get? dx = some od ∧ ∀ name, PySem.W.lookIn name od = some (mA name) := by
  obtain ⟨o, es, ep, ho, hd, hk, _, hm⟩ := n
  refine ⟨o, ho, fun name => ?_⟩
  have e := hm name
  unfold nsFind findBy at e
  rw [← Array.find?_toList] at e
  unfold PySem.W.lookIn
  rw [hd]
  dsimp only
  split
  · rename_i y q
    rw [q] at e
    exact congrArg some e
  · rename_i q
    rw [q] at e
    have a : es.toList.any (·.refKey) = false := by
      rw [List.any_eq_false]
      intro y hy
      obtain ⟨z, t, hkey⟩ := hk y (Array.mem_toList_iff.mp hy)
      simp [DictEntry.refKey, hkey]
    have a' : ¬ es.toList.any (·.refKey) = true := by rw [a]; exact Bool.false_ne_true
    rw [if_neg a']
    exact congrArg some e

theorem ObjM.look {h : Heap} {x dx C : Addr} {mA : Str → Option Value} (I : ObjM h x dx C mA) : ∃ od, PySem.W.InstAt h x (PySem.W.instObj C dx) C (some od) ∧ ∀ name, PySem.W.lookIn name od = some (mA name) :=
  let ⟨od, ho, hl⟩ := lookIn_ns I.ns
  ⟨od, ⟨I.obj, rfl, rfl, ho⟩, hl⟩

section
variable {prog : Program} {w : World} {A : Around} {E : Value → Shared → Prop} {s : Shared} {K : PySem.W.Frag} {x dx C f : Addr} {mA : Str → Option Value} {name : Str} {v : Value}

theorem get_map {expr : Bool} {Q : Value → Shared → Prop} (X : K.In s.heap) (I : ObjM s.heap x dx C mA) (hg : PySem.W.plainGet K C name = true) (hh : PySem.W.hasDictIn K C = true)
    (ha : PySem.W.findIn K (.ref C) name = some none) (hv : mA name = some v) (hv' : PySem.W.handedIn v = true) (h : Q v { s with toks := s.toks + 1 }) :
    wpAny (model prog w) A (getAttr (.ref x) name expr) Q E s := by
  obtain ⟨od, J, hl⟩ := I.look
  exact PySem.W.get_value X J (PySem.W.plainGet_of hg).1 (PySem.W.findObj_own hh ha rfl (by rw [hl, hv])) hv' h

theorem get_meth {pl : Sem Bool} {Q : Value × List Value → Shared → Prop} (X : K.In s.heap) (I : ObjM s.heap x dx C mA) (hg : PySem.W.plainGet K C name = true)
    (hf : PySem.W.findIn K (.ref C) name = some (some (.ref f))) (ht : PySem.W.isFn K (.ref f) = true) (hv : mA name = none) (h : Q (.ref f, [.ref x]) s) :
    wpAny (model prog w) A (getMethod (.ref x) name pl) Q E s := by
  obtain ⟨od, J, hl⟩ := I.look
  exact PySem.W.method_fn X J (PySem.W.plainGet_of hg).1 (PySem.W.plainGet_of hg).2 hf (beq_iff_eq.mp ht) (by show (PySem.W.lookIn name od).map (·.isSome) = some false; rw [hl, hv]; rfl) h

theorem set_map {ns : List Str} {Q : Unit → Shared → Prop} (X : K.In s.heap) (I : ObjM s.heap x dx C mA)
    (hs : PySem.W.findIn K (.ref C) "__setattr__" = some (some (.builtin "object.__setattr__"))) (hp : PySem.W.plainOver K C = true) (ht : PySem.W.takerIn K C name = some none) (hh : PySem.W.hasDictIn K C = true)
    (hw : PySem.Within mA ns) (hsz : ns.length ≤ sizeLine)
    (h : ∀ h', ObjM h' x dx C (fun y => if y = name then some v else mA y) → Heap.SameBut dx s.heap h' → Q () { s with heap := h', toks := s.toks + 2 }) :
    wpAny (model prog w) A (setAttr (.ref x) name v) Q E s := by
  obtain ⟨od, J, hl⟩ := I.look
  refine PySem.W.set_plain X J hs (PySem.W.osa_open (s := { s with toks := s.toks + 1 }) (r := none) X J hp ht fun b => ?_)
  obtain ⟨cd, hc, hd'⟩ := PySem.W.any_some hh
  have hx : s.heap.get? x = some ⟨.ref C, some dx, .plain, #[]⟩ := I.obj
  refine wpAny_bind (wpAny_pure (wpAny_bind (wpAny_bind (wpAny_loadPart hx (wpAny_bind (PySem.W.Looks.here (s := { s with toks := s.toks + 1 }) (PySem.W.looks_clsIn X hc) ?_))))))
  rw [hd']
  refine wpAny_pure (a := some dx) (wpAny_bind (wpAny_pure (wpAny_bind ?_)))
  refine wpAny_nsSet1 (s := { s with toks := s.toks + 1 }) I.ns fun h' hn2 hs2 => ?_
  obtain ⟨oD, esD, epD, hoD, hdD, hcD⟩ := hn2.count (PySem.Within.cons name v hw)
  refine wpAny_bind (wpAny_lookBehind hoD (by rw [hdD]; exact pastItsLine_dict (Nat.le_trans hcD (by rw [List.length_cons]; omega))) ?_)
  exact wpAny_pure (h _ ⟨(hs2.2 _ (Ne.symm I.ne)).trans I.obj, hn2, I.ne⟩ hs2)


theorem make_map {R : Result → Shared → Prop} {vs : List Value} {kw : List (Str × Value)} (X : K.In s.heap) (hm : PySem.W.makesIn K C = true)
    (hi : PySem.W.findIn K (.ref C) "__init__" = some (some (.ref f))) (hf : PySem.W.typeIn K (.ref f) = some (.type "function"))
    (h : codeAny (model prog w) (A.under (.builtin "type.__call__" ⟨.ref C :: vs, kw⟩)) (.call (.ref f) ⟨.ref (s.heap.objs.size + 1) :: vs, kw⟩) (PySem.W.InitBack (s.heap.objs.size + 1) R)
      { s with heap := (s.heap.push PySem.W.emptyDict).push (PySem.W.instObj C s.heap.objs.size) }) :
    codeAny (model prog w) A (.call (.ref C) ⟨vs, kw⟩) R s := by
  obtain ⟨hh, g, d, t, os⟩ := s
  exact PySem.W.make_core (PySem.W.makes_of X hm) (PySem.W.looks_findIn X hi) (fun self => PySem.W.bind_fn X self hf) (.inl rfl) h

end


def putF (f : Str) (v : V) : List (Str × V) → List (Str × V)
  | [] => [(f, v)]
  | (g, x) :: r => if g = f then (g, v) :: r else (g, x) :: putF f v r
theorem lookup_putF (f g : Str) (v : V) : ∀ fs : List (Str × V), (putF f v fs).lookup g = if g = f then some v else fs.lookup g
  | [] => by
    show List.lookup g [(f, v)] = _
    by_cases h : g = f
    · have hb : (g == f) = true := beq_iff_eq.mpr h
      simp only [List.lookup, hb, if_pos h]
    · have hb : (g == f) = false := beq_eq_false_iff_ne.mpr h
      simp only [List.lookup, hb, if_neg h]
  | (k, x) :: r => by
    have ih := lookup_putF f g v r
    rw [show putF f v ((k, x) :: r) = (if k = f then (k, v) :: r else (k, x) :: putF f v r) from rfl]
    by_cases hk : k = f
    · rw [if_pos hk]
      by_cases h : g = k
      · have hb : (g == k) = true := beq_iff_eq.mpr h
        simp only [List.lookup, hb, if_pos (h.trans hk)]
      · have hb : (g == k) = false := beq_eq_false_iff_ne.mpr h
        simp only [List.lookup, hb, if_neg (fun e : g = f => h (e.trans hk.symm))]
    · rw [if_neg hk]
      by_cases h : g = k
      · have hb : (g == k) = true := beq_iff_eq.mpr h
        simp only [List.lookup, hb, if_neg (fun e : g = f => hk (h.symm.trans e))]
      · have hb : (g == k) = false := beq_eq_false_iff_ne.mpr h
        simp only [List.lookup, hb]
        exact ih
theorem keys_putF (f : Str) (v : V) : ∀ fs : List (Str × V), f ∈ (putF f v fs).map (·.1) ∧ ∀ g, g ∈ fs.map (·.1) → g ∈ (putF f v fs).map (·.1)
  | [] => ⟨by simp [putF], fun g h => by simp at h⟩
  | (k, x) :: r => by
    obtain ⟨i1, i2⟩ := keys_putF f v r
    rw [show putF f v ((k, x) :: r) = (if k = f then (k, v) :: r else (k, x) :: putF f v r) from rfl]
    by_cases hk : k = f
    · rw [if_pos hk]
      subst hk
      exact ⟨by simp, fun g h => by simpa using h⟩
    · rw [if_neg hk]
      refine ⟨?_, fun g h => ?_⟩
      · rw [List.map_cons]
        exact List.mem_cons_of_mem _ i1
      · rw [List.map_cons] at h ⊢
        rcases List.mem_cons.mp h with e | e
        · exact List.mem_cons.mpr (.inl e)
        · exact List.mem_cons_of_mem _ (i2 g e)
theorem length_putF (f : Str) (v : V) : ∀ fs : List (Str × V), (putF f v fs).length ≤ fs.length + 1
  | [] => by simp [putF]
  | (k, x) :: r => by
    have ih := length_putF f v r
    rw [show putF f v ((k, x) :: r) = (if k = f then (k, v) :: r else (k, x) :: putF f v r) from rfl]
    by_cases hk : k = f
    · rw [if_pos hk, List.length_cons, List.length_cons]; omega
    · rw [if_neg hk, List.length_cons, List.length_cons]; omega

theorem RelO.some_of {v : V} {o : Option Value} (r : RelO (some v) o) : ∃ u, o = some u ∧ RelV v u := by
  cases o with
  | none => exact (show False from r).elim
  | some u => exact ⟨u, rfl, r⟩
theorem RelO.none_of {o : Option Value} (r : RelO none o) : o = none := by
  cases o with
  | none => rfl
  | some u => exact (show False from r).elim
theorem handed_of {v : V} {u : Value} (r : RelV v u) : PySem.W.handedIn u = true := by
  cases v with
  | non => cases (show u = Value.none from r); rfl
  | bl b => cases (show u = Value.bool b from r); rfl
  | int i => obtain ⟨t, e⟩ := (show ∃ t, u = Value.int i t from r); cases e; rfl
  | str x => obtain ⟨t, e⟩ := (show ∃ t, u = Value.str x t from r); cases e; rfl
  | byt b => obtain ⟨t, e⟩ := (show ∃ t, u = Value.bytes b t from r); cases e; rfl
  | flt b => obtain ⟨t, e⟩ := (show ∃ t, u = Value.float b t from r); cases e; rfl
  | ref a => cases (show u = Value.ref a from r); rfl
  | ty n => cases (show u = Value.type n from r); rfl

section
variable {P : Program} {w : World} {H H' : Hp} {h h' : Heap} {a C dx : Addr} {fs fs' : List (Str × V)}
theorem ins_get (hok : HOk P w H h) (e : H a = some (.ins C dx fs)) : ∃ mA, ObjM h a dx C mA ∧ (∀ f, RelO (fs.lookup f) (mA f)) ∧ PySem.Within mA (fs.map (·.1)) ∧ fs.length ≤ 1000 ∧ H dx = some (.own a) := by
  obtain ⟨d, z, ne, ob, mA, n, r, q⟩ := (show ObjOk P w H h a (.ins C dx fs) from hok a _ e)
  exact ⟨mA, ⟨ob, n, ne⟩, r, q, z, d⟩
end


structure Cls (K : PySem.W.Frag) (C : Addr) : Prop where
  pg : PySem.W.plainGet K C Str.empty = true
  hd : PySem.W.hasDictIn K C = true
  po : PySem.W.plainOver K C = true
  sa : PySem.W.findIn K (.ref C) "__setattr__" = some (some (.builtin "object.__setattr__"))
theorem Cls.get {K : PySem.W.Frag} {C : Addr} (c : Cls K C) (f : Str) : PySem.W.plainGet K C f = true := c.pg

def NoAttr (K : PySem.W.Frag) (C : Addr) (f : Str) : Prop := PySem.W.findIn K (.ref C) f = some none
theorem NoAttr.taker {K : PySem.W.Frag} {C : Addr} {f : Str} (n : NoAttr K C f) : PySem.W.takerIn K C f = some none := by
  unfold PySem.W.takerIn
  rw [show PySem.W.findIn K (.ref C) f = some none from n]
  rfl

structure Con (K : PySem.W.Frag) (C : Addr) (f : Str) (v : V) (u : Value) : Prop where
  at_ : PySem.W.findIn K (.ref C) f = some (some u)
  rel : RelV v u
  get : PySem.W.specialIn K u "__get__" = some none
  cp : PySem.W.copiedNames.contains f = false

structure Meth (K : PySem.W.Frag) (C : Addr) (m : Str) (f : Addr) : Prop where
  at_ : PySem.W.findIn K (.ref C) m = some (some (.ref f))
  fn : PySem.W.isFn K (.ref f) = true
  kp : PySem.W.keepIn K (.ref f) = true

section
variable {X : Cx} {pins : List (Addr × Obj)} {σ : St} {H : Hp} {s : Shared} {a C dx : Addr} {fs : List (Str × V)} {f : Str} {v : V} {A : Around} {E : Value → Shared → Prop}

theorem getattr_ok {b : Bool} {Q : Value → Shared → Prop} (I : Inv X pins σ H s) (e : H a = some (.ins C dx fs)) (c : Cls X.K C) (n : NoAttr X.K C f) (l : fs.lookup f = some v)
    (h : ∀ u s', Inv X pins σ H s' → RelV v u → Q u s') : wpAny (model X.prog X.w) A (getAttr (.ref a) f b) Q E s := by
  obtain ⟨mA, O, r, _, _, _⟩ := ins_get I.hok e
  obtain ⟨u, hu, ru⟩ := RelO.some_of (v := v) (o := mA f) (by rw [← l]; exact r f)
  exact get_map I.kIn O (c.get f) c.hd n hu (handed_of ru) (h u _ (I.tok _) ru)

theorem getmeth_ok {m : Str} {g : Addr} {pl : Sem Bool} {Q : Value × List Value → Shared → Prop} (I : Inv X pins σ H s) (e : H a = some (.ins C dx fs)) (c : Cls X.K C) (k : Meth X.K C m g) (l : fs.lookup m = none)
    (h : Q (.ref g, [.ref a]) s) : wpAny (model X.prog X.w) A (getMethod (.ref a) m pl) Q E s := by
  obtain ⟨mA, O, r, _, _, _⟩ := ins_get I.hok e
  have hn : mA m = none := RelO.none_of (by rw [← l]; exact r m)
  exact get_meth I.kIn O (c.get m) k.at_ k.fn hn h

theorem setattr_ok {y : V} {u : Value} {Q : Unit → Shared → Prop} (I : Inv X pins σ H s) (e : H a = some (.ins C dx fs)) (c : Cls X.K C) (n : NoAttr X.K C f) (hl : fs.length < 1000) (ry : RelV y u)
    (h : ∀ s', Inv X pins σ (upd H a (.ins C dx (putF f y fs))) s' → Q () s') : wpAny (model X.prog X.w) A (setAttr (.ref a) f u) Q E s := by
  obtain ⟨mA, O, r, wi, _, ho⟩ := ins_get I.hok e
  have hz : (fs.map (·.1)).length ≤ sizeLine := by rw [List.length_map, sizeLine_eq]; omega
  refine set_map I.kIn O c.sa c.po n.taker c.hd wi hz fun h' O' sb => h _ ?_
  have hd : ∃ o, h'.get? dx = some o := let ⟨o, _, _, e', _⟩ := O'.ns; ⟨o, e'⟩
  refine I.write (x := a) (e := dx) (by rw [e]; exact True.intro) (.inr ho) (fun b q hb z => (sb.2 b hb).trans z) hd ?_
  refine ⟨by rw [upd_ne O.ne]; exact ho, ?_, O.ne, O'.obj, _, O'.ns, fun g => ?_, fun g hg => ?_⟩
  · have := length_putF f y fs; omega
  · show RelO ((putF f y fs).lookup g) (if g = f then some u else mA g)
    rw [lookup_putF]
    by_cases q : g = f
    · rw [if_pos q, if_pos q]; exact ry
    · rw [if_neg q, if_neg q]; exact r g
  · by_cases q : g = f
    · rw [q]; exact (keys_putF f y fs).1
    · refine (keys_putF f y fs).2 g (wi g fun z => hg ?_)
      show (if g = f then some u else mA g) = none
      rw [if_neg q]; exact z


theorem Inv.made (I : Inv X pins σ H s) : Inv X pins σ (upd (upd H s.heap.objs.size (.own (s.heap.objs.size + 1))) (s.heap.objs.size + 1) (.ins C s.heap.objs.size []))
    { s with heap := (s.heap.push PySem.W.emptyDict).push (PySem.W.instObj C s.heap.objs.size) } := by
  have e1 : (s.heap.push PySem.W.emptyDict).get? s.heap.objs.size = some PySem.W.emptyDict := Heap.get?_push_size s.heap rfl
  have e2 : ((s.heap.push PySem.W.emptyDict).push (PySem.W.instObj C s.heap.objs.size)).get? (s.heap.objs.size + 1) = some (PySem.W.instObj C s.heap.objs.size) := by
    have := Heap.get?_push_size (s.heap.push PySem.W.emptyDict) (o := PySem.W.instObj C s.heap.objs.size) rfl
    rwa [Heap.size_push] at this
  have e3 : (s.heap.push PySem.W.emptyDict).Ns s.heap.objs.size (fun _ => none) := ⟨PySem.W.emptyDict, #[], _, e1, rfl, (fun e he => absurd he (by simp)), fun _ => rfl⟩
  have I1 := I.laid (a := s.heap.objs.size) (o := .own (s.heap.objs.size + 1)) (h' := s.heap.push PySem.W.emptyDict) (t' := s.toks) (fun b u q => Heap.get?_push_of_some _ q) (Nat.le_refl _) ⟨_, e1⟩
  refine I1.laid (a := s.heap.objs.size + 1) (o := .ins C s.heap.objs.size []) (t' := s.toks) (fun b u q => Heap.get?_push_of_some _ q) (Nat.le_of_eq (Heap.size_push _ _)) ?_
  have ne : s.heap.objs.size ≠ s.heap.objs.size + 1 := Nat.ne_of_lt (Nat.lt_succ_self _)
  refine ⟨by rw [upd_ne ne, upd_same], Nat.zero_le _, ne, e2, fun _ => none, (Heap.Ns1.of_empty e3).at fun o q => Heap.get?_push_of_some _ q, fun _ => True.intro, fun y hy => absurd rfl hy⟩


theorem attr_of {prog : Program} {w : World} {env : Env} {e : Expr} {f : Str} {pos : Pos} {s : Shared} {Q : Value → Shared → Prop} (hb : attributeBase e f env (eval e env) = eval e env)
    (h : wpAny (model prog w) A (eval e env) (fun o s₁ => wpAny (model prog w) A (getAttr o f true) Q E s₁) E s) : wpAny (model prog w) A (eval (.Attribute e f pos) env) Q E s :=
  Attribute_any_ h (by rw [arm_eval_Attribute, hb])
end



def tFld (K : PySem.W.Frag) (ta : TE) (f : Str) : TE := fun σ H Q => ta σ H fun x H1 => ∃ a C dx fs v, x = .ref a ∧ H1 a = some (.ins C dx fs) ∧ Cls K C ∧ NoAttr K C f ∧ fs.lookup f = some v ∧ Q v H1

def sFld (K : PySem.W.Frag) (ta tv : TE) (f : Str) : TS := fun D σ H => tv σ H fun y H1 => ta σ H1 fun x H2 => ∃ a C dx fs, x = .ref a ∧ H2 a = some (.ins C dx fs) ∧ Cls K C ∧ NoAttr K C f ∧ fs.length < 1000 ∧
  D.nx σ (upd H2 a (.ins C dx (putF f y fs)))

section
variable {X : Cx} {o e value : Expr} {f : Str} {pos pos' tpos : Pos} {ta tv : TE}
theorem pe_fld (he : PE X e ta) (hb : attributeBase e f X.env (eval e X.env) = eval e X.env) : PE X (.Attribute e f pos) (tFld X.K ta f) := by
  intro pins s σ H Q I h
  refine attr_of hb (thn (he pins s σ H _ I h) fun u s1 ⟨x, H1, I1, rx, a, C, dx, fs, v, ex, ea, c, n, l, q⟩ => ?_)
  subst ex
  obtain rfl : u = Value.ref a := rx
  exact getattr_ok I1 ea c n l fun u' s2 I2 ru => ⟨v, H1, I2, ru, q⟩
theorem ps_fld (ha : PE X o ta) (hv : PE X value tv) (hs : swapsWith value (some (.Attribute o f pos')) pos.line X.env = pure false) : PS X (.Assign [.Attribute o f pos'] value pos) (sFld X.K ta tv f) := by
  intro pins s σ H D I h
  refine plainObj_wpAny_Assign_Attribute (thn (hv pins s σ H _ I h) fun u s1 ⟨y, H1, I1, ry, q⟩ => thn (ha pins s1 σ H1 _ I1 q) fun ov s2 ⟨x, H2, I2, rx, a, C, dx, fs, ex, ea, c, n, l, q2⟩ => ?_) hs
  subst ex
  obtain rfl : ov = Value.ref a := rx
  exact setattr_ok I2 ea c n l ry fun s3 I3 => ⟨σ, _, I3, q2⟩
end


section
variable {X : Cx} {pins : List (Addr × Obj)} {σ : St} {H : Hp} {s : Shared} {A : Around} {E : Value → Shared → Prop} {Q : Value → Shared → Prop} {c : Value} {b : Bool}

inductive TyOf (K : PySem.W.Frag) (H : Hp) : V → Value → Prop where
  | non : TyOf K H .non (.type "NoneType")
  | bl (x : Bool) : TyOf K H (.bl x) (.type "bool")
  | int (i : Int) : TyOf K H (.int i) (.type "int")
  | str (x : Str) : TyOf K H (.str x) (.type "str")
  | flt (x : UInt64) : TyOf K H (.flt x) (.type "float")
  | lst {a : Addr} {xs : List V} (e : H a = some (.lst xs)) : TyOf K H (.ref a) (.type "list")
  | frz {a : Addr} {o : Obj} {xs : List V} (e : H a = some (.frz o (.lst xs))) : TyOf K H (.ref a) (.type "list")
  | tup {a : Addr} {xs : List V} (e : H a = some (.tup xs)) : TyOf K H (.ref a) (.type "tuple")
  | dK {a : Addr} {kvs : List (Key × V)} (e : H a = some (.dK kvs)) : TyOf K H (.ref a) (.type "dict")
  | dT {a : Addr} {kvs : List (List Key × V)} (e : H a = some (.dT kvs)) : TyOf K H (.ref a) (.type "dict")
  | ins {a C dx : Addr} {fs : List (Str × V)} (e : H a = some (.ins C dx fs)) (cl : Cls K C) (ha : PySem.W.findIn K (.ref C) "__class__" = some (some (.builtin "object.__class__")))
      (hn : PySem.W.specialIn K (.builtin "object.__class__") "__get__" = some (some (.builtin "getset_descriptor.__get__"))) (htk : PySem.W.takesIn K (.builtin "object.__class__") = some true)
      (hm : PySem.W.mroIn K C (.type "object") = some true) : TyOf K H (.ref a) (.ref C)

end
end L2

namespace L2
open PySem PySem.Spec PyProof.Rows


structure Room (k : Nat) (A : Around) : Prop where
  hd : A.handled = none
  dp : A.depth + 3 * k + 5 < recursionLimit
  un : A.units + 16 * k + 200 < cLine
theorem Room.mono {j k : Nat} {A : Around} (r : Room k A) (h : j ≤ k) : Room j A := ⟨r.hd, by have := r.dp; omega, by have := r.un; omega⟩
theorem Room.deeper {k : Nat} {A : Around} (r : Room (k + 1) A) (env : Env) : Room k (A.deeper env) :=
  ⟨r.hd, by have := r.dp; show A.depth + 1 + 3 * k + 5 < _; omega, by have := r.un; show A.units + 3 + 16 * k + 200 < _; omega⟩
theorem make_depth {A : Around} {C : Addr} {us : List Value} {kw : List (Str × Value)} : (A.under (.builtin "type.__call__" ⟨.ref C :: us, kw⟩)).depth = A.depth + 1 := by
  first | rfl | simp [Around.under, Code.weight, Code.isCreation, Code.isGuard, Code.isCaller, Code.frames, Code.isFrame, guardIds]
theorem make_units {A : Around} {C : Addr} {us : List Value} {kw : List (Str × Value)} : (A.under (.builtin "type.__call__" ⟨.ref C :: us, kw⟩)).units = A.units + 1 := by
  first | rfl | simp [Around.under, Code.cUnits, Code.frames, Code.isFrame]
theorem Room.make {k : Nat} {A : Around} (r : Room (k + 1) A) (C : Addr) (us : List Value) (kw : List (Str × Value)) : Room k (A.under (.builtin "type.__call__" ⟨.ref C :: us, kw⟩)) :=
  ⟨r.hd, by have := r.dp; rw [make_depth]; omega, by have := r.un; rw [make_units]; omega⟩
theorem Room.depth {k : Nat} {A : Around} (r : Room k A) : A.depth < recursionLimit := by have := r.dp; omega
theorem Room.units {k : Nat} {A : Around} (r : Room k A) : A.units + 64 < cLine := by have := r.un; omega
def tNil : TA := fun _ H Q => Q [] H
def tCons (ta : TE) (tr : TA) : TA := fun σ H Q => ta σ H fun x H1 => tr σ H1 fun xs H2 => Q (x :: xs) H2
section
variable {X : Cx} {e : Expr} {es : List Expr} {te : TE} {t : TA} {pos : Pos}
theorem pa_nil : PA X [] tNil := fun _ _ _ _ H Q I h => Calls.spliced_nil ⟨[], H, I, .nil, h⟩
theorem pa_cons (ha : PE X e te) (hr : PA X es t) (hs : starEach (e :: es) X.env = (false, eval e X.env) :: starEach es X.env := by rfl) : PA X (e :: es) (tCons te t) := by
  intro pos pins s σ H Q I h
  rw [hs]
  show wpAny _ _ (spliced ((false, eval e X.env) :: backTo pos (starEach es X.env))) _ _ s
  refine Calls.spliced_cons (thn (ha pins s σ H _ I h) fun u s1 ⟨x, H1, I1, r1, q1⟩ => ?_)
  exact thn (hr pos pins s1 σ H1 _ I1 q1) fun us s2 ⟨xs, H2, I2, r2, q2⟩ => ⟨x :: xs, H2, I2, .cons r1 r2, q2⟩


def tTup (t : TA) : TE := fun σ H Q => t σ H fun xs H1 => xs.length ≤ sizeLine ∧ ∀ p, H1 p = none → Q (.ref p) (upd H1 p (.tup xs))
def tLst (t : TA) : TE := fun σ H Q => t σ H fun xs H1 => xs.length ≤ sizeLine ∧ ∀ p, H1 p = none → Q (.ref p) (upd H1 p (.lst xs))
theorem pe_tup {x1} (h : PA X es t) : PE X (.Tuple es x1 pos) (tTup t) := by
  intro pins s σ H Q I hq
  refine wpAny_Tuple_spliced (thn (h pos pins s σ H _ I hq) fun us s1 ⟨xs, H1, I1, r, z, q⟩ => ⟨by rw [← r.length]; exact z, ?_⟩)
  have hf : H1 s1.heap.objs.size = none := I1.hok.fresh (Nat.le_refl _)
  refine ⟨.ref s1.heap.objs.size, upd H1 s1.heap.objs.size (.tup xs), I1.laid (t' := s1.toks) (fun b u e => Heap.get?_push_of_some _ e) (Nat.le_refl _) ?_, rfl, q _ hf⟩
  exact ⟨z, us, r, ⟨_, Heap.get?_push_size _ rfl, rfl, _, rfl⟩⟩
theorem pe_lst (h : PA X es t) : PE X (.List es pos) (tLst t) := by
  intro pins s σ H Q I hq
  refine wpAny_List_spliced (thn (h pos pins s σ H _ I hq) fun us s1 ⟨xs, H1, I1, r, z, q⟩ => ⟨by rw [← r.length]; exact z, ?_⟩)
  have hf : H1 s1.heap.objs.size = none := I1.hok.fresh (Nat.le_refl _)
  refine ⟨.ref s1.heap.objs.size, upd H1 s1.heap.objs.size (.lst xs), I1.laid (t' := s1.toks) (fun b u e => Heap.get?_push_of_some _ e) (Nat.le_refl _) ?_, rfl, q _ hf⟩
  exact ⟨z, us, 0, r, Heap.get?_push_size _ rfl⟩
end



abbrev Sp := List V → Hp → VK → XK → Prop

abbrev CXT := List Env → Hp → Shared → XK → Value → Shared → Prop


structure Env0 (P : Program) (w : World) (K : PySem.W.Frag) (mg : Str → Option Value) (base : Heap) (A : Around) (outer : List Env) (s : Shared) (H : Hp) : Prop where
  frames : A.frames = some outer
  mod : Mod K mg base
  bs : ∀ b o, base.get? b = some o → s.heap.get? b = some o ∧ H b = none
  bsz : base.objs.size ≤ s.heap.objs.size
  funs : s.heap.FunFrames base outer
  frf : ∀ b ∈ frs outer, H b = none
  hok : HOk P w H s.heap
  bare : AllBare s.gens

def CE (outer : List Env) (P : Program) (w : World) (H : Hp) (s : Shared) (Q : VK) (u : Value) (s' : Shared) : Prop :=
  ∃ v H', s'.os = s.os ∧ AllBare s'.gens ∧ Un (frs outer) [] H H' s.heap s'.heap ∧ HOk P w H' s'.heap ∧ RelV v u ∧ Q v H'
def CR (CX : CXT) (outer : List Env) (P : Program) (w : World) (H : Hp) (s : Shared) (Q : VK) (E : XK) (r : Result) (s' : Shared) : Prop :=
  match r with
  | .ok (.ret u) => CE outer P w H s Q u s'
  | .ok _ => False
  | .error e => CX outer H s E e s'
structure FnOk (P : Program) (w : World) (K : PySem.W.Frag) (mg : Str → Option Value) (base : Heap) (CX : CXT) (k : Nat) (f : Addr) (fd : FuncData) (ps : List Str) (sp : Sp) : Prop where
  len : ∀ vs H Q E, sp vs H Q E → vs.length = ps.length
  run : ∀ (A : Around) (outer : List Env) (s : Shared) (H : Hp) (args : Args) (us : List Value) (vs : List V) (Q : VK) (E : XK), Room k A → Env0 P w K mg base A outer s H → BindsTo s fd args (ps.zip us) → Vals vs us → sp vs H Q E →
    codeAny (model P w) A (.call (.ref f) args) (CR CX outer P w H s Q E) s
theorem FnOk.mono {P : Program} {w : World} {K : PySem.W.Frag} {mg : Str → Option Value} {base : Heap} {CX : CXT} {j k : Nat} {f : Addr} {fd : FuncData} {ps : List Str} {sp : Sp} (F : FnOk P w K mg base CX j f fd ps sp) (h : j ≤ k) :
    FnOk P w K mg base CX k f fd ps sp := ⟨F.len, fun A outer s H args us vs Q E hr => F.run A outer s H args us vs Q E (hr.mono h)⟩

theorem Env0.make {P : Program} {w : World} {K : PySem.W.Frag} {mg : Str → Option Value} {base : Heap} {A : Around} {outer : List Env} {s : Shared} {H : Hp} (e : Env0 P w K mg base A outer s H) (C : Addr) (us : List Value) (kw : List (Str × Value)) :
    Env0 P w K mg base (A.under (.builtin "type.__call__" ⟨.ref C :: us, kw⟩)) outer s H := ⟨by first | exact e.frames | (simpa [Around.under, Code.envs, Code.isFrame, pushEnvs] using e.frames), e.mod, e.bs, e.bsz, e.funs, e.frf, e.hok, e.bare⟩
section
variable {X : Cx} {pins : List (Addr × Obj)} {σ : St} {H : Hp} {s s' : Shared}

theorem Inv.env0 (I : Inv X pins σ H s) : Env0 X.prog X.w X.K X.mg X.base X.A X.stack s H :=
  ⟨I.ok.frames, I.ok.mod, I.bs, Nat.le_trans I.ok.bsz I.sz, I.stack, I.stkFree, I.hok, I.bare⟩

theorem Inv.after {Q : VK} {u : Value} (I : Inv X pins σ H s) (h : CE X.stack X.prog X.w H s Q u s') : EP X pins σ Q u s' := by
  obtain ⟨v, H', os, bare, un, hok, r, q⟩ := h
  obtain ⟨hh, g, d, t, os'⟩ := s'
  obtain rfl : os' = s.os := os
  exact ⟨v, H', I.call (h' := hh) (g' := g) (d' := d) (t' := t) (ch := []) un hok bare (fun b z => absurd z (by simp)), r, q⟩
end



def tCall (sp : Sp) (dvs : List V) (E : XK) (t : TA) : TE := fun σ H Q => t σ H fun vs H1 => sp (vs ++ dvs) H1 Q E

def tMeth (C : Addr) (m : Str) (sp : Sp) (dvs : List V) (E : XK) (ta : TE) (t : TA) : TE := fun σ H Q => ta σ H fun x H1 => ∃ a dx fs, x = .ref a ∧ H1 a = some (.ins C dx fs) ∧ fs.lookup m = none ∧
  t σ H1 fun vs H2 => sp (x :: (vs ++ dvs)) H2 Q E

def tMake (C : Addr) (sp : Sp) (dvs : List V) (E : XK) (t : TA) : TE := fun σ H Q => t σ H fun vs H1 => ∀ x dx, H1 x = none → H1 dx = none → dx ≠ x →
  sp (.ref x :: (vs ++ dvs)) (upd (upd H1 dx (.own x)) x (.ins C dx [])) (fun v H2 => v = .non ∧ Q (.ref x) H2) E


def Binds (K : PySem.W.Frag) (fd : FuncData) (ps : List Str) (ds : List Value) : Prop :=
  ∀ (s : Shared) (us : List Value), K.In s.heap → (us ++ ds).length = ps.length → BindsTo s fd ⟨us, []⟩ (ps.zip (us ++ ds))

theorem Binds.all {K : PySem.W.Frag} {fd : FuncData} {ps : List Str} (h : ∀ us : List Value, us.length = ps.length → bindArgs fd ⟨us, []⟩ = pure (ps.zip us)) : Binds K fd ps [] := fun s us _ hl => by
  rw [List.append_nil] at hl ⊢
  exact .of_eq (h us hl)


def Passes (CX : CXT) (X : Cx) (E : XK) : Prop := ∀ (pins : List (Addr × Obj)) (σ : St) (H : Hp) (s : Shared) (e : Value) (s' : Shared), Inv X pins σ H s → CX X.stack H s E e s' → X.xe e s'

section
variable {X : Cx} {CX : CXT} {k : Nat} {f C : Addr} {fd : FuncData} {ps : List Str} {sp : Sp} {dvs : List V} {ds : List Value} {E : XK} {x m : Str} {p pos apos : Pos} {e o : Expr} {es : List Expr} {ta : TE} {t : TA}


theorem run_fn {pins : List (Addr × Obj)} {σ : St} {H : Hp} {s : Shared} {Q : VK} {us : List Value} {vs : List V} (F : FnOk X.prog X.w X.K X.mg X.base CX k f fd ps sp) (hr : Room k X.A) (hb : Binds X.K fd ps ds) (hd : Vals dvs ds) (hx : Passes CX X E)
    (I : Inv X pins σ H s) (r : Vals vs us) (h : sp (vs ++ dvs) H Q E) : wpAny (model X.prog X.w) X.A (call (.ref f) us) (EP X pins σ Q) X.xe s := by
  have r2 : Vals (vs ++ dvs) (us ++ ds) := r.append hd
  have hl : (us ++ ds).length = ps.length := by rw [← r2.length]; exact F.len _ _ _ _ h
  refine wpAny_call (codeAny_mono (F.run X.A X.stack s H ⟨us, []⟩ (us ++ ds) (vs ++ dvs) Q E hr I.env0 (hb s us I.kIn hl) r2 h) fun r s' hq => ?_)
  cases r with
  | error e => exact hx pins σ H s e s' I hq
  | ok fl =>
    cases fl with
    | ret u => exact I.after hq
    | next => exact False.elim hq
    | brk => exact False.elim hq
    | cont => exact False.elim hq

theorem pe_call (F : FnOk X.prog X.w X.K X.mg X.base CX k f fd ps sp) (hr : Room k X.A) (hg : Gl X x) (hm : X.mg x = some (.ref f)) (hk : PySem.W.keepIn X.K (.ref f) = true) (hb : Binds X.K fd ps ds) (hd : Vals dvs ds) (hx : Passes CX X E)
    (ha : PA X (e :: es) t) (hdb : (x == ("__debug__" : Str)) = false := by decide) (he : starEach (e :: es) X.env = (false, eval e X.env) :: starEach es X.env := by rfl) (hpl : (backTo pos (starEach es X.env)).any (·.1) = false := by rfl) :
    PE X (.Call (.Name x p) (e :: es) [] pos) (tCall sp dvs E t) := by
  intro pins s σ H Q I h
  refine wpAny_Call_Name_kw (ld_glob I hg hm ?_ hdb)
  refine PySem.W.callWith_K (h₀ := X.base) I.ok.mod.kin hk (thn (ha pos pins s σ H _ I h) fun us s1 ⟨vs, H1, I1, r, q⟩ => ⟨I1.kIn, ?_⟩) he hpl
  exact run_fn F hr hb hd hx I1 r q
theorem pe_meth {pl : Sem Bool} (he : PE X o ta) (c : Cls X.K C) (hm : Meth X.K C m f) (F : FnOk X.prog X.w X.K X.mg X.base CX k f fd ps sp) (hr : Room k X.A) (hb : Binds X.K fd ps ds) (hd : Vals dvs ds) (hx : Passes CX X E) (ha : PA X (e :: es) t)
    (hst : starEach (e :: es) X.env = (false, eval e X.env) :: starEach es X.env := by rfl) (hpl : (backTo pos (starEach es X.env)).any (·.1) = false := by rfl)
    (ht : eval (.Call (.Attribute o m apos) (e :: es) [] pos) X.env = (do
      let ov ← eval o X.env
      standAt apos.atName
      let (f, first) ← holding [ov] (getMethod ov m pl)
      callWith pos f first (backTo pos (starEach (e :: es) X.env)) (backToKw pos (keywordEach [] X.env))) := by rfl) :
    PE X (.Call (.Attribute o m apos) (e :: es) [] pos) (tMeth C m sp dvs E ta t) := by
  intro pins s σ H Q I h
  refine PySem.W.methodCall_KW (pl := pl) (thn (he pins s σ H _ I h) fun u s1 ⟨x, H1, I1, rx, a, dx, fs, ex, ea, l, q⟩ => ?_) ht
  subst ex
  obtain rfl : u = Value.ref a := rx
  refine getmeth_ok I1 ea c hm l ?_
  refine PySem.W.callWith_K (first := [.ref a]) (h₀ := X.base) I.ok.mod.kin hm.kp (thn (ha pos pins s1 σ H1 _ I1 q) fun us s2 ⟨vs, H2, I2, r, q2⟩ => ⟨I2.kIn, ?_⟩) hst hpl
  exact run_fn (us := .ref a :: us) (vs := .ref a :: vs) F hr hb hd hx I2 (.cons rfl r) q2

theorem pe_meth0 {pl : Sem Bool} (he : PE X o ta) (c : Cls X.K C) (hm : Meth X.K C m f) (F : FnOk X.prog X.w X.K X.mg X.base CX k f fd ps sp) (hr : Room k X.A) (hb : Binds X.K fd ps ds) (hd : Vals dvs ds) (hx : Passes CX X E)
    (ht : eval (.Call (.Attribute o m apos) [] [] pos) X.env = (do
      let ov ← eval o X.env
      standAt apos.atName
      let (f, first) ← holding [ov] (getMethod ov m pl)
      callWith pos f first (backTo pos (starEach [] X.env)) (backToKw pos (keywordEach [] X.env))) := by rfl) :
    PE X (.Call (.Attribute o m apos) [] [] pos) (tMeth C m sp dvs E ta tNil) := by
  intro pins s σ H Q I h
  refine PySem.W.methodCall_KW (pl := pl) (thn (he pins s σ H _ I h) fun u s1 ⟨x, H1, I1, rx, a, dx, fs, ex, ea, l, q⟩ => ?_) ht
  subst ex
  obtain rfl : u = Value.ref a := rx
  refine getmeth_ok I1 ea c hm l ?_
  exact PySem.W.callWith_K0 (first := [.ref a]) I1.kIn hm.kp (run_fn (us := [.ref a]) (vs := [.ref a]) F hr hb hd hx I1 (.cons rfl .nil) q)


structure Mk (K : PySem.W.Frag) (C f : Addr) : Prop where
  makes : PySem.W.makesIn K C = true
  init : PySem.W.findIn K (.ref C) "__init__" = some (some (.ref f))
  fn : PySem.W.isFn K (.ref f) = true
  kp : PySem.W.keepIn K (.ref C) = true

theorem run_make {pins : List (Addr × Obj)} {σ : St} {H : Hp} {s : Shared} {Q : VK} {us : List Value} {vs : List V} (M : Mk X.K C f) (F : FnOk X.prog X.w X.K X.mg X.base CX k f fd ps sp) (hr : Room (k + 1) X.A) (hb : Binds X.K fd ps ds) (hd : Vals dvs ds)
    (hx : Passes CX X E) (I : Inv X pins σ H s) (r : Vals vs us)
    (h : ∀ x dx, H x = none → H dx = none → dx ≠ x → sp (.ref x :: (vs ++ dvs)) (upd (upd H dx (.own x)) x (.ins C dx [])) (fun v H2 => v = .non ∧ Q (.ref x) H2) E) :
    wpAny (model X.prog X.w) X.A (call (.ref C) us) (EP X pins σ Q) X.xe s := by
  have hq := h (s.heap.objs.size + 1) s.heap.objs.size (I.hok.fresh (Nat.le_succ _)) (I.hok.fresh (Nat.le_refl _)) (Nat.ne_of_lt (Nat.lt_succ_self _))
  have I2 := Inv.made (C := C) I
  have r2 : Vals (V.ref (s.heap.objs.size + 1) :: (vs ++ dvs)) (Value.ref (s.heap.objs.size + 1) :: (us ++ ds)) := .cons rfl (r.append hd)
  have hl : (Value.ref (s.heap.objs.size + 1) :: us ++ ds).length = ps.length := by
    have e := r2.length
    rw [F.len _ _ _ _ hq] at e
    exact e.symm
  refine wpAny_call (make_map (f := f) I.kIn M.makes M.init (beq_iff_eq.mp M.fn) (codeAny_mono (F.run _ X.stack _ _ ⟨Value.ref (s.heap.objs.size + 1) :: us, []⟩ (Value.ref (s.heap.objs.size + 1) :: (us ++ ds)) _ _ E (hr.make C us [])
    (I2.env0.make C us []) (hb _ (Value.ref (s.heap.objs.size + 1) :: us) I2.kIn hl) r2 hq) fun r s' hq' => ?_))
  cases r with
  | error e => exact hx pins σ _ _ e s' I2 hq'
  | ok fl =>
    cases fl with
    | ret u =>
      obtain ⟨v, H', I3, rv, ev, q3⟩ := I2.after hq'
      subst ev
      exact ⟨rv, ⟨V.ref (s.heap.objs.size + 1), H', I3, rfl, q3⟩⟩
    | next => exact False.elim hq'
    | brk => exact False.elim hq'
    | cont => exact False.elim hq'
theorem pe_make (M : Mk X.K C f) (F : FnOk X.prog X.w X.K X.mg X.base CX k f fd ps sp) (hr : Room (k + 1) X.A) (hg : Gl X x) (hm : X.mg x = some (.ref C)) (hb : Binds X.K fd ps ds) (hd : Vals dvs ds) (hx : Passes CX X E)
    (ha : PA X (e :: es) t) (hdb : (x == ("__debug__" : Str)) = false := by decide) (he : starEach (e :: es) X.env = (false, eval e X.env) :: starEach es X.env := by rfl) (hpl : (backTo pos (starEach es X.env)).any (·.1) = false := by rfl) :
    PE X (.Call (.Name x p) (e :: es) [] pos) (tMake C sp dvs E t) := by
  intro pins s σ H Q I h
  refine wpAny_Call_Name_kw (ld_glob I hg hm ?_ hdb)
  refine PySem.W.callWith_K (h₀ := X.base) I.ok.mod.kin M.kp (thn (ha pos pins s σ H _ I h) fun us s1 ⟨vs, H1, I1, r, q⟩ => ⟨I1.kIn, ?_⟩) he hpl
  exact run_make M F hr hb hd hx I1 r q
end



section
variable {X : Cx} {CX : CXT} {k : Nat} {f C : Addr} {fd : FuncData} {ps ks : List Str} {sp : Sp} {E : XK} {x m : Str} {p pos apos kpos : Pos} {e o : Expr} {es : List Expr} {kws : List Keyword} {te ta : TE} {t tk : TA} {nm : Option Str}
structure KBinds (K : PySem.W.Frag) (fd : FuncData) (ps ks : List Str) (g : List Value → List Value → List Value) (gV : List V → List V → List V) : Prop where
  to : ∀ (s : Shared) (us ws : List Value), K.In s.heap → (g us ws).length = ps.length → BindsTo s fd ⟨us, ks.zip ws⟩ (ps.zip (g us ws))
  rel : ∀ {vs : List V} {us : List Value} {zs : List V} {ws : List Value}, Vals vs us → Vals zs ws → Vals (gV vs zs) (g us ws)
variable {g : List Value → List Value → List Value} {gV : List V → List V → List V}
end



structure FnScope (N P : List Str) (sc : Scope) : Prop where
  kind : sc.kind = .function
  co : sc.isCoroutine = false
  gen : sc.isGenerator = false
  nd : N.Nodup
  pre : N.take P.length = P
  par : ∀ x ∈ P, sc.names.lookup x = some .local ∨ sc.names.lookup x = some .cell
  nofree : ∀ y ∈ sc.names, y.2 ≠ .free

theorem bindL_out {kindOf : Str → Option NameKind} {x : Str} : ∀ {binds : List (Str × Value)} {m : Str → Option Value}, (∀ v, (x, v) ∉ binds) → bindL kindOf binds m x = m x
  | [], _, _ => rfl
  | (n, v) :: r, m, h => by
    unfold bindL
    rw [bindL_out fun w hw => h w (List.mem_cons_of_mem _ hw)]
    split
    · have : x ≠ n := by rintro rfl; exact h v List.mem_cons_self
      simp [this]
    · rfl
theorem bindC_out {kindOf : Str → Option NameKind} {x : Str} : ∀ {binds : List (Str × Value)} {m : Str → Option Value}, (∀ v, (x, v) ∉ binds) → bindC kindOf binds m x = m x
  | [], _, _ => rfl
  | (n, v) :: r, m, h => by
    unfold bindC
    rw [bindC_out fun w hw => h w (List.mem_cons_of_mem _ hw)]
    split
    · rfl
    · have : x ≠ n := by rintro rfl; exact h v List.mem_cons_self
      simp [this]
theorem bindL_get {kindOf : Str → Option NameKind} {x : Str} {v : Value} : ∀ {P : List Str} {vs : List Value} {i : Nat} {m : Str → Option Value}, P.Nodup → P[i]? = some x → vs[i]? = some v → kindOf x = some .local →
    bindL kindOf (P.zip vs) m x = some v
  | [], _, _, _, _, h, _, _ => by simp at h
  | _ :: _, [], _, _, _, _, h, _ => by simp at h
  | p :: P, w :: vs, 0, m, nd, h1, h2, hk => by
    simp at h1 h2; subst h1; subst h2
    show bindL kindOf ((p, w) :: P.zip vs) m p = _
    unfold bindL
    rw [bindL_out fun v hv => (List.nodup_cons.mp nd).1 (List.of_mem_zip hv).1, if_pos hk]
    simp
  | p :: P, w :: vs, i + 1, m, nd, h1, h2, hk => by
    show bindL kindOf ((p, w) :: P.zip vs) m x = _
    unfold bindL
    exact bindL_get (i := i) (List.nodup_cons.mp nd).2 (by simpa using h1) (by simpa using h2) hk
theorem bindC_get {kindOf : Str → Option NameKind} {x : Str} {v : Value} : ∀ {P : List Str} {vs : List Value} {i : Nat} {m : Str → Option Value}, P.Nodup → P[i]? = some x → vs[i]? = some v → kindOf x ≠ some .local →
    bindC kindOf (P.zip vs) m x = some v
  | [], _, _, _, _, h, _, _ => by simp at h
  | _ :: _, [], _, _, _, _, h, _ => by simp at h
  | p :: P, w :: vs, 0, m, nd, h1, h2, hk => by
    simp at h1 h2; subst h1; subst h2
    show bindC kindOf ((p, w) :: P.zip vs) m p = _
    unfold bindC
    rw [bindC_out fun v hv => (List.nodup_cons.mp nd).1 (List.of_mem_zip hv).1, if_neg hk]
    simp
  | p :: P, w :: vs, i + 1, m, nd, h1, h2, hk => by
    show bindC kindOf ((p, w) :: P.zip vs) m x = _
    unfold bindC
    exact bindC_get (i := i) (List.nodup_cons.mp nd).2 (by simpa using h1) (by simpa using h2) hk


def start (N : List Str) (vs : List V) : St := vs.map some ++ List.replicate (N.length - vs.length) none


def cxOf (CX : CXT) (P : Program) (w : World) (K : PySem.W.Frag) (mg : Str → Option Value) (base : Heap) (N : List Str) (qual : Str) (scope : Scope) (f : Addr) (cd : Value) (A : Around) (outer : List Env) (s : Shared) (H : Hp) (E : XK) : Cx where
  prog := P
  w := w
  K := K
  mg := mg
  base := base
  A := A.deeper (envOfC qual scope s.heap.objs.size f cd)
  N := N
  s₀ := s
  H₀ := H
  env := envOfC qual scope s.heap.objs.size f cd
  outer := outer
  stack := envOfC qual scope s.heap.objs.size f cd :: outer
  ex := []
  calm := true
  fn := fun _ => true
  pn := []
  xe := fun e s' => wpAny (model P w) (A.deeper (envOfC qual scope s.heap.objs.size f cd)) (leaving (envOfC qual scope s.heap.objs.size f cd) e) (fun _ s'' => CX outer H s E e s'') (fun e' s'' => CX outer H s E e' s'') s'

theorem cell_has {sc : Scope} {n : Nat} {x : Str} (h : sc.names.lookup x = some .cell) : ∃ c, (cellsFrom n sc.names []).lookup x = some c := by
  have q := PySem.W.cellsFrom_some sc.names n [] (.inl h)
  exact Option.isSome_iff_exists.mp q

theorem inv_start {CX : CXT} {P : Program} {w : World} {K : PySem.W.Frag} {mg : Str → Option Value} {base : Heap} {N ps : List Str} {qual : Str} {scope : Scope} {f : Addr} {cd : Value} {A : Around} {outer : List Env} {s s1 : Shared} {H : Hp} {E : XK} {us : List Value} {vs : List V}
    (S : FnScope N ps scope) (hd : A.handled = none) (e0 : Env0 P w K mg base A outer s H) (hl : vs.length = ps.length) (r : Vals vs us)
    (x : InCallC s s.heap.objs.size (bindL (envOfC qual scope s.heap.objs.size f cd).kindOf (ps.zip us) fun _ => none) (cellsFrom (s.heap.objs.size + 1) scope.names []) (bindC (envOfC qual scope s.heap.objs.size f cd).kindOf (ps.zip us) fun _ => none) s1) :
    Inv (cxOf CX P w K mg base N qual scope f cd A outer s H E) [] (start N vs) H s1 := by
  have hpl : ps.length ≤ N.length := by have := congrArg List.length S.pre; rw [List.length_take] at this; omega
  obtain ⟨h1, tk, rfl, hk⟩ := x.done
  have noA : ∀ b : Addr, b ∉ (cxOf CX P w K mg base N qual scope f cd A outer s H E).ex := fun b z => absurd (show b ∈ ([] : List Addr) from z) (by simp)
  refine ⟨⟨e0.mod, S.kind, rfl, rfl, Nat.le_refl _, fun y z c h1 h2 => ?_, fun y hy => ?_, fun y c _ h => ?_, fun _ => hd, Around.frames_deeper e0.frames, .inr ⟨rfl, rfl⟩, fun b z => absurd z (noA b), e0.bs, e0.bsz, fun b _ _ => noA b, fun b z => absurd z (noA b), e0.funs, e0.frf⟩,
    rfl, e0.bare, Un.kept hk, ⟨_, x.toInCall.ns, fun i y v h1 h2 h3 => ?_⟩, fun y c h => ⟨_, x.cell y c h⟩, e0.hok.fresh (Nat.le_refl _), fun y c h => ?_, fun p hp => absurd (show p ∈ ([] : List (Addr × Obj)) from hp) (by simp), e0.hok.kept hk, ?_⟩
  · exact name_of_addr x.apart (PySem.mem_of_lookup h1) (PySem.mem_of_lookup h2)
  · have hy : scope.names.lookup y = some .cell ∨ scope.names.lookup y = some .free := hy
    rcases hy with hy | hy
    · exact cell_has hy
    · exact absurd rfl (S.nofree _ (PySem.mem_of_lookup hy))
  · exact Nat.le_of_lt (x.above y c (PySem.mem_of_lookup h))
  · have hi : i < vs.length := by
      unfold start at h2
      by_cases hi : i < vs.length
      · exact hi
      · rw [List.getElem?_append_right (by simpa using hi)] at h2
        rw [List.getElem?_replicate] at h2
        split at h2 <;> cases h2
    have ha : vs[i]? = some v := by
      unfold start at h2
      rw [List.getElem?_append_left (by simpa using hi), List.getElem?_map] at h2
      cases e : vs[i]? with
      | none => rw [e] at h2; cases h2
      | some a => rw [e] at h2; cases h2; rfl
    obtain ⟨u, hu, rv⟩ := r.get ha
    have hp : ps[i]? = some y := by
      rw [← S.pre, List.getElem?_take_of_lt (by omega)]; exact h1
    have ndP : ps.Nodup := by rw [← S.pre]; exact S.nd.sublist (List.take_sublist _ _)
    refine ⟨u, rv, ?_⟩
    rcases S.par y (List.mem_of_getElem? hp) with k | k
    · exact .inl ⟨k, bindL_get ndP hp hu k⟩
    · obtain ⟨c, e⟩ := cell_has (n := s.heap.objs.size + 1) k
      refine .inr ⟨.inl k, c, e, ?_⟩
      have q := x.cell y c e
      rw [bindC_get ndP hp hu (by show scope.names.lookup y ≠ _; rw [k]; decide)] at q
      exact q
  · exact e0.hok.fresh (Nat.le_of_lt (x.above y c (PySem.mem_of_lookup h)))
  · unfold start
    show _ = N.length
    rw [List.length_append, List.length_map, List.length_replicate]
    omega


theorem fn_of {CX : CXT} {P : Program} {w : World} {K : PySem.W.Frag} {mg : Str → Option Value} {base : Heap} {k : Nat} {f : Addr} {name qual : Str} {params : Arguments} {body : List Stmt} {scope : Scope} {dV kV doc pm cdv ct oc : Value} {an od : Option Addr}
    {osl : Array (Option Value)} {N ps : List Str} {sp : Sp} (lk : K.lookup f = some ⟨oc, od, .func (PySem.W.fnOf name qual params body scope dV kV doc pm an cdv ct), osl⟩) (hcd : PySem.W.codeIn K cdv qual = true) (S : FnScope N ps scope)
    (len : ∀ vs H Q E, sp vs H Q E → vs.length = ps.length)
    (hbody : ∀ (A : Around) (outer : List Env) (s : Shared) (H : Hp) (vs : List V) (Q : VK) (E : XK), Room k (A.deeper (envOfC qual scope s.heap.objs.size f cdv)) → sp vs H Q E →
      ∃ t, PSs (cxOf CX P w K mg base N qual scope f cdv A outer s H E) body t ∧ t { nx := fun _ H' => Q .non H', rt := Q } (start N vs) H) :
    FnOk P w K mg base CX (k + 1) f (PySem.W.fnOf name qual params body scope dV kV doc pm an cdv ct) ps sp := by
  refine ⟨len, fun A outer s H args us vs Q E hr e0 hb r hsp => ?_⟩
  have hl := len _ _ _ _ hsp
  have KX : K.In s.heap := e0.mod.kin.keeps fun b o e => (e0.bs b o e).1
  have lim : s.heap.NoLimit := e0.mod.nolimit.keeps fun b o e => (e0.bs b o e).1
  have hkind : ∀ y ∈ ps.zip us, scope.names.lookup y.1 = some .local ∨ (scope.names.lookup y.1 = some .cell ∧ ((cellsFrom (s.heap.objs.size + 1) scope.names []).lookup y.1).isSome = true) := fun ⟨n, v⟩ hy => by
    rcases S.par n (List.of_mem_zip hy).1 with q | q
    · exact .inl q
    · exact .inr ⟨q, PySem.W.cellsFrom_some _ _ _ (.inl q)⟩
  refine codeAny_call_function hr.depth (KX _ _ lk) rfl S.co S.gen rfl (PySem.W.codeRec_of KX hcd) (hb _ _ _ _ ?_)
  refine wpAny_newFunctionEnv_cells S.kind hkind fun env he s1 x => ?_
  subst he
  refine ⟨lim.keeps x.toInCall.keep, codeAny_func ?_⟩
  obtain ⟨t, ht, hq⟩ := hbody A outer s H vs Q E (hr.deeper _) hsp
  have I : Inv (cxOf CX P w K mg base N qual scope f cdv A outer s H E) [] (start N vs) H s1 := inv_start S hr.hd e0 hl r x
  refine wpAny_mono (ht [] s1 (start N vs) H _ I hq) (fun fl s' hs => ?_) fun e s' hs => hs
  have fin : ∀ {σ' : St} {H' : Hp} {v : V} {u : Value}, Inv (cxOf CX P w K mg base N qual scope f cdv A outer s H E) [] σ' H' s' → RelV v u → Q v H' → CE outer P w H s Q u s' :=
    fun {σ' H' v u} J rv q => ⟨v, H', J.os, J.bare, J.base, J.hok, rv, q⟩
  cases fl with
  | ret u =>
    obtain ⟨v, σ', H', J, rv, q⟩ := hs
    exact fin J rv q
  | next =>
    obtain ⟨σ', H', J, q⟩ := hs
    exact fin (v := V.non) (u := Value.none) J rfl q
  | brk =>
    obtain ⟨_, _, _, q⟩ := hs
    exact False.elim q
  | cont =>
    obtain ⟨_, _, _, q⟩ := hs
    exact False.elim q
end L2

namespace L2
open PySem PySem.Spec PyProof.Rows
section
variable {X : Cx} {x : Str} {p pos : Pos} {e : Expr} {es : List Expr} {t : TA} {id T : String} {r : List V → Hp → VK → Prop}

def tCB (r : List V → Hp → VK → Prop) (t : TA) : TE := fun σ H Q => t σ H fun vs H1 => r vs H1 Q

theorem pe_callB (hc : CallR X (.builtin id) r) (hg : Gl X x) (hm : X.mg x = none) (hv : bootBuiltins x = some (.builtin id)) (ha : PA X (e :: es) t) (hn : x ≠ "__name__" := by decide) (hdb : (x == ("__debug__" : Str)) = false := by decide)
    (he : starEach (e :: es) X.env = (false, eval e X.env) :: starEach es X.env := by rfl) (hpl : (backTo pos (starEach es X.env)).any (·.1) = false := by rfl) : PE X (.Call (.Name x p) (e :: es) [] pos) (tCB r t) := by
  intro pins s σ H Q I h
  refine wpAny_Call_Name_kw (ld_blt I hg hm hv ?_ hn hdb)
  exact PyProof.Rows.callWith_builtin1 (thn (ha pos pins s σ H _ I h) fun us s1 ⟨vs, H1, I1, r1, q1⟩ => hc pins s1 σ H1 vs us Q I1 r1 q1) he hpl

theorem pe_callTy (hc : CallR X (.type T) r) (hg : Gl X x) (hm : X.mg x = none) (hv : bootBuiltins x = some (.type T)) (ha : PA X (e :: es) t) (hn : x ≠ "__name__" := by decide) (hdb : (x == ("__debug__" : Str)) = false := by decide)
    (he : starEach (e :: es) X.env = (false, eval e X.env) :: starEach es X.env := by rfl) (hpl : (backTo pos (starEach es X.env)).any (·.1) = false := by rfl) : PE X (.Call (.Name x p) (e :: es) [] pos) (tCB r t) := by
  intro pins s σ H Q I h
  refine wpAny_Call_Name_kw (ld_blt I hg hm hv ?_ hn hdb)
  exact PyProof.Rows.callWith_type1 (thn (ha pos pins s σ H _ I h) fun us s1 ⟨vs, H1, I1, r1, q1⟩ => hc pins s1 σ H1 vs us Q I1 r1 q1) he hpl

end
end L2

namespace HT
open PySem PyProof.Rows


section
open PySem.SeqAt
open PySem.AutoSeq1 (wpAny_loadPart')
open PySem.MeetsSeq PySem.MeetsSeq2 PySem.MeetsSeq3

end

section
variable {prog : Program} {w : World} {A : Around} {E : Value → Shared → Prop} {s : Shared}

theorem cat_tup {t b : Addr} {vs ws : List Value} {Q : Value → Shared → Prop} (ht : IsTup s.heap t vs.toArray) (hb : IsTup s.heap b ws.toArray) (hv : vs ≠ [])
    (h1 : ws = [] → Q (.ref t) s) (h2 : ws ≠ [] → Q (.ref s.heap.objs.size) { s with heap := s.heap.push { cls := .type "tuple", data := .seq (vs ++ ws).toArray } })
    (hsz : vs.length + ws.length ≤ sizeLine) : wpAny (model prog w) A (binaryOp .Add (.ref t) (.ref b)) Q E s := by
  obtain ⟨⟨cls, dd, data, sl⟩, ho, hc, n, hd⟩ := id ht
  obtain ⟨⟨cls2, dd2, data2, sl2⟩, ho2, hc2, n2, hd2⟩ := id hb
  simp only at hc hd hc2 hd2
  subst hc hd hc2 hd2
  have e : vs.toArray ++ ws.toArray = (vs ++ ws).toArray := by simp
  by_cases hw : ws = []
  · exact concat_meets ⟨_, ho, rfl⟩ ⟨_, ho2, rfl⟩ noFill_tuple_add seq_tuple_add PySem.F.slot_tuple_add PySem.F.entry_tuple_add (PySem.F.args_tuple_add_2 _ _)
      (tuple_addW1 t b vs.toArray ws.toArray n n2 dd dd2 sl sl2 (by simpa using hv) (by simp [hw])) ⟨ho, ho2, h1 hw⟩
  · refine concat_meets ⟨_, ho, rfl⟩ ⟨_, ho2, rfl⟩ noFill_tuple_add seq_tuple_add PySem.F.slot_tuple_add PySem.F.entry_tuple_add (PySem.F.args_tuple_add_2 _ _)
      (tuple_addW2 t b vs.toArray ws.toArray n n2 dd dd2 sl sl2 (by simpa using hv) (by simpa using hw) (by rw [List.size_toArray, List.size_toArray]; exact hsz)) ⟨ho, ho2, ?_⟩
    rw [e]
    exact h2 hw



def sIx (n d : Nat) : Option Int → Nat
  | none => d
  | some v => if v < 0 then (v + (n : Int)).toNat else min v.toNat n
theorem sIx_none (n d : Nat) : sIx n d none = d := rfl
theorem sIx_nat (n d k : Nat) : sIx n d (some (k : Int)) = min k n := by
  show (if (k : Int) < 0 then ((k : Int) + (n : Int)).toNat else min (k : Int).toNat n) = min k n
  rw [if_neg (by omega), Int.toNat_natCast]
theorem sIx_le (n d : Nat) (hd : d ≤ n) (o : Option Int) : sIx n d o ≤ n := by
  cases o with
  | none => exact hd
  | some v =>
    show (if v < 0 then (v + (n : Int)).toNat else min v.toNat n) ≤ n
    by_cases hv : v < 0
    · rw [if_pos hv]; omega
    · rw [if_neg hv]; exact Nat.min_le_right _ _
theorem clip_eq (v : Int) (n d : Nat) : (if v < 0 then max (v + (n : Int)) 0 else min v (n : Int)) = ((sIx n d (some v) : Nat) : Int) := by
  show (if v < 0 then max (v + (n : Int)) 0 else min v (n : Int)) = (((if v < 0 then (v + (n : Int)).toNat else min v.toNat n) : Nat) : Int)
  by_cases hv : v < 0
  · simp only [if_pos hv]; omega
  · simp only [if_neg hv]; omega
theorem adjust_gen (lo hi : Option Int) (n : Nat) : Builtin.Slice.sliceAdjust lo hi 1 (n : Int) = (((sIx n 0 lo : Nat) : Int), ((sIx n n hi : Nat) : Int)) := by
  have h1 : ¬ ((1 : Int) < 0) := by omega
  unfold Builtin.Slice.sliceAdjust
  simp only [h1, if_false]
  refine Prod.ext ?_ ?_
  · cases lo with
    | none => rfl
    | some v => exact clip_eq v n 0
  · cases hi with
    | none => rfl
    | some v => exact clip_eq v n n
theorem places_gen (i j : Nat) : Builtin.Slice.slicePlaces (i : Int) (j : Int) 1 = j - i := by
  unfold Builtin.Slice.slicePlaces
  have h1 : (1 : Int) > 0 := by omega
  simp only [h1, if_true, Int.ediv_one]
  split <;> omega
theorem slicePart_ {v : Value} {o : Option Int} {Q : Option Int → Shared → Prop} (p : IsPart v o) (h : Q o s) : wpAny (model prog w) A (Builtin.Slice.slicePartIndex v) Q E s := by
  cases p with
  | none => exact slicePart_none h
  | int i t => exact slicePart_int h
theorem sliceApplied_gen {sl : Addr} {vl vu : Value} {lo hi : Option Int} {n : Nat} {Q : Int × Int × Nat → Shared → Prop} (hs : s.heap.IsSliceOf sl vl vu .none) (pl : IsPart vl lo) (pu : IsPart vu hi)
    (h : Q (((sIx n 0 lo : Nat) : Int), 1, sIx n n hi - sIx n 0 lo) s) : wpAny (model prog w) A (Builtin.Slice.sliceApplied (.ref sl) (pure (n : Int))) Q E s := by
  obtain ⟨os, hos, hcs, hds⟩ := id hs
  unfold Builtin.Slice.sliceApplied Builtin.Slice.sliceFields
  refine wpAny_bind (wpAny_bind (wpAny_field hos hds (x := vl) rfl (wpAny_bind (wpAny_field hos hds (x := vu) rfl (wpAny_bind (wpAny_field hos hds (x := .none) rfl (wpAny_pure ?_)))))))
  refine wpAny_bind (slicePart_none ?_)
  show wpAny _ _ (if ((1 : Int) == 0) = true then _ else _) _ _ s
  rw [if_neg (by decide)]
  refine wpAny_bind (slicePart_ pl (wpAny_bind (slicePart_ pu (wpAny_bind (wpAny_pure ?_)))))
  show wpAny _ _ (match Builtin.Slice.sliceAdjust lo hi 1 (n : Int) with | (lo, hi) => pure (lo, (1 : Int), Builtin.Slice.slicePlaces lo hi 1)) _ _ s
  rw [adjust_gen lo hi n]
  show wpAny _ _ (pure (((sIx n 0 lo : Nat) : Int), (1 : Int), Builtin.Slice.slicePlaces ((sIx n 0 lo : Nat) : Int) ((sIx n n hi : Nat) : Int) 1)) _ _ s
  rw [places_gen]
  exact wpAny_pure h
theorem pick_gen (xs : Array Value) (i k : Nat) : ((List.range k).filterMap fun (m : Nat) => xs[((i : Int) + (m : Int) * 1).toNat]?).toArray = ((xs.toList.drop i).take k).toArray := by
  have e : (fun (m : Nat) => xs[((i : Int) + (m : Int) * 1).toNat]?) = fun m => xs[i + m]? := by
    funext m
    have : ((i : Int) + (m : Int) * 1).toNat = i + m := by omega
    rw [this]
  rw [e]
  have := pick_run xs i k
  rw [List.filterMap_map] at this
  have e2 : ((fun x => xs[x]?) ∘ fun x => i + x) = fun m => xs[i + m]? := rfl
  rw [e2] at this
  rw [this]

theorem getItem_tuple_cut {t sl : Addr} {items : Array Value} {vl vu : Value} {lo hi : Option Int} {Q : Value → Shared → Prop} (ht : IsTup s.heap t items) (hs : s.heap.IsSliceOf sl vl vu .none) (pl : IsPart vl lo) (pu : IsPart vu hi)
    (hw : ¬ (sIx items.size 0 lo = 0 ∧ sIx items.size items.size hi = items.size))
    (h : Q (.ref s.heap.objs.size) { s with heap := s.heap.push { cls := .type "tuple", data := .seq ((items.toList.drop (sIx items.size 0 lo)).take (sIx items.size items.size hi - sIx items.size 0 lo)).toArray } })
    (hsz : items.size ≤ sizeLine) : wpAny (model prog w) A (getItem (.ref t) (.ref sl)) Q E s := by
  have htake : sizeOk (.seq ((items.toList.drop (sIx items.size 0 lo)).take (sIx items.size items.size hi - sIx items.size 0 lo)).toArray) := by
    show ((items.toList.drop (sIx items.size 0 lo)).take (sIx items.size items.size hi - sIx items.size 0 lo)).toArray.size ≤ sizeLine
    rw [List.size_toArray, List.length_take, List.length_drop, Array.length_toList]
    omega
  have hj : sIx items.size items.size hi ≤ items.size := sIx_le _ _ (Nat.le_refl _) hi
  obtain ⟨os, hos, hcs, hds⟩ := id hs
  have hTs : s.TypeIs (.ref sl) "slice" := ⟨os, hos, hcs⟩
  unfold getItem
  try with_reducible refine wpAny_holding ?_
  first | refine wpAny_bind (wpAny_pure ?_) | skip
  refine wpAny_bind (wpAny_sequenceKey ht.typeIs (by decide) ?_)
  refine wpAny_bind (wpAny_callSpecial?_slot (name := Str.ofString "__getitem__") ht.typeIs PyProof.Rows.slot_tuple_getitem
    (wpAny_call_entry PyProof.Rows.slot_tuple_getitem ht.typeIs entry_tuple_getitem ?_ (args_tuple_getitem _ _)))
  show wpAny _ _ (Builtin.Tuple.tupleItemsOf (.ref t) >>= _) _ _ s
  refine wpAny_bind (tupleItemsOf_ ht ?_)
  refine wpAny_bind (wpAny_typeOf hTs ?_)
  rw [if_pos (by decide)]
  refine wpAny_bind (sliceApplied_gen hs pl pu ?_)
  have hno : ¬ ((((sIx items.size 0 lo : Nat) : Int) == 0 && (1 : Int) == 1 && (sIx items.size items.size hi - sIx items.size 0 lo) == items.size) = true) := by
    intro q
    rw [Bool.and_eq_true, Bool.and_eq_true] at q
    have q1 : ((sIx items.size 0 lo : Nat) : Int) = 0 := eq_of_beq q.1.1
    have q2 : sIx items.size items.size hi - sIx items.size 0 lo = items.size := eq_of_beq q.2
    exact hw ⟨by omega, by omega⟩
  show wpAny _ _ (if (((sIx items.size 0 lo : Nat) : Int) == 0 && (1 : Int) == 1 && (sIx items.size items.size hi - sIx items.size 0 lo) == items.size) = true then _ else _) _ _ s
  rw [if_neg hno, pick_gen]
  first
    | exact wpAny_bind (m := Builtin.Tuple.tupleExact _) (wpAny_newObj_type (wpAny_pure ⟨_, rfl, wpAny_pure h⟩) htake)
    | exact wpAny_bind (m := Builtin.Tuple.tupleExact _) (wpAny_newObj_type (wpAny_bind (wpAny_pure (wpAny_pure ⟨_, rfl, wpAny_pure h⟩))) htake)
    | exact wpAny_bind (wpAny_bind (m := Builtin.Tuple.tupleExact _) (wpAny_newObj_type (wpAny_pure (wpAny_pure ⟨_, rfl, wpAny_pure h⟩)) htake))
    | exact wpAny_bind (wpAny_bind (m := Builtin.Tuple.tupleExact _) (wpAny_newObj_type (wpAny_pure ⟨_, rfl, wpAny_pure h⟩) htake))
end
end HT

namespace L2
open PySem PySem.Spec PyProof.Rows


abbrev TO := St → Hp → (Option Int → Hp → Prop) → Prop

def PO (X : Cx) (e : Option Expr) (t : TO) : Prop :=
  ∀ (pins : List (Addr × Obj)) (s : Shared) (σ : St) (H : Hp) (Q : Option Int → Hp → Prop), Inv X pins σ H s → t σ H Q →
    wpAny (model X.prog X.w) X.A (evalPart e X.env) (fun u s' => ∃ o H', Inv X pins σ H' s' ∧ IsPart u o ∧ Q o H') X.xe s
def tNoPart : TO := fun _ H Q => Q none H
def tPart (t : TE) : TO := fun σ H Q => t σ H fun x H1 => ∃ i, x = .int i ∧ Q (some i) H1

section
variable {X : Cx} {e : Expr} {te : TE} {lo hi : Option Expr} {tl th : TO} {pos p2 : Pos}

theorem po_none : PO X none tNoPart := by
  intro pins s σ H Q I h
  rw [evalPart_none]
  exact wpAny_pure ⟨none, H, I, .none, h⟩
theorem po_some (h : PE X e te) : PO X (some e) (tPart te) := by
  intro pins s σ H Q I hw
  rw [evalPart_some]
  refine thn (h pins s σ H _ I hw) fun u s1 ⟨x, H1, I1, r1, q1⟩ => ?_
  obtain ⟨i, rfl, q⟩ := q1
  obtain ⟨t, rfl⟩ := r1
  exact ⟨some i, H1, I1, .int i t, q⟩


def SlR (X : Cx) (r : V → Option Int → Option Int → Hp → VK → Prop) : Prop :=
  ∀ (pins : List (Addr × Obj)) (s : Shared) (σ : St) (H : Hp) (x : V) (v vl vu : Value) (lo hi : Option Int) (sl : Addr) (Q : VK), Inv X pins σ H s → RelV x v → s.heap.IsSliceOf sl vl vu .none → IsPart vl lo → IsPart vu hi → r x lo hi H Q →
    ∃ T id, typeLookup (.type T) "__getitem__" = pure (some (.builtin id)) ∧ s.TypeIs v T ∧ wpAny (model X.prog X.w) X.A (getItem v (.ref sl)) (EP X pins σ Q) X.xe s
def tSl (r : V → Option Int → Option Int → Hp → VK → Prop) (te : TE) (tl th : TO) : TE := fun σ H Q => te σ H fun x H1 => tl σ H1 fun l H2 => th σ H2 fun u H3 => r x l u H3 Q

theorem pe_slice {r : V → Option Int → Option Int → Hp → VK → Prop} (hr : SlR X r) (he : PE X e te) (hl : PO X lo tl) (hu : PO X hi th) : PE X (.Subscript e (.Slice lo hi none p2) pos) (tSl r te tl th) := by
  intro pins s σ H Q I h
  refine Subscript_ (thn (he pins s σ H _ I h) fun v s1 ⟨x, H1, I1, r1, q1⟩ => ?_)
  refine wpAny_Slice (thn (hl pins s1 σ H1 _ I1 q1) fun vl s2 ⟨l, H2, I2, pl, q2⟩ => thn (hu pins s2 σ H2 _ I2 q2) fun vu s3 ⟨u, H3, I3, pu, q3⟩ => ?_)
  rw [evalPart_none]
  refine wpAny_pure ?_
  have I4 : Inv X pins σ H3 { s3 with heap := s3.heap.push { cls := .type "slice", data := .fields #[vl, vu, .none] } } := I3.kept (t' := s3.toks) fun b ob q => Heap.get?_push_of_some _ q
  obtain ⟨T, id, hT, ht, hg⟩ := hr pins { s3 with heap := s3.heap.push { cls := .type "slice", data := .fields #[vl, vu, .none] } } σ H3 x v vl vu l u s3.heap.objs.size Q I4 r1 (Heap.IsSliceOf.new ..) pl pu q3
  show wpAny (model X.prog X.w) X.A (subscriptTail e (.Slice lo hi none p2) v (.ref s3.heap.objs.size)) (EP X pins σ Q) X.xe { s3 with heap := s3.heap.push { cls := .type "slice", data := .fields #[vl, vu, .none] } }
  exact tail_any (ops := [.ref s3.heap.objs.size, v]) ht hT hg (by with_unfolding_all rfl)


def cutV (xs : List V) (lo hi : Option Int) : List V := (xs.drop (HT.sIx xs.length 0 lo)).take (HT.sIx xs.length xs.length hi - HT.sIx xs.length 0 lo)
theorem cutV_length (xs : List V) (lo hi : Option Int) : (cutV xs lo hi).length ≤ xs.length := by
  unfold cutV
  rw [List.length_take, List.length_drop]
  omega

def rSlT (K : PySem.W.Frag) : V → Option Int → Option Int → Hp → VK → Prop := fun x lo hi H Q => ∃ a xs, x = .ref a ∧ SqT K H a xs ∧
  ¬ (HT.sIx xs.length 0 lo = 0 ∧ HT.sIx xs.length xs.length hi = xs.length) ∧ ∀ p, H p = none → Q (.ref p) (upd H p (.tup (cutV xs lo hi)))
theorem sl_tup : SlR X (rSlT X.K) := by
  intro pins s σ H x v vl vu lo hi sl Q I rx hs pl pu h
  obtain ⟨a, xs, rfl, hx, hw, q⟩ := h
  cases rx
  obtain ⟨its, r, ht, hz⟩ := I.tuple hx
  have hlen : its.toArray.size = xs.length := by rw [List.size_toArray]; exact r.length.symm
  refine ⟨"tuple", _, PyProof.Rows.slot_tuple_getitem.lookup, ht.typeIs, ?_⟩
  refine HT.getItem_tuple_cut ht hs pl pu (by rw [hlen]; exact hw) ?_ (by rw [hlen]; exact hz)
  rw [hlen]
  refine ⟨.ref s.heap.objs.size, _, I.laid (t' := s.toks) (o := .tup (cutV xs lo hi)) (fun b ob q => Heap.get?_push_of_some _ q) (Nat.le_refl _) ?_, rfl, q _ (I.hok.fresh (Nat.le_refl _))⟩
  exact ⟨Nat.le_trans (cutV_length xs lo hi) hz, _, (r.drop (HT.sIx xs.length 0 lo)).take (HT.sIx xs.length xs.length hi - HT.sIx xs.length 0 lo), IsTup.new _ _⟩


def rCatT (K : PySem.W.Frag) : R2 := fun x y H Q => ∃ a b xs ys, x = .ref a ∧ y = .ref b ∧ SqT K H a xs ∧ SqT K H b ys ∧ xs ≠ [] ∧ xs.length + ys.length ≤ sizeLine ∧
  (ys = [] → Q (.ref a) H) ∧ (ys ≠ [] → ∀ p, H p = none → Q (.ref p) (upd H p (.tup (xs ++ ys))))
theorem Vals.nil_iff {xs : List V} {us : List Value} (r : Vals xs us) : us = [] ↔ xs = [] := by
  cases r with
  | nil => simp
  | cons _ _ => simp
theorem op_catT : OpR X (binaryOp .Add) (rCatT X.K) := by
  intro pins s σ H x y v u Q I rx ry h
  obtain ⟨a, b, xs, ys, rfl, rfl, ha, hb, hx, hz, q1, q2⟩ := h
  cases rx
  cases ry
  obtain ⟨its, r1, p1, _⟩ := I.tuple ha
  obtain ⟨its2, r2, p2, _⟩ := I.tuple hb
  refine HT.cat_tup p1 p2 (fun z => hx (r1.nil_iff.mp z)) (fun z => ⟨.ref a, H, I, rfl, q1 (r2.nil_iff.mp z)⟩) (fun z => ?_) (by rw [← r1.length, ← r2.length]; exact hz)
  refine ⟨.ref s.heap.objs.size, _, I.laid (t' := s.toks) (o := .tup (xs ++ ys)) (fun b ob q => Heap.get?_push_of_some _ q) (Nat.le_refl _) ?_, rfl, q2 (fun w => z (r2.nil_iff.mpr w)) _ (I.hok.fresh (Nat.le_refl _))⟩
  exact ⟨by rw [List.length_append]; exact hz, _, r1.append r2, IsTup.new _ _⟩

end
end L2

namespace L2
open PySem PySem.Spec PyProof.Rows



def ixN (n : Nat) (i : Int) : Option Nat := if 0 ≤ i then (if i < n then some i.toNat else none) else if -(n : Int) ≤ i then some (i + n).toNat else none
def atI {α : Type} (xs : List α) (i : Int) : Option α := (ixN xs.length i).bind fun j => xs[j]?
theorem ixN_seq {n : Nat} {i : Int} {j : Nat} (h : ixN n i = some j) : seqIndex? i n = some j ∧ j < n ∧ -(n : Int) ≤ i ∧ i < n := by
  unfold ixN at h
  by_cases h0 : 0 ≤ i
  · rw [if_pos h0] at h
    by_cases h1 : i < n
    · rw [if_pos h1] at h
      have e : i.toNat = j := Option.some.inj h
      exact ⟨by rw [seqIndex_of h0 h1, e], by omega, by omega, h1⟩
    · rw [if_neg h1] at h; cases h
  · rw [if_neg h0] at h
    by_cases h1 : -(n : Int) ≤ i
    · rw [if_pos h1] at h
      have e : (i + n).toNat = j := Option.some.inj h
      exact ⟨by rw [seqIndex_neg (by omega) h1, e], by omega, h1, by omega⟩
    · rw [if_neg h1] at h; cases h
theorem atI_get {α : Type} {xs : List α} {i : Int} {v : α} (h : atI xs i = some v) : ∃ j, seqIndex? i xs.length = some j ∧ xs[j]? = some v ∧ j < xs.length ∧ -(xs.length : Int) ≤ i ∧ i < xs.length := by
  unfold atI at h
  cases e : ixN xs.length i with
  | none => rw [e] at h; cases h
  | some j =>
    rw [e] at h
    obtain ⟨h1, h2, h3, h4⟩ := ixN_seq e
    exact ⟨j, h1, h, h2, h3, h4⟩
theorem atI_nat {α : Type} {xs : List α} {j : Nat} {v : α} (h : xs[j]? = some v) : atI xs (j : Int) = some v := by
  have hj : j < xs.length := (List.getElem?_eq_some_iff.mp h).1
  have e : ixN xs.length (j : Int) = some j := by
    unfold ixN
    rw [if_pos (by omega), if_pos (by omega)]; simp
  unfold atI; rw [e]; exact h
def PlainIx (b : Expr) : Prop := ∀ o i, subscripted b false o i = operate [o, i] (getItem o i)

def IxR (X : Cx) (r : R2) : Prop :=
  ∀ (value slice : Expr) (pins : List (Addr × Obj)) (s : Shared) (σ : St) (H : Hp) (x y : V) (v u : Value) (Q : VK), Inv X pins σ H s → RelV x v → RelV y u → r x y H Q →
    subscripted slice false v u = operate [v, u] (getItem v u) → wpAny (model X.prog X.w) X.A (subscriptTail value slice v u) (EP X pins σ Q) X.xe s

def MtR (X : Cx) (id : String) (r : V → List V → Hp → VK → Prop) : Prop :=
  ∀ (pins : List (Addr × Obj)) (s : Shared) (σ : St) (H : Hp) (x : V) (xs : List V) (v : Value) (us : List Value) (Q : VK), Inv X pins σ H s → RelV x v → Vals xs us → r x xs H Q →
    wpAny (model X.prog X.w) X.A (call (.builtin id) (v :: us)) (EP X pins σ Q) X.xe s
section
variable {X : Cx} {a b : Expr} {ta tb : TE} {pos : Pos}
theorem pe_ix {r : R2} (hr : IxR X r) (ha : PE X a ta) (hb : PE X b tb) (hs : PlainIx b) : PE X (.Subscript a b pos) (tOp r ta tb) := by
  intro pins s σ H Q I h
  exact Subscript_ (binT ha hb I h fun v u s2 x y H2 I2 rx ry q => hr a b pins s2 σ H2 x y v u Q I2 rx ry q (hs _ _))

def rIxL (K : PySem.W.Frag) : R2 := fun x y H Q => ∃ p xs i v, x = .ref p ∧ y = .int i ∧ SqL K H p xs ∧ atI xs i = some v ∧ Q v H
def rIxT (K : PySem.W.Frag) : R2 := fun x y H Q => ∃ p xs i v, x = .ref p ∧ y = .int i ∧ SqT K H p xs ∧ atI xs i = some v ∧ Q v H
def rIxS : R2 := fun x y H Q => ∃ z i c, x = .str z ∧ y = .int i ∧ z.length ≤ sizeLine ∧ atI z.cps.toList i = some c ∧ Q (.str ⟨#[c]⟩) H
theorem ix_list : IxR X (rIxL X.K) := by
  intro value slice pins s σ H x y v u Q I rx ry h hs
  obtain ⟨p, xs, i, z, rfl, rfl, hq, he, q⟩ := h
  cases rx
  obtain ⟨t, rfl⟩ := ry
  obtain ⟨its, r, pl, hz⟩ := I.list hq
  obtain ⟨j, h1, h2, h3, h4, h5⟩ := atI_get he
  obtain ⟨w, ew, rw'⟩ := r.get h2
  have hl := r.length
  have hn := line63
  have fin : EP X pins σ Q w s := ⟨z, H, I, rw', q⟩
  by_cases h0 : 0 ≤ i
  · have hj : i.toNat = j := by
      rw [seqIndex_of h0 h5] at h1
      exact Option.some.inj h1
    exact item_listR pl.isList h0 (by omega) (by rw [hj]; simpa using ew) fin hs
  · have hj : (i + (its.toArray.size : Int)).toNat = j := by
      rw [seqIndex_neg (by omega) h4] at h1
      rw [List.size_toArray, ← hl]
      exact Option.some.inj h1
    exact subscriptTail_builtinR (x := w) pl.isList.typeIs slot_list_getitem.lookup
      (wpAny_getItem_list_neg (Q := fun r s' => r = w ∧ EP X pins σ Q r s') pl.isList (by omega) (by rw [List.size_toArray] <;> omega) (by omega) (by rw [hj]; simpa using ew) ⟨rfl, fin⟩) hs
theorem ix_tup : IxR X (rIxT X.K) := by
  intro value slice pins s σ H x y v u Q I rx ry h hs
  obtain ⟨p, xs, i, z, rfl, rfl, hq, he, q⟩ := h
  cases rx
  obtain ⟨t, rfl⟩ := ry
  obtain ⟨its, r, pl, hz⟩ := I.tuple hq
  obtain ⟨j, h1, h2, h3, h4, h5⟩ := atI_get he
  obtain ⟨w, ew, rw'⟩ := r.get h2
  have hl := r.length
  have hn := line63
  have fin : EP X pins σ Q w s := ⟨z, H, I, rw', q⟩
  exact subscriptTail_builtinR (x := w) pl.typeIs slot_tuple_getitem.lookup
    (getItem_tuple (j := j) (Q := fun r s' => r = w ∧ EP X pins σ Q r s') pl (by omega) (by omega) (by rw [List.size_toArray, ← hl]; exact h1) (by simpa using ew) ⟨rfl, fin⟩) hs
theorem ix_str : IxR X rIxS := by
  intro value slice pins s σ H x y v u Q I rx ry h hs
  obtain ⟨z, i, c, rfl, rfl, hz, he, q⟩ := h
  obtain ⟨t, rfl⟩ := rx
  obtain ⟨t', rfl⟩ := ry
  obtain ⟨j, h1, h2, h3, h4, h5⟩ := atI_get he
  have hl : z.cps.toList.length = z.length := by simp [Str.length]
  rw [hl] at h1 h4 h5
  have hn := line63
  exact tail_any (typeIs_str s z t) slot_str_getitem.lookup (getItem_str (c := c) (by
    have e1 : decide (i < -(2 ^ 63 : Int)) = false := decide_eq_false (by omega)
    have e2 : decide (i ≥ 2 ^ 63) = false := decide_eq_false (by omega)
    rw [e1, e2, Bool.or_false]) (by rw [h1]; simpa using h2) ⟨.str ⟨#[c]⟩, H, I.tok _, ⟨_, rfl⟩, q⟩) hs

theorem slice_bounds (lo hi : Option Int) (n : Nat) : (sliceBounds lo hi none n).1 = ((HT.sIx n 0 lo : Nat) : Int) ∧ (sliceBounds lo hi none n).2.1 = ((HT.sIx n n hi : Nat) : Int) ∧ (sliceBounds lo hi none n).2.2 = 1 := by
  refine ⟨?_, ?_, rfl⟩
  · cases lo with
    | none => simp [sliceBounds, HT.sIx]
    | some i =>
      simp only [sliceBounds, HT.sIx, Option.getD_none, show (1 : Int) > 0 by decide, if_true]
      by_cases h : i < 0
      · simp only [h, if_true] <;> omega
      · simp only [h, if_false] <;> omega
  · cases hi with
    | none => simp [sliceBounds, HT.sIx]
    | some i =>
      simp only [sliceBounds, HT.sIx, Option.getD_none, show (1 : Int) > 0 by decide, if_true]
      by_cases h : i < 0
      · simp only [h, if_true] <;> omega
      · simp only [h, if_false] <;> omega
theorem slicePick_cut (its : List Value) (lo hi : Option Int) : slicePick its.toArray lo hi none = ((its.drop (HT.sIx its.length 0 lo)).take (HT.sIx its.length its.length hi - HT.sIx its.length 0 lo)).toArray := by
  obtain ⟨h1, h2, h3⟩ := slice_bounds lo hi its.toArray.size
  unfold slicePick
  rw [h1, h2, h3]
  simp only [sliceRange_one, pick_run, List.size_toArray] <;> rfl

def rSlL (K : PySem.W.Frag) : V → Option Int → Option Int → Hp → VK → Prop := fun x lo hi H Q => ∃ a xs, x = .ref a ∧ SqL K H a xs ∧ ∀ p, H p = none → Q (.ref p) (upd H p (.lst (cutV xs lo hi)))
theorem sl_list : SlR X (rSlL X.K) := by
  intro pins s σ H x v vl vu lo hi sl Q I rx hs pl pu h
  obtain ⟨a, xs, rfl, hx, q⟩ := h
  cases rx
  obtain ⟨its, r, ht, hz⟩ := I.list hx
  have hlen := r.length
  refine ⟨"list", _, slot_list_getitem.lookup, ht.isList.typeIs, ?_⟩
  refine wpAny_getItem_list_slice ht.isList hs pl pu .none (by simp) ?_ (by rw [List.size_toArray] <;> omega)
  rw [slicePick_cut, ← hlen]
  refine ⟨.ref s.heap.objs.size, _, I.laid (t' := s.toks) (o := .lst (cutV xs lo hi)) (fun b ob q => Heap.get?_push_of_some _ q) (Nat.le_refl _) ?_, rfl, q _ (I.hok.fresh (Nat.le_refl _))⟩
  exact ⟨Nat.le_trans (cutV_length xs lo hi) hz, _, 0, (r.drop (HT.sIx xs.length 0 lo)).take (HT.sIx xs.length xs.length hi - HT.sIx xs.length 0 lo), Heap.get?_push_size _ rfl⟩


theorem call_len_seq : CallR X (.builtin "len") (fun xs H Q => ∃ p ys, xs = [.ref p] ∧ (SqL X.K H p ys ∨ SqT X.K H p ys) ∧ Q (.int ys.length) H) := by
  intro pins s σ H xs us Q I r h
  obtain ⟨p, ys, rfl, hq, q⟩ := h
  obtain ⟨u, rfl, rx⟩ := vals1 r
  cases rx
  have hn := line63
  rcases hq with hq | hq
  · obtain ⟨its, r', pl, hz⟩ := I.list hq
    have hlen := r'.length
    exact Calls.call_len_list pl.isList (by simp only [List.size_toArray] <;> omega) ⟨.int ys.length, H, I.tok _, ⟨s.toks + 1, by rw [List.size_toArray, hlen]⟩, q⟩
  · obtain ⟨its, r', pl, hz⟩ := I.tuple hq
    have hlen := r'.length
    exact len_tuple pl (by simp only [List.size_toArray] <;> omega) ⟨.int ys.length, H, I.tok _, ⟨s.toks + 1, by rw [List.size_toArray, hlen]⟩, q⟩
theorem call_list_of : CallR X (.type "list") (fun xs H Q => ∃ p ys, xs = [.ref p] ∧ (SqL X.K H p ys ∨ SqT X.K H p ys) ∧ ∀ l, H l = none → Q (.ref l) (upd H l (.lst ys))) := by
  intro pins s σ H xs us Q I r h
  obtain ⟨p, ys, rfl, hq, q⟩ := h
  obtain ⟨u, rfl, rx⟩ := vals1 r
  cases rx
  have fin : ∀ (its : List Value), Vals ys its → ys.length ≤ sizeLine → ∀ (h' : Heap) (c' : Nat), (∀ b o', s.heap.get? b = some o' → h'.get? b = some o') →
      h'.get? s.heap.objs.size = some { cls := .type "list", dict := none, data := .seq its.toArray c', slots := #[] } → EP X pins σ Q (.ref s.heap.objs.size) { s with heap := h' } := fun its r' hz h' c' kp e =>
    ⟨.ref s.heap.objs.size, _, I.laid (t' := s.toks) kp (Nat.le_refl _) (show ObjOk X.prog X.w _ h' _ (.lst ys) from ⟨hz, its, c', r', e⟩), rfl, q _ (I.hok.fresh (Nat.le_refl _))⟩
  rcases hq with hq | hq
  · obtain ⟨its, r', pl, hz⟩ := I.list hq
    have hlen := r'.length
    obtain ⟨o, ho, hc, n, hd⟩ := pl.isList
    exact call_list_seq p (.inl rfl) ho hc hd (fun h' c' kp e => fin its r' hz h' c' kp e) (by simp only [List.size_toArray] <;> omega)
  · obtain ⟨its, r', pl, hz⟩ := I.tuple hq
    have hlen := r'.length
    obtain ⟨o, ho, hc, n, hd⟩ := pl
    exact call_list_seq p (.inr rfl) ho hc hd (fun h' c' kp e => fin its r' hz h' c' kp e) (by simp only [List.size_toArray] <;> omega)
theorem call_tuple_of : CallR X (.type "tuple") (fun xs H Q => ∃ p ys, xs = [.ref p] ∧ ((SqL X.K H p ys ∧ ∀ l, H l = none → Q (.ref l) (upd H l (.tup ys))) ∨ (SqT X.K H p ys ∧ Q (.ref p) H))) := by
  intro pins s σ H xs us Q I r h
  obtain ⟨p, ys, rfl, h⟩ := h
  obtain ⟨u, rfl, rx⟩ := vals1 r
  cases rx
  rcases h with ⟨hq, q⟩ | ⟨hq, q⟩
  · obtain ⟨its, r', pl, hz⟩ := I.list hq
    have hlen := r'.length
    refine call_tuple_list pl.isList (fun h' kp => ?_) (by simp only [List.size_toArray] <;> omega)
    have I1 : Inv X pins σ H { s with heap := h' } := I.kept (t' := s.toks) kp
    have I2 : Inv X pins σ (upd H h'.objs.size (.tup ys)) { s with heap := h'.push { cls := .type "tuple", data := .seq its.toArray } } :=
      I1.laid (t' := s.toks) (fun b o e => Heap.get?_push_of_some _ e) (Nat.le_refl _) (show ObjOk X.prog X.w _ _ _ (.tup ys) from ⟨hz, its, r', IsTup.new _ _⟩)
    exact ⟨.ref h'.objs.size, _, I2, rfl, q _ (I1.hok.fresh (Nat.le_refl _))⟩
  · obtain ⟨its, r', pl, hz⟩ := I.tuple hq
    exact call_tuple_same pl ⟨.ref p, H, I, rfl, q⟩



def tyV (K : PySem.W.Frag) (T : String) (x : V) (H : Hp) : Prop := match x with
  | .str _ => T = "str"
  | .int _ => T = "int"
  | .ref p => (T = "list" ∧ ∃ xs, SqL K H p xs) ∨ (T = "tuple" ∧ ∃ o, K.lookup p = some o ∧ o.cls = .type "tuple" ∧ o.dict = none) ∨
      (T = "dict" ∧ ((∃ kvs, H p = some (.dK kvs)) ∨ ∃ kvs, H p = some (.dT kvs))) ∨ (T = "set" ∧ ∃ S n, H p = some (.set S n))
  | _ => False
theorem tyV_is {pins : List (Addr × Obj)} {σ : St} {H : Hp} {s : Shared} {T : String} {x : V} {v : Value} (I : Inv X pins σ H s) (r : RelV x v) (ty : tyV X.K T x H) :
    s.TypeIs v T ∧ ∀ a, v = .ref a → ∃ ob, s.heap.get? a = some ob ∧ ob.dict = none := by
  cases x with
  | str z =>
    obtain ⟨t, rfl⟩ := r
    cases (show T = "str" from ty)
    exact ⟨typeIs_str s z t, fun _ e => nomatch e⟩
  | int i =>
    obtain ⟨t, rfl⟩ := r
    cases (show T = "int" from ty)
    exact ⟨typeIs_int s i t, fun _ e => nomatch e⟩
  | ref p =>
    cases r
    rcases ty with ⟨rfl, xs, hq⟩ | ⟨rfl, o, hk, hc, hd⟩ | ⟨rfl, hk⟩ | ⟨rfl, S, n, hk⟩
    · obtain ⟨its, _, pl, _⟩ := I.list hq
      refine ⟨pl.isList.typeIs, fun a e => ?_⟩
      cases e
      obtain ⟨o, n, e, c, hd, _⟩ := pl
      exact ⟨o, e, hd⟩
    · refine ⟨⟨o, I.kIn p o hk, hc⟩, fun a e => ?_⟩
      cases e
      exact ⟨o, I.kIn _ o hk, hd⟩
    · have z : ∃ o, s.heap.get? p = some o ∧ o.ExactDict := by
        rcases hk with ⟨kvs, hk⟩ | ⟨kvs, hk⟩
        · obtain ⟨_, _, _, _, o, _, _, e, ex, _⟩ := I.hok p _ hk
          exact ⟨o, e, ex⟩
        · obtain ⟨_, _, _, _, o, _, _, e, ex, _⟩ := I.hok p _ hk
          exact ⟨o, e, ex⟩
      obtain ⟨o, e, ex⟩ := z
      refine ⟨⟨o, e, ex.1⟩, fun a e2 => ?_⟩
      cases e2
      exact ⟨o, e, ex.2.1⟩
    · obtain ⟨o, _, _, _, e, ex, _⟩ := I.hok p _ hk
      refine ⟨⟨o, e, ex.1⟩, fun a e2 => ?_⟩
      cases e2
      exact ⟨o, e, ex.2.1⟩
  | _ => exact False.elim ty
def tBM (K : PySem.W.Frag) (T : String) (r : V → List V → Hp → VK → Prop) (to : TE) (t : TA) : TE := fun σ H Q => to σ H fun x H1 => tyV K T x H1 ∧ t σ H1 fun xs H2 => r x xs H2 Q
variable {o e : Expr} {es : List Expr} {to : TE} {t : TA} {name : Str} {apos cpos : Pos} {T id : String} {r : V → List V → Hp → VK → Prop}
theorem pe_bm (pa : PlainAttrs T) (slot : Slot T name id) (hty : typeOf (.builtin id) = pure (.type "method_descriptor")) (hm : MtR X id r) (ho : PE X o to) (ha : PA X (e :: es) t)
    (hbase : attributeBase o name X.env (eval o X.env) = eval o X.env := by rfl)
    (hfew : ((backTo cpos (starEach (e :: es) X.env)).all (fun x => !x.1) && (backToKw cpos (keywordEach [] X.env)).all (fun x => x.1.isSome)
      && decide ((e :: es).length + ([] : List Keyword).length + (if ([] : List Keyword).isEmpty then 0 else 1) < 30)) = true := by rfl)
    (hline : (apos.endLine == cpos.line) = true := by rfl) (hs : starEach (e :: es) X.env = (false, eval e X.env) :: starEach es X.env := by rfl) (hplain : (backTo cpos (starEach es X.env)).any (·.1) = false := by rfl) :
    PE X (.Call (.Attribute o name apos) (e :: es) [] cpos) (tBM X.K T r to t) := by
  intro pins s σ H Q I h
  refine wpAny_Call_method_late hbase hfew hline rfl (thn (ho pins s σ H _ I h) fun v s1 ⟨x, H1, I1, r1, ty, q1⟩ => ?_)
  obtain ⟨h1, h2⟩ := tyV_is I1 r1 ty
  refine ⟨T, id, pa, slot, hty, h1, h2, ?_⟩
  have hA := ha cpos pins s1 σ H1 _ I1 q1
  rw [hs] at hA ⊢
  refine Calls.callWith_builtin (by show (false || (backTo cpos (starEach es X.env)).any (·.1)) = false; rw [hplain] <;> rfl) (Calls.evalArgs_plain ?_)
  exact thn hA fun us s2 ⟨vs, H2, I2, r2, q2⟩ => hm pins s2 σ H2 x vs v us Q I2 r1 r2 q2

end
end L2

namespace L2
open PySem PySem.Spec PyProof.Rows

def MtM (X : Cx) (id : String) (r : V → List V → Hp → VK → Prop) : Prop :=
  ∀ (pins : List (Addr × Obj)) (s : Shared) (σ : St) (H : Hp) (x : V) (xs : List V) (v : Value) (us : List Value) (Q : VK), Inv X pins σ H s → RelV x v → Vals xs us → r x xs H Q →
    wpAny (model X.prog X.w) X.A (call (.builtin id) (v :: us)) (EP X pins σ Q) X.xe s


theorem Vals.one : ∀ {x : V} {us : List Value}, Vals [x] us → ∃ u, us = [u] ∧ RelV x u
  | _, _, .cons r .nil => ⟨_, rfl, r⟩
theorem Vals.two : ∀ {x y : V} {us : List Value}, Vals [x, y] us → ∃ u v, us = [u, v] ∧ RelV x u ∧ RelV y v
  | _, _, _, .cons r (.cons q .nil) => ⟨_, _, rfl, r, q⟩
theorem Vals.eraseIdx : ∀ {xs : List V} {us : List Value} (i : Nat), Vals xs us → Vals (xs.eraseIdx i) (us.eraseIdx i)
  | _, _, _, .nil => .nil
  | _, _, 0, .cons _ t => t
  | _, _, i + 1, .cons r t => .cons r (Vals.eraseIdx i t)
theorem len_erase {α : Type} : ∀ (l : List α) (i : Nat), (l.eraseIdx i).length ≤ l.length
  | [], _ => Nat.le_refl _
  | _ :: _, 0 => Nat.le_succ _
  | _ :: r, i + 1 => Nat.succ_le_succ (len_erase r i)
section
variable {X : Cx} {pins : List (Addr × Obj)} {σ : St} {H : Hp} {s : Shared} {l b : Addr} {xs ys zs : List V}


theorem Inv.lset {its its' : List Value} {n : Nat} {f : Array Value → Array Value} {t' : Nat} (I : Inv X pins σ H s) (hH : H l = some (.lst xs))
    (e : s.heap.get? l = some { cls := .type "list", data := .seq its.toArray n }) (hf : f its.toArray = its'.toArray) (hv : Vals ys its') (hz : ys.length ≤ sizeLine) :
    Inv X pins σ (upd H l (.lst ys)) { s with heap := s.heap.update l (Obj.mapSeq f), toks := t' } := by
  have q := PySem.IsL.update e f
  rw [hf] at q
  refine I.write (x := l) (e := l) (by rw [hH]; exact trivial) (.inl rfl) (fun b' u hb hu => (Heap.get?_update_other s.heap (Obj.mapSeq f) (Ne.symm hb)).trans hu) ⟨_, q⟩ ?_
  exact ⟨hz, its', _, hv, q⟩
theorem Inv.lnew {its : List Value} {t' : Nat} (I : Inv X pins σ H s) (hv : Vals ys its) (hz : ys.length ≤ sizeLine) :
    Inv X pins σ (upd H s.heap.objs.size (.lst ys)) { s with heap := s.heap.push { cls := .type "list", data := .seq its.toArray }, toks := t' } :=
  I.laid (fun _ _ q => Heap.get?_push_of_some _ q) (Nat.le_refl _) ⟨hz, its, 0, hv, Heap.get?_push_size _ rfl⟩
theorem Inv.fresh (I : Inv X pins σ H s) : H s.heap.objs.size = none := I.hok.fresh (Nat.le_refl _)
theorem Inv.lstM (I : Inv X pins σ H s) (hH : H l = some (.lst xs)) : xs.length ≤ sizeLine ∧ ∃ (its : List Value) (n : Nat), Vals xs its ∧ xs.length = its.length ∧ s.heap.get? l = some { cls := .type "list", data := .seq its.toArray n } := by
  obtain ⟨z, its, n, r, e⟩ := I.hok l _ hH
  exact ⟨z, its, n, r, r.length, e⟩

end

section
variable {X : Cx}


def rAppend : V → List V → Hp → VK → Prop := fun x vs H Q => ∃ l xs y, x = .ref l ∧ vs = [y] ∧ H l = some (.lst xs) ∧ xs.length < sizeLine ∧ Q .non (upd H l (.lst (xs ++ [y])))
theorem mt_append : MtM X "list.append" rAppend := by
  intro pins s σ H x vs v us Q I rx rv h
  obtain ⟨l, xs, y, rfl, rfl, hH, hz, q⟩ := h
  cases rx
  obtain ⟨u, rfl, ru⟩ := rv.one
  obtain ⟨z, its, n, r, hl, e⟩ := I.lstM hH
  refine call_meets F.slot_list_append ⟨_, e, rfl⟩ F.entry_list_append (F.args_list_append_2 _ _) (PySem.list_append l its.toArray n u (by rw [List.size_toArray]; omega)) ⟨e, ?_⟩
  refine ⟨.non, _, I.lset (its' := its ++ [u]) hH e (by simp) (r.append (.cons ru .nil)) ?_, rfl, q⟩
  rw [List.length_append, List.length_singleton]
  omega

def rPopAt : V → List V → Hp → VK → Prop := fun x vs H Q => ∃ l xs i k y, x = .ref l ∧ vs = [.int i] ∧ H l = some (.lst xs) ∧ -(2 ^ 63) ≤ i ∧ i < 2 ^ 63 ∧ seqIndex? i xs.length = some k ∧ xs[k]? = some y ∧ Q y (upd H l (.lst (xs.eraseIdx k)))
theorem mt_popAt : MtM X "list.pop" rPopAt := by
  intro pins s σ H x vs v us Q I rx rv h
  obtain ⟨l, xs, i, k, y, rfl, rfl, hH, h1, h2, hk, hy, q⟩ := h
  cases rx
  obtain ⟨u, rfl, ru⟩ := rv.one
  obtain ⟨t, rfl⟩ := ru
  obtain ⟨z, its, n, r, hl, e⟩ := I.lstM hH
  obtain ⟨w, hw, rw'⟩ := r.get hy
  refine call_meets F.slot_list_pop ⟨_, e, rfl⟩ F.entry_list_pop (F.args_list_pop_2 _ _)
    (MeetsSeq.list_pop_at l its.toArray n i t k w (fitsIndex_both h1 h2) (by rw [List.size_toArray, ← hl]; exact hk) (by rw [← Array.getElem?_toList]; exact hw) (by rw [List.size_toArray]; omega)) ⟨e, ?_⟩
  refine ⟨y, _, I.lset (its' := its.eraseIdx k) hH e ?_ (r.eraseIdx k) ?_, rw', q⟩
  · show its.toArray.eraseIdxIfInBounds k = (its.eraseIdx k).toArray
    rw [List.eraseIdxIfInBounds_toArray]
  · have := len_erase xs k
    omega

end


section
variable {prog : Program} {w : World} {A : Around} {E : Value → Shared → Prop} {s : Shared}
end

section
variable {X : Cx}

end
end L2

namespace Att
open PySem PySem.W PySem.Calls PyProof.Rows


theorem ints_of_wellAll {P : Params} {h : Heap} : ∀ (ns : List Int) (vs : List Value), WellAll P h vs (ns.map WData.int) → IntsAre vs ns := by
  intro ns
  induction ns with
  | nil =>
    intro vs w
    rw [List.map_nil] at w
    cases w
    exact .nil
  | cons n ns ih =>
    intro vs w
    rw [List.map_cons] at w
    cases w with
    | cons a b =>
      cases a
      exact .cons _ _ (ih _ b)

theorem script_of {l : OpenLaw} {n : Nat} (hn : l.most = some n) {P : Params} {h : Heap} {args : List WData} {vals : List Value}
    (hpre : l.row.toRowW.claim.pre args = true) (hwl : WellAll P h vals args) :
    ∃ a vs ns, vals = [Value.ref a] ∧ args = [WData.list (ns.map WData.int)] ∧ h.get? a = some { cls := .type "list", data := .seq vs.toArray } ∧ IntsAre vs ns ∧ ns.length ≤ n := by
  have hsh : WShape.hasAll [] args [.list .int] = true := (pre_splitW hpre).1
  have hc : l.pre.holds [] { args := args } = true := (pre_splitW hpre).2
  obtain ⟨d, r, rfl, h1, h2⟩ := hasAllW_cons hsh
  obtain rfl := hasAllW_nil h2
  obtain ⟨xs, rfl, h3⟩ := hasW_list h1
  obtain ⟨ns, rfl⟩ := items_int h3
  have hlen : ns.length ≤ n := by
    unfold OpenLaw.pre at hc
    have h4 : (WTm.not (.lt (.lit (.int (n : Int))) (.len (.arg 0)))).holds [] { args := [.list (ns.map .int)] } = true := by
      have h4 := (holds_andW hc).1
      rw [hn] at h4
      exact h4
    have h5 := condW_of h4 (w_not (w_lt w_lit (w_len_list (w_arg rfl))))
    rw [List.length_map] at h5
    refine Nat.le_of_not_lt fun q => ?_
    have q' : (n : Int) < ((ns.length : Nat) : Int) := by omega
    first
      | (rw [decide_eq_true q'] at h5; exact absurd h5 (by decide))
      | (simp at h5; omega)
  cases hwl with
  | cons w1 w2 =>
    cases w2
    cases w1 with
    | list ho hall => exact ⟨_, _, ns, rfl, rfl, ho, ints_of_wellAll ns _ hall, hlen⟩

theorem post_true (l : OpenLaw) (args : List WData) : l.row.toRowW.claim.post args (.bool true) args = true :=
  postW_of (r := l.row.toRowW) (X := (true == true))
    (show WShape.has [] (.bool true) .bool = true by first | rfl | decide | simp [WShape.has, WShape.arms, WShape.armsAll])
    (show (WTm.eq .res (.lit (.bool true))).value [] { args := args, res := some (.bool true), after := args } = some (.bool (true == true)) from w_eq_bool (w_res rfl) w_lit) rfl


theorem attach_call {l : OpenLaw} {n : Nat} {q : Program} {loose : List Str} {XP : (Str → Option Value) → Heap → Prop} {YP : World → Heap → Prop} {d : DefRec}
    (hn : l.most = some n) (hdf : d.params.defaults = [])
    (call : ∀ (w : World) (s₀ s₁ : Shared) (mg mb : Str → Option Value) (fa : Addr) (o : Obj) (pm cd doc : Value) (a : Addr) (vs : List Value) (ns : List Int),
      Ground q loose [] XP w s₀ mg mb s₁.heap → YP w s₁.heap →
      s₁.heap.get? fa = some o → o.data = .func (docDef d.name d.params d.body d.scope pm cd doc) → s₁.heap.CodeRec cd d.name → mg d.name = some (.ref fa) →
      s₁.heap.get? a = some { cls := .type "list", data := .seq vs.toArray } → IntsAre vs ns → ns.length ≤ n → s₁.gens = #[] →
      codeAny (model l.prog w) callerA (.call (.ref fa) ⟨[.ref a], []⟩) (fun r s' => r = .ok (.ret (.bool true)) ∧ OldK s₁.heap s'.heap ∧ s'.os = s₁.os ∧ AllBare s'.gens) s₁) :
    WalkO q loose XP YP l.row.toRowW d [] (fun f vs => PySem.call f vs) := by
  intro w s₀ s₁ mg mb G Y fa o pm cd doc dV kV ho hd hcd hD hmg hg args vals as hpre hlay hrd hwl hlo
  obtain rfl : dV = .none := Dflts.none hD hdf
  obtain rfl : kV = .none := Dflts.noKw hD
  obtain ⟨a, vs, ns, rfl, rfl, hobj, hints, hlen⟩ := script_of hn hpre hwl
  refine enter_call (codeAny_mono (call w s₀ s₁ mg mb fa o pm cd doc a vs ns G Y ho (fd_plain hd) hcd hmg hobj hints hlen hg) fun r s' hq => ?_)
  obtain ⟨rfl, h2, h3, h4⟩ := hq
  exact ⟨.inl ⟨.bool true, .bool true, [], rfl, fun _ => rfl, .bool true, post_true l _, fun _ => ⟨List.Pairwise.nil, fun _ hm => (nomatch hm)⟩⟩, h2, h3, h4⟩


section
variable {prog : Program} {w : World} {A : Around} {E : Value → Shared → Prop} {s : Shared} {K : Frag}


end
end Att

namespace L2
open PySem PySem.Spec PyProof.Rows

theorem vals_ints : ∀ {vs : List Value} {ns : List Int}, IntsAre vs ns → Vals (ns.map V.int) vs
  | _, _, .nil => .nil
  | _, _, .cons n t h => .cons ⟨t, rfl⟩ (vals_ints h)


def Only (H : Hp) : Prop := ∀ b, H b = none ∨ ∃ o xs, H b = some (.frz o (.lst xs))


theorem law_call {P : Program} {w : World} {K : PySem.W.Frag} {mg mb : Str → Option Value} {CX : CXT} {k : Nat} {fa a : Addr} {fd : FuncData} {x : Str} {sp : Sp} {s₁ : Shared} {vs : List Value} {ns : List Int}
    (KX : K.In s₁.heap) (hns : s₁.heap.Ns mainGlobals mg) (hb : s₁.heap.Ns builtinsNs mb) (hbb : ∀ x : Str, x ≠ "__name__" → mb x = bootBuiltins x) (hlim : s₁.heap.NoLimit) (hg : s₁.gens = #[])
    (ha : s₁.heap.get? a = some { cls := .type "list", data := .seq vs.toArray }) (hi : IntsAre vs ns) (hl : ns.length ≤ sizeLine) (hr : Room k callerA)
    (F : ∀ base : Heap, K.In base → base.Ns mainGlobals mg → FnOk P w K mg base CX k fa fd [x] sp) (hbind : ∀ (s : Shared) (u : Value), BindsTo s fd ⟨[u], []⟩ [(x, u)])
    (hsp : ∀ H : Hp, Only H → SqL K H a (ns.map V.int) → sp [.ref a] H (fun v _ => v = .bl true) fun _ _ _ => False)
    (hCX : ∀ H e s', CX [] H s₁ (fun _ _ _ => False) e s' → False) :
    codeAny (model P w) callerA (.call (.ref fa) ⟨[.ref a], []⟩) (fun r s' => r = .ok (.ret (.bool true)) ∧ OldK s₁.heap s'.heap ∧ s'.os = s₁.os ∧ AllBare s'.gens) s₁ := by
  have rv := vals_ints hi
  have lenV := hi.length
  -- from an abstract heap in which nothing but the script may be tracked
  have core : ∀ H : Hp, Only H → SqL K H a (ns.map V.int) → HOk P w H s₁.heap → (∀ b, H b ≠ none → b = a) → (H a ≠ none → K.lookup a = none) →
      codeAny (model P w) callerA (.call (.ref fa) ⟨[.ref a], []⟩) (fun r s' => r = .ok (.ret (.bool true)) ∧ OldK s₁.heap s'.heap ∧ s'.os = s₁.os ∧ AllBare s'.gens) s₁ := by
    intro H hO hS hok hA hK
    have base_of : ∀ {b : Addr} {o : Obj}, s₁.heap.get? b = some o → H b = none → (hidT s₁.heap H).get? b = some o := fun e n => hidT_get e n
    have noA : ∀ {b : Addr} {o : Obj} {es : Array DictEntry} {ep : Nat}, s₁.heap.get? b = some o → o.data = .dict es ep → H b = none := fun {b o es ep} e d => by
      cases q : H b with
      | none => rfl
      | some u =>
        have e' : b = a := hA b (by rw [q]; simp)
        subst e'
        rw [ha] at e; cases e
        have d' : Data.seq vs.toArray _ = Data.dict es ep := d
        cases d'
    have nsK : ∀ {b : Addr} {m : Str → Option Value}, s₁.heap.Ns b m → (hidT s₁.heap H).Ns b m := fun {b m} ⟨o, es, ep, e, d, r⟩ => ⟨o, es, ep, base_of e (noA e d), d, r⟩
    have hKb : K.In (hidT s₁.heap H) := fun b o e => base_of (KX b o e) (by
      cases q : H b with
      | none => rfl
      | some u =>
        have e' : b = a := hA b (by rw [q]; simp)
        subst e'
        rw [hK (by rw [q]; simp)] at e; cases e)
    have hM : Mod K mg (hidT s₁.heap H) := ⟨hKb, nsK hns, ⟨mb, nsK hb, hbb⟩, let ⟨mc, h1, h2⟩ := hlim; ⟨mc, nsK h1, h2⟩⟩
    have e0 : Env0 P w K mg (hidT s₁.heap H) callerA [] s₁ H := ⟨rfl, hM, fun b o e => of_hidT e, Nat.le_of_eq (hidT_size _ _), trivial, fun b hb => absurd (show b ∈ ([] : List Addr) from hb) (by simp), hok, .of_eq hg⟩
    refine codeAny_mono ((F _ hKb (nsK hns)).run callerA [] s₁ H ⟨[.ref a], []⟩ [.ref a] [.ref a] _ _ hr e0 (hbind s₁ (.ref a)) (.cons rfl .nil) (hsp H hO hS)) fun r s' h => ?_
    cases r with
    | error e => exact (hCX H e s' h).elim
    | ok fl =>
      cases fl with
      | next => exact False.elim h
      | brk => exact False.elim h
      | cont => exact False.elim h
      | ret u =>
        obtain ⟨v, H', os, bare, un, hok', r', q⟩ := h
        have q' : v = .bl true := q
        subst q'
        obtain rfl : u = Value.bool true := r'
        refine ⟨rfl, OldK.of_keep fun b o e => ?_, os, bare⟩
        cases q : H b with
        | none => exact un.keep b o e q (by intro z; exact absurd (show b ∈ ([] : List Addr) from z) (by simp)) (by simp)
        | some u =>
          rcases hO b with z | ⟨ob, xs, z⟩
          · rw [q] at z; cases z
          · have z2 := un.frzs b ob _ z
            obtain ⟨e1, _⟩ := hok b _ z
            obtain ⟨e2, _⟩ := hok' b _ z2
            rw [e] at e1; cases e1
            exact e2
  cases hk : K.lookup a with
  | some o =>
    -- the script is one of the module's own objects
    have e := KX a o hk
    rw [ha] at e
    cases e
    refine core (fun _ => none) (fun _ => .inl rfl) (.inr ⟨_, vs.toArray, _, hk, rfl, rfl, rfl, by rw [List.size_toArray, lenV]; exact hl, by simpa using rv⟩) (fun b u z => by have z' : (none : Option HO) = some u := z; cases z') (fun b z => absurd rfl z) fun z => absurd rfl z
  | none =>
    refine core (fun b => if b = a then some (.frz { cls := .type "list", data := .seq vs.toArray } (.lst (ns.map V.int))) else none) (fun b => ?_) (.inl (.inr ⟨{ cls := .type "list", data := .seq vs.toArray }, if_pos rfl⟩)) (fun b u z => ?_) (fun b z => ?_) fun _ => hk
    · by_cases hb : b = a
      · exact .inr ⟨_, _, if_pos hb⟩
      · exact .inl (if_neg hb)
    · by_cases hb : b = a
      · have z' := (if_pos hb).symm.trans z
        cases z'
        subst hb
        exact ⟨ha, by rw [List.length_map]; exact hl, vs, _, rv, ha⟩
      · have z' := (if_neg hb).symm.trans z
        cases z'
    · by_cases hb : b = a
      · exact hb
      · exact absurd (if_neg hb) z
end L2

namespace L2
open PySem PySem.Spec PyProof.Rows

theorem walk_of {l : PySem.W.OpenLaw} {n k : Nat} {q : Program} {loose : List Str} {XP : (Str → Option Value) → Heap → Prop} {YP : World → Heap → Prop} {d : DefRec} {K : Params → PySem.W.Frag} {CX : World → CXT} {sp : World → Sp} {x : Str}
    (hn : l.most = some n) (hn2 : n ≤ sizeLine) (hdf : d.params.defaults = []) (hr : Room k callerA)
    (hY : ∀ (w : World) (h : Heap), YP w h → (K w.params).In h)
    (F : ∀ (w : World) (mg : Str → Option Value) (fa : Addr) (h : Heap), (K w.params).In h → h.Ns mainGlobals mg → mg d.name = some (.ref fa) →
      ∃ fd : FuncData, (∀ (s : Shared) (u : Value), BindsTo s fd ⟨[u], []⟩ [(x, u)]) ∧
        ∀ base : Heap, (K w.params).In base → base.Ns mainGlobals mg → FnOk l.prog w (K w.params) mg base (CX w) k fa fd [x] (sp w))
    (hsp : ∀ (w : World) (H : Hp) (a : Addr) (ns : List Int), ns.length ≤ n → Only H → SqL (K w.params) H a (ns.map V.int) → sp w [.ref a] H (fun v _ => v = .bl true) fun _ _ _ => False)
    (hCX : ∀ (w : World) (H : Hp) (s : Shared) (e : Value) (s' : Shared), CX w [] H s (fun _ _ _ => False) e s' → False) :
    PySem.W.WalkO q loose XP YP l.row.toRowW d [] (fun f vs => PySem.call f vs) := by
  refine Att.attach_call hn hdf fun w s₀ s₁ mg mb fa o pm cd doc a vs ns G Y ho hd hcd hmg hobj hints hlen hg => ?_
  have KX := hY w _ Y
  obtain ⟨fd, hb, hF⟩ := F w mg fa _ KX G.T.g hmg
  exact law_call KX G.T.g G.T.b G.T.builtins G.T.nolimit hg hobj hints (Nat.le_trans hlen hn2) hr hF hb (fun H hO hS => hsp w H a ns hlen hO hS) fun H e s' => hCX w H s₁ e s'

end L2




namespace L2
open PySem PySem.Spec PyProof.Rows





abbrev CX0 : CXT := fun _ _ _ _ _ _ => False
abbrev E0 : XK := fun _ _ _ => False
theorem pass0 {X : Cx} : Passes CX0 X E0 := fun _ _ _ _ _ _ _ h => h.elim


structure Fun (K : PySem.W.Frag) (x qual : Str) (st : Stmt) (f : Addr) (fd : FuncData) : Prop where
  ex : ∃ (oc : Value) (od : Option Addr) (kV doc pm : Value) (an : Option Addr) (cdv ct : Value) (osl : Array (Option Value)),
    fd = PySem.W.fnOf x qual (defArgs st) (defBody st) (defScope st) .none kV doc pm an cdv ct ∧ K.lookup f = some ⟨oc, od, .func fd, osl⟩ ∧ PySem.W.codeIn K cdv qual = true
  kp : PySem.W.keepIn K (.ref f) = true
section
variable {P : Program} {w : World} {K : PySem.W.Frag} {mg : Str → Option Value} {base : Heap}

theorem Fun.ok {x qual : Str} {st : Stmt} {f : Addr} {fd : FuncData} {N ps : List Str} {k : Nat} {sp : Sp} (F : Fun K x qual st f fd) (S : FnScope N ps (defScope st)) (len : ∀ vs H Q E, sp vs H Q E → vs.length = ps.length)
    (hbody : ∀ (cdv : Value) (A : Around) (outer : List Env) (s : Shared) (H : Hp) (vs : List V) (Q : VK) (E : XK), Room k (A.deeper (envOfC qual (defScope st) s.heap.objs.size f cdv)) → sp vs H Q E →
      ∃ t, PSs (cxOf CX0 P w K mg base N qual (defScope st) f cdv A outer s H E).nox (defBody st) t ∧ t { nx := fun _ H' => Q .non H', rt := Q } (start N vs) H) : FnOk P w K mg base CX0 (k + 1) f fd ps sp := by
  obtain ⟨oc, od, kV, doc, pm, an, cdv, ct, osl, rfl, lk, hcd⟩ := F.ex
  refine fn_of lk hcd S len fun A outer s H vs Q E hr hsp => ?_
  obtain ⟨t, h, q⟩ := hbody cdv A outer s H vs Q E hr hsp
  exact ⟨t, h.nox, q⟩

theorem Fun.binds {x qual : Str} {st : Stmt} {f : Addr} {fd : FuncData} {ps : List Str} (F : Fun K x qual st f fd)
    (h : ∀ (kV doc pm : Value) (an : Option Addr) (cdv ct : Value) (us : List Value), us.length = ps.length → bindArgs (PySem.W.fnOf x qual (defArgs st) (defBody st) (defScope st) .none kV doc pm an cdv ct) ⟨us, []⟩ = pure (ps.zip us)) : Binds K fd ps [] := by
  obtain ⟨oc, od, kV, doc, pm, an, cdv, ct, osl, rfl, lk, hcd⟩ := F.ex
  exact .all (h kV doc pm an cdv ct)
theorem fun_mk {x qual : Str} {st : Stmt} {f : Addr} {oc : Value} {od an : Option Addr} {osl : Array (Option Value)} {kV doc pm cdv ct : Value} (l : K.lookup f = some ⟨oc, od, .func (PySem.W.fnOf x qual (defArgs st) (defBody st) (defScope st) .none kV doc pm an cdv ct), osl⟩)
    (c : PySem.W.codeIn K cdv qual = true) (k : PySem.W.keepIn K (.ref f) = true) : Fun K x qual st f (PySem.W.fnOf x qual (defArgs st) (defBody st) (defScope st) .none kV doc pm an cdv ct) := ⟨⟨oc, od, kV, doc, pm, an, cdv, ct, osl, rfl, l, c⟩, k⟩
end
theorem small1000 {n : Nat} (h : n ≤ 1000) : n < sizeLine := Nat.lt_of_le_of_lt h (by decide)


section
variable {X : Cx}
theorem pv (i : Nat) {x : Str} {pos : Pos} (hN : X.N[i]? = some x := by rfl) (hv : Vis X.env.scope x := by first | exact Or.inl rfl | exact Or.inr (Or.inl rfl) | exact Or.inr (Or.inr rfl)) (hd : (x == ("__debug__" : Str)) = false := by decide)
    (hcd : (x == ("__classdict__" : Str)) = false := by decide) : PE X (.Name x pos) (tVar i) := pe_var hN hv hd hcd
end


theorem iteF {A B : Prop} (h : B) : if false = true then A else B := by
  rw [if_neg Bool.false_ne_true]
  exact h
theorem iteT {A B : Prop} (h : A) : if true = true then A else B := by
  rw [if_pos rfl]
  exact h
theorem ite2 {c A B : Prop} [Decidable c] (h1 : c → A) (h2 : ¬ c → B) : if c then A else B := by
  by_cases h : c
  · rw [if_pos h]
    exact h1 h
  · rw [if_neg h]
    exact h2 h
theorem iteNS {c A B : Prop} [Decidable c] (hc : c) (h : B) : if (!decide c) = true then A else B := by
  rw [decide_eq_true hc]
  exact iteF h



def Same (H H' : Hp) : Prop := ∀ b o, H b = some o → H' b = some o
theorem Same.refl (H : Hp) : Same H H := fun _ _ h => h
theorem Same.trans {H H1 H2 : Hp} (a : Same H H1) (b : Same H1 H2) : Same H H2 := fun c o h => b c o (a c o h)
theorem Same.free {H H' : Hp} (e : Same H H') {l : Addr} (h : H' l = Option.none) : H l = Option.none := by
  cases q : H l with
  | none => rfl
  | some o =>
    rw [e l o q] at h
    cases h
theorem Same.seq {K : PySem.W.Frag} {H H' : Hp} {a : Addr} {xs : List V} (e : Same H H') (h : SqL K H a xs) : SqL K H' a xs := by
  rcases h with (h | ⟨o, h⟩) | h
  · exact .inl (.inl (e _ _ h))
  · exact .inl (.inr ⟨o, e _ _ h⟩)
  · exact .inr h

end L2
set_option maxHeartbeats 4000000
namespace L2
open PySem PySem.Spec PyProof.Rows


section
variable {prog : Program} {w : World} {A : Around} {R : Result → Shared → Prop} {s : Shared}
theorem comp_loop {elt target iter : Expr} {ifs : List Expr} {scope : Scope} {pos : Pos} {it acc : Value} {env : Env} (I : Nat → Shared → Prop)
    (turn : ∀ n s, I n s → wpAny (model prog w) A (pyNext it) (fun r s1 => match r with
      | none => R (.ok .next) s1
      | some v => wpAny (model prog w) A (letOwnedTupleGo target it v) (fun _ s1' => wpAny (model prog w) A (assign target env v) (fun _ s2 =>
          wpAny (model prog w) A (forIn ifs true fun c r => if r = true then do let ok ← isTrue c env (eval c env); pure (ForInStep.yield ok) else pure (ForInStep.yield r)) (fun ok s3 =>
            if ok = true then wpAny (model prog w) A (eval elt env) (fun x s4 =>
              wpAny (model prog w) A (call (.builtin "list.append") [acc, x]) (fun _ s5 => ∃ m, m < n ∧ I m s5) (fun _ _ => False) s4) (fun _ _ => False) s3
            else ∃ m, m < n ∧ I m s3) (fun _ _ => False) s2) (fun _ _ => False) s1') (fun _ _ => False) s1) (fun _ _ => False) s)
    (n : Nat) (h : I n s) :
    codeAny (model prog w) A (.compLoop (.ListComp elt [⟨target, iter, ifs, 0⟩] scope pos) 0 it acc env) R s := by
  refine codeAny_loop rfl I (fun n s hI => ?_) n h
  show wpAny _ A ((compTurn (.ListComp elt [⟨target, iter, ifs, 0⟩] scope pos) 0 it acc env).onRaise (fun x => do noteFrame x env; theTreesLotGoes x)) _ _ s
  refine wpAny_noted ?_
  rw [compTurn_list]
  refine wpAny_bind (wpAny_standAt (wpAny_bind (wpAny_mono (turn n s hI) (fun r s1 h1 => ?_) fun _ _ f => f.elim)))
  cases r with
  | none => exact wpAny_pure h1
  | some v =>
    refine wpAny_bind (wpAny_mono h1 (fun _ s1' h1' => ?_) fun _ _ f => f.elim)
    refine wpAny_bind (wpAny_mono h1' (fun _ s2 h2 => wpAny_bind (wpAny_mono h2 (fun ok s3 h3 => ?_) fun _ _ f => f.elim)) fun _ _ f => f.elim)
    cases ok with
    | false => exact wpAny_pure ⟨rfl, h3⟩
    | true =>
      exact wpAny_bind (wpAny_bind (wpAny_mono h3 (fun x s4 h4 => wpAny_bind (wpAny_mono h4 (fun _ s5 h5 => wpAny_pure (wpAny_pure ⟨rfl, h5⟩)) fun _ _ f => f.elim)) fun _ _ f => f.elim))
end


def clOf (env : Env) : List (Str × NameKind) → List (Str × Addr) → List (Str × Addr)
  | [], cs => cs
  | (n, k) :: r, cs => clOf env r (if (k == NameKind.free) = true then (match env.cells.lookup n with | some a => (n, a) :: cs | none => cs) else cs)
theorem closure_loop {env : Env} {f : Str × NameKind → List (Str × Addr) → Sem (ForInStep (List (Str × Addr)))}
    (hf : ∀ n k cs, f (n, k) cs = if (k == NameKind.free) = true then (do let a ← cellOf env n; pure (.yield ((n, a) :: cs))) else pure (.yield cs)) :
    ∀ (l : List (Str × NameKind)) (cs : List (Str × Addr)), (∀ y ∈ l, y.2 = .free → ∃ c, env.cells.lookup y.1 = some c) → forIn l cs f = pure (clOf env l cs)
  | [], cs, _ => by rw [List.forIn_nil]; rfl
  | (n, k) :: r, cs, h => by
    have hr : ∀ y ∈ r, y.2 = .free → ∃ c, env.cells.lookup y.1 = some c := fun y hy => h y (List.mem_cons_of_mem _ hy)
    rw [List.forIn_cons, hf]
    unfold clOf
    by_cases hk : (k == NameKind.free) = true
    · obtain ⟨c, hc⟩ := h (n, k) List.mem_cons_self (by simpa using hk)
      have hc' : env.cells.lookup n = some c := hc
      rw [if_pos hk, if_pos hk]
      simp only [cellOf, hc', pure_bind]
      exact closure_loop hf r _ hr
    · rw [if_neg hk, if_neg hk, pure_bind]
      exact closure_loop hf r _ hr
theorem closure_eq {env : Env} {scope : Scope} (h : ∀ y ∈ scope.names, y.2 = .free → ∃ c, env.cells.lookup y.1 = some c) : closureFor scope env = pure (clOf env scope.names []) := by
  simp only [closureFor]
  rw [closure_loop (env := env) (fun n k cs => by cases hk : k == NameKind.free <;> simp [hk]) scope.names [] h]
  rfl
theorem clOf_mem {env : Env} {x : Str} {c : Addr} : ∀ {l : List (Str × NameKind)} {cs : List (Str × Addr)}, (∀ z d, cs.lookup z = some d → env.cells.lookup z = some d) → (clOf env l cs).lookup x = some c → env.cells.lookup x = some c
  | [], _, hc, h => hc _ _ h
  | (n, k) :: r, cs, hc, h => by
    unfold clOf at h
    refine clOf_mem (l := r) ?_ h
    intro z d hz
    split at hz
    · split at hz
      · rename_i a ha
        rw [List.lookup_cons] at hz
        split at hz
        · rename_i e
          have e' : z = n := by simpa using e
          subst e'
          rw [ha]
          exact hz
        · exact hc z d hz
      · exact hc z d hz
    · exact hc z d hz
theorem clOf_get {env : Env} {x : Str} {c : Addr} (e : env.cells.lookup x = some c) : ∀ {l : List (Str × NameKind)} {cs : List (Str × Addr)}, (∀ z d, cs.lookup z = some d → env.cells.lookup z = some d) →
    ((x, NameKind.free) ∈ l ∨ ∃ d, cs.lookup x = some d) → (clOf env l cs).lookup x = some c
  | [], cs, hc, h => by
    rcases h with h | ⟨d, h⟩
    · simp at h
    · have := hc x d h
      rw [e] at this
      cases this
      exact h
  | (n, k) :: r, cs, hc, h => by
    unfold clOf
    have hc2 : ∀ z d, (if (k == NameKind.free) = true then (match env.cells.lookup n with | some a => (n, a) :: cs | none => cs) else cs).lookup z = some d → env.cells.lookup z = some d := by
      intro z d hz
      split at hz
      · split at hz
        · rename_i a ha
          rw [List.lookup_cons] at hz
          split at hz
          · rename_i e
            have e' : z = n := by simpa using e
            subst e'
            rw [ha]
            exact hz
          · exact hc z d hz
        · exact hc z d hz
      · exact hc z d hz
    refine clOf_get e (l := r) hc2 ?_
    have keep : ∀ d, cs.lookup x = some d → ∃ d, (if (k == NameKind.free) = true then (match env.cells.lookup n with | some a => (n, a) :: cs | none => cs) else cs).lookup x = some d := by
      intro d hd
      split
      · split
        · rename_i a ha
          rw [List.lookup_cons]
          split
          · exact ⟨_, rfl⟩
          · exact ⟨d, hd⟩
        · exact ⟨d, hd⟩
      · exact ⟨d, hd⟩
    rcases h with h | ⟨d, h⟩
    · rcases List.mem_cons.mp h with h | h
      · have e1 : x = n := congrArg Prod.fst h
        have e2 : k = NameKind.free := (congrArg Prod.snd h).symm
        subst e1 e2
        refine .inr ⟨c, ?_⟩
        rw [if_pos (by decide), e]
        simp [List.lookup_cons]
      · exact .inl h
    · exact .inr (keep d h)

theorem relabel_free {env : Env} : ∀ {names : List (Str × NameKind)} {x : Str} {k : NameKind},
    (names.map fun (n, k) => if (k == NameKind.free && env.scope.kind == .function && env.kindOf n == some .cell) then (n, NameKind.cell) else (n, k)).lookup x = some k → (k = .cell ∨ k = .free) → (∀ y ∈ names, y.2 ≠ .cell) → names.lookup x = some .free
  | [], _, _, h, _, _ => by simp at h
  | (n, k0) :: r, x, k, h, hk, hn => by
    have ih := @relabel_free env r x k
    have h' : List.lookup x ((if (k0 == NameKind.free && env.scope.kind == .function && env.kindOf n == some .cell) = true then (n, NameKind.cell) else (n, k0)) :: (r.map fun (n, k) => if (k == NameKind.free && env.scope.kind == .function && env.kindOf n == some .cell) then (n, NameKind.cell) else (n, k))) = some k := h
    cases hx : x == n with
    | true =>
      have go : List.lookup x ((n, k0) :: r) = some k0 := by simp [List.lookup_cons, hx]
      rw [go]
      by_cases hc : (k0 == NameKind.free && env.scope.kind == .function && env.kindOf n == some .cell) = true
      · have : k0 = NameKind.free := by
          simp only [Bool.and_eq_true] at hc
          simpa using hc.1.1
        rw [this]
      · rw [if_neg hc] at h'
        simp only [List.lookup_cons, hx] at h'
        cases h'
        rcases hk with hk | hk
        · exact absurd hk (hn _ List.mem_cons_self)
        · rw [hk]
    | false =>
      have go : List.lookup x ((n, k0) :: r) = List.lookup x r := by simp [List.lookup_cons, hx]
      rw [go]
      refine ih ?_ hk (fun y hy => hn y (List.mem_cons_of_mem _ hy))
      by_cases hc : (k0 == NameKind.free && env.scope.kind == .function && env.kindOf n == some .cell) = true
      · rw [if_pos hc] at h'
        simp only [List.lookup_cons, hx] at h'
        exact h'
      · rw [if_neg hc] at h'
        simp only [List.lookup_cons, hx] at h'
        exact h'
theorem relabel_of_free {env : Env} : ∀ {names : List (Str × NameKind)} {x : Str}, names.lookup x = some .free →
    (names.map fun (n, k) => if (k == NameKind.free && env.scope.kind == .function && env.kindOf n == some .cell) then (n, NameKind.cell) else (n, k)).lookup x = some .cell ∨
    (names.map fun (n, k) => if (k == NameKind.free && env.scope.kind == .function && env.kindOf n == some .cell) then (n, NameKind.cell) else (n, k)).lookup x = some .free
  | [], _, h => by simp at h
  | (n, k0) :: r, x, h => by
    have ih := @relabel_of_free env r x
    show List.lookup x ((if (k0 == NameKind.free && env.scope.kind == .function && env.kindOf n == some .cell) = true then (n, NameKind.cell) else (n, k0)) :: _) = _ ∨ List.lookup x ((if (k0 == NameKind.free && env.scope.kind == .function && env.kindOf n == some .cell) = true then (n, NameKind.cell) else (n, k0)) :: _) = _
    cases hx : x == n with
    | true =>
      simp only [List.lookup_cons, hx] at h
      by_cases hc : (k0 == NameKind.free && env.scope.kind == .function && env.kindOf n == some .cell) = true
      · rw [if_pos hc]
        left
        simp only [List.lookup_cons, hx]
      · rw [if_neg hc]
        right
        simp only [List.lookup_cons, hx]
        exact h
    | false =>
      simp only [List.lookup_cons, hx] at h
      by_cases hc : (k0 == NameKind.free && env.scope.kind == .function && env.kindOf n == some .cell) = true
      · rw [if_pos hc]
        simp only [List.lookup_cons, hx]
        exact ih h
      · rw [if_neg hc]
        simp only [List.lookup_cons, hx]
        exact ih h



def blk (X : Cx) (N : List Str) (scope : Scope) (C : Addr) (s : Shared) (H : Hp) (ex : List Addr) : Cx where
  prog := X.prog
  w := X.w
  K := X.K
  mg := X.mg
  base := X.base
  A := X.A
  N := N
  s₀ := s
  H₀ := H
  env := compEnvC scope (clOf X.env scope.names []) C X.env
  outer := X.stack
  stack := X.stack
  ex := ex
  fn := fun _ => false
  calm := X.calm
  pn := []
  xe := fun _ _ => False

structure BlkScope (sc : Scope) (N own cn : List Str) (ci : List Nat) (scope : Scope) : Prop where
  kind : scope.kind = .function
  nocell : ∀ y ∈ scope.names, y.2 ≠ .cell
  names : ∀ y ∈ scope.names, y.2 = .local → scope.names.lookup y.1 = some .local
  free : ∀ y ∈ scope.names, y.2 = .free → sc.names.lookup y.1 = some .cell ∨ sc.names.lookup y.1 = some .free
  cap : (cn.map fun x => (some x : Option Str)) = ci.map fun i => N[i]?
  capk : ∀ x ∈ cn, scope.names.lookup x = some .free
  nd : (own ++ cn).Nodup
def blkS (own : List Str) (ci : List Nat) (σ : St) : St := own.map (fun _ => none) ++ ci.map fun i => (σ[i]?).join

section
variable {X : Cx} {pins : List (Addr × Obj)} {σ : St} {H H2 : Hp} {s s2 : Shared} {sc : Scope} {N own cn : List Str} {ci : List Nat} {scope : Scope} {fp : List Addr}
theorem blk_cells (S : BlkScope sc N own cn ci scope) (hsc : X.env.scope = sc) (I : Inv X pins σ H s) : ∀ y ∈ scope.names, y.2 = .free → ∃ c, X.env.cells.lookup y.1 = some c := fun y hy hf => by
  refine I.ok.has y.1 ?_
  have := S.free y hy hf
  rw [← hsc] at this
  exact this
theorem blk_inv (S : BlkScope sc N own cn ci scope) (hsc : X.env.scope = sc) (hN : X.N = N) (I : Inv X pins σ H s) (hfp : ∀ b ∈ fp, FpOk X pins H b) (hlt : ∀ b ∈ fp, b < s.heap.objs.size) {h1 : Heap} {tk : Nat} {m : Str → Option Value}
    (hns : h1.Ns s.heap.objs.size m) (keep : ∀ b o, s.heap.get? b = some o → h1.get? b = some o) :
    Inv (blk X (own ++ cn) scope s.heap.objs.size s H fp) [] (blkS own ci σ) H { s with heap := h1, toks := tk } := by
  have ccl : ∀ x c, (clOf X.env scope.names []).lookup x = some c → X.env.cells.lookup x = some c := fun x c e => clOf_mem (fun z d h => by simp at h) e
  have cnl : cn.length = ci.length := by have := congrArg List.length S.cap; simpa using this
  refine ⟨⟨I.ok.mod, ?_, I.ok.glob, I.ok.blt, Nat.le_refl _, fun x y c e1 e2 => I.ok.inj x y c (ccl x c e1) (ccl y c e2), fun x hx => ?_, fun x c hf _ => ?_, I.ok.hd, I.ok.frames, .inl rfl, fun b hb => ⟨Nat.ne_of_lt (hlt b hb), fun x c e => (hfp b hb).2.2.2.2.1 x c (ccl x c e)⟩, I.bs, Nat.le_trans I.ok.bsz I.sz, fun b o e hb => ?_, fun b hb hb2 => ?_, I.stack, I.stkFree⟩,
    rfl, I.bare, Un.kept keep, ⟨m, hns, fun i x v e1 e2 e3 => ?_⟩, fun x c e => ?_, I.hok.fresh (Nat.le_refl _), fun x c e => I.freeC x c (ccl x c e), fun p hp => absurd (show p ∈ ([] : List (Addr × Obj)) from hp) (by simp), I.hok.kept keep, ?_⟩
  · exact S.kind
  · have hx' : (relabel scope X.env).names.lookup x = some .cell ∨ (relabel scope X.env).names.lookup x = some .free := hx
    have hfree : scope.names.lookup x = some .free := by
      rcases hx' with q | q
      · exact relabel_free q (.inl rfl) S.nocell
      · exact relabel_free q (.inr rfl) S.nocell
    have hm := PySem.mem_of_lookup hfree
    obtain ⟨c, hc⟩ := blk_cells S hsc I _ hm rfl
    exact ⟨c, clOf_get hc (fun z d h => by simp at h) (.inl hm)⟩
  · exact absurd hf (by show ¬ (false = true); decide)
  · rcases (hfp b hb).2.2.2.1 with z | z
    · exact I.ok.noex b o e z
    · exact absurd (Nat.lt_of_lt_of_le (Heap.lt_size (I.ok.bs b o e).1) z) (Nat.lt_irrefl _)
  · rcases List.mem_cons.mp (I.stkSub b hb2) with z | z
    · exact (hfp b hb).2.1 z
    · exact (hfp b hb).2.2.1 z
  · have e1' : (own ++ cn)[i]? = some x := e1
    unfold blkS at e2
    by_cases hi : i < own.length
    · rw [List.getElem?_append_left (by simpa using hi), List.getElem?_map] at e2
      cases q : own[i]? with
      | none => rw [q] at e2; cases e2
      | some z => rw [q] at e2; cases e2
    · rw [List.getElem?_append_right (by simpa using hi)] at e2
      rw [List.getElem?_append_right (by omega)] at e1'
      rw [List.length_map, List.getElem?_map] at e2
      cases q : ci[i - own.length]? with
      | none => rw [q] at e2; cases e2
      | some j =>
        rw [q] at e2
        have e2' : (σ[j]?).join = some v := Option.some.inj e2
        have e3' : σ[j]? = some (some v) := by
          cases z : σ[j]? with
          | none => rw [z] at e2'; cases e2'
          | some o => rw [z] at e2'; exact congrArg some e2'
        have hNj : X.N[j]? = some x := by
          have c1 := congrArg (fun l => l[i - own.length]?) S.cap
          simp only [List.getElem?_map, e1', q, Option.map_some] at c1
          rw [hN]
          exact (Option.some.inj c1).symm
        have hfree := S.capk x (List.mem_of_getElem? e1')
        have hm := PySem.mem_of_lookup hfree
        have hk := S.free _ hm rfl
        rw [← hsc] at hk
        have hvis : Vis X.env.scope x := .inr hk
        obtain ⟨m0, _, hl⟩ := I.loc
        obtain ⟨u, r, l⟩ := hl j x v hNj e3' hvis
        refine ⟨u, r, .inr ⟨relabel_of_free hfree, ?_⟩⟩
        rcases l with ⟨l, _⟩ | ⟨_, c, ec, z⟩
        · have l' : X.env.scope.names.lookup x = some .local := l
          rcases hk with hk | hk <;> (rw [hk] at l'; cases l')
        · refine ⟨c, clOf_get ec (fun z d h => by simp at h) (.inl hm), ?_⟩
          obtain ⟨o, ho, hd⟩ := z
          exact ⟨o, keep c o ho, hd⟩
  · obtain ⟨v, o, ho, hd⟩ := I.cell x c (ccl x c e)
    exact ⟨v, o, keep c o ho, hd⟩
  · show (blkS own ci σ).length = (own ++ cn).length
    unfold blkS
    rw [List.length_append, List.length_append, List.length_map, List.length_map, cnl]
end


def PTs (X : Cx) (ifs : List Expr) (t : TT) : Prop :=
  ∀ (pins : List (Addr × Obj)) (s : Shared) (σ : St) (H : Hp) (Q : Bool → Hp → Prop), Inv X pins σ H s → t σ H Q →
    wpAny (model X.prog X.w) X.A (forIn ifs true fun c r => if r = true then do let ok ← isTrue c X.env (eval c X.env); pure (ForInStep.yield ok) else pure (ForInStep.yield r)) (TP X pins σ Q) X.xe s
def tTrue : TT := fun _ H Q => Q true H
theorem pts_nil {X : Cx} : PTs X [] tTrue := fun _ _ _ H _ I h => wpAny_tests_nil ⟨H, I, h⟩
theorem pts_one {X : Cx} {c : Expr} {t : TT} (h : PT X c t) : PTs X [c] t := fun pins s σ H Q I q => wpAny_tests_one (h pins s σ H Q I q)


def LcW (J : It) (g : TG) (tt : TT) (te : TE) (D : Addr) (Q : Hp → Prop) (W : Nat → Nat → St → Hp → Prop) : Prop := ∀ i m σ H, W i m σ H →
  (J.stop i H ∧ Q H) ∨ (J.go i H ∧ ∀ x H1, J.yld i H x H1 → g x σ H1 fun σ2 H2 => tt σ2 H2 fun ok H3 => if ok = true then te σ2 H3 fun y H4 => ∃ ys, H4 D = some (.lst ys) ∧ ys.length < sizeLine ∧
    ∃ m', m' < m ∧ W (i + 1) m' σ2 (upd H4 D (.lst (ys ++ [y]))) else ∃ m', m' < m ∧ W (i + 1) m' σ2 H3)
def tLC (own : List Str) (ci : List Nat) (wi : TI) (g : TG) (tt : TT) (te : TE) : TE := fun σ H Q => wi σ H fun J H1 => ∀ D, H1 D = none →
  ∃ W : Nat → Nat → St → Hp → Prop, (∃ m, W 0 m (blkS own ci σ) (upd H1 D (.lst []))) ∧ LcW J g tt te D (Q (.ref D)) W

section
variable {X : Cx} {pins : List (Addr × Obj)} {σ : St} {H H2 : Hp} {s s2 : Shared} {sc : Scope} {N own cn : List Str} {ci : List Nat} {scope : Scope} {fp : List Addr}
  {elt tg iter : Expr} {ifs : List Expr} {pos : Pos} {g : TG} {tt : TT} {te : TE} {wi : TI}
theorem lc_block {it : Addr} {tn : Nat → Heap → Prop} {J : It} {Q : VK} {E : Value → Shared → Prop} {RR : Value → Addr → Result → Shared → Prop} (S : BlkScope sc N own cn ci scope) (hsc : X.env.scope = sc) (hN : X.N = N) (hc : X.calm = true)
    (I2 : Inv X pins σ H2 s2) (T : Turn X.prog X.w X.K tg J fp it tn) (st2 : tn 0 s2.heap) (f2 : ∀ b ∈ fp, FpOk X pins H2 b)
    (hg : ∀ C s H, PG (blk X (own ++ cn) scope C s H fp) tg g) (ht : ∀ C s H, PTs (blk X (own ++ cn) scope C s H fp) ifs tt) (he : ∀ C s H, PE (blk X (own ++ cn) scope C s H fp) elt te)
    (q : ∀ D, H2 D = none → ∃ W : Nat → Nat → St → Hp → Prop, (∃ m, W 0 m (blkS own ci σ) (upd H2 D (.lst []))) ∧ LcW J g tt te D (Q (.ref D)) W)
    (hRR : ∀ D C H' s', Inv X pins σ H' s' → Q (.ref D) H' → (∃ m, s'.heap.Ns C m) → FpOk X pins H' C → RR (.ref D) C (.ok .next) s') :
    wpAny (model X.prog X.w) X.A (newList []) (fun acc s3 => wpAny (model X.prog X.w) X.A (newFunctionEnv scope X.env.globals (clOf X.env scope.names []) [] X.env.qual none .none (some X.env)) (fun cenv s4 =>
      codeAny (model X.prog X.w) X.A (.compStart (.ListComp elt [⟨tg, iter, ifs, 0⟩] scope pos) 0 (.ref it) acc { cenv with scope := relabel scope X.env }) (RR acc cenv.locals) s4) E s3) E s2 := by
  refine wpAny_newObj_type (wpAny_newFunctionEnv S.nocell (by intro y hy; simp at hy) (fun h1 hns1 hsb1 => ?_) S.kind)
  dsimp only at hns1 hsb1 ⊢
  have I3 : Inv X pins σ (upd H2 s2.heap.objs.size (.lst [])) { s2 with heap := s2.heap.push { cls := .type "list", data := .seq ([] : List Value).toArray }, toks := s2.toks } := I2.lnew (its := []) (t' := s2.toks) .nil (Nat.zero_le _)
  have hD : H2 s2.heap.objs.size = none := I2.hok.fresh (Nat.le_refl _)
  have fpe : ∀ b ∈ fp, b < s2.heap.objs.size := fun b hb => by
    obtain ⟨o, e, _⟩ := T.obj _ _ st2 b hb
    exact Heap.lt_size e
  have f3 : ∀ b ∈ fp, FpOk X pins (upd H2 s2.heap.objs.size (.lst [])) b := fun b hb => ⟨by rw [upd_ne (Nat.ne_of_lt (fpe b hb))]; exact (f2 b hb).1, (f2 b hb).2⟩
  obtain ⟨W, ⟨m0, w0⟩, turn⟩ := q s2.heap.objs.size hD
  generalize hs3 : ({ s2 with heap := s2.heap.push { cls := .type "list", data := .seq ([] : List Value).toArray }, toks := s2.toks } : Shared) = s3 at I3
  have e3 : s3.heap = s2.heap.push { cls := .type "list", data := .seq ([] : List Value).toArray } := by rw [← hs3]
  have hsz3 : s3.heap.objs.size = s2.heap.objs.size + 1 := by rw [e3, Heap.size_push]
  have keep3 : ∀ b o, s2.heap.get? b = some o → s3.heap.get? b = some o := fun b o e => by rw [e3]; exact Heap.get?_push_of_some _ e
  have keep : ∀ b o, s3.heap.get? b = some o → h1.get? b = some o := fun b o e => by
    refine hsb1.extBut b o ?_ (Heap.get?_push_of_some _ (by rw [← e3]; exact e))
    have := Heap.lt_size e
    rw [e3] at this
    exact Nat.ne_of_lt this
  have hns : h1.Ns s3.heap.objs.size (fun x => ([] : List (Str × Value)).reverse.lookup x) := by rw [e3]; exact hns1
  have I4 := blk_inv (fp := fp) (tk := s2.toks + ([] : List (Str × Value)).length) S hsc hN I3 f3 (fun b hb => by rw [hsz3]; exact Nat.lt_succ_of_lt (fpe b hb)) hns keep
  have st4 : tn 0 h1 := T.keep _ _ _ st2 fun b hb o e => keep b o (keep3 b o e)
  have hC : (s2.heap.push { cls := .type "list", data := .seq ([] : List Value).toArray }).objs.size = s3.heap.objs.size := by rw [e3]
  have stat : ∀ {H' : Hp}, (∀ b ∈ fp, H' b = none) → ∀ b ∈ fp, FpOk (blk X (own ++ cn) scope s3.heap.objs.size s3 (upd H2 s2.heap.objs.size (.lst [])) fp) [] H' b := fun hn b hb =>
    ⟨hn b hb, Nat.ne_of_lt (by rw [hsz3]; exact Nat.lt_succ_of_lt (fpe b hb)), fun z => I4.ok.exfs b hb z, .inl hb, (I4.ok.exf b hb).2, fun p hp => absurd (show p ∈ ([] : List (Addr × Obj)) from hp) (by simp)⟩
  have loop : ∀ s4 : Shared, s4 = { s3 with heap := h1, toks := s2.toks + ([] : List (Str × Value)).length } →
      codeAny (model X.prog X.w) X.A (.compLoop (.ListComp elt [⟨tg, iter, ifs, 0⟩] scope pos) 0 (.ref it) (.ref s2.heap.objs.size) (compEnvC scope (clOf X.env scope.names []) s3.heap.objs.size X.env)) (RR (.ref s2.heap.objs.size) s3.heap.objs.size) s4 := by
    rintro s4 rfl
    refine comp_loop (fun n s' => ∃ i σ' H', Inv (blk X (own ++ cn) scope s3.heap.objs.size s3 (upd H2 s2.heap.objs.size (.lst [])) fp) [] σ' H' s' ∧ tn i s'.heap ∧ (∀ b ∈ fp, H' b = none) ∧ W i n σ' H') ?_ m0
      ⟨0, _, _, I4, st4, fun b hb => (f3 b hb).1, w0⟩
    rintro n s5 ⟨i, σ5, H5, I5, st5, fr5, w5⟩
    rcases turn i n σ5 H5 w5 with ⟨stop, qn⟩ | ⟨go, step⟩
    · refine thn (T.done (blk X (own ++ cn) scope s3.heap.objs.size s3 (upd H2 s2.heap.objs.size (.lst [])) fp) rfl rfl rfl hc i [] s5 σ5 H5 (fun _ _ => False) I5 (stat fr5) st5 stop) fun r s6 ⟨hr, I6⟩ => ?_
      subst hr
      refine hRR _ _ H5 s6 (I3.call' I6.os I6.base I6.hok I6.bare fun b hb => ⟨(f3 b hb).2.2.2.1, (f3 b hb).2.1, (f3 b hb).2.2.2.2.1, (f3 b hb).2.2.2.2.2⟩) qn (let ⟨m, hn, _⟩ := I6.loc; ⟨m, hn⟩) (I3.fpOk (Nat.le_refl _) I6.free)
    · refine thn (T.item (blk X (own ++ cn) scope s3.heap.objs.size s3 (upd H2 s2.heap.objs.size (.lst [])) fp) rfl rfl rfl hc i [] s5 σ5 H5 (fun _ _ => False) I5 (stat fr5) st5 go) fun r s6 ⟨u, hr, h6⟩ => ?_
      subst hr
      refine thn h6 fun _ s7 ⟨x, H7, I7, r7, y7, st7, fr7⟩ => ?_
      have I7' := I7.pinned (stat fr7) (T.obj _ _ st7)
      refine thn (hg _ _ _ _ s7 σ5 H7 x u _ I7' r7 (step x H7 y7)) fun _ s8 ⟨σ8, H8, I8, q8⟩ => ?_
      refine thn (ht _ _ _ _ s8 σ8 H8 _ I8 q8) fun ok s9 ⟨H9, I9, q9⟩ => ?_
      have again : ∀ {H' : Hp} {s' : Shared} {m' : Nat}, Inv (blk X (own ++ cn) scope s3.heap.objs.size s3 (upd H2 s2.heap.objs.size (.lst [])) fp) ([] ++ pinsAt fp s7.heap) σ8 H' s' → W (i + 1) m' σ8 H' →
          ∃ i σ' H', Inv (blk X (own ++ cn) scope s3.heap.objs.size s3 (upd H2 s2.heap.objs.size (.lst [])) fp) [] σ' H' s' ∧ tn i s'.heap ∧ (∀ b ∈ fp, H' b = none) ∧ W i m' σ' H' := fun {H' s' m'} I' w' => by
        refine ⟨i + 1, σ8, H', I'.unpinned, T.keep _ _ _ st7 fun b hb o e => (I'.pin (b, o) (List.mem_append_right _ (List.mem_append_right _ (mem_pinsAt hb e)))).1, fun b hb => ?_, w'⟩
        obtain ⟨o, e, _⟩ := T.obj _ _ st7 b hb
        exact (I'.pin (b, o) (List.mem_append_right _ (List.mem_append_right _ (mem_pinsAt hb e)))).2.1
      cases ok with
      | false =>
        obtain ⟨m', hm, w'⟩ := q9
        exact ⟨m', hm, again I9 w'⟩
      | true =>
        refine thn (he _ _ _ _ s9 σ8 H9 _ I9 q9) fun v s10 ⟨y, H10, I10, r10, ys, hDl, hz, m', hm, w'⟩ => ?_
        refine thn (mt_append _ s10 σ8 H10 (.ref s2.heap.objs.size) [y] (.ref s2.heap.objs.size) [v] (fun _ H11 => H11 = upd H10 s2.heap.objs.size (.lst (ys ++ [y]))) I10 rfl (.cons r10 .nil) ⟨_, ys, y, rfl, rfl, hDl, hz, rfl⟩) fun _ s11 ⟨_, H11, I11, _, e11⟩ => ?_
        subst e11
        exact ⟨m', hm, again I11 w'⟩
  have es : ({ s2 with heap := h1, toks := s2.toks + ([] : List (Str × Value)).length } : Shared) = { s3 with heap := h1, toks := s2.toks + ([] : List (Str × Value)).length } := by rw [← hs3]
  rw [hC]
  exact codeAny_compStart_list (loop _ es) (T.self _ 0 _ _ _ st4 (loop _ es))

theorem pe_lc (S : BlkScope sc N own cn ci scope) (hsc : X.env.scope = sc) (hN : X.N = N) (hc : X.calm = true) (hi : PI X tg iter wi)
    (hg : ∀ fp C s H, PG (blk X (own ++ cn) scope C s H fp) tg g) (ht : ∀ fp C s H, PTs (blk X (own ++ cn) scope C s H fp) ifs tt) (he : ∀ fp C s H, PE (blk X (own ++ cn) scope C s H fp) elt te)
    (hs : ∀ x, foldedSetIterable iter X.env x = pure x := by intro _; rfl) : PE X (.ListComp elt [⟨tg, iter, ifs, 0⟩] scope pos) (tLC own ci wi g tt te) := by
  intro pins s σ H Q I h
  rw [eval_ListComp]
  refine wpAny_comprehension_free (use := none) rfl hs (closure_eq (blk_cells S hsc I)) S.kind S.names (thn (hi pins s σ H _ I h) fun xv s1 h1 => thn h1 fun itv s2 h2 => ?_)
  obtain ⟨it, fp, tn, J, H2, e, I2, T, st2, f2, q⟩ := h2
  subst e
  refine lc_block (RR := fun acc C => compPost (model X.prog X.w) X.A X.xe none (EP X pins σ Q) acc C) S hsc hN hc I2 T st2 f2 (hg fp) (ht fp) (he fp) q ?_
  intro D C H' s' I' q' ⟨m, hn⟩ fC
  exact ⟨m, hn, fun h' hs' => ⟨.ref D, H', I'.turned (t' := s'.toks) (fun b o hb e => (hs'.2 b hb).trans e) fC.1 (Ne.symm (Ne.symm fC.2.1)) fC.2.2.2.1 fC.2.2.2.2.1 fC.2.2.2.2.2, rfl, q'⟩⟩


def tSetLC (i : Nat) (t : TE) : TS := fun D σ H => t σ H fun v H1 => D.nx (σ.set i (some v)) H1
theorem ps_setlc {i : Nat} {y : Str} {py spos : Pos} (S : BlkScope sc N own cn ci scope) (hsc : X.env.scope = sc) (hN : X.N = N) (hc : X.calm = true) (hi : PI X tg iter wi)
    (hg : ∀ fp C s H, PG (blk X (own ++ cn) scope C s H fp) tg g) (ht : ∀ fp C s H, PTs (blk X (own ++ cn) scope C s H fp) ifs tt) (he : ∀ fp C s H, PE (blk X (own ++ cn) scope C s H fp) elt te)
    (hnd : X.N.Nodup) (hiy : X.N[i]? = some y) (hy : X.env.scope.names.lookup y = some .local)
    (hsw : swapsWith (.ListComp elt [⟨tg, iter, ifs, 0⟩] scope pos) (some (.Name y py)) spos.line X.env = pure true)
    (hs : ∀ x, foldedSetIterable iter X.env x = pure x := by intro _; rfl) : PS X (.Assign [.Name y py] (.ListComp elt [⟨tg, iter, ifs, 0⟩] scope pos) spos) (tSetLC i (tLC own ci wi g tt te)) := by
  intro pins s σ H D I h
  rw [exec_Assign_Name_used _ _ _ _ hsw]
  refine wpAny_bind (wpAny_standAt (wpAny_bind ?_))
  show wpAny _ X.A (do let _ ← comprehension (.ListComp elt [⟨tg, iter, ifs, 0⟩] scope pos) scope X.env _ (newList []) false (eval iter X.env) (some (assign (.Name y py) X.env))) _ _ s
  refine wpAny_bind (wpAny_mono (wpAny_comprehension_free (use := some (assign (.Name y py) X.env)) (Q := fun _ s' => SP X pins D .next s') rfl hs (closure_eq (blk_cells S hsc I)) S.kind S.names
    (thn (hi pins s σ H _ I h) fun xv s1 h1 => thn h1 fun itv s2 h2 => ?_)) (fun _ s' hq => wpAny_pure (wpAny_pure hq)) fun _ _ e => e)
  obtain ⟨it, fp, tn, J, H2, e, I2, T, st2, f2, q⟩ := h2
  subst e
  refine lc_block (RR := fun acc C => compPost (model X.prog X.w) X.A X.xe (some (assign (.Name y py) X.env)) (fun _ s' => SP X pins D .next s') acc C) (Q := fun v H1 => D.nx (σ.set i (some v)) H1) S hsc hN hc I2 T st2 f2 (hg fp) (ht fp) (he fp) q ?_
  intro D' C H' s' I' q' ⟨m, hn⟩ fC
  refine wpAny_assign_Name (store_ok2 (v := .ref D') I' hnd hiy (.inl hy) rfl (fun s'' I'' ⟨a, hsb, ha⟩ => ?_) (.inr hy))
  have hCa : C ≠ a := by
    rcases ha with ha | ha
    · rw [ha]; exact fC.2.1
    · exact Ne.symm (fC.2.2.2.2.1 _ _ ha)
  exact ⟨m, hn.sameBut hsb hCa, fun h' hs' => ⟨_, H', I''.turned (t' := s''.toks) (fun b o hb e => (hs'.2 b hb).trans e) fC.1 fC.2.1 fC.2.2.2.1 fC.2.2.2.2.1 fC.2.2.2.2.2, q'⟩⟩
end


theorem lc_range {lo : Int} {n : Nat} {caps : St} {tt : TT} {te : TE} {D : Addr} {Q : Hp → Prop} {H1 : Hp} (Pv : Nat → List V → Hp → Prop) (hz : n ≤ sizeLine) (h0 : Pv 0 [] (upd H1 D (.lst []))) (hl : ∀ i ys H, Pv i ys H → ys.length ≤ i)
    (hs : ∀ i ys H (N : VK) (M : Hp → Prop), i < n → Pv i ys H → (∀ y H4, H4 D = some (.lst ys) → Pv (i + 1) (ys ++ [y]) (upd H4 D (.lst (ys ++ [y]))) → N y H4) → (∀ H3, Pv (i + 1) ys H3 → M H3) →
      tt (some (.int (lo + i)) :: caps) H fun ok H3 => if ok = true then te (some (.int (lo + i)) :: caps) H3 N else M H3)
    (hd : ∀ ys H, Pv n ys H → Q H) : ∃ W : Nat → Nat → St → Hp → Prop, (∃ m, W 0 m (none :: caps) (upd H1 D (.lst []))) ∧ LcW (Itr lo n) (gName 0) tt te D Q W := by
  refine ⟨fun i m σ H => m = n - i ∧ i ≤ n ∧ (∃ v, σ = v :: caps) ∧ ∃ ys, Pv i ys H, ⟨n, by simp, Nat.zero_le _, ⟨none, rfl⟩, [], h0⟩, ?_⟩
  rintro i m σ H ⟨rfl, hi, ⟨v, rfl⟩, ys, p⟩
  have hy := hl i ys H p
  by_cases hlt : i < n
  · refine .inr ⟨hlt, fun x H1 y => ?_⟩
    obtain ⟨e, y⟩ := y
    subst e y
    refine hs i ys _ _ _ hlt p (fun y H4 a c => ⟨ys, a, by omega, n - (i + 1), by omega, rfl, hlt, ⟨_, rfl⟩, _, c⟩) (fun H3 c => ⟨n - (i + 1), by omega, rfl, hlt, ⟨_, rfl⟩, ys, c⟩)
  · have e : i = n := by omega
    subst e
    exact .inl ⟨Nat.le_refl _, hd ys H p⟩
theorem lc_list {K : PySem.W.Frag} {a : Addr} {xs : List V} {caps : St} {tt : TT} {te : TE} {D : Addr} {Q : Hp → Prop} {H1 : Hp} (Pv : Nat → List V → Hp → Prop) (hz : xs.length ≤ sizeLine) (h0 : Pv 0 [] (upd H1 D (.lst []))) (hl : ∀ i ys H, Pv i ys H → ys.length ≤ i) (hq : ∀ i ys H, Pv i ys H → SqL K H a xs)
    (hs : ∀ i ys H (x : V) (N : VK) (M : Hp → Prop), xs[i]? = some x → Pv i ys H → (∀ y H4, H4 D = some (.lst ys) → Pv (i + 1) (ys ++ [y]) (upd H4 D (.lst (ys ++ [y]))) → N y H4) → (∀ H3, Pv (i + 1) ys H3 → M H3) →
      tt (some x :: caps) H fun ok H3 => if ok = true then te (some x :: caps) H3 N else M H3)
    (hd : ∀ ys H, Pv xs.length ys H → Q H) : ∃ W : Nat → Nat → St → Hp → Prop, (∃ m, W 0 m (none :: caps) (upd H1 D (.lst []))) ∧ LcW (Itl K a) (gName 0) tt te D Q W := by
  refine ⟨fun i m σ H => m = xs.length - i ∧ i ≤ xs.length ∧ (∃ v, σ = v :: caps) ∧ ∃ ys, Pv i ys H, ⟨xs.length, by simp, Nat.zero_le _, ⟨none, rfl⟩, [], h0⟩, ?_⟩
  rintro i m σ H ⟨rfl, hi, ⟨v, rfl⟩, ys, p⟩
  have hy := hl i ys H p
  by_cases hlt : i < xs.length
  · refine .inr ⟨⟨xs, xs[i], hq i ys H p, by simp [hlt]⟩, fun x H1 y => ?_⟩
    obtain ⟨e, y⟩ := y
    subst e
    have hx := y xs (hq i ys _ p)
    refine hs i ys _ x _ _ hx p (fun y H4 a c => ⟨ys, a, by omega, xs.length - (i + 1), by omega, rfl, hlt, ⟨_, rfl⟩, _, c⟩) (fun H3 c => ⟨xs.length - (i + 1), by omega, rfl, hlt, ⟨_, rfl⟩, ys, c⟩)
  · have e : i = xs.length := by omega
    subst e
    exact .inl ⟨⟨xs, hq _ ys H p, Nat.le_refl _⟩, hd ys H p⟩
theorem lc_tup {K : PySem.W.Frag} {a : Addr} {xs : List V} {caps : St} {tt : TT} {te : TE} {D : Addr} {Q : Hp → Prop} {H1 : Hp} (Pv : Nat → List V → Hp → Prop) (hz : xs.length ≤ sizeLine) (h0 : Pv 0 [] (upd H1 D (.lst []))) (hl : ∀ i ys H, Pv i ys H → ys.length ≤ i) (hq : ∀ i ys H, Pv i ys H → SqT K H a xs)
    (hs : ∀ i ys H (x : V) (N : VK) (M : Hp → Prop), xs[i]? = some x → Pv i ys H → (∀ y H4, H4 D = some (.lst ys) → Pv (i + 1) (ys ++ [y]) (upd H4 D (.lst (ys ++ [y]))) → N y H4) → (∀ H3, Pv (i + 1) ys H3 → M H3) →
      tt (some x :: caps) H fun ok H3 => if ok = true then te (some x :: caps) H3 N else M H3)
    (hd : ∀ ys H, Pv xs.length ys H → Q H) : ∃ W : Nat → Nat → St → Hp → Prop, (∃ m, W 0 m (none :: caps) (upd H1 D (.lst []))) ∧ LcW (Itt K a) (gName 0) tt te D Q W := by
  refine ⟨fun i m σ H => m = xs.length - i ∧ i ≤ xs.length ∧ (∃ v, σ = v :: caps) ∧ ∃ ys, Pv i ys H, ⟨xs.length, by simp, Nat.zero_le _, ⟨none, rfl⟩, [], h0⟩, ?_⟩
  rintro i m σ H ⟨rfl, hi, ⟨v, rfl⟩, ys, p⟩
  have hy := hl i ys H p
  by_cases hlt : i < xs.length
  · refine .inr ⟨⟨xs, xs[i], hq i ys H p, by simp [hlt]⟩, fun x H1 y => ?_⟩
    obtain ⟨e, y⟩ := y
    subst e
    have hx := y xs (hq i ys _ p)
    refine hs i ys _ x _ _ hx p (fun y H4 a c => ⟨ys, a, by omega, xs.length - (i + 1), by omega, rfl, hlt, ⟨_, rfl⟩, _, c⟩) (fun H3 c => ⟨xs.length - (i + 1), by omega, rfl, hlt, ⟨_, rfl⟩, ys, c⟩)
  · have e : i = xs.length := by omega
    subst e
    exact .inl ⟨⟨xs, hq _ ys H p, Nat.le_refl _⟩, hd ys H p⟩
end L2
namespace L2
open PySem PySem.Spec PyProof.Rows

section
variable {X : Cx}
theorem atI_int {xs : List V} {i : Int} {v : V} (h0 : 0 ≤ i) (h : xs[i.toNat]? = some v) : atI xs i = some v := by
  have e : i = ((i.toNat : Nat) : Int) := by omega
  rw [e]
  exact atI_nat h
theorem Same.upd_free {H H' : Hp} {a : Addr} {o : HO} (s : Same H H') (n : H a = none) : Same H (upd H' a o) := fun b u e => by
  rw [upd_ne (ne_of_none e n)]
  exact s b u e

def tCut (t : TS) : TS := fun D σ H => ∃ M : St → Hp → Prop, t { D with nx := M } σ H ∧ ∀ σ' H', M σ' H' → D.nx σ' H'
theorem ps_cut {st : Stmt} {t : TS} (h : PS X st t) : PS X st (tCut t) := by
  intro pins s σ H D I ⟨M, h1, h2⟩
  refine thn (h pins s σ H _ I h1) fun f s' q => ?_
  cases f with
  | next =>
    obtain ⟨σ', H', I', m⟩ := q
    exact ⟨σ', H', I', h2 _ _ m⟩
  | brk => exact q
  | cont => exact q
  | ret u => exact q
theorem small9 {n : Nat} (h : n ≤ 100000) : n < sizeLine := Nat.lt_of_le_of_lt h (by decide)
end
end L2
namespace L2
open PySem PySem.Spec PyProof.Rows


section
variable {κ : Type} [DecidableEq κ]
end



section
variable {P : Program} {w : World} {H : Hp} {h : Heap} {a : Addr}
end


section
variable {X : Cx} {pins : List (Addr × Obj)} {σ : St} {H : Hp} {s : Shared} {a : Addr} {y v : V} {u r : Value} {o : Option V} {A : Around} {E : Value → Shared → Prop}

end

section
variable {X : Cx} {pins : List (Addr × Obj)} {σ : St} {H : Hp} {s : Shared} {a : Addr} {kvs : List (Key × V)} {k : Key} {u : Value} {A : Around} {E : Value → Shared → Prop}

end




section
variable {X : Cx} {o i e value : Expr} {pos pos' tpos : Pos} {td ty tv : TE}
end



section
variable {X : Cx} {pos : Pos}
end


structure M1 (X : Cx) (o : Expr) (m : Str) (apos : Pos) (e : Expr) (cpos : Pos) : Prop where
  base : attributeBase o m X.env (eval o X.env) = eval o X.env
  few : ((backTo cpos (starEach [e] X.env)).all (fun x => !x.1) && (backToKw cpos (keywordEach [] X.env)).all (fun x => x.1.isSome)
    && decide (([e] : List Expr).length + ([] : List Keyword).length + (if ([] : List Keyword).isEmpty then 0 else 1) < 30)) = true
  line : (apos.endLine == cpos.line) = true
  trees : backTo cpos (starEach [e] X.env) = [(false, eval e X.env)]
structure M2 (X : Cx) (o : Expr) (m : Str) (apos : Pos) (e f : Expr) (cpos : Pos) : Prop where
  base : attributeBase o m X.env (eval o X.env) = eval o X.env
  few : ((backTo cpos (starEach [e, f] X.env)).all (fun x => !x.1) && (backToKw cpos (keywordEach [] X.env)).all (fun x => x.1.isSome)
    && decide (([e, f] : List Expr).length + ([] : List Keyword).length + (if ([] : List Keyword).isEmpty then 0 else 1) < 30)) = true
  line : (apos.endLine == cpos.line) = true
  trees : backTo cpos (starEach [e, f] X.env) = [(false, eval e X.env), (false, eval f X.env)]


section
variable {X : Cx} {pins : List (Addr × Obj)} {σ : St} {H : Hp} {s : Shared} {a : Addr} {y d : V} {u r : Value} {o : Option V} {A : Around} {E : Value → Shared → Prop}

end

section
variable {X : Cx} {o e f : Expr} {apos cpos : Pos} {td ty tx : TE}
end


section
variable {X : Cx} {pins : List (Addr × Obj)} {σ : St} {H : Hp} {s : Shared} {a : Addr} {kvs : List (Key × V)} {A : Around} {E : Value → Shared → Prop}
end


section
variable {X : Cx} {pins : List (Addr × Obj)} {σ : St} {H : Hp} {s : Shared} {a : Addr} {y : V} {u : Value} {A : Around} {E : Value → Shared → Prop}

end
end L2
namespace L2
open PySem PySem.Spec PyProof.Rows

mutual
inductive DAt (K : PySem.W.Frag) (H : Hp) : V → PyData → Prop
  | non : DAt K H .non .none
  | bl (b : Bool) : DAt K H (.bl b) (.bool b)
  | int (i : Int) : DAt K H (.int i) (.int i)
  | str (x : Str) : DAt K H (.str x) (.str x)
  | lst {a : Addr} {xs : List V} {ds : List PyData} : SqL K H a xs → DsAt K H xs ds → DAt K H (.ref a) (.list ds)
  | tup {a : Addr} {xs : List V} {ds : List PyData} : SqT K H a xs → DsAt K H xs ds → DAt K H (.ref a) (.tuple ds)
inductive DsAt (K : PySem.W.Frag) (H : Hp) : List V → List PyData → Prop
  | nil : DsAt K H [] []
  | cons {x : V} {d : PyData} {xs : List V} {ds : List PyData} : DAt K H x d → DsAt K H xs ds → DsAt K H (x :: xs) (d :: ds)
end
section
variable {X : Cx} {pins : List (Addr × Obj)} {σ : St} {H : Hp} {s : Shared}
mutual
theorem DAt.reads (I : Inv X pins σ H s) : ∀ {x : V} {d : PyData} {u : Value}, DAt X.K H x d → RelV x u → ∃ as, Reads s.heap u d as
  | _, _, _, .non, r => by
    cases r
    exact ⟨_, .none⟩
  | _, _, _, .bl b, r => by
    cases r
    exact ⟨_, .bool b⟩
  | _, _, _, .int i, r => by
    obtain ⟨t, rfl⟩ := r
    exact ⟨_, .int i t⟩
  | _, _, _, .str x, r => by
    obtain ⟨t, rfl⟩ := r
    exact ⟨_, .str x t⟩
  | _, _, _, .lst hq ds, r => by
    cases r
    obtain ⟨its, rv, p, _⟩ := I.list hq
    obtain ⟨as, ra⟩ := DsAt.reads I ds rv
    obtain ⟨o, h1, h2, n, h3⟩ := p.isList
    exact ⟨_, .list h1 h2 h3 (by simpa using ra)⟩
  | _, _, _, .tup hq ds, r => by
    cases r
    obtain ⟨its, rv, p, _⟩ := I.tuple hq
    obtain ⟨as, ra⟩ := DsAt.reads I ds rv
    obtain ⟨o, h1, h2, n, h3⟩ := p
    exact ⟨_, .tuple h1 h2 h3 (by simpa using ra)⟩
theorem DsAt.reads (I : Inv X pins σ H s) : ∀ {xs : List V} {ds : List PyData} {us : List Value}, DsAt X.K H xs ds → Vals xs us → ∃ as, ReadsAll s.heap us ds as
  | _, _, _, .nil, r => by
    cases r
    exact ⟨_, .nil⟩
  | _, _, _, .cons d ds, r => by
    cases r with
    | cons r rs =>
      obtain ⟨as, ra⟩ := DAt.reads I d r
      obtain ⟨bs, rb⟩ := DsAt.reads I ds rs
      exact ⟨_, .cons ra rb⟩
end

def DOk (d : PyData) : Prop := d.canLay0 = true ∧ d.depth ≤ 40
def rEqD (K : PySem.W.Frag) (neg : Bool) : R2 := fun x y H Q => ∃ dx dy, DAt K H x dx ∧ DAt K H y dy ∧ DOk dx ∧ DOk dy ∧ Q (.bl (if neg then !PyData.eqv dx dy else PyData.eqv dx dy)) H
theorem op_eqD (hu : X.A.units + 64 < cLine) : OpR X (compareOp .Eq) (rEqD X.K false) := by
  intro pins s σ H x y v u Q I rx ry h
  obtain ⟨dx, dy, ax, ay, okx, oky, q⟩ := h
  obtain ⟨as, r1⟩ := ax.reads I rx
  obtain ⟨bs, r2⟩ := ay.reads I ry
  refine SeqAt.compareEq_reads r1 r2 okx.1 oky.1 ?_ (fin_bl I q rfl)
  have h1 := okx.2
  have h2 : min dx.depth dy.depth ≤ dx.depth := Nat.min_le_left _ _
  omega
theorem op_neD (hu : X.A.units + 64 < cLine) : OpR X (compareOp .NotEq) (rEqD X.K true) := by
  intro pins s σ H x y v u Q I rx ry h
  obtain ⟨dx, dy, ax, ay, okx, oky, q⟩ := h
  obtain ⟨as, r1⟩ := ax.reads I rx
  obtain ⟨bs, r2⟩ := ay.reads I ry
  refine SeqAt.compareNe_reads r1 r2 okx.1 oky.1 ?_ (fin_bl I q rfl)
  have h1 := okx.2
  have h2 : min dx.depth dy.depth ≤ dx.depth := Nat.min_le_left _ _
  omega
def rInD (K : PySem.W.Frag) (neg : Bool) : R2 := fun x y H Q => ∃ p xs dx ds, y = .ref p ∧ (SqL K H p xs ∨ SqT K H p xs) ∧ DsAt K H xs ds ∧ DAt K H x dx ∧ DOk dx ∧ PyData.canLayAll0 ds = true ∧
  Q (.bl (if neg then !(ds.any fun d => PyData.eqv d dx) else ds.any fun d => PyData.eqv d dx)) H
theorem in_room {a b c : Nat} (hu : a + 64 < c) (h : b ≤ 40) (k : Nat) : a + 1 + min k b < c := by
  have h2 : min k b ≤ b := Nat.min_le_right _ _
  omega
theorem op_inD (hu : X.A.units + 64 < cLine) : OpR X (compareOp .In) (rInD X.K false) := by
  intro pins s σ H x y v u Q I rx ry h
  obtain ⟨p, xs, dx, ds, rfl, hp, ad, ax, okx, okd, q⟩ := h
  obtain ⟨bs, r2⟩ := ax.reads I rx
  rcases hp with hp | hp
  · obtain ⟨as, r1⟩ := (DAt.lst hp ad).reads I ry
    exact SeqAt.in_list_reads r1 r2 okd okx.1 (in_room hu okx.2 _) (fin_bl I q rfl)
  · obtain ⟨as, r1⟩ := (DAt.tup hp ad).reads I ry
    exact SeqAt.in_tuple_reads r1 r2 okd okx.1 (in_room hu okx.2 _) (fin_bl I q rfl)
def rCat0 (K : PySem.W.Frag) : R2 := fun x y H Q => ∃ a b ys, x = .ref a ∧ y = .ref b ∧ SqT K H a [] ∧ SqT K H b ys ∧ Q (.ref b) H
theorem op_cat0 : OpR X (binaryOp .Add) (rCat0 X.K) := by
  intro pins s σ H x y v u Q I rx ry h
  obtain ⟨a, b, ys, rfl, rfl, ha, hb, q⟩ := h
  cases rx
  cases ry
  obtain ⟨us, ru, pu, _⟩ := I.tuple ha
  obtain ⟨ws, rw', pw, _⟩ := I.tuple hb
  cases ru
  obtain ⟨⟨cls, dd, data, sl⟩, ho, hc, n, hd⟩ := id pu
  obtain ⟨⟨cls2, dd2, data2, sl2⟩, ho2, hc2, n2, hd2⟩ := id pw
  simp only at hc hd hc2 hd2
  subst hc hd hc2 hd2
  have st := tuple_addW0 a b ([] : List Value).toArray ws.toArray n n2 dd dd2 sl sl2 (by simp)
  exact concat_meets ⟨_, ho, rfl⟩ ⟨_, ho2, rfl⟩ noFill_tuple_add seq_tuple_add PySem.F.slot_tuple_add PySem.F.entry_tuple_add (PySem.F.args_tuple_add_2 _ _) st ⟨ho, ho2, ⟨.ref b, H, I, rfl, q⟩⟩

def TSame (H H' : Hp) : Prop := ∀ b xs, H b = some (.tup xs) → H' b = some (.tup xs)
theorem Same.tups {H H' : Hp} (s : Same H H') : TSame H H' := fun b xs e => s b _ e
theorem TSame.upd_lst {H H' : Hp} {a : Addr} {ys : List V} {o : HO} (s : TSame H H') (h : H' a = some (.lst ys)) : TSame H (upd H' a o) := fun b xs e => by
  have q := s b xs e
  rw [upd_ne (ne_of q h (by intro z; cases z))]
  exact q
end
end L2
namespace L2
open PySem PySem.Spec PyProof.Rows
open AutoSeq1 (wpAny_loadPart')

section
variable {prog : Program} {w : World} {A : Around} {E : Value → Shared → Prop} {s : Shared}
end
section
variable {X : Cx} {pins : List (Addr × Obj)} {σ : St} {H : Hp} {s : Shared}

end

end L2
namespace L2
open PySem PySem.Spec PyProof.Rows
end L2
namespace L2
open PySem PySem.Spec PyProof.Rows

section
variable {X : Cx}
def rCat1 (K : PySem.W.Frag) : R2 := fun x y H Q => ∃ a b xs ys, x = .ref a ∧ y = .ref b ∧ H a = some (.tup xs) ∧ SqT K H b ys ∧ xs ≠ [] ∧ xs.length + ys.length ≤ sizeLine ∧ ∀ p H', Same H H' → H' p = some (.tup (xs ++ ys)) → Q (.ref p) H'
theorem op_cat1 : OpR X (binaryOp .Add) (rCat1 X.K) := by
  intro pins s σ H x y v u Q I rx ry h
  obtain ⟨a, b, xs, ys, rfl, rfl, ha, hb, hx, hz, q⟩ := h
  exact op_catT pins s σ H _ _ v u Q I rx ry ⟨a, b, xs, ys, rfl, rfl, SqT.of ha, hb, hx, hz, fun z => q a H (Same.refl H) (by subst z; rw [List.append_nil]; exact ha), fun _ p hp => q p _ ((Same.refl H).upd_free hp) upd_same⟩
theorem vals_of_ints : ∀ {us : List Value} {ns : List Int}, IntsAre us ns → Vals (ns.map V.int) us
  | _, _, .nil => .nil
  | _, _, .cons i t r => .cons ⟨t, rfl⟩ (vals_of_ints r)
end
end L2
namespace L2
open PySem PySem.Spec PyProof.Rows

section
variable {X : Cx}

end
end L2
namespace L2
open PySem PySem.Spec PyProof.Rows

theorem below_go (xs : Array Nat) (j : Nat) (hr : xs.toList.Pairwise (· < ·)) : ∀ (fuel lo hi : Nat), lo ≤ hi → hi ≤ xs.size → hi - lo ≤ fuel → (∀ i x, i < lo → xs[i]? = some x → x < j) → (∀ i x, hi ≤ i → xs[i]? = some x → j ≤ x) →
    SetTable.below.go xs j fuel lo hi ≤ xs.size ∧ (∀ i x, i < SetTable.below.go xs j fuel lo hi → xs[i]? = some x → x < j) ∧ ∀ i x, SetTable.below.go xs j fuel lo hi ≤ i → xs[i]? = some x → j ≤ x := by
  have up : ∀ {i k x y : Nat}, i ≤ k → xs[i]? = some x → xs[k]? = some y → x ≤ y := fun {i k x y} h hx hy => by
    by_cases e : i = k
    · subst e
      rw [hx] at hy
      cases hy
      exact Nat.le_refl _
    · obtain ⟨h1, g1⟩ := Array.getElem?_eq_some_iff.mp hx
      obtain ⟨h2, g2⟩ := Array.getElem?_eq_some_iff.mp hy
      have := List.pairwise_iff_getElem.mp hr i k (by simpa using h1) (by simpa using h2) (by omega)
      rw [Array.getElem_toList, Array.getElem_toList, g1, g2] at this
      exact Nat.le_of_lt this
  intro fuel
  induction fuel with
  | zero =>
    intro lo hi h1 h2 h3 ha hb
    have : hi = lo := by omega
    subst this
    unfold SetTable.below.go
    exact ⟨h2, ha, hb⟩
  | succ fuel ih =>
    intro lo hi h1 h2 h3 ha hb
    unfold SetTable.below.go
    by_cases hl : lo < hi
    · rw [if_pos hl]
      dsimp only
      have hm : (lo + hi) / 2 < xs.size := by omega
      obtain ⟨x, hx⟩ : ∃ x, xs[(lo + hi) / 2]? = some x := ⟨xs[(lo + hi) / 2], by simp [hm]⟩
      have eg : xs.getD ((lo + hi) / 2) j = x := by simp [Array.getD_eq_getD_getElem?, hx]
      rw [eg]
      by_cases hc : x < j
      · rw [if_pos hc]
        refine ih _ _ (by omega) h2 (by omega) (fun i y hi' hy => ?_) hb
        exact Nat.lt_of_le_of_lt (up (by omega) hy hx) hc
      · rw [if_neg hc]
        refine ih _ _ (by omega) (by omega) (by omega) ha fun i y hi' hy => ?_
        exact Nat.le_trans (Nat.le_of_not_lt hc) (up hi' hx hy)
    · rw [if_neg hl]
      have : hi = lo := by omega
      subst this
      exact ⟨h2, ha, hb⟩
theorem below_ok (xs : Array Nat) (j : Nat) (hr : xs.toList.Pairwise (· < ·)) : SetTable.below xs j ≤ xs.size ∧ (∀ i x, i < SetTable.below xs j → xs[i]? = some x → x < j) ∧ ∀ i x, SetTable.below xs j ≤ i → xs[i]? = some x → j ≤ x :=
  below_go xs j hr xs.size 0 xs.size (Nat.zero_le _) (Nat.le_refl _) (by omega) (fun i x h => by omega) (fun i x h e => by
    have := (Array.getElem?_eq_some_iff.mp e).1
    omega)
theorem put_rise {xs : Array Nat} {j : Nat} (hr : xs.toList.Pairwise (· < ·)) (hn : xs[SetTable.below xs j]? ≠ some j) : (SetTable.insertAt xs (SetTable.below xs j) j).toList.Pairwise (· < ·) := by
  obtain ⟨h1, h2, h3⟩ := below_ok xs j hr
  rw [SetTable.toList_insertAt]
  generalize hp : SetTable.below xs j = p at *
  rw [List.pairwise_append, List.pairwise_cons]
  refine ⟨hr.sublist (List.take_sublist _ _), ⟨fun y hy => ?_, hr.sublist (List.drop_sublist _ _)⟩, fun x hx y hy => ?_⟩
  · obtain ⟨i, hi⟩ := List.getElem?_of_mem hy
    rw [List.getElem?_drop, Array.getElem?_toList] at hi
    have hle := h3 _ _ (Nat.le_add_right p i) hi
    by_cases e : j = y
    · subst e
      exfalso
      -- the one at p is j itself
      have hps : p < xs.size := by
        have := (Array.getElem?_eq_some_iff.mp hi).1
        omega
      obtain ⟨z, hz⟩ : ∃ z, xs[p]? = some z := ⟨xs[p], by simp [hps]⟩
      have hz1 := h3 p z (Nat.le_refl _) hz
      by_cases e0 : i = 0
      · subst e0
        exact hn hi
      · obtain ⟨g1, k1⟩ := Array.getElem?_eq_some_iff.mp hz
        obtain ⟨g2, k2⟩ := Array.getElem?_eq_some_iff.mp hi
        have := List.pairwise_iff_getElem.mp hr p (p + i) (by simpa using g1) (by simpa using g2) (by omega)
        rw [Array.getElem_toList, Array.getElem_toList, k1, k2] at this
        omega
    · omega
  · obtain ⟨i, hi⟩ := List.getElem?_of_mem hx
    have hil := (List.getElem?_eq_some_iff.mp hi).1
    rw [List.length_take] at hil
    rw [List.getElem?_take_of_lt (by omega), Array.getElem?_toList] at hi
    have hlt := h2 i x (by omega) hi
    rcases List.mem_cons.mp hy with e | hy
    · subst e
      exact hlt
    · obtain ⟨k, hk⟩ := List.getElem?_of_mem hy
      rw [List.getElem?_drop, Array.getElem?_toList] at hk
      have := h3 _ _ (Nat.le_add_right p k) hk
      omega

structure Rise (t : SetTable) : Prop where
  pl : t.place.toList.Pairwise (· < ·)
  du : t.dummies = #[]
theorem has_nil (j : Nat) : SetTable.has #[] j = false := by
  unfold SetTable.has
  simp
theorem slot_free {t : SetTable} (h : t.dummies = #[]) (j : Nat) : (t.slot j = .empty ∧ t.place[SetTable.below t.place j]? ≠ some j) ∨ ∃ i, t.slot j = .live i := by
  unfold SetTable.slot
  dsimp only
  by_cases e : t.place[SetTable.below t.place j]? = some j
  · rw [if_pos (by rw [e]; simp)]
    exact .inr ⟨_, rfl⟩
  · rw [if_neg (by simpa using e), h, has_nil]
    exact .inl ⟨rfl, e⟩
theorem probe_free {t : SetTable} (h : t.dummies = #[]) {f : Nat → Int} {x : Int} (hf : ∀ i, (f i == x) = false) : ∀ (fuel : Nat) (p : SetTable.Probe) (j : Nat) (d : Option Nat), p.dummy = none → SetTable.probe.go t f x fuel p = some (.empty j d) → d = none ∧ t.place[SetTable.below t.place j]? ≠ some j
  | 0, p, j, d, _, e => by simp [SetTable.probe.go] at e
  | fuel + 1, p, j, d, hd, e => by
    rw [SetTable.probe.go] at e
    rcases slot_free h p.j with ⟨e1, e2⟩ | ⟨i, e1⟩
    · rw [e1] at e
      dsimp only at e
      cases e
      exact ⟨hd, e2⟩
    · rw [e1] at e
      dsimp only at e
      rw [hf i] at e
      simp only [Bool.false_eq_true, if_false] at e
      refine probe_free h hf fuel _ j d ?_ e
      unfold SetTable.advance
      split
      · exact hd
      · exact hd
theorem freeSlot_ok {t : SetTable} (h : t.dummies = #[]) {x : Int} {j : Nat} {d : Bool} (e : t.freeSlot x = some (j, d)) : t.place[SetTable.below t.place j]? ≠ some j := by
  unfold SetTable.freeSlot at e
  split at e
  · rename_i j' dm hp
    obtain ⟨e1, e2⟩ := probe_free h (f := fun _ => x + 1) (x := x) (fun i => by rw [beq_eq_false_iff_ne]; omega) _ _ _ _ rfl hp
    subst e1
    cases e
    exact e2
  · cases e
theorem standIn_rise (t : SetTable) (n : Nat) : Rise (t.standIn n) := by
  refine ⟨?_, rfl⟩
  show (Array.range n).toList.Pairwise (· < ·)
  rw [Array.toList_range]
  exact List.pairwise_lt_range
theorem layNew_rise {t : SetTable} {es : Array (Int × Value)} {h : Int} {x : Value} (R : Rise t) : Rise (layNew t es h x).2.1 ∧ (layNew t es h x).2.1.led = t.led := by
  unfold layNew
  split
  · rename_i slot wd hf
    have hn := freeSlot_ok R.du hf
    dsimp only
    unfold SetTable.orStandIn
    split
    · refine ⟨⟨put_rise R.pl hn, ?_⟩, rfl⟩
      show (if SetTable.has t.dummies slot = true then _ else t.dummies) = #[]
      rw [R.du, has_nil]
      rfl
    · exact ⟨standIn_rise _ _, rfl⟩
  · exact ⟨standIn_rise _ _, rfl⟩
theorem laid_rise {mask fi mo : Nat} {led plain : Bool} {hs : Array Int} {t : SetTable} {o : Array Nat} (e : SetTable.laid mask fi mo led plain hs = some (t, o)) : Rise t ∧ t.led = led := by
  unfold SetTable.laid at e
  cases ho : SetTable.layClean mask hs with
  | none => rw [ho] at e; cases e
  | some owner =>
    rw [ho] at e
    cases e
    refine ⟨⟨?_, rfl⟩, rfl⟩
    show ((((List.range (mask + 1)).filterMap fun j => (owner.getD j none).map (j, ·)).map (·.1)).toArray).toList.Pairwise (· < ·)
    rw [List.map_filterMap]
    have q : ∀ l : List Nat, List.Sublist (l.filterMap fun j => ((owner.getD j none).map (j, ·)).map (·.1)) l := fun l => by
      induction l with
      | nil => exact .slnil
      | cons a l ih =>
        rw [List.filterMap_cons]
        cases hz : owner.getD a none with
        | none => exact ih.cons a
        | some v => exact ih.cons_cons a
    exact List.pairwise_lt_range.sublist (q _)
theorem relayAll_rise {t : SetTable} {es : Array (Int × Value)} {n : Nat} : Rise (relayAll t es n).2.1 ∧ (relayAll t es n).2.1.led = t.led := by
  unfold relayAll
  split
  · rename_i t' o hr
    obtain ⟨r1, r2⟩ := laid_rise hr
    dsimp only
    split
    · exact ⟨r1, r2⟩
    · exact ⟨standIn_rise _ _, rfl⟩
  · exact ⟨standIn_rise _ _, rfl⟩
end L2
namespace L2
open PySem PySem.Spec PyProof.Rows

def kvI (e : Int × Value) : Int := match e.2 with | .int k _ => k | _ => 0
section
variable {prog : Program} {w : World}
theorem intIs {k : Int} {v : Value} (h : (intKind prog w).is k v = true) : ∃ t, v = .int k t := by
  cases v with
  | int i t =>
    refine ⟨t, ?_⟩
    have : i = k := by simpa [intKind, Value.isInt] using h
    rw [this]
  | _ => simp [intKind, Value.isInt] at h
def SR (prog : Program) (w : World) (h : Heap) (a : Addr) (σ : List Int) (led : Bool) : Prop :=
  ∃ o es ep t, h.get? a = some o ∧ o.ExactSet ∧ o.data = .set es ep t ∧ ElemsOf (intKind prog w) es.toList ∧ (es.toList.map kvI).Perm σ ∧ es.size < scanBound ∧ t.fits es.size = true ∧ Rise t ∧ t.led = led
theorem elem_kv {es : List (Int × Value)} (h : ElemsOf (intKind prog w) es) (k : Int) : k ∈ es.map kvI ↔ ∃ e ∈ es, (intKind prog w).is k e.2 = true := by
  rw [List.mem_map]
  constructor
  · rintro ⟨e, he, rfl⟩
    obtain ⟨⟨k', hk, _⟩, _⟩ := h e he
    obtain ⟨t, ht⟩ := intIs hk
    refine ⟨e, he, ?_⟩
    have : kvI e = k' := by unfold kvI; rw [ht]
    rw [this]
    exact hk
  · rintro ⟨e, he, hk⟩
    obtain ⟨t, ht⟩ := intIs hk
    exact ⟨e, he, by unfold kvI; rw [ht]⟩
theorem SR.keep {h h' : Heap} {a : Addr} {σ : List Int} {led : Bool} (S : SR prog w h a σ led) (k : ∀ o, h.get? a = some o → h'.get? a = some o) : SR prog w h' a σ led := by
  obtain ⟨o, es, ep, t, ho, r⟩ := S
  exact ⟨o, es, ep, t, k o ho, r⟩
theorem SR.len {h : Heap} {a : Addr} {σ : List Int} {led : Bool} (S : SR prog w h a σ led) : σ.length < scanBound := by
  obtain ⟨o, es, ep, t, ho, hex, hd, hel, hp, hb, _⟩ := S
  rw [← hp.length_eq, List.length_map, Array.length_toList]
  exact hb
variable {A : Around} {E : Value → Shared → Prop} {s : Shared}
theorem SR_store {h : Heap} {a : Addr} {o : Obj} {es : Array (Int × Value)} {ep : Nat} {t : SetTable} (ho : h.get? a = some o) (hex : o.ExactSet) (hd : o.data = .set es ep t)
    {es' : Array (Int × Value)} {t' : SetTable} {σ : List Int} {led : Bool} (hel : ElemsOf (intKind prog w) es'.toList) (hp : (es'.toList.map kvI).Perm σ) (hb : es'.size < scanBound) (hf : t'.fits es'.size = true) (R : Rise t') (hl : t'.led = led) :
    (h.update a (Obj.putSet es' t')).get? a = some { o with data := .set es' (ep + 1) t' } ∧ SR prog w (h.update a (Obj.putSet es' t')) a σ led := by
  have hg : (h.update a (Obj.putSet es' t')).get? a = some { o with data := .set es' (ep + 1) t' } := by
    have := Heap.get?_update_self (Obj.putSet es' t') ho (by rw [putSet_of es' t' hd]; rfl)
    rw [putSet_of es' t' hd] at this
    exact this
  exact ⟨hg, _, es', ep + 1, t', hg, hex, rfl, hel, hp, hb, hf, R, hl⟩
theorem sr_tail {g : Bool → Sem Unit} (hg : ∀ (b : Bool) (s₁ : Shared) (Q' : Unit → Shared → Prop), Q' () s₁ → wpAny (model prog w) A (g b) Q' E s₁)
    {a : Addr} {o : Obj} {es : Array (Int × Value)} {ep : Nat} {t : SetTable} (ho : s.heap.get? a = some o) (hex : o.ExactSet) (hd : o.data = .set es ep t)
    {es1 : Array (Int × Value)} {t2 : SetTable} {σ : List Int} {led : Bool} (hel1 : ElemsOf (intKind prog w) es1.toList) (hp1 : (es1.toList.map kvI).Perm σ)
    (hb1 : es1.size < scanBound) (hf2 : t2.fits es1.size = true) (R2 : Rise t2) (hl2 : t2.led = led) {wasDummy : Bool} {R : Option Bool → Shared → Prop}
    (h : ∀ h', Heap.SameBut a s.heap h' → SR prog w h' a σ led → R (some true) { s with heap := h' }) :
    wpAny (model prog w) A (do
        storeSet a es1 t2
        if (!wasDummy && t2.tooFull) = true then do
            g (relayAll t2 es1 (SetTable.grown es1.size)).2.2
            storeSet a (relayAll t2 es1 (SetTable.grown es1.size)).1 (relayAll t2 es1 (SetTable.grown es1.size)).2.1
            pure (some true)
          else pure (some true)) R E s := by
  refine wpAny_bind (wpAny_storeSet_of ho hd ?_ (fits_of_scanBound hb1))
  obtain ⟨ho1, hS1⟩ := SR_store (prog := prog) (w := w) ho hex hd hel1 hp1 hb1 hf2 R2 hl2
  have hsb1 := Heap.SameBut.update s.heap a (Obj.putSet es1 t2)
  split
  · have hp := relayAll_perm t2 es1 (SetTable.grown es1.size)
    have hfr := relayAll_fits t2 es1 (SetTable.grown es1.size)
    have hri := relayAll_rise (t := t2) (es := es1) (n := SetTable.grown es1.size)
    generalize hRl : relayAll t2 es1 (SetTable.grown es1.size) = Rl at hp hfr hri ⊢
    obtain ⟨es2, t3, gave2⟩ := Rl
    dsimp only at hp hfr hri ⊢
    have hsz : es2.size = es1.size := by rw [← Array.length_toList, hp.length_eq, Array.length_toList]
    have hb2 : es2.size < scanBound := by rw [hsz]; exact hb1
    refine wpAny_bind (hg _ _ _ ?_)
    refine wpAny_bind (wpAny_storeSet_of ho1 rfl ?_ (fits_of_scanBound hb2))
    obtain ⟨_, hS2⟩ := SR_store (prog := prog) (w := w) ho1 hex rfl (hel1.perm hp) ((hp.map kvI).trans hp1) hb2 hfr hri.1 (hri.2.trans hl2)
    exact wpAny_pure (h _ (hsb1.trans (Heap.SameBut.update _ a _)) hS2)
  · exact wpAny_pure (h _ hsb1 hS1)
theorem sr_add {a : Addr} {σ : List Int} {led : Bool} {k : Int} {tk : Tok} {Q : Bool → Shared → Prop} (hS : SR prog w s.heap a σ led) (hroom : σ.length + 1 < scanBound)
    (h : ∀ h' b, Heap.SameBut a s.heap h' → SR prog w h' a (step_dedup σ k) led → Q b { s with heap := h' }) :
    wpAny (model prog w) A (setAddHashed a (.int k tk) ((intKind prog w).hash k)) Q E s := by
  obtain ⟨o, es, ep, t, ho, hex, hd, hel, hp, hb, hf, R, hl⟩ := hS
  have hkey : (intKind prog w).is k (.int k tk) = true := intKind_is _ _ _ _
  have hsc : (Value.int k tk).scannable = true := rfl
  have hn : es.size = σ.length := by rw [← hp.length_eq, List.length_map, Array.length_toList]
  have hb1 : es.size + 1 < scanBound := by rw [hn]; exact hroom
  have hmem : ∀ k', σ.any (· == k') = true ↔ ∃ e ∈ es.toList, (intKind prog w).is k' e.2 = true := fun k' => by
    rw [← elem_kv hel, hp.mem_iff, List.any_eq_true]
    exact ⟨fun ⟨x, hx, e⟩ => by rw [beq_iff_eq] at e; rw [← e]; exact hx, fun hx => ⟨k', hx, by simp⟩⟩
  unfold setAddHashed setAddHashedIn
  refine wpAny_holding (wpAny_bind (wpAny_setState_of ho hd hf ?_))
  dsimp only
  rw [byScan_of hsc hb hel]
  simp only [↓reduceIte]
  unfold setAddByScan
  refine wpAny_bind ?_
  refine wpAny_bind (wpAny_rule ?_)
  refine wpAny_bind (wpAny_setScan_of hkey ho hd hf hel ?_)
  cases hr : List.findIdx? (fun e => (intKind prog w).is k e.2) es.toList with
  | some j =>
    dsimp only
    obtain ⟨hj, hpj, _⟩ := List.findIdx?_eq_some_iff_getElem.mp hr
    have hSk : σ.any (· == k) = true := (hmem k).mpr ⟨es.toList[j], List.getElem_mem hj, hpj⟩
    refine wpAny_pure (wpAny_pure ?_)
    have e : s = { s with heap := s.heap } := by cases s; rfl
    have := h s.heap false (Heap.SameBut.refl a s.heap) ⟨o, es, ep, t, ho, hex, hd, hel, by unfold step_dedup; rw [if_pos hSk]; exact hp, hb, hf, R, hl⟩
    rw [e]
    exact this
  | none =>
    dsimp only
    have hSk : ¬ σ.any (· == k) = true := fun hk => by
      obtain ⟨e, he, hpe⟩ := (hmem k).mp hk
      have := List.findIdx?_eq_none_iff.mp hr e he
      rw [hpe] at this
      exact Bool.noConfusion this
    have hgw : ∀ (b : Bool) {s₁ : Shared} {Q' : Unit → Shared → Prop}, Q' () s₁ → wpAny (model prog w) A (match b with | true => rule "set.scan.the-table-gave-way" | false => pure ()) Q' E s₁ :=
      fun b s₁ Q' hq => by cases b <;> first | exact wpAny_pure hq | exact wpAny_rule hq
    have hperm := layNew_perm t es ((intKind prog w).hash k) (.int k tk)
    have hfits := layNew_fits t es ((intKind prog w).hash k) (.int k tk)
    have hrise := layNew_rise (es := es) (h := (intKind prog w).hash k) (x := .int k tk) R
    generalize hL : layNew t es ((intKind prog w).hash k) (.int k tk) = L at hperm hfits hrise ⊢
    obtain ⟨es1, t1, wasDummy, gave⟩ := L
    dsimp only at hperm hfits hrise ⊢
    rw [Array.toList_push] at hperm
    have hel1 : ElemsOf (intKind prog w) es1.toList := (hel.push hkey hsc).perm hperm
    have hp1 : (es1.toList.map kvI).Perm (step_dedup σ k) := by
      unfold step_dedup
      rw [if_neg hSk]
      refine (hperm.map kvI).trans ?_
      rw [List.map_append]
      exact hp.append_right _
    have hb1' : es1.size < scanBound := by rw [← Array.length_toList, hperm.length_eq, List.length_append, Array.length_toList]; simpa using hb1
    refine wpAny_bind (hgw _ ?_)
    split
    · refine wpAny_bind ?_
      rw [hashByValue_scannable 8 hsc]
      refine wpAny_pure ?_
      refine sr_tail ?_ ho hex hd hel1 hp1 hb1' ?_ ?_ ?_ ?_ (led := led)
      · intro b s₁ Q' hq; cases b <;> first | exact wpAny_pure hq | exact wpAny_rule hq
      · split
        · exact hfits
        · exact SetTable.fits_plain_off hfits
      · split
        · exact hrise.1
        · exact ⟨hrise.1.pl, hrise.1.du⟩
      · split
        · exact hrise.2.trans hl
        · exact hrise.2.trans hl
      · intro h' hsb hS'; dsimp only; exact wpAny_pure (h h' true hsb hS')
    · refine wpAny_bind (wpAny_pure ?_)
      simp only [↓reduceIte]
      refine sr_tail ?_ ho hex hd hel1 hp1 hb1' hfits hrise.1 (hrise.2.trans hl) ?_
      · intro b s₁ Q' hq; cases b <;> first | exact wpAny_pure hq | exact wpAny_rule hq
      · intro h' hsb hS'; dsimp only; exact wpAny_pure (h h' true hsb hS')
end
end L2
namespace L2
open PySem PySem.Spec PyProof.Rows


end L2
namespace L2
open PySem PySem.Spec PyProof.Rows

section
variable {prog : Program} {w : World} {A : Around} {E : Value → Shared → Prop} {s : Shared}
end
section
variable {X : Cx} {pins : List (Addr × Obj)} {σ : St} {H : Hp} {s : Shared} {a : Addr} {kvs : List (Int × V)} {k : Int} {y v : V} {u r : Value} {A : Around} {E : Value → Shared → Prop}
variable {o i value : Expr} {pos pos' : Pos} {td ty tv : TE}
end
end L2
namespace L2
open PySem PySem.Spec PyProof.Rows

section
variable {prog : Program} {w : World} {A : Around} {E : Value → Shared → Prop} {s : Shared}
end
section
variable {prog : Program} {w : World} {K : Type} [DecidableEq K] {knd : HeapKind prog w K} {A : Around} {E : Value → Shared → Prop} {s : Shared}
end
end L2
namespace L2
open PySem PySem.Spec PyProof.Rows

section
variable {X : Cx} {pins : List (Addr × Obj)} {σ : St} {H : Hp} {s : Shared} {a : Addr} {xs : List (KP × Addr × V)}
end
end L2
namespace L2
open PySem PySem.Spec PyProof.Rows

section
variable {prog : Program} {w : World} {A : Around} {R : Result → Shared → Prop} {I : Addr} {fp wr : List Addr} {G : Array GenState → Array GenState → Prop} {n : Nat} {P : Nat → Value → Prop} {Sx : Nat → Shared → Prop}
end
section
variable {prog : Program} {w : World} {A : Around} {E : Value → Shared → Prop} {s : Shared}
abbrev newSet (led : Bool) : Obj := { cls := .type "set", dict := none, data := .set #[] 0 (.fresh 0 0 led) }
end

section
variable {X : Cx}
end
end L2
namespace L2
open PySem PySem.Spec PyProof.Rows


structure Src (prog : Program) (w : World) (it l : Addr) (J : Nat → Heap → Prop) (C : Array Value → Heap → Prop) : Prop where
  item : ∀ (A : Around) (E : Value → Shared → Prop) (s : Shared) (k : Nat) (xs : Array Value) (x : Value) (Q : Value → Shared → Prop), J k s.heap → C xs s.heap → xs[k]? = some x → (∀ h', J (k + 1) h' → Heap.SameBut it s.heap h' → Q x { s with heap := h' }) → wpAny (model prog w) A (Builtin.SmallTypes.nextOf (.ref it)) Q E s
  stop : ∀ (A : Around) (E : Value → Shared → Prop) (s : Shared) (k : Nat) (xs : Array Value) (Q : Value → Shared → Prop), A.handled = none → J k s.heap → C xs s.heap → xs[k]? = none → (∀ h' e, Heap.ExtBut it s.heap h' → (∃ o, h'.get? e = some o ∧ o.cls = .type "StopIteration") → E (.ref e) { s with heap := h' }) → wpAny (model prog w) A (Builtin.SmallTypes.nextOf (.ref it)) Q E s
  keep : ∀ k h h', J k h → (∀ o, h.get? it = some o → h'.get? it = some o) → J k h'
  seq : ∀ xs h h', C xs h → (∀ o, h.get? l = some o → h'.get? l = some o) → C xs h'
  obj : ∀ k h, J k h → ∃ o vs, h.get? it = some o ∧ o.data = .fields vs
section
variable {prog : Program} {w : World} {A : Around} {E : Value → Shared → Prop} {s : Shared}
end
end L2
namespace L2
open PySem PySem.Spec PyProof.Rows
section
variable {prog : Program} {w : World} {A : Around} {E : Value → Shared → Prop} {s : Shared}
variable {z TI TO i1 i2 l1 l2 : Addr} {J1 J2 : Nat → Heap → Prop} {C1 C2 : Array Value → Heap → Prop} {k1 k2 : Nat} {xs ys : Array Value} {x y a b : Value}
end
section
variable {prog : Program} {w : World} {A : Around} {E : Value → Shared → Prop} {s : Shared}
end
end L2
namespace L2
open PySem PySem.Spec PyProof.Rows

def cX (t : Bool) (l : Addr) (xs : Array Value) (h : Heap) : Prop := if t = true then h.IsTuple l xs else h.IsList l xs
def tX (t : Bool) : String := if t = true then "tuple_iterator" else "list_iterator"
theorem cX_lt {t : Bool} {l : Addr} {h : Heap} {xs : Array Value} (g : cX t l xs h) : l < h.objs.size := by
  cases t
  · obtain ⟨o, g, _⟩ := (show h.IsList l xs from g); exact Heap.lt_size g
  · obtain ⟨o, g, _⟩ := (show h.IsTuple l xs from g); exact Heap.lt_size g
section
variable {X : Cx} {pins : List (Addr × Obj)} {σ : St} {H : Hp} {s : Shared} {a : Addr} {xs ys : List V} {t : Bool}
end

end L2
namespace L2
open PySem PySem.Spec PyProof.Rows

section
variable {prog : Program} {w : World} {A : Around} {R : Result → Shared → Prop} {I : Addr} {fp wr : List Addr} {G : Array GenState → Array GenState → Prop} {n : Nat} {P : Nat → Value → Prop} {Sx : Nat → Shared → Prop}
theorem sr_loop (W : WalksS prog w A.in1 I fp wr G n P Sx) (S : Addr) (nf : S ∉ fp) {led : Bool} (val : Nat → Int) (hv : ∀ i v, P i v → ∃ t, v = .int (val i) t) (hb : n + 1 < scanBound) :
    ∀ (k i : Nat) (s : Shared), n - i = k → i ≤ n → Sx i s → SR prog w s.heap S (firstMet val i) led →
      (∀ s', Moved (S :: wr) G s s' → SR prog w s'.heap S (firstMet val n) led → R (.ok (.ret .none)) s') →
      codeAny (model prog w) A (.builtin "set.update.loop" ⟨[.ref S, .ref I], []⟩) R s := by
  have nw : S ∉ wr := fun h => nf (W.sub _ h)
  have sub : ∀ b ∈ wr, b ∈ S :: wr := fun b hb => List.mem_cons_of_mem _ hb
  intro k
  induction k with
  | zero =>
    intro i s hk hi hst hS hR
    have ein : i = n := by omega
    subst ein
    refine codeAny_builtin PyProof.Rows.F.entry_set_update_loop ?_
    rw [Around.under_plainId PyProof.Rows.F.plain_set_update_loop _]
    show wpAny _ A.in1 (pyNext (.ref I) >>= _) _ _ _
    refine wpAny_bind (W.done s _ _ hst fun s' hm => ?_)
    show wpAny _ A.in1 (ret Value.none) _ _ _
    exact wpAny_pure (hR s' (hm.mono sub) (hS.keep fun o e => hm.heap S _ nw e))
  | succ k ih =>
    intro i s hk hi hst hS hR
    have hlt : i < n := by omega
    refine codeAny_builtin PyProof.Rows.F.entry_set_update_loop ?_
    rw [Around.under_plainId PyProof.Rows.F.plain_set_update_loop _]
    show wpAny _ A.in1 (pyNext (.ref I) >>= _) _ _ _
    refine wpAny_bind (W.item i s _ _ hlt hst fun v s' hP hst' hm => ?_)
    obtain ⟨t, rfl⟩ := hv i v hP
    have hS' : SR prog w s'.heap S (firstMet val i) led := hS.keep fun o e => hm.heap S _ nw e
    show wpAny _ A.in1 (holding [Value.int (val i) t] (setAdd S (.int (val i) t)) >>= _) _ _ _
    refine wpAny_bind (wpAny_holding ?_)
    unfold setAdd
    refine wpAny_holding (wpAny_bind ((intKind prog w).pyHash (k := val i) (intKind_is _ _ _ _) ?_))
    have room : (firstMet val i).length + 1 < scanBound := by have := firstMet_length_le val i; omega
    refine sr_add (s := { s' with toks := s'.toks + 1 }) hS' room fun h' b hsb hS2 => ?_
    rw [← firstMet_succ] at hS2
    refine wpAny_pure ⟨plainId_quiet PyProof.Rows.F.plain_set_update_loop _, ih (i + 1) _ (by omega) hlt (W.frame _ s' _ _ hst' (Nat.le_succ _) fun b hb o e => ?_) hS2 fun s'' hm'' hS'' => ?_⟩
    · rw [hsb.2 b (fun h : b = S => nf (by rw [← h]; exact hb))]
      exact e
    · refine hR s'' (Moved.trans W.gtrans ((hm.mono sub).then_heap (Nat.le_succ _) fun b o hb e => ?_) hm'') hS''
      rw [hsb.2 b (fun h : b = S => hb (by rw [h]; exact List.mem_cons_self))]
      exact e
end
section
variable {prog : Program} {w : World} {A : Around} {E : Value → Shared → Prop} {s : Shared}
abbrev ledOf (w : World) : Bool := !w.params.followText "set-order"
theorem code_set_led (a : Value) {Q₁ : Value → Shared → Prop} (h : Q₁ (.ref s.heap.objs.size) { s with heap := s.heap.push (newSet (ledOf w)) }) :
    codeAny (model prog w) A (.call (.builtin "set.__new__") ⟨[.type "set", a], []⟩) (wants Q₁ E) s := by
  refine codeAny_of_tree ?_
  show wpAny _ A.in1 (do checkBuiltinCall "set.__new__" ⟨[.type "set", a], []⟩; again (.builtin "set.__new__" ⟨[.type "set", a], []⟩)) _ _ s
  refine wpAny_bind (wpAny_of_eq (PySem.F.newCall_set_1 a) (wpAny_pure ⟨plainId_quiet PySem.F.plain_set_new _, codeAny_builtin PySem.F.entry_set_new ?_⟩))
  rw [Around.under_plainId PySem.F.plain_set_new _]
  unfold Builtin.«set.__new__» Builtin.Frozenset.newClass
  have hsub := sub_set_self
  obtain ⟨hp, g, d, tk, os⟩ := s
  dsimp only
  wp_walk
  refine wpAny_askSetting (wpAny_pure ?_)
  dsimp only
  simp only [newObj]
  refine wpAny_bind (wpAny_alloc (wpAny_pure ?_))
  exact wpAny_pure h

set_option maxRecDepth 100000 in
set_option maxHeartbeats 3200000 in
theorem set_seqI (t : Bool) {l : Addr} {its : Array Value} {ns : List Int} {Q : Value → Shared → Prop} (hh : A.handled = none) (hl : cX t l its s.heap) (hi : ∀ (i : Nat) (v : Value), its[i]? = some v → ∃ tk, v = .int (ns.getD i 0) tk) (hb : its.size + 1 < scanBound)
    (h : ∀ (h' : Heap) (tk : Nat), SR prog w h' s.heap.objs.size (firstMet (fun i => ns.getD i 0) its.size) (ledOf w) →
      (∀ b o, b < s.heap.objs.size → s.heap.get? b = some o → h'.get? b = some o) → Q (.ref s.heap.objs.size) { s with heap := h', toks := tk }) :
    wpAny (model prog w) A (call (.type "set") [.ref l]) Q E s := by
  obtain ⟨c, tl, hmro⟩ := PySem.F.called_set.mro
  have hmade := PySem.F.called_set.made
  have hsub := PySem.F.called_set.sub
  refine wpAny_call (codeAny_of_tree ?_)
  show wpAny _ _ (callAny (.type "set") _) _ _ s
  refine wpAny_pure ⟨Code.quiet_builtin _ (by decide +kernel), codeAny_builtin PySem.F.entry_type_call ?_⟩
  rw [Around.under_plain (weight_type_call_type "set" [.ref l] []) rfl]
  have h1 := PySem.F.called_set.notType
  have h2 := PySem.F.called_set.canCreate
  have hct := PySem.F.typeCall_set_1 (.ref l)
  repeat (any_goals (first | assumption | wp_step))
  refine codeAny_mono (code_set_led (.ref l) (E := E) (Q₁ := fun obj s₁ => obj = .ref s.heap.objs.size ∧ s₁ = { s with heap := s.heap.push (newSet (ledOf w)) }) ⟨rfl, rfl⟩) fun r s₁ hr => ?_
  cases r with
  | error e => exact hr
  | ok fl =>
    cases fl with
    | ret obj =>
      obtain ⟨rfl, rfl⟩ := hr
      generalize hled : ledOf w = led at *
      have gS : (s.heap.push (newSet led)).get? s.heap.objs.size = some (newSet led) := Heap.get?_push_size _ rfl
      have tS : Shared.TypeIs { s with heap := s.heap.push (newSet led) } (.ref s.heap.objs.size) "set" := ⟨_, gS, rfl⟩
      have hli := PySem.F.called_set.init.lookup
      have hbi := PySem.F.called_set.init.bind (.ref s.heap.objs.size)
      repeat (any_goals (first | assumption | wp_step))
      refine codeAny_mono (codeAny_call_builtin (R := wants (fun r s₂ => r = .none ∧ ∃ h' tk, s₂ = { s with heap := h', toks := tk } ∧
          SR prog w h' s.heap.objs.size (firstMet (fun i => ns.getD i 0) its.size) led ∧
          (∀ b o, b < s.heap.objs.size → s.heap.get? b = some o → h'.get? b = some o)) E) PySem.F.called_set.init.plain PySem.F.entry_set_init (check_set_init_1 tS ?_)) fun r₂ s₂ hr₂ => ?_
      · have ll : l < s.heap.objs.size := cX_lt hl
        have nI : l ≠ (s.heap.push (newSet led)).objs.size := by rw [Heap.size_push]; exact Nat.ne_of_lt (Nat.lt_succ_of_lt ll)
        have nS : s.heap.objs.size ∉ [(s.heap.push (newSet led)).objs.size, l] := by
          rw [Heap.size_push]
          simp only [List.mem_cons, List.mem_singleton, List.not_mem_nil, or_false, not_or]
          exact ⟨Nat.ne_of_lt (Nat.lt_succ_self _), Nat.ne_of_gt ll⟩
        have r0 : SR prog w (s.heap.push (newSet led)) s.heap.objs.size [] led := ⟨_, #[], 0, _, gS, ⟨rfl, rfl, rfl⟩, rfl, fun e he => by simp at he, .nil, by decide, rfl, ⟨.nil, rfl⟩, rfl⟩
        have h3 : A.in1.in1.in1.handled = none := by simp [hh]
        have last : ∀ (s' : Shared) (wr : List Addr), (∀ b ∈ wr, b = (s.heap.push (newSet led)).objs.size) → Moved (s.heap.objs.size :: wr) (fun a b => b = a) { s with heap := (s.heap.push (newSet led)).push { cls := .type (tX t), data := .fields #[.ref l, .int 0 0] } } s' → SR prog w s'.heap s.heap.objs.size (firstMet (fun i => ns.getD i 0) its.size) led →
            ∃ h' tk, s' = { s with heap := h', toks := tk } ∧ SR prog w h' s.heap.objs.size (firstMet (fun i => ns.getD i 0) its.size) led ∧ (∀ b o, b < s.heap.objs.size → s.heap.get? b = some o → h'.get? b = some o) := fun s' wr hwr hm hS' => by
          obtain ⟨h', g', d', tk', os'⟩ := s'
          have eg : g' = s.gens := hm.gens
          have ed : d' = s.drawn := hm.drawn
          have eo : os' = s.os := hm.os
          subst eg; subst ed; subst eo
          refine ⟨h', tk', rfl, hS', fun b o hb e => ?_⟩
          have n1 : b ≠ s.heap.objs.size := Nat.ne_of_lt hb
          have n2 : b ≠ (s.heap.push (newSet led)).objs.size := by rw [Heap.size_push]; exact Nat.ne_of_lt (Nat.lt_succ_of_lt hb)
          refine hm.heap b o (fun hmem => ?_) (Heap.get?_push_of_some _ (Heap.get?_push_of_some _ e))
          rcases List.mem_cons.mp hmem with z | z
          · exact n1 z
          · exact n2 (hwr b z)
        cases t with
        | false =>
          obtain ⟨ol, hol, hcl, nl, hdl⟩ := (show s.heap.IsList l its from hl)
          obtain ⟨ocls, odict, odata, oslots⟩ := ol
          simp only at hcl hdl
          subst hcl; subst hdl
          have gl : (s.heap.push (newSet led)).get? l = some { cls := .type "list", dict := odict, data := .seq its nl, slots := oslots } := Heap.get?_push_of_some _ hol
          have hsls := PySem.F.sub_list_set
          have hslf := PySem.F.sub_list_frozenset
          have hne : (Value.type "list" == Value.type "dict") = false := by decide
          have il : (s.heap.push (newSet led)).IsList l its := ⟨_, gl, rfl, nl, rfl⟩
          unfold Builtin.«set.__init__» noKeywords Builtin.Frozenset.updateFrom
          generalize hPI : pyIter = PI
          wp_walk
          subst hPI
          refine wpAny_pyIter_list il (wpAny_bind (wpAny_runValue ?_))
          refine sr_loop ((Walks.list h3 _ l nI its).toS) s.heap.objs.size nS (fun i => ns.getD i 0) hi hb (its.size - 0) 0 _ (by omega) (Nat.zero_le _) ⟨⟨_, Heap.get?_push_size _ rfl, rfl, rfl⟩, (il.push _)⟩ (r0.keep fun o e => Heap.get?_push_of_some _ e) ?_
          intro s' hm hS'
          obtain ⟨h', tk', e1, e2, e3⟩ := last s' _ (fun b hb => List.mem_singleton.mp hb) hm hS'
          subst e1
          refine wpAny_pure ?_
          show wpAny _ _ (ret Value.none) _ _ _
          exact wpAny_pure ⟨rfl, h', tk', rfl, e2, e3⟩
        | true =>
          obtain ⟨ol, hol, hcl, nl, hdl⟩ := (show s.heap.IsTuple l its from hl)
          obtain ⟨ocls, odict, odata, oslots⟩ := ol
          simp only at hcl hdl
          subst hcl; subst hdl
          have gl : (s.heap.push (newSet led)).get? l = some { cls := .type "tuple", dict := odict, data := .seq its nl, slots := oslots } := Heap.get?_push_of_some _ hol
          have hsls := PySem.F.sub_tuple_set
          have hslf := PySem.F.sub_tuple_frozenset
          have hne : (Value.type "tuple" == Value.type "dict") = false := by decide
          have il : (s.heap.push (newSet led)).IsTuple l its := ⟨_, gl, rfl, nl, rfl⟩
          unfold Builtin.«set.__init__» noKeywords Builtin.Frozenset.updateFrom
          generalize hPI : pyIter = PI
          wp_walk
          subst hPI
          refine wpAny_pyIter_tuple il (wpAny_bind (wpAny_runValue ?_))
          refine sr_loop ((Walks.tuple h3 _ l nI its).toS) s.heap.objs.size nS (fun i => ns.getD i 0) hi hb (its.size - 0) 0 _ (by omega) (Nat.zero_le _) ⟨⟨_, Heap.get?_push_size _ rfl, rfl, rfl⟩, (il.push _)⟩ (r0.keep fun o e => Heap.get?_push_of_some _ e) ?_
          intro s' hm hS'
          obtain ⟨h', tk', e1, e2, e3⟩ := last s' _ (fun b hb => List.mem_singleton.mp hb) hm hS'
          subst e1
          refine wpAny_pure ?_
          show wpAny _ _ (ret Value.none) _ _ _
          exact wpAny_pure ⟨rfl, h', tk', rfl, e2, e3⟩
      · cases r₂ with
        | error e => exact hr₂
        | ok fl₂ =>
          cases fl₂ with
          | ret r =>
            obtain ⟨rfl, h', tk, rfl, hS', hk'⟩ := hr₂
            repeat (any_goals (first | assumption | wp_step))
            exact h _ _ hS' hk'
          | _ => exact hr₂.elim
    | _ => exact hr.elim
end
end L2
namespace L2
open PySem PySem.Spec PyProof.Rows

theorem erase_perm {α : Type} : ∀ (l : List α) (i : Nat) (h : i < l.length), (l[i] :: l.eraseIdx i).Perm l
  | [], i, h => by simp at h
  | a :: l, 0, h => .refl _
  | a :: l, i + 1, h => by
    show ((a :: l)[i + 1] :: a :: l.eraseIdx i).Perm (a :: l)
    exact (List.Perm.swap _ _ _).trans ((erase_perm l i (by simpa using h)).cons a)
theorem pick_go {α : Type} (next : Nat → Nat) : ∀ (fuel k : Nat) (left : List α) (out : Array α), left.length ≤ fuel → (pickOrder.go next fuel k left out).toList.Perm (out.toList ++ left)
  | 0, k, left, out, h => by
    have : left = [] := List.length_eq_zero_iff.mp (by omega)
    subst this
    unfold pickOrder.go
    rw [List.append_nil]
  | fuel + 1, k, left, out, h => by
    unfold pickOrder.go
    cases hx : left[next k % left.length]? with
    | none =>
      dsimp only
      have h0 : left = [] := by
        cases left with
        | nil => rfl
        | cons a l =>
          have := List.getElem?_eq_none_iff.mp hx
          have := Nat.mod_lt (next k) (show 0 < (a :: l).length by simp)
          omega
      subst h0
      rw [List.append_nil]
    | some x =>
      dsimp only
      have hl := (List.getElem?_eq_some_iff.mp hx).1
      refine (pick_go next fuel (k + 1) _ _ (by rw [List.length_eraseIdx_of_lt hl]; omega)).trans ?_
      rw [Array.toList_push, List.append_assoc]
      refine List.Perm.append_left _ ?_
      have e := (List.getElem?_eq_some_iff.mp hx).2
      rw [← e]
      exact erase_perm left _ hl
theorem pick_perm {α : Type} (next : Nat → Nat) (xs : Array α) : (pickOrder next xs).toList.Perm xs.toList := by
  unfold pickOrder
  have := pick_go next xs.size 0 xs.toList #[] (by simp)
  simpa using this
section
variable {prog : Program} {w : World} {A : Around} {E : Value → Shared → Prop}
theorem wp_choose1 {src : Source} {n : Nat} {s : Shared} {Q : Nat → Shared → Prop} (hn : n ≠ 0) (h : ∀ i d, i < n → Q i { s with drawn := d }) : wpAny (model prog w) A (choose src n) Q E s := fun Γ p hΓ => by
  show Sem.wp _ Γ (.choose src n _) _ _ _ _
  rw [Sem.wp_choose]
  exact ⟨hn, h _ _ (Nat.mod_lt _ (Nat.pos_of_ne_zero hn))⟩
theorem wp_draw {α : Type} : ∀ (n : Nat) (xs : List α) (s : Shared) (Q : List α → Shared → Prop), xs.length ≤ n → (∀ ys d, ys.Perm xs → Q ys { s with drawn := d }) → wpAny (model prog w) A (drawOrder n xs) Q E s
  | 0, xs, s, Q, h, q => by
    have : xs = [] := List.length_eq_zero_iff.mp (by omega)
    subst this
    unfold drawOrder
    exact wpAny_pure (q [] s.drawn (.refl _))
  | n + 1, [], s, Q, h, q => by
    unfold drawOrder
    exact wpAny_pure (q [] s.drawn (.refl _))
  | n + 1, x :: xs, s, Q, h, q => by
    unfold drawOrder
    refine wpAny_bind (wp_choose1 (by simp) fun i d hlt => ?_)
    have ei : (x :: xs)[i]? = some (x :: xs)[i] := by simp [hlt]
    rw [ei]
    dsimp only
    refine wpAny_bind (wp_draw n ((x :: xs).eraseIdx i) _ _ (by rw [List.length_eraseIdx_of_lt hlt]; simp at h ⊢; omega) fun ys d hy => wpAny_pure ?_)
    exact q _ d ((hy.cons _).trans (erase_perm _ i hlt))
end
end L2
namespace L2
open PySem PySem.Spec PyProof.Rows
namespace SF
theorem slot_next : Slot "set_iterator" "__next__" "set_iterator.__next__" :=
  .of (owner := "set_iterator") (n := "__next__") (by rw [typeLookup_type, builtinLookup_eq_fast]; kernel_rfl) (by decide +kernel) (by decide +kernel) (by decide +kernel)
    (by first | exact .inl (by decide +kernel) | exact .inr (by decide +kernel)) (by rw [isSubtype_type]; kernel_rfl)
theorem entry_next : entryFor table "set_iterator.__next__" = some Builtin.«set_iterator.__next__» := entryFor_of_tree (by kernel_rfl)
theorem owner_si : Manifest.owners.lookup (String.ofList ['r', 'o', 't', 'a', 'r', 'e', 't', 'i', '_', 't', 'e', 's'].reverse) = some Manifest.sig_set_iterator := by kernel_rfl
theorem args_next (a : Value) : argsOk "set_iterator.__next__" ⟨[a], []⟩ := by
  unfold argsOk; rw [PySem.signature?_of (id := "set_iterator.__next__") (n := ['_', '_', 't', 'x', 'e', 'n', '_', '_']) (o := ['r', 'o', 't', 'a', 'r', 'e', 't', 'i', '_', 't', 'e', 's']) (by kernel_rfl) owner_si]; kernel_rfl
theorem entry_iter : entryFor table "set.__iter__" = some Builtin.«frozenset.__iter__» :=
  entryFor_alias (id' := "frozenset.__iter__") (by kernel_rfl) (by first | rfl | decide +kernel | (unfold String.splitOn; simp +decide [String.splitOnAux])) (by decide +kernel) (by kernel_rfl)
end SF
section
variable {prog : Program} {w : World} {A : Around} {E : Value → Shared → Prop} {s : Shared}
variable {a : Addr} {o : Obj} {es : Array (Int × Value)} {ep : Nat} {t : SetTable}
abbrev byT (w : World) : Bool := w.params.followText "set-order"
theorem wp_byText {Q : Bool → Shared → Prop} (h : Q (byT w) s) : wpAny (model prog w) A setsByText Q E s := by
  unfold setsByText
  exact wpAny_bind (wpAny_askSetting (wpAny_pure h))
theorem wp_entries (ho : s.heap.get? a = some o) (hd : o.data = .set es ep t) (hf : t.fits es.size = true) {Q : Array (Int × Value) → Shared → Prop} (h : Q es s) : wpAny (model prog w) A (setEntries a) Q E s := by
  unfold setEntries
  exact wpAny_bind (wpAny_setState_of ho hd hf (wpAny_pure h))
theorem next_text {slot given : Nat} {Q : Option (Value × Nat) → Shared → Prop} (ho : s.heap.get? a = some o) (hd : o.data = .set es ep t) (hf : t.fits es.size = true) (hb : byT w = true)
    (h : Q (((pickOrder (w.params.setOrder a ep) es)[given]?).map fun e => (e.2, slot)) s) : wpAny (model prog w) A (setNext a slot given ep) Q E s := by
  unfold setNext
  refine wpAny_bind (wpAny_setState_of ho hd hf ?_)
  dsimp only
  refine wpAny_bind (wp_byText ?_)
  rw [hb]
  simp only [bne_self_eq_false, Bool.false_eq_true, if_false, if_true]
  unfold setWalk
  refine wpAny_bind (wpAny_bind (wpAny_setState_of ho hd hf ?_))
  dsimp only
  refine wpAny_bind (wp_byText ?_)
  rw [hb]
  simp only [if_true]
  exact wpAny_bind (wpAny_askSetting (wpAny_pure (wpAny_pure h)))
theorem next_plain {slot given : Nat} {Q : Option (Value × Nat) → Shared → Prop} (ho : s.heap.get? a = some o) (hd : o.data = .set es ep t) (hf : t.fits es.size = true) (hb : byT w = false) (hn : ¬ (!t.plain && decide (es.size > 1)) = true) (hl : t.led = true)
    (h : Q (match es[SetTable.below t.place slot]?, t.place[SetTable.below t.place slot]? with | some (_, x), some j => some (x, j + 1) | _, _ => none) s) : wpAny (model prog w) A (setNext a slot given ep) Q E s := by
  unfold setNext
  refine wpAny_bind (wpAny_setState_of ho hd hf ?_)
  dsimp only
  refine wpAny_bind (wp_byText ?_)
  rw [hb]
  simp only [Bool.false_eq_true, if_false]
  refine wpAny_ite_split (fun z => absurd z hn) (fun _ => ?_)
  refine wpAny_bind ?_
  refine wpAny_ite_split (fun z => ?_) (fun _ => wpAny_pure (wpAny_pure h))
  rw [hl] at z
  exact absurd z (by simp)
theorem next_drawn {place : Nat} {x : Int × Value} {Q : Value → Shared → Prop} (ho : s.heap.get? a = some o) (hd : o.data = .set es ep t) (hf : t.fits es.size = true) (hx : es[place]? = some x) (h : Q x.2 s) : wpAny (model prog w) A (setNextDrawn a place ep) Q E s := by
  unfold setNextDrawn
  refine wpAny_bind (wpAny_setState_of ho hd hf ?_)
  dsimp only
  simp only [bne_self_eq_false, Bool.false_eq_true, if_false]
  rw [hx]
  exact wpAny_pure h
end

def slotAt (xs : Array Nat) (i : Nat) : Nat := if i = 0 then 0 else xs.getD (i - 1) 0 + 1
theorem below_slot {xs : Array Nat} (hr : xs.toList.Pairwise (· < ·)) {i : Nat} (hi : i ≤ xs.size) : SetTable.below xs (slotAt xs i) = i := by
  obtain ⟨h1, h2, h3⟩ := below_ok xs (slotAt xs i) hr
  generalize hp : SetTable.below xs (slotAt xs i) = p at *
  have lt : ∀ {k l x y : Nat}, k < l → xs[k]? = some x → xs[l]? = some y → x < y := fun {k l x y} h hx hy => by
    obtain ⟨g1, k1⟩ := Array.getElem?_eq_some_iff.mp hx
    obtain ⟨g2, k2⟩ := Array.getElem?_eq_some_iff.mp hy
    have := List.pairwise_iff_getElem.mp hr k l (by simpa using g1) (by simpa using g2) h
    rwa [Array.getElem_toList, Array.getElem_toList, k1, k2] at this
  by_cases e0 : i = 0
  · subst e0
    by_cases hp0 : p = 0
    · exact hp0
    · obtain ⟨x, hx⟩ : ∃ x, xs[0]? = some x := ⟨xs[0]'(by omega), by simp⟩
      have := h2 0 x (by omega) hx
      simp [slotAt] at this
  · obtain ⟨y, hy⟩ : ∃ y, xs[i - 1]? = some y := ⟨xs[i - 1]'(by omega), by simp⟩
    have es : slotAt xs i = y + 1 := by
      unfold slotAt
      rw [if_neg e0]
      simp [Array.getD_eq_getD_getElem?, hy]
    rw [es] at h2 h3
    by_cases hlt : p < i
    · exfalso
      obtain ⟨x, hx⟩ : ∃ x, xs[p]? = some x := ⟨xs[p]'(by omega), by simp⟩
      have q := h3 p x (Nat.le_refl _) hx
      by_cases e : p = i - 1
      · rw [e, hy] at hx
        cases hx
        omega
      · have := lt (show p < i - 1 by omega) hx hy
        omega
    · by_cases hgt : i < p
      · exfalso
        obtain ⟨x, hx⟩ : ∃ x, xs[i]? = some x := ⟨xs[i]'(by omega), by simp⟩
        have q := h2 i x hgt hx
        have := lt (show i - 1 < i by omega) hy hx
        omega
      · omega
end L2
namespace L2
open PySem PySem.Spec PyProof.Rows

abbrev siO (first : Value) (i : Nat) (a : Addr) (n ep : Nat) : Obj := { cls := .type "set_iterator", dict := none, data := .fields #[first, rawInt i, .ref a, rawInt n, rawInt ep], slots := #[] }
section
variable {prog : Program} {w : World} {A : Around} {E : Value → Shared → Prop} {s : Shared}
variable {a it : Addr} {o : Obj} {es : Array (Int × Value)} {ep i : Nat} {t : SetTable}
theorem stop_new {s : Shared} {Q : Fin → Shared → Prop} (hh : A.handled = none) (q : ∀ h' e, (∀ c o, s.heap.get? c = some o → h'.get? c = some o) → (∃ o, h'.get? e = some o ∧ o.cls = .type "StopIteration") → E (.ref e) { s with heap := h' }) :
    wpAny (model prog w) A (newExc (.type "StopIteration") [] >>= fun e => raiseNew e) Q E s := by
  refine wpAny_bind ?_
  simp only [newExc, newTuple]
  refine wpAny_bind (wpAny_newObj_type (by skip; refine wpAny_bind (m := firstArgMember _ _) (wpAny_of_eq (a := Value.none) (by first | rfl | (simp only [firstArgMember]; rfl)) ?_); refine wpAny_newObj_type ?_ (by size_fits); simp only [raiseNew]; refine wpAny_bind (wpAny_handled ?_); rw [hh]; first | exact wpAny_throw (q _ _ (fun c o e => Heap.get?_push_of_some _ (Heap.get?_push_of_some _ e)) ⟨_, Heap.get?_push_size _ rfl, rfl⟩) | exact wpAny_bind (wpAny_pure (wpAny_throw (q _ _ (fun c o e => Heap.get?_push_of_some _ (Heap.get?_push_of_some _ e)) ⟨_, Heap.get?_push_size _ rfl, rfl⟩)))) (by size_fits))
theorem si_int {sl : Nat} {r : Option (Value × Nat)} {Q : Fin → Shared → Prop} (gi : s.heap.get? it = some (siO (rawInt sl) i a es.size ep)) (ho : s.heap.get? a = some o) (hd : o.data = .set es ep t) (hf : t.fits es.size = true)
    (hr : ∀ Q', Q' r s → wpAny (model prog w) A (setNext a sl i ep) Q' E s)
    (h1 : ∀ x nx, r = some (x, nx) → ∀ h', h'.get? it = some (siO (rawInt nx) (i + 1) a es.size ep) → Heap.SameBut it s.heap h' → Q (.done (.ret x)) { s with heap := h' })
    (h2 : r = none → ∀ h', Heap.SameBut it s.heap h' → wpAny (model prog w) A (newExc (.type "StopIteration") [] >>= fun e => raiseNew e) Q E { s with heap := h' }) :
    wpAny (model prog w) A (Builtin.«set_iterator.__next__» ⟨[.ref it], []⟩) Q E s := by
  show wpAny _ _ (fieldsOf (.ref it) >>= _) _ _ s
  refine wpAny_bind (wpAny_fieldsOf gi rfl ?_)
  show wpAny _ _ (setEntries a >>= _) _ _ s
  refine wpAny_bind (wp_entries ho hd hf ?_)
  show wpAny _ _ (if (((es.size : Nat) : Int) != ((es.size : Nat) : Int)) = true then _ else _) _ _ s
  rw [if_neg (by simp)]
  show wpAny _ _ (setNext a (((sl : Nat) : Int).toNat) (((i : Nat) : Int).toNat) (((ep : Nat) : Int).toNat) >>= _) _ _ s
  rw [Int.toNat_natCast, Int.toNat_natCast, Int.toNat_natCast]
  refine wpAny_bind (hr _ ?_)
  cases r with
  | some p =>
    obtain ⟨x, nx⟩ := p
    show wpAny _ _ (setField (.ref it) 0 (rawInt nx) >>= _) _ _ s
    refine wpAny_bind (wpAny_setField_rec gi (by simp) fun hA zA sA => ?_)
    replace zA : hA.get? it = some (siO (rawInt nx) i a es.size ep) := zA
    show wpAny _ _ (setField (.ref it) 1 (rawInt (((i : Nat) : Int) + 1)) >>= _) _ _ _
    refine wpAny_bind (wpAny_setField_rec zA (by simp) fun hB zB sB => ?_)
    replace zB : hB.get? it = some (siO (rawInt nx) (i + 1) a es.size ep) := zB
    exact wpAny_pure (h1 x nx rfl hB zB (sA.trans sB))
  | none =>
    show wpAny _ _ (setField (.ref it) 2 .none >>= _) _ _ s
    exact wpAny_bind (wpAny_setField_rec gi (by simp) fun hA zA sA => h2 rfl hA sA)
theorem si_ref {T : Addr} {ps : Array Value} {Q : Fin → Shared → Prop} (gi : s.heap.get? it = some (siO (.ref T) i a es.size ep)) (hT : s.heap.IsTuple T ps) (ho : s.heap.get? a = some o) (hd : o.data = .set es ep t) (hf : t.fits es.size = true)
    (h1 : ∀ v, ps[i]? = some v → ∃ (pl : Nat) (x : Int × Value), v = rawInt pl ∧ es[pl]? = some x ∧ ∀ h', h'.get? it = some (siO (.ref T) (i + 1) a es.size ep) → Heap.SameBut it s.heap h' → Q (.done (.ret x.2)) { s with heap := h' })
    (h2 : ps[i]? = none → ∀ h', Heap.SameBut it s.heap h' → wpAny (model prog w) A (newExc (.type "StopIteration") [] >>= fun e => raiseNew e) Q E { s with heap := h' }) :
    wpAny (model prog w) A (Builtin.«set_iterator.__next__» ⟨[.ref it], []⟩) Q E s := by
  obtain ⟨oT, gT, _, nT, dT⟩ := hT
  show wpAny _ _ (fieldsOf (.ref it) >>= _) _ _ s
  refine wpAny_bind (wpAny_fieldsOf gi rfl ?_)
  show wpAny _ _ (setEntries a >>= _) _ _ s
  refine wpAny_bind (wp_entries ho hd hf ?_)
  show wpAny _ _ (if (((es.size : Nat) : Int) != ((es.size : Nat) : Int)) = true then _ else _) _ _ s
  rw [if_neg (by simp)]
  show wpAny _ _ (seqItems? (.ref T) >>= _) _ _ s
  refine wpAny_bind (wpAny_seqItems gT dT ?_)
  dsimp only
  rw [Int.toNat_natCast]
  cases hp : ps[i]? with
  | some v =>
    obtain ⟨pl, x, rfl, hx, h⟩ := h1 v hp
    show wpAny _ _ (setNextDrawn a (((pl : Nat) : Int).toNat) (((ep : Nat) : Int).toNat) >>= _) _ _ s
    rw [Int.toNat_natCast, Int.toNat_natCast]
    refine wpAny_bind (next_drawn ho hd hf hx ?_)
    show wpAny _ _ (setField (.ref it) 1 (rawInt (((i : Nat) : Int) + 1)) >>= _) _ _ _
    refine wpAny_bind (wpAny_setField_rec gi (by simp) fun hB zB sB => ?_)
    replace zB : hB.get? it = some (siO (.ref T) (i + 1) a es.size ep) := zB
    exact wpAny_pure (h hB zB sB)
  | none =>
    show wpAny _ _ (setField (.ref it) 0 (rawInt 0) >>= _) _ _ s
    refine wpAny_bind (wpAny_setField_rec gi (by simp) fun hA zA sA => ?_)
    show wpAny _ _ (setField (.ref it) 2 .none >>= _) _ _ _
    exact wpAny_bind (wpAny_setField_rec zA (by simp) fun hB zB sB => h2 hp hB (sA.trans sB))
end

inductive SWay (w : World) (a T : Addr) (es : Array (Int × Value)) (ep : Nat) (t : SetTable) : (Nat → Value) → (Heap → Prop) → List (Int × Value) → Prop
  | text : byT w = true → SWay w a T es ep t (fun _ => rawInt 0) (fun _ => True) (pickOrder (w.params.setOrder a ep) es).toList
  | plain : byT w = false → ¬ (!t.plain && decide (es.size > 1)) = true → t.led = true → t.place.toList.Pairwise (· < ·) → SWay w a T es ep t (fun i => rawInt (slotAt t.place i)) (fun _ => True) es.toList
  | drawn (ps : List Nat) : ps.Perm (List.range es.size) → SWay w a T es ep t (fun _ => .ref T) (fun h => h.IsTuple T (ps.map fun (p : Nat) => rawInt p).toArray) (ps.filterMap fun p => es[p]?)
theorem SWay.perm {w : World} {a T : Addr} {es : Array (Int × Value)} {ep : Nat} {t : SetTable} {f : Nat → Value} {tc : Heap → Prop} {ord : List (Int × Value)} (W : SWay w a T es ep t f tc ord) : ord.Perm es.toList := by
  cases W with
  | text _ => exact pick_perm _ _
  | plain _ _ _ _ => exact .refl _
  | drawn ps hp => exact (hp.filterMap _).trans (by rw [filterMap_getElem?_range])
theorem fm_map {es : Array (Int × Value)} : ∀ ps : List Nat, (∀ p ∈ ps, p < es.size) → ps.filterMap (fun p => es[p]?) = ps.map fun p => es.getD p default
  | [], _ => rfl
  | p :: ps, h => by
    have hp := h p List.mem_cons_self
    rw [List.filterMap_cons, List.map_cons, fm_map ps fun q hq => h q (List.mem_cons_of_mem _ hq)]
    simp [Array.getD_eq_getD_getElem?, hp]
namespace SF
theorem slot_iter : Slot "set_iterator" "__iter__" "set_iterator.__iter__" :=
  .of (owner := "set_iterator") (n := "__iter__") (by rw [typeLookup_type, builtinLookup_eq_fast]; kernel_rfl) (by decide +kernel) (by decide +kernel) (by decide +kernel)
    (by first | exact .inl (by decide +kernel) | exact .inr (by decide +kernel)) (by rw [isSubtype_type]; kernel_rfl)
theorem entry_self : entryFor table "set_iterator.__iter__" = some Builtin.«dict_keyiterator.__iter__» :=
  entryFor_alias (id' := "dict_keyiterator.__iter__") (by kernel_rfl) (by first | rfl | decide +kernel | (unfold String.splitOn; simp +decide [String.splitOnAux])) (by decide +kernel) (by kernel_rfl)
theorem args_iter (a : Value) : argsOk "set_iterator.__iter__" ⟨[a], []⟩ := by
  unfold argsOk; rw [PySem.signature?_of (id := "set_iterator.__iter__") (n := ['_', '_', 'r', 'e', 't', 'i', '_', '_']) (o := ['r', 'o', 't', 'a', 'r', 'e', 't', 'i', '_', 't', 'e', 's']) (by kernel_rfl) owner_si]; kernel_rfl
end SF
section
variable {prog : Program} {w : World} {A : Around} {a it T : Addr} {es : Array (Int × Value)} {ep : Nat} {t : SetTable} {f : Nat → Value} {tc : Heap → Prop} {ord : List (Int × Value)}
theorem si_walk (hh : A.handled = none) (hit : it ≠ a) (hiT : it ≠ T) (hf : t.fits es.size = true) (W : SWay w a T es ep t f tc ord) :
    WalksS prog w A it [it, a, T] [it] (fun x y => y = x) ord.length (fun i v => ∃ e, ord[i]? = some e ∧ v = e.2) (fun i s => s.heap.get? it = some (siO (f i) i a es.size ep) ∧ (∃ o, s.heap.get? a = some o ∧ o.data = .set es ep t) ∧ tc s.heap) where
  sub := fun b hb => by simp at hb; simp [hb]
  grefl := fun _ => rfl
  gtrans := fun _ _ _ h1 h2 => h2.trans h1
  frame := fun i s h' tk st _ hk => by
    obtain ⟨g1, ⟨o, g2, g3⟩, g4⟩ := st
    refine ⟨hk it (by simp) _ g1, ⟨o, hk a (by simp) _ g2, g3⟩, ?_⟩
    cases W with
    | text _ => trivial
    | plain _ _ _ _ => trivial
    | drawn ps hp =>
      obtain ⟨o', k1, k2⟩ := g4
      exact ⟨o', hk T (by simp) _ k1, k2⟩
  item := fun i s Q E hi st hQ => by
    obtain ⟨g1, ⟨o, g2, g3⟩, g4⟩ := st
    have tI : s.TypeIs (.ref it) "set_iterator" := ⟨_, g1, rfl⟩
    obtain ⟨e, he⟩ : ∃ e, ord[i]? = some e := ⟨ord[i], by simp [hi]⟩
    unfold pyNext
    refine wpAny_bind (wpAny_attempt (wpAny_callSpecial?_slot (name := Str.ofString "__next__") tI SF.slot_next (wpAny_call_entry SF.slot_next tI SF.entry_next ?_ (SF.args_next _))))
    have fin : ∀ h', h'.get? it = some (siO (f (i + 1)) (i + 1) a es.size ep) → Heap.SameBut it s.heap h' → Q (some e.2) { s with heap := h' } := fun h' z sb => by
      refine hQ e.2 _ ⟨e, he, rfl⟩ ⟨z, ⟨o, sb.extBut _ _ (Ne.symm hit) g2, g3⟩, ?_⟩ ⟨fun b o hb q => sb.extBut _ _ (by simpa using hb) q, rfl, rfl, rfl, Nat.le_refl _⟩
      cases W with
      | text _ => trivial
      | plain _ _ _ _ => trivial
      | drawn ps hp =>
        obtain ⟨o', k1, k2⟩ := g4
        exact ⟨o', sb.extBut _ _ (Ne.symm hiT) k1, k2⟩
    cases W with
    | text hb =>
      rw [Array.getElem?_toList] at he
      refine si_int g1 g2 g3 hf (fun Q' q => next_text g2 g3 hf hb q) (fun x nx er h' z sb => ?_) (fun er => ?_)
      · rw [he] at er
        cases er
        exact ⟨_, rfl, wpAny_pure (fin h' z sb)⟩
      · rw [he] at er
        cases er
    | plain hb hn hl hr =>
      have hsz : t.place.size = es.size := by
        simp only [SetTable.fits, Bool.and_eq_true, beq_iff_eq] at hf
        exact hf.1
      have hi' : i < es.size := by simpa using hi
      rw [Array.getElem?_toList] at he
      have hpl : t.place[i]? = some (t.place.getD i 0) := by simp [Array.getD_eq_getD_getElem?, hsz, hi']
      have hbs := below_slot hr (show i ≤ t.place.size by omega)
      refine si_int g1 g2 g3 hf (fun Q' q => next_plain g2 g3 hf hb hn hl q) (fun x nx er h' z sb => ?_) (fun er => ?_)
      rotate_left
      · rw [hbs, he, hpl] at er
        cases er
      rw [hbs, he, hpl] at er
      cases er
      refine ⟨_, rfl, wpAny_pure (fin h' ?_ sb)⟩
      have : slotAt t.place (i + 1) = t.place.getD i 0 + 1 := by
        unfold slotAt
        rw [if_neg (by omega)]
        rfl
      show h'.get? it = some (siO (rawInt (slotAt t.place (i + 1))) (i + 1) a es.size ep)
      rw [this]
      exact z
    | drawn ps hp =>
      have hin : ∀ p ∈ ps, p < es.size := fun p h => by simpa using hp.mem_iff.mp h
      have hall : ps.filterMap (fun p => es[p]?) = ps.map fun p => es.getD p default := fm_map ps hin
      rw [hall, List.getElem?_map] at he
      cases hpi : ps[i]? with
      | none => rw [hpi] at he; cases he
      | some p =>
        rw [hpi] at he
        cases he
        have hpl := hin p (List.mem_of_getElem? hpi)
        have e1 : ((ps.map fun (p : Nat) => rawInt p).toArray)[i]? = some (rawInt p) := by simp [hpi]
        refine si_ref g1 g4 g2 g3 hf (fun v hv => ?_) (fun hv => ?_)
        · rw [e1] at hv
          cases hv
          exact ⟨p, es.getD p default, rfl, by simp [Array.getD_eq_getD_getElem?, hpl], fun h' z sb => ⟨_, rfl, wpAny_pure (fin h' z sb)⟩⟩
        · rw [e1] at hv
          cases hv
  done := fun s Q E st hQ => by
    obtain ⟨g1, ⟨o, g2, g3⟩, g4⟩ := st
    have tI : s.TypeIs (.ref it) "set_iterator" := ⟨_, g1, rfl⟩
    have hlen : ord.length = es.size := by rw [W.perm.length_eq, Array.length_toList]
    unfold pyNext
    refine wpAny_bind (wpAny_attempt (wpAny_callSpecial?_slot (name := Str.ofString "__next__") tI SF.slot_next (wpAny_call_entry SF.slot_next tI SF.entry_next ?_ (SF.args_next _))))
    have fin : ∀ (A' : Around) (Q' : Fin → Shared → Prop) (E' : Value → Shared → Prop) (h' : Heap), A'.handled = none → Heap.SameBut it s.heap h' → (∀ h'' e, (∀ c o, c ≠ it → s.heap.get? c = some o → h''.get? c = some o) → (∃ o, h''.get? e = some o ∧ o.cls = .type "StopIteration") → E' (.ref e) { s with heap := h'' }) →
        wpAny (model prog w) A' (newExc (.type "StopIteration") [] >>= fun e => raiseNew e) Q' E' { s with heap := h' } := fun A' Q' E' h' ha sb q => stop_new ha fun h'' e k he => q h'' e (fun c o hc z => k c o (sb.extBut _ _ hc z)) he
    have last : ∀ h'' e, (∀ c o, c ≠ it → s.heap.get? c = some o → h''.get? c = some o) → (∃ o, h''.get? e = some o ∧ o.cls = .type "StopIteration") →
        wpAny (model prog w) A (isInstance (.ref e) (.type "StopIteration") >>= fun b => if b = true then pure none else throw (.ref e)) Q E { s with heap := h'' } := fun h'' e k he => by
      obtain ⟨o, ho, hc⟩ := he
      exact wpAny_bind (wpAny_isInstance (T := "StopIteration") (b := true) ⟨o, ho, hc⟩ isSubtype_stop (wpAny_pure (hQ _ ⟨fun b o hb q => k b o (by simpa using hb) q, rfl, rfl, rfl, Nat.le_refl _⟩)))
    cases W with
    | text hb =>
      have e1 : (pickOrder (w.params.setOrder a ep) es)[(pickOrder (w.params.setOrder a ep) es).toList.length]? = none := by simp
      refine si_int g1 g2 g3 hf (fun Q' q => next_text g2 g3 hf hb q) (fun x nx er => ?_) (fun _ h' sb => fin _ _ _ h' hh sb last)
      rw [e1] at er
      cases er
    | plain hb hn hl hr =>
      have hsz : t.place.size = es.size := by
        simp only [SetTable.fits, Bool.and_eq_true, beq_iff_eq] at hf
        exact hf.1
      have hbs := below_slot hr (show es.toList.length ≤ t.place.size by rw [Array.length_toList]; omega)
      have e1 : es[es.toList.length]? = none := by simp
      refine si_int g1 g2 g3 hf (fun Q' q => next_plain g2 g3 hf hb hn hl q) (fun x nx er => ?_) (fun _ h' sb => fin _ _ _ h' hh sb last)
      rw [hbs, e1] at er
      cases er
    | drawn ps hp =>
      have hpl : ps.length = es.size := by rw [hp.length_eq, List.length_range]
      have e1 : ((ps.map fun (p : Nat) => rawInt p).toArray)[(ps.filterMap fun p => es[p]?).length]? = none := by rw [hlen]; simp [hpl]
      refine si_ref g1 g4 g2 g3 hf (fun v hv => ?_) (fun _ h' sb => fin _ _ _ h' hh sb last)
      rw [e1] at hv
      cases hv
  self := fun i s Q E st h => by
    obtain ⟨g1, _, _⟩ := st
    have tI : s.TypeIs (.ref it) "set_iterator" := ⟨_, g1, rfl⟩
    refine wpAny_pyIter_slot tI SF.slot_iter (wpAny_call_entry SF.slot_iter tI SF.entry_self ?_ (SF.args_iter _))
    show wpAny _ _ (ret (.ref it)) _ _ s
    exact wpAny_pure ⟨_, rfl, "set_iterator", _, tI, SF.slot_next.lookup, h⟩
end
end L2
namespace L2
open PySem PySem.Spec PyProof.Rows
section
variable {prog : Program} {w : World} {A : Around} {E : Value → Shared → Prop} {s : Shared} {a : Addr} {σ : List Int}
theorem iter_set {Q : Value → Shared → Prop} (S : SR prog w s.heap a σ (ledOf w))
    (h : ∀ (h' : Heap) (d : Drawn) (it T : Addr) (es : Array (Int × Value)) (ep : Nat) (t : SetTable) (f : Nat → Value) (tc : Heap → Prop) (ord : List (Int × Value)), s.heap.objs.size ≤ it → (T = a ∨ s.heap.objs.size ≤ T) → it ≠ T → (∀ b o, s.heap.get? b = some o → h'.get? b = some o) →
      h'.get? it = some (siO (f 0) 0 a es.size ep) → (∃ o, h'.get? a = some o ∧ o.data = .set es ep t) → tc h' → SWay w a T es ep t f tc ord → t.fits es.size = true → ElemsOf (intKind prog w) es.toList → (es.toList.map kvI).Perm σ → Q (.ref it) { s with heap := h', drawn := d }) :
    wpAny (model prog w) A (pyIter (.ref a)) Q E s := by
  obtain ⟨o, es, ep, t, ho, hex, hd, hel, hp, hb, hf, R, hl⟩ := S
  have tS : s.TypeIs (.ref a) "set" := ⟨o, ho, hex.1⟩
  have alt : a < s.heap.objs.size := Heap.lt_size ho
  refine wpAny_pyIter_slot tS PySem.F.slot_set_iter (wpAny_call_entry PySem.F.slot_set_iter tS SF.entry_iter ?_ (PySem.F.args_set_iter_1 _))
  show wpAny _ _ (Builtin.Frozenset.sizeOf a >>= _) _ _ s
  unfold Builtin.Frozenset.sizeOf
  refine wpAny_bind (wpAny_bind (wp_entries ho hd hf (wpAny_pure ?_)))
  unfold setDrawn
  refine wpAny_bind (wpAny_bind (wpAny_setState_of ho hd hf ?_))
  dsimp only
  refine wpAny_bind (wp_byText (wpAny_pure ?_))
  have last : ∀ (s1 : Shared) (first : Value) (Q' : Fin → Shared → Prop), s1.heap.get? a = some o → Q' (.done (.ret (.ref s1.heap.objs.size))) { s1 with heap := s1.heap.push (siO first 0 a es.size ep) } →
      wpAny (model prog w) A.in1 (setEpoch a >>= fun e => newFields "set_iterator" [first, rawInt 0, .ref a, rawInt es.size, rawInt e] >>= fun v => ret v) Q' (fun e s' => E e s') s1 := fun s1 first Q' g q => by
    refine wpAny_bind (wpAny_setEpoch_of g hd hf ?_)
    unfold newFields
    exact wpAny_bind (wpAny_newObj_type (wpAny_pure q) (by size_fits))
  by_cases hbt : byT w = true
  · rw [hbt]
    simp only [Bool.not_true, Bool.false_and, Bool.false_eq_true, if_false]
    refine wpAny_bind (wpAny_pure ?_)
    refine last s (rawInt 0) _ ho ⟨_, rfl, "set_iterator", _, ⟨_, Heap.get?_push_size _ rfl, rfl⟩, SF.slot_next.lookup, ?_⟩
    exact h _ s.drawn _ a es ep t (fun _ => rawInt 0) (fun _ => True) _ (Nat.le_refl _) (.inl rfl) (Nat.ne_of_gt alt) (fun b o e => Heap.get?_push_of_some _ e) (Heap.get?_push_size _ rfl) ⟨o, Heap.get?_push_of_some _ ho, hd⟩ trivial (.text hbt) hf hel hp
  · have hbf : byT w = false := by simpa using hbt
    have hld : t.led = true := by rw [hl]; show (!byT w) = true; rw [hbf]; rfl
    rw [hbf]
    simp only [Bool.not_false, Bool.true_and]
    refine wpAny_ite_split (fun hdr => ?_) (fun hdr => wpAny_bind (wpAny_pure ?_))
    · refine wpAny_bind (wp_draw _ _ _ _ (by rw [List.length_range]; exact Nat.le_refl _) fun ps d hps => ?_)
      have hpl : ps.length = es.size := by rw [hps.length_eq, List.length_range]
      refine wpAny_bind (wpAny_newTuple ?_ (by rw [List.length_map, hpl]; exact fits_of_scanBound hb))
      refine last _ (.ref s.heap.objs.size) _ (Heap.get?_push_of_some _ ho) ⟨_, rfl, "set_iterator", _, ⟨_, Heap.get?_push_size _ rfl, rfl⟩, SF.slot_next.lookup, ?_⟩
      refine h _ d _ s.heap.objs.size es ep t (fun _ => .ref s.heap.objs.size) _ _ ?_ (.inr (Nat.le_refl _)) ?_ (fun b o e => Heap.get?_push_of_some _ (Heap.get?_push_of_some _ e)) (Heap.get?_push_size _ rfl) ⟨o, Heap.get?_push_of_some _ (Heap.get?_push_of_some _ ho), hd⟩ ?_ (.drawn ps hps) hf hel hp
      · rw [Heap.size_push]
        exact Nat.le_succ _
      · rw [Heap.size_push]
        exact Nat.succ_ne_self _
      · exact ⟨_, Heap.get?_push_of_some _ (Heap.get?_push_size _ rfl), rfl, 0, rfl⟩
    · refine last s (rawInt 0) _ ho ⟨_, rfl, "set_iterator", _, ⟨_, Heap.get?_push_size _ rfl, rfl⟩, SF.slot_next.lookup, ?_⟩
      exact h _ s.drawn _ a es ep t (fun i => rawInt (slotAt t.place i)) (fun _ => True) _ (Nat.le_refl _) (.inl rfl) (Nat.ne_of_gt alt) (fun b o e => Heap.get?_push_of_some _ e) (Heap.get?_push_size _ rfl) ⟨o, Heap.get?_push_of_some _ ho, hd⟩ trivial (.plain hbf hdr hld R.pl) hf hel hp
end
end L2
namespace L2
open PySem PySem.Spec PyProof.Rows
namespace SF
theorem set_len_look : typeLookup (.type "set") "__len__" = pure (some (.builtin "set.__len__")) := PySem.F.slot_set_len.lookup
theorem split_set_len : splitId "set.__len__" = some ("set", "__len__") := by decide +kernel
theorem sub_set_set : isSubtype (.type "set") (.type "set") = pure true := by rw [isSubtype_type]; kernel_rfl
end SF
section
variable {prog : Program} {w : World} {A : Around} {E : Value → Shared → Prop} {s : Shared} {a : Addr} {σ : List Int}
theorem hint_set {Q : Bool → Shared → Prop} (tS : s.TypeIs (.ref a) "set") (h : Q false s) : wpAny (model prog w) A (Builtin.List.listLengthHint (.ref a)) Q E s := by
  unfold Builtin.List.listLengthHint
  refine wpAny_bind (wpAny_specialOf tS SF.set_len_look ?_)
  simp only [SF.split_set_len]
  refine wpAny_bind (wpAny_isInstance tS SF.sub_set_set ?_)
  simp only [Bool.not_true, Bool.false_eq_true, if_false]
  rw [if_pos (by decide +kernel)]
  exact wpAny_bind (wpAny_typeOf tS (wpAny_pure h))
theorem ints_of {es : List (Int × Value)} : ∀ {ord : List (Int × Value)}, ElemsOf (intKind prog w) es → (∀ e ∈ ord, e ∈ es) → IntsAre (ord.map (·.2)) (ord.map kvI)
  | [], _, _ => .nil
  | e :: ord, h, hs => by
    obtain ⟨⟨k, hk, _⟩, _⟩ := h e (hs e List.mem_cons_self)
    obtain ⟨t, ht⟩ := intIs hk
    have : kvI e = k := by unfold kvI; rw [ht]
    rw [List.map_cons, List.map_cons, ht, this]
    exact .cons k t (ints_of h fun x hx => hs x (List.mem_cons_of_mem _ hx))
theorem collect_set {Q : List Value → Shared → Prop} (hh : A.handled = none) (S : SR prog w s.heap a σ (ledOf w))
    (hQ : ∀ (h' : Heap) (d : Drawn) (tk : Nat) (vs : List Value) (ns : List Int), (∀ b o, s.heap.get? b = some o → h'.get? b = some o) → s.heap.objs.size ≤ h'.objs.size → IntsAre vs ns → ns.Perm σ → Q vs { s with heap := h', drawn := d, toks := tk }) :
    wpAny (model prog w) A (collect (.ref a)) Q E s := by
  have S0 := S
  obtain ⟨o0, _, _, _, ho0, hex0, _⟩ := S0
  have alt : a < s.heap.objs.size := Heap.lt_size ho0
  unfold collect
  refine wpAny_bind (wpAny_runValue (codeAny_builtin PySem.F.entry_proto_collect ?_))
  rw [Around.under_plainId PySem.F.plain_proto_collect _]
  show wpAny _ A.in1 (newList [] >>= fun l => again (.builtin "list.__iadd__" ⟨[l, .ref a], []⟩)) _ _ s
  refine wpAny_bind (wpAny_newObj_type ?_)
  refine wpAny_pure ⟨plainId_quiet PySem.F.plain_list_iadd _, codeAny_builtin PySem.F.entry_list_iadd ?_⟩
  rw [Around.under_plainId PySem.F.plain_list_iadd _]
  have keep1 : ∀ b o, s.heap.get? b = some o → (s.heap.push { cls := .type "list", data := .seq ([] : List Value).toArray }).get? b = some o := fun b o e => Heap.get?_push_of_some _ e
  have S1 : SR prog w (s.heap.push { cls := .type "list", data := .seq ([] : List Value).toArray }) a σ (ledOf w) := S.keep fun o e => keep1 _ _ e
  have tS : Shared.TypeIs { s with heap := s.heap.push { cls := .type "list", data := .seq ([] : List Value).toArray } } (.ref a) "set" := ⟨o0, keep1 _ _ ho0, hex0.1⟩
  show wpAny _ A.in1 (Builtin.List.listExtendWith (.ref s.heap.objs.size) (.ref a) (.ref s.heap.objs.size)) _ _ _
  unfold Builtin.List.listExtendWith
  refine wpAny_bind (wpAny_typeOf tS ?_)
  have h1 : Builtin.List.listSameRef (.ref s.heap.objs.size) (.ref a) = false := by simp [Builtin.List.listSameRef, Nat.ne_of_gt alt]
  have h2 : (Value.type "set" == Value.type "list") = false := by decide
  have h3 : (Value.type "set" == Value.type "tuple") = false := by decide
  simp only [h1, h2, h3, Bool.or_false, Bool.false_eq_true, if_false]
  have hS₁ : (s.heap.push { cls := .type "list", data := .seq ([] : List Value).toArray }).get? s.heap.objs.size = some { cls := .type "list", data := .seq ([] : List Value).toArray } := Heap.get?_push_size _ rfl
  have sz1 : (s.heap.push { cls := .type "list", data := .seq ([] : List Value).toArray }).objs.size = s.heap.objs.size + 1 := Heap.size_push ..
  generalize s.heap.push { cls := .type "list", data := .seq ([] : List Value).toArray } = hp at *
  refine wpAny_bind (iter_set S1 fun h' d it T es ep t f tc ord hit hT hiT keep gi ga gt W hf hel hp' => ?_)
  have hit' : s.heap.objs.size < it := by have : hp.objs.size ≤ it := hit; omega
  have hT' : s.heap.objs.size ≠ T := by
    rcases hT with e | e
    · subst e
      exact Nat.ne_of_gt alt
    · have : hp.objs.size ≤ T := e
      omega
  have hSf : s.heap.objs.size ∉ [it, a, T] := by
    simp only [List.mem_cons, List.mem_singleton, List.not_mem_nil, or_false, not_or]
    exact ⟨Nat.ne_of_lt hit', Nat.ne_of_gt alt, hT'⟩
  have hlen : ord.length = es.size := by rw [W.perm.length_eq, Array.length_toList]
  have hsz : es.size < scanBound := by
    have := S.len
    rw [← hp'.length_eq, List.length_map, Array.length_toList] at this
    exact this
  refine wpAny_bind (wpAny_holding (hint_set ⟨o0, keep _ _ (keep1 _ _ ho0), hex0.1⟩ ?_))
  rw [if_pos (by decide +kernel)]
  refine wpAny_bind (wpAny_rule ?_)
  have hS₂' := keep _ _ hS₁
  refine wpAny_bind ?_
  show wpAny _ A.in1 (updateSeq s.heap.objs.size (·.push .none) >>= fun _ => updateSeq s.heap.objs.size (·.pop)) _ _ _
  refine wpAny_bind (wpAny_updateSeq hS₂' rfl ?_)
  have hS₂ := Heap.get?_update_self (Obj.mapSeq (·.push Value.none)) hS₂' rfl
  refine wpAny_updateSeq hS₂ rfl ?_
  have hS₃ := Heap.get?_update_self (Obj.mapSeq (·.pop)) hS₂ rfl
  have oth : ∀ b o, b ≠ s.heap.objs.size → h'.get? b = some o → ((h'.update s.heap.objs.size (Obj.mapSeq (·.push Value.none))).update s.heap.objs.size (Obj.mapSeq (·.pop))).get? b = some o :=
    fun b o hb e => (Heap.get?_update_other _ _ (Ne.symm hb)).trans ((Heap.get?_update_other _ _ (Ne.symm hb)).trans e)
  have W' := si_walk (prog := prog) (A := A.in1) (by simp [hh]) (Nat.ne_of_gt (Nat.lt_trans alt hit')) hiT hf W
  obtain ⟨oa, ga1, ga2⟩ := ga
  have W0 := W'.frame 0 ({ s with heap := h', drawn := d } : Shared) _ s.toks ⟨gi, ⟨oa, ga1, ga2⟩, gt⟩ (Nat.le_refl _) fun b hb o e => oth b o (fun h => hSf (h ▸ hb)) e
  refine wpAny_pure ⟨plainId_quiet PySem.F.plain_extend_loop _, codeAny_extend_loopS W' (by rw [hlen]; exact fits_of_scanBound hsz) _ hSf _ ord.length 0 _ _ _ rfl (Nat.zero_le _) W0 hS₃ (ItemsOf.nil _) fun s' acc' c' hm hS' hacc => ?_⟩
  show wpAny _ A (load s.heap.objs.size >>= _) _ _ s'
  refine wpAny_bind (wpAny_load hS' (wpAny_pure ?_))
  obtain ⟨hh', g', d', tk', os'⟩ := s'
  have eg : g' = s.gens := hm.gens
  have ed : d' = d := hm.drawn
  have eo : os' = s.os := hm.os
  subst eg; subst ed; subst eo
  have items : acc'.toList = ord.map (·.2) := by
    apply List.ext_getElem?
    intro i
    rw [Array.getElem?_toList, List.getElem?_map]
    cases e : acc'[i]? with
    | none =>
      have : acc'.size ≤ i := by simpa using e
      rw [hacc.1] at this
      rw [List.getElem?_eq_none this]
      rfl
    | some v =>
      obtain ⟨x, hx, rfl⟩ := hacc.2 i v e
      rw [hx]
      rfl
  have old : ∀ b o, s.heap.get? b = some o → hh'.get? b = some o := fun b o e => by
    have lt := Heap.lt_size e
    refine hm.heap b o ?_ (oth b o (Nat.ne_of_lt lt) (keep _ _ (keep1 _ _ e)))
    simp only [List.mem_cons, List.mem_singleton, List.not_mem_nil, or_false, not_or]
    exact ⟨Nat.ne_of_lt lt, Nat.ne_of_lt (Nat.lt_trans lt hit')⟩
  show Q acc'.toList _
  rw [items]
  exact hQ hh' _ tk' _ _ old (Nat.le_of_lt (Heap.lt_size hS')) (ints_of hel fun e he => W.perm.mem_iff.mp he) ((W.perm.map _).trans hp')
end
end L2
namespace L2
open PySem PySem.Spec PyProof.Rows

def IS (P : Program) (w : World) (a : Addr) (σ : List Int) : HO := .ext fun h => SR P w h a σ (ledOf w)
theorem sortedHeap_at {h : Heap} {a : Addr} {vs : List Value} {n : Nat} (out : Array Value) (ho : h.get? a = some (seqObj "list" vs.toArray n)) : ∃ e, (sortedHeap h a vs out).get? a = some (seqObj "list" out e) := by
  have ha : a < h.objs.size := Heap.lt_size ho
  obtain ⟨e1, ho1⟩ : ∃ e1, (h.update a (Obj.mapSeq fun _ => #[])).get? a = some (seqObj "list" #[] e1) := ⟨_, get?_update_seq ho (fun _ => #[])⟩
  have ho6 : (((h.update a (Obj.mapSeq fun _ => #[])).push (seqObj "tuple" vs.toArray 0)).push (seqObj "list" #[] 0)).get? a = some (seqObj "list" #[] e1) := Heap.get?_push_of_some _ (Heap.get?_push_of_some _ ho1)
  exact ⟨_, get?_update_seq ho6 _⟩
theorem sortedHeap_old {h : Heap} {a b : Addr} {vs : List Value} {out : Array Value} {o : Obj} (hb : b ≠ a) (e : h.get? b = some o) : (sortedHeap h a vs out).get? b = some o := by
  unfold sortedHeap
  exact (Heap.get?_update_other _ _ (Ne.symm hb)).trans (Heap.get?_push_of_some _ (Heap.get?_push_of_some _ ((Heap.get?_update_other _ _ (Ne.symm hb)).trans e)))
section
variable {prog : Program} {w : World} {A : Around} {E : Value → Shared → Prop} {s : Shared} {a : Addr} {σ : List Int}
theorem sorted_set {Q : Value → Shared → Prop} (hh : A.handled = none) (S : SR prog w s.heap a σ (ledOf w)) (h64 : σ.length < 64)
    (h : ∀ (h' : Heap) (d : Drawn) (tk : Nat) (l : Addr) (out : Array Value) (e : Nat) (ns : List Int), (∀ b o, s.heap.get? b = some o → h'.get? b = some o) → s.heap.objs.size ≤ l → h'.get? l = some (seqObj "list" out e) → IntsAre out.toList ns → ns.Perm σ → ns.Pairwise (· ≤ ·) →
      Q (.ref l) { s with heap := h', drawn := d, toks := tk }) :
    wpAny (model prog w) A (call (.builtin "sorted") [.ref a]) Q E s := by
  refine Calls.call_function_entry kind_sorted plain_sorted entry_sorted (args_sorted1 _) ?_
  unfold Builtin.«sorted»
  refine wpAny_bind (m := checkCount "sorted" 1 1 _) (wpAny_pure ?_)
  refine wpAny_bind (collect_set (by simp [hh]) S fun h1 d tk vs ns keep hsz hI hp => ?_)
  refine wpAny_bind (wpAny_newList ?_ (by
    have := hI.length
    have := hp.length_eq
    refine Nat.le_of_lt (small1000 ?_)
    omega))
  have hoL : (h1.push (seqObj "list" vs.toArray 0)).get? h1.objs.size = some (seqObj "list" vs.toArray 0) := Heap.get?_push_size _ rfl
  show wpAny _ _ _ _ _ { s with heap := h1.push (seqObj "list" vs.toArray 0), drawn := d, toks := tk }
  have hl : vs.length < 64 := by
    have := hI.length
    have := hp.length_eq
    omega
  refine wpAny_bind (wpAny_holding (wpAny_call_entry slot_list_sort ⟨_, hoL, rfl⟩ entry_list_sort (list_sort_tree hoL hI hl fun out ns' a1 a2 a3 => ⟨_, rfl, ?_⟩) (args_list_sort _)))
  obtain ⟨e, he⟩ := sortedHeap_at out hoL
  refine wpAny_pure ⟨_, rfl, h _ d tk _ out e ns' (fun b o z => ?_) hsz he a1 (a2.trans hp) a3⟩
  exact sortedHeap_old (Nat.ne_of_lt (Nat.lt_of_lt_of_le (Heap.lt_size z) hsz)) (Heap.get?_push_of_some _ (keep b o z))
end
theorem dedup_mem (x k : Int) (σ : List Int) : k ∈ step_dedup σ x ↔ k ∈ σ ∨ k = x := by
  unfold step_dedup
  split
  · rename_i h
    constructor
    · exact .inl
    · rintro (r | rfl)
      · exact r
      · simpa using h
  · simp
theorem dedup_nodup (x : Int) {σ : List Int} (h : σ.Nodup) : (step_dedup σ x).Nodup := by
  unfold step_dedup
  split
  · exact h
  · rename_i hx
    rw [List.nodup_append]
    refine ⟨h, by simp, ?_⟩
    intro a ha b hb e
    subst e
    have : a = x := by simpa using hb
    subst this
    exact hx (by simpa using ha)
theorem met_nodup (val : Nat → Int) : ∀ i, (firstMet val i).Nodup
  | 0 => by rw [firstMet_zero]; exact .nil
  | i + 1 => by rw [firstMet_succ]; exact dedup_nodup _ (met_nodup val i)
theorem met_mem (val : Nat → Int) (k : Int) : ∀ i, k ∈ firstMet val i ↔ ∃ j, j < i ∧ val j = k
  | 0 => by rw [firstMet_zero]; simp
  | i + 1 => by
    rw [firstMet_succ, dedup_mem, met_mem val k i]
    constructor
    · rintro (⟨j, h1, h2⟩ | rfl)
      · exact ⟨j, Nat.lt_succ_of_lt h1, h2⟩
      · exact ⟨i, Nat.lt_succ_self i, rfl⟩
    · rintro ⟨j, h1, h2⟩
      rcases Nat.lt_succ_iff_lt_or_eq.mp h1 with r | r
      · exact .inl ⟨j, r, h2⟩
      · subst r
        exact .inr h2.symm
theorem met_list (ns : List Int) (k : Int) : k ∈ firstMet (fun i => ns.getD i 0) ns.length ↔ k ∈ ns := by
  rw [met_mem, List.mem_iff_getElem]
  constructor
  · rintro ⟨j, h1, h2⟩
    exact ⟨j, h1, by rw [← h2]; simp [List.getD, h1]⟩
  · rintro ⟨j, h1, h2⟩
    exact ⟨j, h1, by rw [← h2]; simp [List.getD, h1]⟩
section
variable {X : Cx}

theorem call_setR (hc : X.calm = true) {P : Program} {w : World} (hP : X.prog = P) (hw : X.w = w) : CallR X (.type "set") (fun xs H Q => ∃ (p : Addr) (ns : List Int), xs = [.ref p] ∧ (SqL X.K H p (ns.map V.int) ∨ SqT X.K H p (ns.map V.int)) ∧ ns.length ≤ 1000 ∧
    ∀ a (σ : List Int), H a = none → σ.Nodup → (∀ k, k ∈ σ ↔ k ∈ ns) → σ.length ≤ ns.length → Q (.ref a) (upd H a (IS P w a σ))) := by
  intro pins s σ H xs us Q I r h
  obtain ⟨p, ns, rfl, hq, hn, q⟩ := h
  obtain ⟨u, rfl, rx⟩ := vals1 r
  cases rx
  subst hP hw
  have go : ∀ (t : Bool) (its : List Value), Vals (ns.map V.int) its → cX t p its.toArray s.heap → wpAny (model X.prog X.w) X.A (call (.type "set") [.ref p]) (fun v s' => ∃ x H', Inv X pins σ H' s' ∧ RelV x v ∧ Q x H') X.xe s := fun t its r' pl => by
    have hlen := r'.length
    rw [List.length_map] at hlen
    refine set_seqI t (ns := ns) (I.ok.hd hc) pl (fun i v hv => ?_) (by unfold scanBound; rw [List.size_toArray]; omega) fun h' tk hS hk => ?_
    · have hv' : its[i]? = some v := by simpa using hv
      have hi : i < its.length := (List.getElem?_eq_some_iff.mp hv').1
      have en : (ns.map V.int)[i]? = some (V.int (ns.getD i 0)) := by
        rw [List.getElem?_map]
        simp [List.getD, show i < ns.length by omega]
      obtain ⟨u, eu, ru⟩ := r'.get en
      rw [hv'] at eu
      cases eu
      exact ru
    · rw [show its.toArray.size = ns.length by rw [List.size_toArray, hlen]] at hS
      refine ⟨.ref s.heap.objs.size, _, I.laid (t' := tk) (o := IS X.prog X.w s.heap.objs.size (firstMet (fun i => ns.getD i 0) ns.length)) (fun b o e => hk b o (Heap.lt_size e) e) (Nat.le_refl _) ?_, rfl, q _ _ (I.hok.fresh (Nat.le_refl _)) (met_nodup _ _) (met_list ns) (firstMet_length_le _ _)⟩
      refine ⟨hS, ?_, fun h1 h2 z k => z.keep k⟩
      obtain ⟨o, _, _, _, g, _⟩ := hS
      exact ⟨o, g⟩
  rcases hq with hq | hq
  · obtain ⟨its, r', pl, _⟩ := I.list hq
    exact go false its r' pl.isList
  · obtain ⟨its, r', pl, _⟩ := I.tuple hq
    exact go true its r' pl
theorem call_sortedS (hc : X.calm = true) {P : Program} {w : World} (hP : X.prog = P) (hw : X.w = w) : CallR X (.builtin "sorted") (fun xs H Q => ∃ (a : Addr) (σ : List Int), xs = [.ref a] ∧ H a = some (IS P w a σ) ∧ σ.length < 64 ∧ ∀ (l : Addr) (ns : List Int), H l = none → ns.Perm σ → ns.Pairwise (· ≤ ·) → Q (.ref l) (upd H l (.lst (ns.map V.int)))) := by
  intro pins s σ H xs us Q I r h
  obtain ⟨a, τ, rfl, ha, h64, q⟩ := h
  obtain ⟨u, rfl, ru⟩ := vals1 r
  cases ru
  subst hP hw
  have S : SR X.prog X.w s.heap a τ (ledOf X.w) := (show ObjOk X.prog X.w H s.heap a (IS X.prog X.w a τ) from I.hok _ _ ha).1
  refine sorted_set (I.ok.hd hc) S h64 fun h' d tk l out e ns keep hsz he a1 a2 a3 => ?_
  have hl' := a2.length_eq
  have Id : Inv X pins σ H { s with drawn := d } := ⟨I.ok, I.os, I.bare, I.base, I.loc, I.cell, I.free, I.freeC, I.pin, I.hok, I.len⟩
  refine ⟨.ref l, _, Id.laid (t' := tk) keep hsz (show ObjOk X.prog X.w _ h' _ (.lst (ns.map V.int)) from ⟨?_, out.toList, e, vals_of_ints a1, ?_⟩), rfl, q _ ns (I.hok.fresh hsz) a2 a3⟩
  · rw [List.length_map, hl']
    exact Nat.le_of_lt (small1000 (by omega))
  · rw [Array.toArray_toList]
    exact he
end
end L2
namespace L2
open PySem PySem.Spec PyProof.Rows

section
variable {X : Cx}
def tCutT (t : TT) : TT := fun σ H Q => ∃ M : Bool → Hp → Prop, t σ H M ∧ ∀ b H', M b H' → Q b H'
theorem pt_cut {e : Expr} {t : TT} (h : PT X e t) : PT X e (tCutT t) := by
  intro pins s σ H Q I ⟨M, h1, h2⟩
  exact thn (h pins s σ H M I h1) fun b s' ⟨H', I', m⟩ => ⟨H', I', h2 b H' m⟩

def rCatA (K : PySem.W.Frag) : R2 := fun x y H Q => ∃ a b xs ys, x = .ref a ∧ y = .ref b ∧ H a = some (.tup xs) ∧ H b = some (.tup ys) ∧ xs.length + ys.length ≤ sizeLine ∧ ∀ p H', Same H H' → H' p = some (.tup (xs ++ ys)) → Q (.ref p) H'
theorem op_catA : OpR X (binaryOp .Add) (rCatA X.K) := by
  intro pins s σ H x y v u Q I rx ry h
  obtain ⟨a, b, xs, ys, rfl, rfl, ha, hb, hz, q⟩ := h
  by_cases hx : xs = []
  · subst hx
    exact op_cat0 pins s σ H _ _ v u Q I rx ry ⟨a, b, ys, rfl, rfl, SqT.of ha, SqT.of hb, q b H (Same.refl H) hb⟩
  · exact op_cat1 pins s σ H _ _ v u Q I rx ry ⟨a, b, xs, ys, rfl, rfl, ha, SqT.of hb, hx, hz, q⟩
end
end L2
namespace L2
open PySem PySem.Spec PyProof.Rows


def Tx (n : Nat) (z : Str) : Prop := z.length ≤ n ∧ ∀ c ∈ z.cps.toList, c < 128
theorem Tx.mono {n m : Nat} {z : Str} (h : Tx n z) (k : n ≤ m) : Tx m z := ⟨Nat.le_trans h.1 k, h.2⟩
theorem Tx.ok {n : Nat} {z : Str} (h : Tx n z) : PyData.canLay0 (.str z) = true := by
  show PyData.strOk z = true
  unfold PyData.strOk
  rw [Array.all_eq_true_iff_forall_mem]
  intro c hc
  have q := h.2 c (by simpa using hc)
  exact decide_eq_true (by omega)
theorem Tx.app {n m : Nat} {y z : Str} (h : Tx n y) (k : Tx m z) : Tx (n + m) (y ++ z) := by
  refine ⟨by rw [Str.length_append]; exact Nat.add_le_add h.1 k.1, fun c hc => ?_⟩
  have e : (y ++ z).cps = y.cps ++ z.cps := rfl
  rw [e, Array.toList_append] at hc
  rcases List.mem_append.mp hc with q | q
  · exact h.2 c q
  · exact k.2 c q
theorem Tx.one {c : Nat} (h : c < 128) : Tx 1 (⟨#[c]⟩ : Str) := ⟨Nat.le_refl _, fun d hd => by
  have : d = c := by simpa using hd
  omega⟩
theorem Tx.sign {n : Nat} {z : Str} (h : Tx n z) {i : Int} {c : Nat} (e : atI z.cps.toList i = some c) : Tx 1 (⟨#[c]⟩ : Str) := by
  obtain ⟨j, _, g, _⟩ := atI_get e
  exact Tx.one (h.2 c (List.mem_of_getElem? g))
theorem Tx.slice {n : Nat} {z : Str} (h : Tx n z) (lo hi : Option Int) : Tx n (Txt.slice z lo hi) := by
  refine ⟨Nat.le_trans (Txt.slice_le z lo hi) h.1, fun c hc => ?_⟩
  unfold Txt.slice at hc
  split at hc
  · exact h.2 c hc
  · have hc' : c ∈ ((Builtin.Str.strSliceIndices lo hi 1 z.length).filterMap (z.cps[·]?)) := by simpa using hc
    obtain ⟨j, _, e⟩ := List.mem_filterMap.mp hc'
    exact h.2 c (by
      have := Array.mem_of_getElem? e
      simpa using this)
theorem Tx.num {m : Int} (h0 : 0 ≤ m) (h1 : m < 10 ^ 10) : Tx 10 (Str.ofString (toString m)) := by
  refine ⟨PySem.W.KT.len_num h0 h1, fun c hc => ?_⟩
  obtain ⟨k, rfl⟩ := Int.eq_ofNat_of_zero_le h0
  rw [PySem.W.KIN.signs_num] at hc
  obtain ⟨ch, hch, e⟩ := List.mem_map.mp hc
  have r := Nat.isDigit_of_mem_toDigits (by decide) (by decide) hch
  have r2 : ch.toNat ≤ 57 := by
    unfold Char.isDigit at r
    simp only [Bool.and_eq_true, decide_eq_true_eq] at r
    have := r.2
    exact this
  omega
section
variable {X : Cx}

def rSlS : V → Option Int → Option Int → Hp → VK → Prop := fun x lo hi H Q => ∃ z, x = .str z ∧ z.length ≤ sizeLine ∧ Q (.str (Txt.slice z lo hi)) H
theorem part_tok {v : Value} {o : Option Int} (p : IsPart v o) : ∃ l : Option (Int × Tok), v = partValue l ∧ l.map (·.1) = o := by
  cases p with
  | none => exact ⟨none, rfl, rfl⟩
  | int i t => exact ⟨some (i, t), rfl, rfl⟩
theorem sl_str : SlR X rSlS := by
  intro pins s σ H x v vl vu lo hi sl Q I rx hs pl pu h
  obtain ⟨z, rfl, hz, q⟩ := h
  obtain ⟨t, rfl⟩ := rx
  obtain ⟨l, rfl, rfl⟩ := part_tok pl
  obtain ⟨u, rfl, rfl⟩ := part_tok pu
  refine ⟨"str", _, F.slot_str_getitem.lookup, typeIs_str _ _ _, wpAny_getItem_str_slice (l := l) (u := u) (st := none) hs rfl ?_⟩
  refine post_val_or_str ⟨Nat.le_trans (Txt.slice_le z _ _) hz, fun t' k => ?_⟩
  exact ⟨.str _, H, I.tok k, ⟨_, rfl⟩, q⟩

def rCatL (K : PySem.W.Frag) : R2 := fun x y H Q => ∃ l b xs zs, x = .ref l ∧ y = .ref b ∧ SqL K H l xs ∧ SqL K H b zs ∧ xs.length + zs.length ≤ sizeLine ∧ ∀ p, H p = none → Q (.ref p) (upd H p (.lst (xs ++ zs)))
theorem op_catL : OpR X (binaryOp .Add) (rCatL X.K) := by
  intro pins s σ H x y v u Q I rx ry h
  obtain ⟨l, b, xs, zs, rfl, rfl, ha, hb, hz, q⟩ := h
  cases rx
  cases ry
  obtain ⟨us, ru, pu, _⟩ := I.list ha
  obtain ⟨ws, rw', pw, _⟩ := I.list hb
  have l1 := ru.length
  have l2 := rw'.length
  obtain ⟨⟨cls, dd, data, sl⟩, n, ho, hc, hdd, hd⟩ := id pu
  obtain ⟨⟨cls2, dd2, data2, sl2⟩, n2, ho2, hc2, hdd2, hd2⟩ := id pw
  simp only at hc hd hc2 hd2
  subst hc hd hc2 hd2
  have st := list_addW l b us.toArray ws.toArray n n2 dd dd2 sl sl2 (by rw [List.size_toArray, List.size_toArray]; omega)
  refine concat_meets ⟨_, ho, rfl⟩ ⟨_, ho2, rfl⟩ noFill_list_add seq_list_add PySem.F.slot_list_add PySem.F.entry_list_add (PySem.F.args_list_add_2 _ _) st ⟨ho, ho2, ?_⟩
  have ea : us.toArray ++ ws.toArray = (us ++ ws).toArray := by simp
  rw [ea]
  exact ⟨.ref _, _, I.lnew (t' := s.toks) (ru.append rw') (by rw [List.length_append]; omega), rfl, q _ I.fresh⟩
end

end L2
namespace L2
open PySem PySem.Spec PyProof.Rows

section
variable {X : Cx}
structure MkN (K : PySem.W.Frag) (C : Addr) : Prop where
  makes : PySem.W.makesIn K C = true
  init : PySem.W.findIn K (.ref C) "__init__" = some (some (.builtin "object.__init__"))
  kp : PySem.W.keepIn K (.ref C) = true

def tMethD (P : Program) (w : World) (K : PySem.W.Frag) (mg : Str → Option Value) (base : Heap) (CX : CXT) (k : Nat) (m : Str) (E : XK) (ta : TE) (t : TA) : TE := fun σ H Q => ta σ H fun x H1 => ∃ a C dx fs f fd ps sp, x = .ref a ∧ H1 a = some (.ins C dx fs) ∧ fs.lookup m = none ∧
  Cls K C ∧ Meth K C m f ∧ FnOk P w K mg base CX k f fd ps sp ∧ Binds K fd ps [] ∧ t σ H1 fun vs H2 => sp (x :: vs) H2 Q E
theorem pe_methD {CX : CXT} {k : Nat} {m : Str} {E : XK} {pos apos : Pos} {o e : Expr} {es : List Expr} {ta : TE} {t : TA} {pl : Sem Bool} (he : PE X o ta) (hr : Room k X.A) (hx : Passes CX X E) (ha : PA X (e :: es) t)
    (hst : starEach (e :: es) X.env = (false, eval e X.env) :: starEach es X.env := by rfl) (hpl : (backTo pos (starEach es X.env)).any (·.1) = false := by rfl)
    (ht : eval (.Call (.Attribute o m apos) (e :: es) [] pos) X.env = (do
      let ov ← eval o X.env
      standAt apos.atName
      let (f, first) ← holding [ov] (getMethod ov m pl)
      callWith pos f first (backTo pos (starEach (e :: es) X.env)) (backToKw pos (keywordEach [] X.env))) := by rfl) :
    PE X (.Call (.Attribute o m apos) (e :: es) [] pos) (tMethD X.prog X.w X.K X.mg X.base CX k m E ta t) := by
  intro pins s σ H Q I h
  refine PySem.W.methodCall_KW (pl := pl) (thn (he pins s σ H _ I h) fun u s1 ⟨x, H1, I1, rx, a, C, dx, fs, f, fd, ps, sp, ex, ea, l, c, hm, F, hb, q⟩ => ?_) ht
  subst ex
  obtain rfl : u = Value.ref a := rx
  refine getmeth_ok I1 ea c hm l ?_
  refine PySem.W.callWith_K (first := [.ref a]) (h₀ := X.base) I.ok.mod.kin hm.kp (thn (ha pos pins s1 σ H1 _ I1 q) fun us s2 ⟨vs, H2, I2, r, q2⟩ => ⟨I2.kIn, ?_⟩) hst hpl
  exact run_fn (us := .ref a :: us) (vs := .ref a :: vs) (dvs := []) (ds := []) F hr hb .nil hx I2 (.cons rfl r) (by rw [List.append_nil]; exact q2)

theorem pe_methD0 {CX : CXT} {k : Nat} {m : Str} {E : XK} {pos apos : Pos} {o : Expr} {ta : TE} {pl : Sem Bool} (he : PE X o ta) (hr : Room k X.A) (hx : Passes CX X E)
    (ht : eval (.Call (.Attribute o m apos) [] [] pos) X.env = (do
      let ov ← eval o X.env
      standAt apos.atName
      let (f, first) ← holding [ov] (getMethod ov m pl)
      callWith pos f first (backTo pos (starEach [] X.env)) (backToKw pos (keywordEach [] X.env))) := by rfl) :
    PE X (.Call (.Attribute o m apos) [] [] pos) (tMethD X.prog X.w X.K X.mg X.base CX k m E ta tNil) := by
  intro pins s σ H Q I h
  refine PySem.W.methodCall_KW (pl := pl) (thn (he pins s σ H _ I h) fun u s1 ⟨x, H1, I1, rx, a, C, dx, fs, f, fd, ps, sp, ex, ea, l, c, hm, F, hb, q⟩ => ?_) ht
  subst ex
  obtain rfl : u = Value.ref a := rx
  refine getmeth_ok I1 ea c hm l ?_
  exact PySem.W.callWith_K0 (first := [.ref a]) I1.kIn hm.kp (run_fn (us := [.ref a]) (vs := [.ref a]) (dvs := []) (ds := []) F hr hb .nil hx I1 (.cons rfl .nil) q)
end
end L2
namespace HT
open PySem PySem.Spec PyProof.Rows
section
variable {prog : Program} {w : World} {A : Around} {E : Value → Shared → Prop} {s : Shared}
theorem getItem_tuple_whole {t sl : Addr} {items : Array Value} {vl vu : Value} {lo hi : Option Int} {Q : Value → Shared → Prop} (ht : IsTup s.heap t items) (hs : s.heap.IsSliceOf sl vl vu .none) (pl : IsPart vl lo) (pu : IsPart vu hi)
    (h1 : sIx items.size 0 lo = 0) (h2 : sIx items.size items.size hi = items.size) (h : Q (.ref t) s) : wpAny (model prog w) A (getItem (.ref t) (.ref sl)) Q E s := by
  obtain ⟨os, hos, hcs, hds⟩ := id hs
  have hTs : s.TypeIs (.ref sl) "slice" := ⟨os, hos, hcs⟩
  unfold getItem
  try with_reducible refine wpAny_holding ?_
  first | refine wpAny_bind (wpAny_pure ?_) | skip
  refine wpAny_bind (wpAny_sequenceKey ht.typeIs (by decide) ?_)
  refine wpAny_bind (wpAny_callSpecial?_slot (name := Str.ofString "__getitem__") ht.typeIs PyProof.Rows.slot_tuple_getitem
    (wpAny_call_entry PyProof.Rows.slot_tuple_getitem ht.typeIs entry_tuple_getitem ?_ (args_tuple_getitem _ _)))
  show wpAny _ _ (Builtin.Tuple.tupleItemsOf (.ref t) >>= _) _ _ s
  refine wpAny_bind (tupleItemsOf_ ht ?_)
  refine wpAny_bind (wpAny_typeOf hTs ?_)
  rw [if_pos (by decide)]
  refine wpAny_bind (sliceApplied_gen hs pl pu ?_)
  have hyes : (((sIx items.size 0 lo : Nat) : Int) == 0 && (1 : Int) == 1 && (sIx items.size items.size hi - sIx items.size 0 lo) == items.size) = true := by
    rw [h1, h2]
    simp
  show wpAny _ _ (if (((sIx items.size 0 lo : Nat) : Int) == 0 && (1 : Int) == 1 && (sIx items.size items.size hi - sIx items.size 0 lo) == items.size) = true then _ else _) _ _ s
  rw [if_pos hyes]
  show wpAny _ _ (Builtin.Tuple.tupleIsExact (.ref t) >>= _) _ _ s
  refine wpAny_bind (wpAny_bind (wpAny_typeOf ht.typeIs (wpAny_pure ?_)))
  rw [if_pos (by decide)]
  refine wpAny_bind (wpAny_rule (wpAny_bind (wpAny_pure (wpAny_pure ⟨_, rfl, wpAny_pure h⟩))))
end
end HT
namespace L2
open PySem PySem.Spec PyProof.Rows

def rSlA : V → Option Int → Option Int → Hp → VK → Prop := fun x lo hi H Q => ∃ a xs, x = .ref a ∧ H a = some (.tup xs) ∧ ∀ p H', Same H H' → H' p = some (.tup (cutV xs lo hi)) → Q (.ref p) H'
theorem sl_tupA {X : Cx} : SlR X rSlA := by
  intro pins s σ H x v vl vu lo hi sl Q I rx hs pl pu h
  obtain ⟨a, xs, rfl, hx, q⟩ := h
  by_cases hw : HT.sIx xs.length 0 lo = 0 ∧ HT.sIx xs.length xs.length hi = xs.length
  · cases rx
    obtain ⟨its, r, ht, hz⟩ := I.tuple (SqT.of hx)
    have hlen : its.toArray.size = xs.length := by rw [List.size_toArray]; exact r.length.symm
    refine ⟨"tuple", _, PyProof.Rows.slot_tuple_getitem.lookup, ht.typeIs, ?_⟩
    refine HT.getItem_tuple_whole ht hs pl pu (by rw [hlen]; exact hw.1) (by rw [hlen]; exact hw.2) ⟨.ref a, H, I, rfl, q a H (Same.refl H) ?_⟩
    have e : cutV xs lo hi = xs := by
      unfold cutV
      rw [hw.1, hw.2, List.drop_zero, Nat.sub_zero, List.take_length]
    rw [e]
    exact hx
  · exact sl_tup pins s σ H _ v vl vu lo hi sl Q I rx hs pl pu ⟨a, xs, rfl, SqT.of hx, hw, fun p hp => q p _ ((Same.refl H).upd_free hp) upd_same⟩
end L2
namespace L2
open PySem PySem.Spec PyProof.Rows

def Itd (lo : Int) (n : Nat) : It := ⟨fun i _ => i < n, fun i H x H' => H' = H ∧ x = .int (lo - i), fun i _ => n ≤ i⟩
theorem turn_down {P : Program} {w : World} {K : PySem.W.Frag} {tg : Expr} (it : Addr) (lo : Int) (n : Nat) : Turn P w K tg (Itd lo n) [it] it (fun i h => IsRangeIter h it (lo + (i : Nat) * (-1)) ((n : Int) - (i : Nat)) (-1)) where
  mem := by simp
  obj := fun i h st b hb => by
    have e : b = it := by simpa using hb
    subst e
    exact ⟨_, st, fun v z => by
      have z' : Data.fields _ = Data.cell v := z
      cases z'⟩
  keep := fun i h h' st k => k it (by simp) _ st
  item := by
    intro X hP hw hK hc i pins s σ H E I hf st hg
    subst hP hw hK
    obtain ⟨f0, f1, f2, f3, f4, f5⟩ := hf it (by simp)
    have W := Walks.range (prog := X.prog) (w := X.w) (I.ok.hd hc) it lo (-1) n
    refine W.item i s _ _ hg st fun v h' tk hv st' kk => ?_
    obtain ⟨t, rfl⟩ := hv
    have I1 : Inv X pins σ H { s with heap := h', toks := tk } := I.turned (fun b o hb e => kk b o (by simpa using hb) e) f0 f1 f3 f4 f5
    refine ⟨_, rfl, go_of (s := { s with heap := h', toks := tk }) (n := "range_iterator") st' rfl rfl (by decide) ⟨.int (lo - i), H, I1, ⟨t, ?_⟩, ⟨rfl, rfl⟩, st', fun b hb => (hf b hb).1⟩⟩
    have e : lo + (i : Int) * (-1) = lo - (i : Int) := by omega
    rw [e]
  done := by
    intro X hP hw hK hc i pins s σ H E I hf st hg
    subst hP hw hK
    obtain ⟨f0, f1, f2, f3, f4, f5⟩ := hf it (by simp)
    exact wpAny_pyNext_range_end (I.ok.hd hc) st (by have : n ≤ i := hg; omega) fun h' eb => ⟨rfl, I.turned (t' := s.toks) (fun b o hb e => eb b o hb e) f0 f1 f3 f4 f5⟩
  self := fun _ _ _ _ _ st h => wpAny_pyIter_rangeiter st h
theorem rangeSize_down (a b : Int) : Builtin.Range.rangeSize a b (-1) = if b < a then a - b else 0 := by
  unfold Builtin.Range.rangeSize
  rw [if_neg (by decide)]
  have e : (-(-1) : Int) = 1 := by decide
  rw [e, Int.ediv_one]
  by_cases h : b < a
  · rw [if_pos h, if_pos h]
    omega
  · rw [if_neg h, if_neg h]
theorem small_down {a b : Int} (ha : -(2 ^ 61) ≤ a) (ha' : a < 2 ^ 61) (hb : -(2 ^ 61) ≤ b) (hb' : b < 2 ^ 61) : Builtin.Range.small a b (-1) = true := by
  unfold Builtin.Range.small
  rw [rangeSize_down]
  simp only [Builtin.Range.rangeFitsLong, Bool.and_eq_true, Bool.or_eq_true, decide_eq_true_eq, beq_iff_eq, show ¬ ((-1 : Int) > 0) by decide, if_false]
  split <;> omega
section
variable {X : Cx} {tg : Expr}
def iRngD (ta : TA) : TI := fun σ H R => ta σ H fun vs H1 => ∃ i j : Int, vs = [.int i, .int j, .int (-1)] ∧ (-(2 ^ 61) ≤ i ∧ i < 2 ^ 61 ∧ -(2 ^ 61) ≤ j ∧ j < 2 ^ 61) ∧ R (Itd i (i - j).toNat) H1
theorem pi_rangeD {a b c : Expr} {ta : TA} {p pos : Pos} (hg : Gl X "range") (hm : X.mg "range" = none) (ha : PA X [a, b, c] ta) (hs : starEach [a, b, c] X.env = [(false, eval a X.env), (false, eval b X.env), (false, eval c X.env)] := by rfl)
    (hs2 : starEach [b, c] X.env = [(false, eval b X.env), (false, eval c X.env)] := by rfl) :
    PI X tg (.Call (.Name "range" p) [a, b, c] [] pos) (iRngD ta) := by
  intro pins s σ H R I h
  refine Call_ (ld_blt I hg hm boot_range (PyProof.Rows.callWith_type1 (thn (ha pos pins s σ H _ I h) fun us s1 ⟨vs, H1, I1, r1, q1⟩ => ?_) (by rw [hs, hs2]) (by rw [hs2]; rfl)))
  obtain ⟨i, j, e, ⟨q1, q2, q3, q4⟩, q⟩ := q1
  subst e
  cases r1 with
  | cons r rr =>
    cases rr with
    | cons r' rr =>
      cases rr with
      | cons r'' rr =>
        cases rr
        obtain ⟨t, rfl⟩ := r
        obtain ⟨u, rfl⟩ := r'
        obtain ⟨v, rfl⟩ := r''
        refine call_range_3 (by decide) ?_ (Or.inl (PyProof.noPylong_small (by decide)))
        refine wpAny_pyIter_range (IsRange.new ..) (small_down q1 q2 q3 q4) ?_
        have I2 : Inv X pins σ H1 { s1 with heap := s1.heap.push { cls := .type "range", data := .fields #[.int i t, .int j u, .int (-1) v] }, toks := s1.toks } := I1.kept fun b o e => Heap.get?_push_of_some _ e
        refine ⟨(s1.heap.push { cls := .type "range", data := .fields #[.int i t, .int j u, .int (-1) v] }).objs.size, [(s1.heap.push { cls := .type "range", data := .fields #[.int i t, .int j u, .int (-1) v] }).objs.size], _, _, H1, rfl,
          I2.kept (t' := s1.toks) fun b o e => Heap.get?_push_of_some _ e, turn_down _ i (i - j).toNat, ?_, fun b hb => ?_, q⟩
        · have e1 : i + ((0 : Nat) : Int) * (-1) = i := by simp
          have e2 : (((i - j).toNat : Nat) : Int) - ((0 : Nat) : Int) = Builtin.Range.rangeSize i j (-1) := by rw [rangeSize_down]; split <;> omega
          show IsRangeIter _ _ (i + ((0 : Nat) : Int) * (-1)) ((((i - j).toNat : Nat) : Int) - ((0 : Nat) : Int)) (-1)
          rw [e1, e2]
          exact Heap.get?_push_size _ rfl
        · have e : b = (s1.heap.push { cls := .type "range", data := .fields #[.int i t, .int j u, .int (-1) v] }).objs.size := by simpa using hb
          subst e
          exact I2.fpOk (Nat.le_refl _) (I2.hok.fresh (Nat.le_refl _))
end
theorem for_down {lo : Int} {n : Nat} {g : TG} {tb : TS} {D : Ends} {σ : St} {H : Hp} (Pv : Nat → St → Hp → Prop) (h0 : Pv 0 σ H)
    (hs : ∀ i σ H, i < n → Pv i σ H → g (.int (lo - i)) σ H fun σ2 H2 => tb { D with nx := Pv (i + 1), ct := Pv (i + 1), bk := D.nx } σ2 H2) (hd : ∀ σ H, Pv n σ H → D.nx σ H) :
    ∃ W : Nat → Nat → St → Hp → Prop, (∃ m, W 0 m σ H) ∧ ∀ i m σ H, W i m σ H →
      ((Itd lo n).stop i H ∧ D.nx σ H) ∨ ((Itd lo n).go i H ∧ ∃ N : St → Hp → Prop, (∀ σ' H', N σ' H' → ∃ m', m' < m ∧ W (i + 1) m' σ' H') ∧ ∀ x H', (Itd lo n).yld i H x H' → g x σ H' fun σ2 H2 => tb { D with nx := N, ct := N, bk := D.nx } σ2 H2) := by
  refine ⟨fun i m σ H => m = n - i ∧ i ≤ n ∧ Pv i σ H, ⟨n, by simp, Nat.zero_le _, h0⟩, ?_⟩
  rintro i m σ H ⟨rfl, hi, p⟩
  by_cases hlt : i < n
  · refine .inr ⟨hlt, Pv (i + 1), fun σ' H' p' => ⟨n - (i + 1), by omega, rfl, hlt, p'⟩, fun x H' y => ?_⟩
    obtain ⟨e1, e2⟩ := y
    subst e1 e2
    exact hs i σ _ hlt p
  · have e : i = n := by omega
    subst e
    exact .inl ⟨Nat.le_refl _, hd σ H p⟩
end L2
namespace L2
open PySem PySem.Spec PyProof.Rows

section
variable {prog : Program} {w : World} {A : Around} {E : Value → Shared → Prop} {I : Addr} {fp wr : List Addr} {G : Array GenState → Array GenState → Prop} {n : Nat} {P : Nat → Value → Prop} {St : Nat → Shared → Prop}
end
section
variable {prog : Program} {w : World} {A : Around} {E : Value → Shared → Prop} {s : Shared}
end
section
variable {X : Cx}

end
end L2
namespace L2
open PySem PySem.Spec PyProof.Rows

end L2
namespace L2
open PySem PySem.Spec PyProof.Rows

section
variable {M : Model} {A : Around} {E : Value → Shared → Prop} {s : Shared}

structure LeftBy (fs : List Addr) (e T : Addr) (h h' : Heap) : Prop where
  keep : ∀ b o, b ≠ e → b ∉ fs → h.get? b = some o → h'.get? b = some o
  slot : ∀ b o, b ≠ e → h.get? b = some o → ∃ sl, h'.get? b = some { o with slots := sl }
  exc : ∀ oe vs, h.get? e = some oe → oe.data = .fields vs → ∃ oe', h'.get? e = some oe' ∧ oe'.cls = oe.cls ∧ oe'.dict = oe.dict ∧ oe'.data = .fields (vs.setIfInBounds 1 (.ref T))
  new : h.get? T = none
  tr : ∃ oT ts, h'.get? T = some oT ∧ oT.data = .fields ts ∧ ts[3]? = some .none
theorem note_new {base : Heap} {env : Env} {outer : List Env} {L e : Addr} {oe : Obj} {vs : Array Value} {hd : Value} {nx : Bool} {Q : Unit → Shared → Prop} (fr : A.frames = some (env :: outer)) (ff : s.heap.FunFrames base (env :: outer)) (ef : env.frame = some L)
    (ge : s.heap.get? e = some oe) (de : oe.data = .fields vs) (sz : 1 < vs.size) (q : ∀ h' T, LeftBy ((env :: outer).filterMap (·.frame)) e T s.heap h' → Q () { s with heap := h' }) :
    wpAny M A (do let a ← frameOf env; let pl ← entryPlaceOf L nx; let b ← EntryCells.newEntry hd a .none (rawInt L) .none pl; setField (.ref e) 1 b) (fun _ s' => wpAny M A (setFlight (.ref e) none) Q E s') E s := by
  have nf : e ∉ (env :: outer).filterMap (·.frame) := fun m => by
    obtain ⟨_, o, ho, hn⟩ := ff.mem m
    rw [ge] at ho
    cases ho
    exact hn vs de
  refine wpAny_bind (wpAny_frameOf_fun fr ff ef fun k1 ks => ?_)
  refine wpAny_bind (wpAny_entryPlaceOf fun pl hpl => ?_)
  unfold EntryCells.newEntry newFields
  refine wpAny_bind (wpAny_newObj_type ?_ (hpl.sizeOk5 _ _ _ _ _))
  have g1 : k1.get? e = some oe := (ks.2.1 e nf).trans ge
  generalize hob : ({ cls := .type "traceback", dict := none, data := .fields ([hd, .ref L, .none, rawInt L, .none] ++ (if pl.isEmpty then List.replicate 6 Value.none else pl)).toArray } : Obj) = ob
  have g2 := Heap.get?_push_of_some (h := k1) ob g1
  refine wpAny_setField g2 de sz ?_
  have ne : k1.objs.size ≠ e := Nat.ne_of_gt (Heap.lt_size g1)
  have d3 := Obj.data_mapFields de (·.setIfInBounds 1 (Value.ref k1.objs.size))
  have g3 := Heap.get?_update_self (Obj.mapFields (·.setIfInBounds 1 (Value.ref k1.objs.size))) g2 (Obj.isFreed_of_fields d3)
  have t3 := (Heap.get?_update_other (k1.push ob) (Obj.mapFields (·.setIfInBounds 1 (Value.ref k1.objs.size))) (Ne.symm ne)).trans (Heap.get?_push_size k1 (o := ob) (by rw [← hob]; rfl))
  unfold setFlight
  refine wpAny_bind (wpAny_field g3 d3 (x := .ref k1.objs.size) (by simp [sz]) ?_)
  rw [if_pos (show (Value.ref k1.objs.size != Value.none) = true from by simp)]
  have dT : ob.data = .fields ([hd, .ref L, .none, rawInt L, .none] ++ (if pl.isEmpty then List.replicate 6 Value.none else pl)).toArray := by rw [← hob]
  refine wpAny_setField t3 dT (by simp only [List.size_toArray, List.length_append, List.length_cons, List.length_nil] <;> omega) (q _ k1.objs.size ?_)
  have up : ∀ b o, b ≠ e → k1.get? b = some o → (((k1.push ob).update e (Obj.mapFields (·.setIfInBounds 1 (Value.ref k1.objs.size)))).update k1.objs.size (Obj.mapFields (·.setIfInBounds 3 ((none : Option Addr).elim Value.none fun f => rawInt f)))).get? b = some o := fun b o be hb => by
    rw [Heap.get?_update_other _ _ (show k1.objs.size ≠ b from Nat.ne_of_gt (Heap.lt_size hb)), Heap.get?_update_other _ _ (Ne.symm be)]
    exact Heap.get?_push_of_some _ hb
  refine ⟨fun b o be bf hb => up b o be ((ks.2.1 b bf).trans hb), fun b o be hb => ?_, fun oe2 vs2 h1 h2 => ?_, ?_, ?_⟩
  · obtain ⟨sl, hs⟩ := ks.2.2 b o hb
    exact ⟨sl, up b _ be hs⟩
  · rw [ge] at h1
    cases h1
    rw [de] at h2
    cases h2
    refine ⟨_, (Heap.get?_update_other _ _ ne).trans g3, Obj.cls_mapFields _ _, ?_, d3⟩
    obtain ⟨c, dd, dt, sl⟩ := oe
    cases de
    rfl
  · have : s.heap.objs.size = k1.objs.size := ks.1.symm
    rw [← this]
    exact Heap.get?_none_of_le (Nat.le_refl _)
  · refine ⟨_, _, Heap.get?_update_self _ t3 (Obj.isFreed_of_fields (Obj.data_mapFields dT _)), Obj.data_mapFields dT _, ?_⟩
    first | (simp; done) | (rcases hpl with rfl | ⟨_, _, _, _, _, _, _, rfl⟩ <;> simp)
end
end L2
namespace L2
open PySem PySem.Spec PyProof.Rows
section
variable {M : Model} {A : Around} {E : Value → Shared → Prop} {s : Shared}

theorem leave_first {base : Heap} {env : Env} {outer : List Env} {L e : Addr} {oe : Obj} {vs : Array Value} {Q : Unit → Shared → Prop} (fr : A.frames = some (env :: outer)) (ff : s.heap.FunFrames base (env :: outer)) (ef : env.frame = some L)
    (ge : s.heap.get? e = some oe) (de : oe.data = .fields vs) (v1 : vs[1]? = some .none) (q : ∀ h' T, LeftBy ((env :: outer).filterMap (·.frame)) e T s.heap h' → Q () { s with heap := h' }) : wpAny M A (leaving env (.ref e)) Q E s := by
  unfold leaving noteFrame
  simp only [ef]
  refine wpAny_bind (wpAny_bind (wpAny_field ge de v1 ?_))
  rw [if_neg (by decide)]
  exact note_new fr ff ef ge de (Array.getElem?_eq_some_iff.mp v1).1 q
end

theorem own_K {K : PySem.W.Frag} {h : Heap} {mg : Str → Option Value} {x : Str} {C : Addr} {bmB : List Value} {newId : String} (X : K.In h) (gm : mg x = some (.ref C)) (hq : PySem.W.excIn K C bmB newId = true) : OwnCls x C bmB newId mg h := by
  refine ⟨gm, ?_⟩
  unfold PySem.W.excIn at hq
  split at hq
  · rename_i dd cd sl ho
    split at hq
    · rename_i C' bm k0 k1 k2 k3 n k5 hm hs
      simp only [Bool.and_eq_true, beq_iff_eq, Bool.not_eq_true'] at hq
      obtain ⟨⟨⟨⟨⟨e1, e2⟩, hdel⟩, ht⟩, hok⟩, hni⟩ := hq
      subst e1 e2
      obtain ⟨nm, bs, mro, ns, qn, hd, sn, sub, ab, col, del⟩ := cd
      dsimp only at hm hdel hok hni
      subst hm hdel
      have hsl : sl = #[k0, k1, k2, k3, some (.builtin n), k5] := Array.toList_inj.mp hs
      subst hsl
      exact ⟨bm, ns, nm, qn, bs, hd, sn, sub, ab, col, dd, k0, k1, k2, k3, k5, _, X _ _ ho, .of_isNs (PySem.W.isNs_of_in X hok), PySem.W.nsMap_none_of_in X hok hni, PySem.W.tail_of_in X ht⟩
    · cases hq
  · cases hq

def Throws (X : Cx) (C : Addr) (EX : Hp → Prop) : Prop := ∀ (pins : List (Addr × Obj)) (σ : St) (H : Hp) (s : Shared) (h' : Heap) (e : Addr) (vs : List Value), Inv X pins σ H s → Heap.MadeExcOf s.heap h' e (.ref C) vs → EX H → X.xe (.ref e) { s with heap := h' }

theorem ps_raise0 {X : Cx} {x : Str} {C : Addr} {B : String} {newId initId : String} {bmB : List Value} {np cpos pos : Pos} {EX : Hp → Prop} (hg : Gl X x) (gm : X.mg x = some (.ref C)) (hx : PySem.W.excIn X.K C bmB newId = true) (FB : ExcBaseFacts B newId initId bmB) (hc : X.calm = true) (ht : Throws X C EX)
    (hdb : (x == ("__debug__" : Str)) = false := by decide) : PS X (.Raise (some (.Call (.Name x np) [] [] cpos)) none pos) (fun _ _ H => EX H) := by
  intro pins s σ H D I h
  have O := own_K (mg := X.mg) (x := x) I.kIn gm hx
  obtain ⟨tl, N, nm, q, bs, hdct, sn, sub, ab, col, dd, k0, k1, k2, k3, k5, mN, hC, hN, hni, T⟩ := O.obj
  refine wpAny_Raise_call_subT (C := C) (nm := nm) (q := q) (N := N) (bs := bs) (bm := tl) (hdct := hdct) (sn := sn) (sub := sub) (ab := ab) (col := col) (dd := dd) (k0 := k0) (k1 := k1) (k2 := k2) (k3 := k3) (k5 := k5)
    FB (mN := mN) (T.hasType FB.hasBase) (I.ok.hd hc) rfl hni (ld_glob I hg gm ⟨rfl, ?_⟩ hdb)
  exact evalArgs_empty ⟨rfl, Nat.zero_le _, hC, hN, T, fun h' e mk => ht pins σ H s h' e [] I mk h⟩

theorem ObjOk.there {P : Program} {w : World} {H : Hp} {h : Heap} {a : Addr} {o : HO} (x : ObjOk P w H h a o) : ∃ ob, h.get? a = some ob := by
  cases o with
  | lst xs => obtain ⟨_, _, _, _, e⟩ := x; exact ⟨_, e⟩
  | tup xs => obtain ⟨_, _, _, ob, e, _⟩ := x; exact ⟨ob, e⟩
  | dK kvs => obtain ⟨_, _, _, _, o, _, _, e, _⟩ := x; exact ⟨_, e⟩
  | dT kvs => obtain ⟨_, _, _, _, o, _, _, e, _⟩ := x; exact ⟨_, e⟩
  | set S n => obtain ⟨o, _, _, _, e, _⟩ := x; exact ⟨_, e⟩
  | ins C dx fs => obtain ⟨_, _, _, e, _⟩ := x; exact ⟨_, e⟩
  | own y => obtain ⟨_, e⟩ := x; exact ⟨_, e⟩
  | xd fs => obtain ⟨_, ⟨_, _, _, e, _⟩, _⟩ := x; exact ⟨_, e⟩
  | rng lo hi => obtain ⟨_, _, _, e⟩ := x; exact ⟨_, e⟩
  | frz ob u => exact ⟨ob, x.1⟩
  | tbl ps => exact ⟨_, x⟩
  | met f y => exact ⟨_, x⟩
  | ext φ => obtain ⟨_, ⟨ob, e⟩, _⟩ := x; exact ⟨ob, e⟩

def Fly (h h' : Heap) (H' : Hp) (a C : Addr) (dd : Option Addr) : Prop := h.get? a = none ∧ H' a = none ∧ ∃ oe vs T oT ts, h'.get? a = some oe ∧ oe.cls = .ref C ∧ oe.dict = dd ∧ oe.data = .fields vs ∧ vs[1]? = some (.ref T) ∧ T ≠ a ∧ h.get? T = none ∧ H' T = none ∧ h'.get? T = some oT ∧ oT.data = .fields ts ∧ ts[3]? = some .none
def CX1 (P : Program) (w : World) : CXT := fun outer H s E e s' => ∃ (a C : Addr) (dd : Option Addr) (H' : Hp), e = .ref a ∧ s'.os = s.os ∧ AllBare s'.gens ∧ Un (frs outer) [] H H' s.heap s'.heap ∧ HOk P w H' s'.heap ∧ Fly s.heap s'.heap H' a C dd ∧ E (.ref C) dd H'

theorem throws_cx {P : Program} {w : World} {K : PySem.W.Frag} {mg : Str → Option Value} {base : Heap} {N : List Str} {qual : Str} {scope : Scope} {f C : Addr} {cd : Value} {A : Around} {outer : List Env} {s : Shared} {H : Hp} {E : XK} :
    Throws (cxOf (CX1 P w) P w K mg base N qual scope f cd A outer s H E) C (fun H' => E (.ref C) none H') := by
  intro pins σ H1 s1 h' e vs I mk hE
  obtain ⟨t, g1, g2, g3⟩ := mk.there
  have fr : (A.deeper (envOfC qual scope s.heap.objs.size f cd)).frames = some (envOfC qual scope s.heap.objs.size f cd :: outer) := I.ok.frames
  have ff := I.stack
  have ff' : h'.FunFrames base (envOfC qual scope s.heap.objs.size f cd :: outer) := ff.of_keeps fun b o hb _ => ⟨o, mk.keeps b o hb, rfl⟩
  have fE : ∀ b ∈ (envOfC qual scope s.heap.objs.size f cd :: outer).filterMap (·.frame), H1 b = none := I.stkFree
  have new1 : ∀ b, s1.heap.get? b = none → s.heap.get? b = none := fun b hb => by
    cases q : s.heap.get? b with
    | none => rfl
    | some o =>
      obtain ⟨o', z⟩ := I.base.there b o q (by show b ∉ ([] : List Addr); simp)
      rw [hb] at z
      cases z
  have unt : ∀ b, s1.heap.get? b = none → H1 b = none := fun b hb => by
    cases q : H1 b with
    | none => rfl
    | some o =>
      obtain ⟨ob, z⟩ := (I.hok b o q).there
      rw [hb] at z
      cases z
  refine leave_first (s := { s1 with heap := h' }) fr ff' rfl g1 rfl rfl fun h'' T lb => ?_
  have ne : ∀ b o, s1.heap.get? b = some o → b ≠ e := fun b o hb z => by
    rw [z, mk.new] at hb
    cases hb
  have nL : ∀ b o, s.heap.get? b = some o → b ∉ frs outer → b ∉ (envOfC qual scope s.heap.objs.size f cd :: outer).filterMap (·.frame) := fun b o hb hf hm => by
    rcases List.mem_cons.mp (show b ∈ s.heap.objs.size :: frs outer from hm) with z | z
    · exact absurd (Heap.lt_size hb) (by rw [z]; exact Nat.lt_irrefl _)
    · exact hf z
  have slot : ∀ b o, s1.heap.get? b = some o → ∃ sl, h''.get? b = some { o with slots := sl } := fun b o hb => lb.slot b o (ne b o hb) (mk.keeps b o hb)
  have hT1 : s1.heap.get? T = none := by
    cases q : s1.heap.get? T with
    | none => rfl
    | some o =>
      have := mk.keeps T o q
      rw [lb.new] at this
      cases this
  refine ⟨e, C, none, H1, rfl, I.os, I.bare, ⟨fun b o hb hn hf hx => ?_, fun b o hb hn hf hx => ?_, fun b o hb hn hx => I.base.free b o hb hn hx, fun b o hb hx => ?_, I.base.tups, I.base.frzs, I.base.tbls⟩, fun b o hb => ?_, ⟨new1 e mk.new, unt e mk.new, ?_⟩, hE⟩
  · have q := I.base.keep b o hb hn hf hx
    exact lb.keep b o (ne b o q) (nL b o hb hf) (mk.keeps b o q)
  · obtain ⟨sl, q⟩ := I.base.slot b o hb hn hf hx
    obtain ⟨sl2, q2⟩ := slot b _ q
    exact ⟨sl2, q2⟩
  · obtain ⟨o', q⟩ := I.base.there b o hb hx
    obtain ⟨sl, q2⟩ := slot b o' q
    exact ⟨_, q2⟩
  · refine (I.hok b o hb).stay (fun c u z hc => ?_) (fun c z => z) fun c xs z => z
    refine lb.keep c u (ne c u hc) (fun hm => ?_) (mk.keeps c u hc)
    have := fE c hm
    rcases z with z | z
    · rw [z, hb] at this
      cases this
    · rw [z] at this
      cases this
  · obtain ⟨oe', q1, q2, q3, q4⟩ := lb.exc _ _ g1 rfl
    obtain ⟨oT, ts, t1, t2, t3⟩ := lb.tr
    refine ⟨oe', _, T, oT, ts, q1, q2, q3, q4, rfl, fun z => ?_, new1 T hT1, unt T hT1, t1, t2, t3⟩
    have := lb.new
    rw [z] at this
    have g1' : h'.get? e = some _ := g1
    rw [this] at g1'
    cases g1'
end L2
namespace L2
open PySem PySem.Spec PyProof.Rows
section
variable {M : Model} {A : Around} {E : Value → Shared → Prop} {s : Shared}

theorem leave_next {base : Heap} {env : Env} {outer : List Env} {L e T0 : Addr} {oe oT : Obj} {vs ts : Array Value} {Q : Unit → Shared → Prop} (fr : A.frames = some (env :: outer)) (ff : s.heap.FunFrames base (env :: outer)) (ef : env.frame = some L)
    (ge : s.heap.get? e = some oe) (de : oe.data = .fields vs) (v1 : vs[1]? = some (.ref T0)) (gT : s.heap.get? T0 = some oT) (dT : oT.data = .fields ts) (t3 : ts[3]? = some .none) (ne : T0 ≠ e)
    (q : ∀ h1 h' T, (∀ b, b ≠ T0 → h1.get? b = s.heap.get? b) → (∃ o, h1.get? T0 = some o) → LeftBy ((env :: outer).filterMap (·.frame)) e T h1 h' → Q () { s with heap := h' }) : wpAny M A (leaving env (.ref e)) Q E s := by
  unfold leaving noteFrame
  simp only [ef]
  refine wpAny_bind (wpAny_bind (wpAny_field ge de v1 ?_))
  rw [if_pos (show (Value.ref T0 != Value.none) = true from by simp)]
  refine wpAny_bind (wpAny_field gT dT t3 ?_)
  rw [if_neg (show ¬ ((Value.none == rawInt L) = true) from by simp [rawInt])]
  refine wpAny_bind (wpAny_setField gT dT (Array.getElem?_eq_some_iff.mp t3).1 ?_)
  have oth : ∀ b, b ≠ T0 → (s.heap.update T0 (Obj.mapFields (·.setIfInBounds 3 Value.none))).get? b = s.heap.get? b := fun b hb => Heap.get?_update_other _ _ (Ne.symm hb)
  have there := Heap.get?_update_self (Obj.mapFields (·.setIfInBounds 3 Value.none)) gT (Obj.isFreed_of_fields (Obj.data_mapFields dT _))
  have nr : ∀ b o, s.heap.get? b = some o → (∀ us, o.data ≠ .fields us) → b ≠ T0 := fun b o hb hn z => by
    rw [z, gT] at hb
    cases hb
    exact hn ts dT
  exact note_new (s := { s with heap := s.heap.update T0 (Obj.mapFields (·.setIfInBounds 3 Value.none)) }) fr (ff.of_keeps fun b o hb hn => ⟨o, (oth b (nr b o hb hn)).trans hb, rfl⟩) ef ((oth e (Ne.symm ne)).trans ge) de (Array.getElem?_eq_some_iff.mp v1).1 fun h' T lb => q _ h' T oth ⟨_, there⟩ lb
end

theorem Fun.okX {P : Program} {w : World} {K : PySem.W.Frag} {mg : Str → Option Value} {base : Heap} {x qual : Str} {st : Stmt} {f : Addr} {fd : FuncData} {N ps : List Str} {k : Nat} {sp : Sp} (F : Fun K x qual st f fd) (S : FnScope N ps (defScope st)) (len : ∀ vs H Q E, sp vs H Q E → vs.length = ps.length)
    (hbody : ∀ (cdv : Value) (A : Around) (outer : List Env) (s : Shared) (H : Hp) (vs : List V) (Q : VK) (E : XK), Room k (A.deeper (envOfC qual (defScope st) s.heap.objs.size f cdv)) → sp vs H Q E →
      ∃ t, PSs (cxOf (CX1 P w) P w K mg base N qual (defScope st) f cdv A outer s H E) (defBody st) t ∧ t { nx := fun _ H' => Q .non H', rt := Q } (start N vs) H) : FnOk P w K mg base (CX1 P w) (k + 1) f fd ps sp := by
  obtain ⟨oc, od, kV, doc, pm, an, cdv, ct, osl, rfl, lk, hcd⟩ := F.ex
  exact fn_of lk hcd S len fun A outer s H vs Q E hr hsp => hbody cdv A outer s H vs Q E hr hsp

theorem pass1 {P : Program} {w : World} {K : PySem.W.Frag} {mg : Str → Option Value} {base : Heap} {N : List Str} {qual : Str} {scope : Scope} {f : Addr} {cd : Value} {A : Around} {outer : List Env} {s : Shared} {H : Hp} {E : XK} :
    Passes (CX1 P w) (cxOf (CX1 P w) P w K mg base N qual scope f cd A outer s H E) E := by
  intro pins σ H1 s1 e s' I hx
  obtain ⟨a, C, dd, H2, rfl, hos, hgen, un, hok, ⟨n1, n2, oe, vs, T0, oT, ts, g1, g2, gd, g3, g4, g5, g6, g7, g8, g9, g10⟩, hE⟩ := hx
  obtain ⟨hh, g, d, t, os'⟩ := s'
  obtain rfl : os' = s1.os := hos
  have I2 : Inv (cxOf (CX1 P w) P w K mg base N qual scope f cd A outer s H E) pins σ H2 ⟨hh, g, d, t, s1.os⟩ := I.call (h' := hh) (g' := g) (d' := d) (t' := t) (ch := []) un hok hgen (fun b z => absurd z (by simp))
  have fr : (A.deeper (envOfC qual scope s.heap.objs.size f cd)).frames = some (envOfC qual scope s.heap.objs.size f cd :: outer) := I.ok.frames
  have fE : ∀ b ∈ (envOfC qual scope s.heap.objs.size f cd :: outer).filterMap (·.frame), H2 b = none := I2.stkFree
  have old1 : ∀ b, s1.heap.get? b = none → s.heap.get? b = none := fun b hb => by
    cases q : s.heap.get? b with
    | none => rfl
    | some o =>
      obtain ⟨o', z⟩ := I.base.there b o q (by show b ∉ ([] : List Addr); simp)
      rw [hb] at z
      cases z
  have old2 : ∀ b, hh.get? b = none → s.heap.get? b = none := fun b hb => by
    cases q : s.heap.get? b with
    | none => rfl
    | some o =>
      obtain ⟨o', z⟩ := I2.base.there b o q (by show b ∉ ([] : List Addr); simp)
      have z' : hh.get? b = some o' := z
      rw [hb] at z'
      cases z'
  have unt : ∀ b, hh.get? b = none → H2 b = none := fun b hb => by
    cases q : H2 b with
    | none => rfl
    | some o =>
      obtain ⟨ob, z⟩ := (I2.hok b o q).there
      have z' : hh.get? b = some ob := z
      rw [hb] at z'
      cases z'
  refine leave_next (s := ⟨hh, g, d, t, s1.os⟩) fr I2.stack rfl g1 g3 g4 g8 g9 g10 g5 fun h1 h' T o1 o2 lb => ?_
  have na : ∀ b o, s.heap.get? b = some o → b ≠ a ∧ b ≠ T0 := fun b o hb => by
    refine ⟨fun z => ?_, fun z => ?_⟩
    · rw [z, old1 a n1] at hb
      cases hb
    · rw [z, old1 T0 g6] at hb
      cases hb
  have nL : ∀ b o, s.heap.get? b = some o → b ∉ frs outer → b ∉ (envOfC qual scope s.heap.objs.size f cd :: outer).filterMap (·.frame) := fun b o hb hf hm => by
    rcases List.mem_cons.mp (show b ∈ s.heap.objs.size :: frs outer from hm) with z | z
    · exact absurd (Heap.lt_size hb) (by rw [z]; exact Nat.lt_irrefl _)
    · exact hf z
  have hTT : T ≠ T0 := fun z => by
    obtain ⟨o, q⟩ := o2
    rw [← z, lb.new] at q
    cases q
  have hT : hh.get? T = none := (o1 T hTT).symm.trans lb.new
  refine ⟨a, C, dd, H2, rfl, I2.os, I2.bare, ⟨fun b o hb hn hf hx => ?_, fun b o hb hn hf hx => ?_, fun b o hb hn hx => I2.base.free b o hb hn hx, fun b o hb hx => ?_, I2.base.tups, I2.base.frzs, I2.base.tbls⟩, fun b o hb => ?_, ⟨old1 a n1, n2, ?_⟩, hE⟩
  · have q : hh.get? b = some o := I2.base.keep b o hb hn hf hx
    exact lb.keep b o (na b o hb).1 (nL b o hb hf) ((o1 b (na b o hb).2).trans q)
  · obtain ⟨sl, q⟩ := I2.base.slot b o hb hn hf hx
    have q' : hh.get? b = some { o with slots := sl } := q
    obtain ⟨sl2, q2⟩ := lb.slot b _ (na b o hb).1 ((o1 b (na b o hb).2).trans q')
    exact ⟨sl2, q2⟩
  · obtain ⟨o', q⟩ := I2.base.there b o hb hx
    have q' : hh.get? b = some o' := q
    obtain ⟨sl, q2⟩ := lb.slot b o' (na b o hb).1 ((o1 b (na b o hb).2).trans q')
    exact ⟨_, q2⟩
  · refine (I2.hok b o hb).stay (fun c u z hc => ?_) (fun c z => z) fun c xs z => z
    have hc2 : H2 c ≠ none := fun q => by
      rcases z with z | z
      · rw [z, hb] at q
        cases q
      · rw [z] at q
        cases q
    exact lb.keep c u (fun z => hc2 (by rw [z]; exact n2)) (fun hm => hc2 (fE c hm)) ((o1 c (fun z => hc2 (by rw [z]; exact g7))).trans hc)
  · obtain ⟨oe', q1, q2, q3, q4⟩ := lb.exc oe vs ((o1 a (Ne.symm g5)).trans g1) g3
    obtain ⟨oT', ts', t1, t2, t3⟩ := lb.tr
    refine ⟨oe', _, T, oT', ts', q1, q2.trans g2, q3.trans gd, q4, ?_, fun z => ?_, old2 T hT, unt T hT, t1, t2, t3⟩
    · have := (Array.getElem?_eq_some_iff.mp g4).1
      simp [this]
    · have g1' : hh.get? a = some oe := g1
      rw [← z, hT] at g1'
      cases g1'
end L2
namespace L2
open PySem PySem.Spec PyProof.Rows
section
variable {M : Model} {A : Around} {E : Value → Shared → Prop} {s : Shared}

theorem look_next {base : Heap} {env : Env} {outer : List Env} {L e T0 : Addr} {oe oT : Obj} {vs ts : Array Value} {Q : Unit → Shared → Prop} (fr : A.frames = some (env :: outer)) (ff : s.heap.FunFrames base (env :: outer)) (ef : env.frame = some L)
    (ge : s.heap.get? e = some oe) (de : oe.data = .fields vs) (v1 : vs[1]? = some (.ref T0)) (gT : s.heap.get? T0 = some oT) (dT : oT.data = .fields ts) (t3 : ts[3]? = some .none) (ne : T0 ≠ e)
    (q : ∀ h1 h' T, (∀ b, b ≠ T0 → h1.get? b = s.heap.get? b) → (∃ o, h1.get? T0 = some o) → LeftBy ((env :: outer).filterMap (·.frame)) e T h1 h' → Q () { s with heap := h' }) :
    wpAny M A (noteFrame (.ref e) env) (fun _ s2 => wpAny M A (setFlight (.ref e) none) Q E s2) E s := by
  unfold noteFrame
  simp only [ef]
  refine wpAny_bind (wpAny_field ge de v1 ?_)
  rw [if_pos (show (Value.ref T0 != Value.none) = true from by simp)]
  refine wpAny_bind (wpAny_field gT dT t3 ?_)
  rw [if_neg (show ¬ ((Value.none == rawInt L) = true) from by simp [rawInt])]
  refine wpAny_bind (wpAny_setField gT dT (Array.getElem?_eq_some_iff.mp t3).1 ?_)
  have oth : ∀ b, b ≠ T0 → (s.heap.update T0 (Obj.mapFields (·.setIfInBounds 3 Value.none))).get? b = s.heap.get? b := fun b hb => Heap.get?_update_other _ _ (Ne.symm hb)
  have there := Heap.get?_update_self (Obj.mapFields (·.setIfInBounds 3 Value.none)) gT (Obj.isFreed_of_fields (Obj.data_mapFields dT _))
  have nr : ∀ b o, s.heap.get? b = some o → (∀ us, o.data ≠ .fields us) → b ≠ T0 := fun b o hb hn z => by
    rw [z, gT] at hb
    cases hb
    exact hn ts dT
  exact note_new (s := { s with heap := s.heap.update T0 (Obj.mapFields (·.setIfInBounds 3 Value.none)) }) fr (ff.of_keeps fun b o hb hn => ⟨o, (oth b (nr b o hb hn)).trans hb, rfl⟩) ef ((oth e (Ne.symm ne)).trans ge) de (Array.getElem?_eq_some_iff.mp v1).1 fun h' T lb => q _ h' T oth ⟨_, there⟩ lb

theorem flight {e T : Addr} {oe oT : Obj} {vs ts : Array Value} {Q : Unit → Shared → Prop} (ge : s.heap.get? e = some oe) (de : oe.data = .fields vs) (v1 : vs[1]? = some (.ref T)) (gT : s.heap.get? T = some oT) (dT : oT.data = .fields ts) (t3 : ts[3]? = some .none)
    (q : ∀ h', (∀ b, b ≠ T → h'.get? b = s.heap.get? b) → (∃ oT' ts', h'.get? T = some oT' ∧ oT'.data = .fields ts' ∧ ts'[3]? = some .none) → Q () { s with heap := h' }) : wpAny M A (setFlight (.ref e) none) Q E s := by
  unfold setFlight
  refine wpAny_bind (wpAny_field ge de v1 ?_)
  rw [if_pos (show (Value.ref T != Value.none) = true from by simp)]
  have sz := (Array.getElem?_eq_some_iff.mp t3).1
  refine wpAny_setField gT dT sz (q _ (fun b hb => Heap.get?_update_other _ _ (Ne.symm hb)) ⟨_, _, Heap.get?_update_self _ gT (Obj.isFreed_of_fields (Obj.data_mapFields dT _)), Obj.data_mapFields dT _, ?_⟩)
  simp [sz]
end
end L2
namespace L2
open PySem PySem.Spec PyProof.Rows

abbrev ExK := St → Addr → Option Addr → Hp → Prop

def Fr0 (X : Cx) (pins : List (Addr × Obj)) (h0 : Heap) : Prop := (∀ b, h0.get? b = none → X.s₀.heap.get? b = none ∨ b ∈ X.ex) ∧ ∀ p ∈ X.pn ++ pins, h0.get? p.1 = some p.2
theorem Inv.fr0 {X : Cx} {pins : List (Addr × Obj)} {σ : St} {H : Hp} {s : Shared} (I : Inv X pins σ H s) : Fr0 X pins s.heap := by
  refine ⟨fun b hb => ?_, fun p hp => (I.pin p hp).1⟩
  by_cases hx : b ∈ X.ex
  · exact .inr hx
  · refine .inl ?_
    cases q : X.s₀.heap.get? b with
    | none => rfl
    | some o =>
      obtain ⟨o', z⟩ := I.base.there b o q hx
      rw [hb] at z
      cases z

def XF (X : Cx) (pins : List (Addr × Obj)) (Ex : ExK) (e : Value) (s' : Shared) : Prop := ∃ (h0 : Heap) (a C : Addr) (dd : Option Addr) (σ' : St) (H' : Hp), e = .ref a ∧ Inv X pins σ' H' s' ∧ Fly h0 s'.heap H' a C dd ∧ Fr0 X pins h0 ∧ Ex σ' C dd H'
abbrev TX := St → Hp → VK → ExK → Prop

def PEX (X : Cx) (e : Expr) (t : TX) : Prop := ∀ (pins : List (Addr × Obj)) (s : Shared) (σ : St) (H : Hp) (Q : VK) (Ex : ExK), Inv X pins σ H s → t σ H Q Ex → wpAny (model X.prog X.w) X.A (eval e X.env) (EP X pins σ Q) (XF X pins Ex) s
section
variable {X : Cx} {k : Nat} {f C : Addr} {fd : FuncData} {ps : List Str} {sp : Sp} {dvs : List V} {ds : List Value} {x m : Str} {p pos apos : Pos} {e o : Expr} {es : List Expr} {ta : TE} {t : TA}
theorem run_fnX {pins : List (Addr × Obj)} {σ : St} {H : Hp} {s : Shared} {Q : VK} {Ex : ExK} {us : List Value} {vs : List V} (F : FnOk X.prog X.w X.K X.mg X.base (CX1 X.prog X.w) k f fd ps sp) (hr : Room k X.A) (hb : Binds X.K fd ps ds) (hd : Vals dvs ds)
    (I : Inv X pins σ H s) (r : Vals vs us) (h : sp (vs ++ dvs) H Q (fun cls dd H' => ∃ C, cls = .ref C ∧ Ex σ C dd H')) : wpAny (model X.prog X.w) X.A (call (.ref f) us) (EP X pins σ Q) (XF X pins Ex) s := by
  have r2 : Vals (vs ++ dvs) (us ++ ds) := r.append hd
  have hl : (us ++ ds).length = ps.length := by rw [← r2.length]; exact F.len _ _ _ _ h
  refine wpAny_call (codeAny_mono (F.run X.A X.stack s H ⟨us, []⟩ (us ++ ds) (vs ++ dvs) Q _ hr I.env0 (hb s us I.kIn hl) r2 h) fun r s' hq => ?_)
  cases r with
  | error e =>
    obtain ⟨a, C, dd, H2, rfl, hos, hgen, un, hok, fl, C', hC, hE⟩ := hq
    cases hC
    obtain ⟨hh, g, d, t, os'⟩ := s'
    obtain rfl : os' = s.os := hos
    exact ⟨s.heap, a, C, dd, σ, H2, rfl, I.call (h' := hh) (g' := g) (d' := d) (t' := t) (ch := []) un hok hgen (fun b z => absurd z (by simp)), fl, I.fr0, hE⟩
  | ok fl =>
    cases fl with
    | ret u => exact I.after hq
    | next => exact False.elim hq
    | brk => exact False.elim hq
    | cont => exact False.elim hq

def tMethX (C : Addr) (m : Str) (sp : Sp) (dvs : List V) (ta : TE) (t : TA) : TX := fun σ H Q Ex => ta σ H fun x H1 => ∃ a dx fs, x = .ref a ∧ H1 a = some (.ins C dx fs) ∧ fs.lookup m = none ∧
  t σ H1 fun vs H2 => sp (x :: (vs ++ dvs)) H2 Q fun cls dd H' => ∃ C, cls = .ref C ∧ Ex σ C dd H'
theorem pex_meth {pl : Sem Bool} (he : PE X.nox o ta) (c : Cls X.K C) (hm : Meth X.K C m f) (F : FnOk X.prog X.w X.K X.mg X.base (CX1 X.prog X.w) k f fd ps sp) (hr : Room k X.A) (hb : Binds X.K fd ps ds) (hd : Vals dvs ds) (ha : PA X.nox (e :: es) t)
    (hst : starEach (e :: es) X.env = (false, eval e X.env) :: starEach es X.env := by rfl) (hpl : (backTo pos (starEach es X.env)).any (·.1) = false := by rfl)
    (ht : eval (.Call (.Attribute o m apos) (e :: es) [] pos) X.env = (do
      let ov ← eval o X.env
      standAt apos.atName
      let (f, first) ← holding [ov] (getMethod ov m pl)
      callWith pos f first (backTo pos (starEach (e :: es) X.env)) (backToKw pos (keywordEach [] X.env))) := by rfl) :
    PEX X (.Call (.Attribute o m apos) (e :: es) [] pos) (tMethX C m sp dvs ta t) := by
  intro pins s σ H Q Ex I h
  refine PySem.W.methodCall_KW (pl := pl) (wpAny_mono (he pins s σ H _ (I.wish _) h) (fun u s1 ⟨x, H1, I1, rx, a, dx, fs, ex, ea, l, q⟩ => ?_) fun _ _ z => z.elim) ht
  subst ex
  obtain rfl : u = Value.ref a := rx
  refine getmeth_ok I1.unwish ea c hm l ?_
  refine PySem.W.callWith_K (first := [.ref a]) (h₀ := X.base) I.ok.mod.kin hm.kp (wpAny_mono (ha pos pins s1 σ H1 _ I1 q) (fun us s2 ⟨vs, H2, I2, r, q2⟩ => ⟨I2.kIn, ?_⟩) fun _ _ z => z.elim) hst hpl
  exact run_fnX (us := .ref a :: us) (vs := .ref a :: vs) F hr hb hd I2.unwish (.cons rfl r) q2
theorem pex_meth0 {pl : Sem Bool} (he : PE X.nox o ta) (c : Cls X.K C) (hm : Meth X.K C m f) (F : FnOk X.prog X.w X.K X.mg X.base (CX1 X.prog X.w) k f fd ps sp) (hr : Room k X.A) (hb : Binds X.K fd ps ds) (hd : Vals dvs ds)
    (ht : eval (.Call (.Attribute o m apos) [] [] pos) X.env = (do
      let ov ← eval o X.env
      standAt apos.atName
      let (f, first) ← holding [ov] (getMethod ov m pl)
      callWith pos f first (backTo pos (starEach [] X.env)) (backToKw pos (keywordEach [] X.env))) := by rfl) :
    PEX X (.Call (.Attribute o m apos) [] [] pos) (tMethX C m sp dvs ta tNil) := by
  intro pins s σ H Q Ex I h
  refine PySem.W.methodCall_KW (pl := pl) (wpAny_mono (he pins s σ H _ (I.wish _) h) (fun u s1 ⟨x, H1, I1, rx, a, dx, fs, ex, ea, l, q⟩ => ?_) fun _ _ z => z.elim) ht
  subst ex
  obtain rfl : u = Value.ref a := rx
  refine getmeth_ok I1.unwish ea c hm l ?_
  exact PySem.W.callWith_K0 (first := [.ref a]) I1.kIn hm.kp (run_fnX (us := [.ref a]) (vs := [.ref a]) F hr hb hd I1.unwish (.cons rfl .nil) q)

abbrev TSX := Ends → St → Hp → ExK → Prop
def PSX (X : Cx) (st : Stmt) (t : TSX) : Prop := ∀ (pins : List (Addr × Obj)) (s : Shared) (σ : St) (H : Hp) (D : Ends) (Ex : ExK), Inv X pins σ H s → t D σ H Ex → wpAny (model X.prog X.w) X.A (exec st X.env) (SP X pins D) (XF X pins Ex) s
def PSsX (X : Cx) (st : List Stmt) (t : TSX) : Prop := ∀ (pins : List (Addr × Obj)) (s : Shared) (σ : St) (H : Hp) (D : Ends) (Ex : ExK), Inv X pins σ H s → t D σ H Ex → wpAny (model X.prog X.w) X.A (execs st X.env) (SP X pins D) (XF X pins Ex) s
def tDropX (t : TX) : TSX := fun D σ H Ex => t σ H (fun _ H1 => D.nx σ H1) Ex
theorem psx_expr {te : TX} (he : PEX X e te) (hs : swapsWith e none pos.line X.env = pure false := by rfl) : PSX X (.Expr e pos) (tDropX te) := by
  intro pins s σ H D Ex I h
  exact wpAny_Expr_any (thn (he pins s σ H _ Ex I h) fun v s1 ⟨x, H1, I1, r1, q1⟩ => ⟨σ, H1, I1, q1⟩) I.quiet hs
theorem pssx_one {st : Stmt} {t : TSX} (h : PSX X st t) : PSsX X [st] t := by
  intro pins s σ H D Ex I hw
  refine wpAny_execs_cons (thn (h pins s σ H D Ex I hw) fun f s1 q => ?_)
  cases f with
  | next => exact wpAny_execs_nil q
  | brk => exact q
  | cont => exact q
  | ret u => exact q
end
end L2
namespace L2
open PySem PySem.Spec PyProof.Rows
section
variable {X : Cx} {pins : List (Addr × Obj)} {σ : St} {H H' : Hp} {s : Shared} {h0 h' : Heap} {ch : List Addr}

theorem Inv.flown {t' : Nat} (I : Inv X pins σ H s) (f : Fr0 X pins h0) (hc : ∀ b ∈ ch, h0.get? b = none ∧ ∃ o vs, s.heap.get? b = some o ∧ o.data = .fields vs)
    (keep : ∀ b o, b ∉ ch → b ∉ frs X.stack → s.heap.get? b = some o → h'.get? b = some o) (slot : ∀ b o, b ∉ ch → s.heap.get? b = some o → ∃ sl, h'.get? b = some { o with slots := sl })
    (free : ∀ b o, b ∉ ch → s.heap.get? b = some o → H b = none → H' b = none) (tups : ∀ b xs, H b = some (.tup xs) → H' b = some (.tup xs)) (frzs : ∀ b o u, H b = some (.frz o u) → H' b = some (.frz o u))
    (tbls : ∀ b ps, H b = some (.tbl ps) → ∃ more, H' b = some (.tbl (ps ++ more))) (hok : HOk X.prog X.w H' h') : Inv X pins σ H' { s with heap := h', toks := t' } := by
  have nL : ∀ b ∈ ch, b ≠ X.env.locals := fun b hb z => by
    obtain ⟨_, o, vs, ho, hd⟩ := hc b hb
    obtain ⟨m, ⟨o', es, ep, ho', hd', _⟩, _⟩ := I.loc
    rw [z, ho'] at ho
    cases ho
    rw [hd'] at hd
    cases hd
  have nC : ∀ b ∈ ch, ∀ x c, X.env.cells.lookup x = some c → c ≠ b := fun b hb x c e z => by
    obtain ⟨_, o, vs, ho, hd⟩ := hc b hb
    obtain ⟨v, o', ho', hd'⟩ := I.cell x c e
    rw [z, ho] at ho'
    cases ho'
    rw [hd] at hd'
    cases hd'
  have nF : ∀ b ∈ ch, b ∉ X.fs := fun b hb z => by
    obtain ⟨_, o, vs, ho, hd⟩ := hc b hb
    obtain ⟨_, o', ho', hn⟩ := I.funs.mem z
    rw [ho] at ho'
    cases ho'
    exact hn vs hd
  have n0 : ∀ b ∈ ch, X.s₀.heap.get? b = none ∨ b ∈ X.ex := fun b hb => f.1 b (hc b hb).1
  have nP : ∀ b ∈ ch, ∀ p ∈ X.pn ++ pins, p.1 ≠ b := fun b hb p hp z => by
    have e := f.2 p hp
    rw [z, (hc b hb).1] at e
    cases e
  have old : ∀ b o, X.s₀.heap.get? b = some o → b ∉ X.ex → b ∉ ch ++ X.ex := fun b o e hx hm => by
    rcases List.mem_append.mp hm with z | z
    · rcases n0 b z with q | q
      · rw [e] at q
        cases q
      · exact hx q
    · exact hx z
  have ok' : Cx.Ok { X with ex := ch ++ X.ex } := ⟨I.ok.mod, I.ok.kind, I.ok.glob, I.ok.blt, I.ok.above, I.ok.inj, I.ok.has, I.ok.cab, I.ok.hd, I.ok.frames, I.ok.stk,
    fun b hb => (List.mem_append.mp hb).elim (fun z => ⟨nL b z, nC b z⟩) (I.ok.exf b), I.ok.bs, I.ok.bsz, fun b o e => old b o (I.ok.bs b o e).1 (I.ok.noex b o e), fun b hb => (List.mem_append.mp hb).elim (nF b) (I.ok.exfs b), I.ok.funs, I.ok.frf⟩
  have I' : Inv { X with ex := ch ++ X.ex } pins σ H s := ⟨ok', I.os, I.bare, ⟨fun b o e n hb hx => I.base.keep b o e n hb fun z => hx (List.mem_append_right _ z), fun b o e n hb hx => I.base.slot b o e n hb fun z => hx (List.mem_append_right _ z),
    fun b o e n hx => I.base.free b o e n fun z => hx (List.mem_append_right _ z), fun b o e hx => I.base.there b o e fun z => hx (List.mem_append_right _ z), I.base.tups, I.base.frzs, I.base.tbls⟩, I.loc, I.cell, I.free, I.freeC, I.pin, I.hok, I.len⟩
  obtain ⟨m, ⟨o, es, ep, ho, r⟩, _⟩ := id I.loc
  obtain ⟨sl, hL⟩ := slot X.env.locals o (fun z => nL _ z rfl) ho
  have J := I'.step (g' := s.gens) (d' := s.drawn) (t' := t') (h' := h') (H' := H') (ch := ch) (fun b hb => ⟨.inl (List.mem_append_left _ hb), nL b hb, nC b hb, nP b hb⟩)
    (fun b o hL hb hc e n => keep b o hc (fun z => (List.mem_cons.mp (I.stkSub b z)).elim hL hb) e) (fun b o _ _ hc e n => slot b o hc e) free (fun b o hc e => (slot b o hc e).elim fun sl z => ⟨_, z⟩) tups frzs tbls (fun m' hm => by
      obtain ⟨o', es', ep', ho', r'⟩ := hm
      rw [ho] at ho'
      cases ho'
      exact ⟨_, es', ep', hL, r'⟩) hok I.bare
  exact ⟨I.ok, J.os, J.bare, ⟨fun b o e n hb hx => J.base.keep b o e n hb (old b o e hx), fun b o e n hb hx => J.base.slot b o e n hb (old b o e hx), fun b o e n hx => J.base.free b o e n (old b o e hx), fun b o e hx => J.base.there b o e (old b o e hx),
    J.base.tups, J.base.frzs, J.base.tbls⟩, J.loc, J.cell, J.free, J.freeC, J.pin, J.hok, J.len⟩

theorem goes_ok {M : Model} {A : Around} {E : Value → Shared → Prop} {i : Nat} {x : Str} {pos : Pos} {Q : Unit → Shared → Prop} (I : Inv X pins σ H s) (hN : X.N.Nodup) (hi : X.N[i]? = some x) (hk : X.env.scope.names.lookup x = some .local)
    (h : ∀ s', Inv X pins (σ.set i none) H s' → Q () s') : wpAny M A (do bindName X.env x .none; unbindBehindTheSuite X.env x pos) Q E s := by
  obtain ⟨m, hn, hl⟩ := id I.loc
  have hcls : (X.env.scope.kind == .class || (X.env.scope.kind == .module && X.env.locals != X.env.globals)) = false := by rw [I.ok.kind]; rfl
  have hiσ : i < σ.length := by rw [I.len]; exact (List.getElem?_eq_some_iff.mp hi).1
  have ne0 : ∀ b o, X.s₀.heap.get? b = some o → b ≠ X.env.locals := fun b o e => Nat.ne_of_lt (Nat.lt_of_lt_of_le (Heap.lt_size e) I.ok.above)
  refine wpAny_nameGoes_keeps hk hn hcls fun h' v hn' hs => ?_
  refine h _ ⟨I.ok, I.os, I.bare, ⟨fun b o e n hb hx => (hs.2 b (ne0 b o e)).trans (I.base.keep b o e n hb hx), fun b o e n hb hx => ?_, I.base.free, fun b o e hx => ?_, I.base.tups, I.base.frzs, I.base.tbls⟩, ⟨_, hn', fun j y w e1 e2 e3 => ?_⟩, fun y c e => ?_, I.free, I.freeC, fun p hp => ?_, fun b u e => ?_, by simpa using I.len⟩
  · obtain ⟨sl, e1⟩ := I.base.slot b o e n hb hx
    exact ⟨sl, (hs.2 b (ne0 b o e)).trans e1⟩
  · obtain ⟨o', e1⟩ := I.base.there b o e hx
    exact ⟨o', (hs.2 b (ne0 b o e)).trans e1⟩
  · by_cases hj : j = i
    · subst hj
      rw [List.getElem?_set_self hiσ] at e2
      cases e2
    · rw [List.getElem?_set_ne (Ne.symm hj)] at e2
      obtain ⟨u', r', q⟩ := hl j y w e1 e2 e3
      refine ⟨u', r', ?_⟩
      rcases q with ⟨k, e⟩ | ⟨k, c, e, z⟩
      · refine .inl ⟨k, ?_⟩
        have : y ≠ x := fun e => hj (nodup_ix hN e1 (e ▸ hi))
        simp [this, e]
      · exact .inr ⟨k, c, e, z.sameBut hs (I.cne y c e)⟩
  · obtain ⟨w', z⟩ := I.cell y c e
    exact ⟨w', z.sameBut hs (I.cne y c e)⟩
  · obtain ⟨e, n, ne, nf, d⟩ := I.pin p hp
    exact ⟨(hs.2 p.1 ne).trans e, n, ne, nf, d⟩
  · refine (I.hok b u e).stay (fun c w' hc q => (hs.2 c ?_).trans q) (fun _ q => q) fun _ _ q => q
    rintro rfl
    rcases hc with rfl | hc
    · rw [I.free] at e
      cases e
    · rw [I.free] at hc
      cases hc
end

def ExcAt (a C : Addr) (dd : Option Addr) (h : Heap) : Prop := ∃ oe vs, h.get? a = some oe ∧ oe.cls = .ref C ∧ oe.dict = dd ∧ oe.data = .fields vs

abbrev Cx.hand (X : Cx) (a : Addr) : Cx := { X with A := X.A.mark (some (.ref a)), calm := false, xe := fun _ _ => False }
section
variable {X : Cx} {pins : List (Addr × Obj)} {σ : St} {H : Hp} {s : Shared} {a : Addr}
theorem Inv.hand (I : Inv X pins σ H s) (a : Addr) : Inv (X.hand a) pins σ H s :=
  ⟨⟨I.ok.mod, I.ok.kind, I.ok.glob, I.ok.blt, I.ok.above, I.ok.inj, I.ok.has, I.ok.cab, fun z => Bool.noConfusion z, I.ok.frames, I.ok.stk, I.ok.exf, I.ok.bs, I.ok.bsz, I.ok.noex, I.ok.exfs, I.ok.funs, I.ok.frf⟩, I.os, I.bare, I.base, I.loc, I.cell, I.free, I.freeC, I.pin, I.hok, I.len⟩
theorem Inv.unhand (ok : X.Ok) (I : Inv (X.hand a) pins σ H s) : Inv X pins σ H s := ⟨ok, I.os, I.bare, I.base, I.loc, I.cell, I.free, I.freeC, I.pin, I.hok, I.len⟩

def takesX (K : PySem.W.Frag) (C : Addr) (D : Value) : Bool := PySem.W.kitCls K (.ref C) D == some true && PySem.W.subIn K D (.type "BaseException") == some true
theorem takes_ok {A : Around} {E : Value → Shared → Prop} {K : PySem.W.Frag} {prog : Program} {w : World} {C : Addr} {dd : Option Addr} {D : Value} {Q : Bool → Shared → Prop} (X : K.In s.heap) (x : ExcAt a C dd s.heap) (hq : takesX K C D = true) (k : Q true s) :
    wpAny (model prog w) A (excMatches (.ref a) D) Q E s := by
  obtain ⟨h, g, d, t, os⟩ := s
  obtain ⟨oe, vs, ge, ce, _, _⟩ := x
  unfold takesX at hq
  rw [Bool.and_eq_true] at hq
  obtain ⟨h1, h2⟩ := hq
  obtain ⟨L3, L5, L1⟩ := PySem.W.kit_cls (M := model prog w) X (beq_iff_eq.mp h1)
  have L2 := PySem.W.looks_subIn (M := model prog w) X (beq_iff_eq.mp h2)
  have L4 : PySem.W.Looks (model prog w) h (typeOf (.ref a)) (.ref C) := ce ▸ (PySem.W.Looks.ld ge).andThen .now
  have L0 : PySem.W.Looks (model prog w) h (isSubtype (.type "type") (.type "tuple")) false := PySem.W.Looks.of_pure tc_notTuple
  have LI : PySem.W.Looks (model prog w) h (isInstance D (.type "tuple")) false := L3.andThen L0
  have LX : PySem.W.Looks (model prog w) h (isExcClass D) true := L5.andThen (by simpa using L2)
  unfold excMatches
  refine wpAny_bind (LI.at ?_)
  simp only [Bool.false_eq_true, if_false]
  refine wpAny_bind (wpAny_pure ?_)
  simp only [List.forIn_cons, List.forIn_nil]
  refine wpAny_bind (wpAny_bind (wpAny_bind (LX.at ?_)))
  simp only [Bool.not_true, Bool.false_eq_true, if_false]
  refine wpAny_pure (wpAny_pure ?_)
  refine wpAny_bind (L4.at ?_)
  refine wpAny_bind (wpAny_bind (wpAny_bind (L1.at ?_)))
  simp only [if_true]
  refine wpAny_pure (wpAny_pure ?_)
  exact wpAny_pure k
end
end L2
namespace L2
open PySem PySem.Spec PyProof.Rows

def Means (X : Cx) (x : Str) (u : Value) : Prop := Gl X x ∧ (x == ("__debug__" : Str)) = false ∧ (X.mg x = some u ∨ X.mg x = none ∧ bootBuiltins x = some u ∧ x ≠ "__name__")
theorem ld_means {X : Cx} {E : Value → Shared → Prop} {pins : List (Addr × Obj)} {s : Shared} {σ : St} {H : Hp} {x : Str} {u : Value} {pos : Pos} {Q : Value → Shared → Prop} (I : Inv X pins σ H s) (m : Means X x u) (h : Q u s) : wpAny (model X.prog X.w) X.A (eval (.Name x pos) X.env) Q E s := by
  obtain ⟨hg, hd, hm | ⟨hm, hv, hn⟩⟩ := m
  · exact ld_glob I hg hm h hd
  · exact ld_blt I hg hm hv h hn hd

def tTry (K : PySem.W.Frag) (i : Nat) (C' : Value) (tb : TSX) (th : Addr → TS) : TS := fun D σ H => tb D σ H fun σ' C dd H' => takesX K C C' = true ∧ ∀ a, H' a = none →
  th a { nx := fun σ'' H'' => D.nx (σ''.set i none) H'', rt := D.rt, bk := fun σ'' H'' => D.bk (σ''.set i none) H'', ct := fun σ'' H'' => D.ct (σ''.set i none) H'' } (σ'.set i (some (.ref a))) (upd H' a (.ext (ExcAt a C dd)))
theorem ps_try {X : Cx} {i : Nat} {x n : Str} {C' : Value} {body suite : List Stmt} {b₀ : Stmt} {tb : TSX} {th : Addr → TS} {np hpos pos : Pos} (hst : X.stack = X.env :: X.outer ∧ X.env.frame = some X.env.locals) (hN : X.N.Nodup) (hi : X.N[i]? = some n)
    (hk : X.env.scope.names.lookup n = some .local) (hm : Means X x C') (hb : PSsX X body tb) (hs : ∀ a, PSs (X.hand a) (b₀ :: suite) (th a)) :
    PS X (.Try body [.ExceptHandler (some (.Name x np)) (some n) (b₀ :: suite) hpos] [] [] pos) (tTry X.K i C' tb th) := by
  intro pins s σ H D I h
  refine wpAny_Try_except (wpAny_mono (hb pins s σ H D _ I h) (fun f s1 q => ?_) fun e s1 q => ?_)
  · cases f with
    | next => exact wpAny_execs_nil q
    | brk => exact q
    | cont => exact q
    | ret u => exact q
  · obtain ⟨h0, a, C, dd, σ', H', rfl, J, ⟨n1, n2, oe, vs, T0, oT, ts, g1, g2, gd, g3, g4, g5, g6, g7, g8, g9, g10⟩, fr0, tk, ht⟩ := q
    refine look_next (base := X.base) (outer := X.outer) (by rw [J.ok.frames, hst.1]) (by rw [← hst.1]; exact J.stack) hst.2 g1 g3 g4 g8 g9 g10 g5 fun h1 h' T o1 o2 lb => ?_
    rw [← hst.1] at lb
    have hTT : T ≠ T0 := fun z => by
      obtain ⟨o, q⟩ := o2
      rw [← z, lb.new] at q
      cases q
    have hT : s1.heap.get? T = none := (o1 T hTT).symm.trans lb.new
    have hTa : T ≠ a := fun z => by
      rw [z, g1] at hT
      cases hT
    have uT : H' T = none := by
      cases q : H' T with
      | none => rfl
      | some o =>
        obtain ⟨ob, z⟩ := (J.hok T o q).there
        rw [hT] at z
        cases z
    obtain ⟨oe', q1, q2, q3, q4⟩ := lb.exc oe vs ((o1 a (Ne.symm g5)).trans g1) g3
    obtain ⟨oT', ts', t1, t2, t3⟩ := lb.tr
    have x2 : ExcAt a C dd h' := ⟨oe', _, q1, q2.trans g2, q3.trans gd, q4⟩
    have hne : ∀ {b : Addr} {o : HO}, H' b = some o → b ≠ a := fun {b o} e z => by
      rw [z, n2] at e
      cases e
    have hne0 : ∀ {b : Addr} {o : HO}, H' b = some o → b ≠ T0 := fun {b o} e z => by
      rw [z, g7] at e
      cases e
    have upK : ∀ b o, H' b = some o → upd H' a (.ext (ExcAt a C dd)) b = some o := fun b o e => (upd_ne (hne e)).trans e
    have J2 : Inv X pins σ' (upd H' a (.ext (ExcAt a C dd))) { s1 with heap := h' } := J.flown (t' := s1.toks) (ch := [a, T0]) fr0
      (fun b hb => by
        rcases List.mem_cons.mp hb with z | z
        · rw [z]; exact ⟨n1, oe, vs, g1, g3⟩
        · rw [List.mem_singleton.mp z]; exact ⟨g6, oT, ts, g8, g9⟩)
      (fun b o hb hf e => lb.keep b o (fun z => hb (by simp [z])) hf ((o1 b fun z => hb (by simp [z])).trans e))
      (fun b o hb e => lb.slot b o (fun z => hb (by simp [z])) ((o1 b fun z => hb (by simp [z])).trans e))
      (fun b o hb e z => (upd_ne fun z => hb (by simp [z])).trans z) (fun b xs e => upK b _ e) (fun b o u e => upK b _ e) (fun b ps e => ⟨#[], by rw [upK b _ e]; simp⟩)
      (fun b o e => by
        by_cases hb : b = a
        · subst hb
          rw [upd_same] at e
          cases e
          exact ⟨x2, ⟨_, q1⟩, fun k1 k2 ⟨o, v, e1, r⟩ k => ⟨o, v, k _ e1, r⟩⟩
        · rw [upd_ne hb] at e
          refine (J.hok b o e).stay (fun c u z hc => ?_) (fun c z => upK c _ z) fun c xs z => upK c _ z
          have hc2 : ∃ o, H' c = some o := z.elim (fun z => ⟨o, by rw [z]; exact e⟩) fun z => ⟨_, z⟩
          obtain ⟨o2, hc2⟩ := hc2
          refine lb.keep c u (hne hc2) (fun hm => ?_) ((o1 c (hne0 hc2)).trans hc)
          have := J.stkFree c hm
          rw [hc2] at this
          cases this)
    refine wpAny_handleBy_cons (codeAny_handlers_test ?_) (by intro q; cases q)
    refine ld_means (X := X.hand a) (J2.hand a) hm (takes_ok J2.kIn x2 tk (codeAny_handlers_suite_as ?_))
    refine flight (s := { s1 with heap := h' }) q1 q4 (by have := (Array.getElem?_eq_some_iff.mp g4).1; simp [this]) t1 t2 t3 fun h'' k1 k2 => ?_
    have J3 : Inv X pins σ' (upd H' a (.ext (ExcAt a C dd))) { s1 with heap := h'' } := J2.flown (t' := s1.toks) (ch := [T]) J.fr0
      (fun b hb => by rw [List.mem_singleton.mp hb]; exact ⟨hT, oT', ts', t1, t2⟩)
      (fun b o hb _ e => (k1 b fun z => hb (by simp [z])).trans e) (fun b o hb e => ⟨o.slots, (k1 b fun z => hb (by simp [z])).trans e⟩) (fun b o _ _ z => z) (fun _ _ z => z) (fun _ _ _ z => z) (fun b ps e => ⟨#[], by rw [e]; simp⟩)
      (fun b o e => by
        refine (J2.hok b o e).stay (fun c u z hc => (k1 c fun q => ?_).trans hc) (fun _ z => z) fun _ _ z => z
        subst q
        have : upd H' a (.ext (ExcAt a C dd)) c = none := (upd_ne hTa).trans uT
        rcases z with z | z
        · rw [z, e] at this
          cases this
        · rw [z] at this
          cases this)
    refine store_ok (X := X.hand a) (J3.hand a) hN hi (.inl hk) (v := .ref a) rfl (fun s4 J4 => ?_) (.inr hk)
    refine wpAny_mono (hs a pins s4 _ _ _ J4 (ht a n2)) (fun f s5 q => ?_) fun _ _ z => z.elim
    cases f with
    | next => obtain ⟨σ5, H5, J5, q5⟩ := q; exact goes_ok (J5.unhand I.ok) hN hi hk fun s6 J6 => ⟨_, _, J6, q5⟩
    | brk => obtain ⟨σ5, H5, J5, q5⟩ := q; exact goes_ok (J5.unhand I.ok) hN hi hk fun s6 J6 => ⟨_, _, J6, q5⟩
    | cont => obtain ⟨σ5, H5, J5, q5⟩ := q; exact goes_ok (J5.unhand I.ok) hN hi hk fun s6 J6 => ⟨_, _, J6, q5⟩
    | ret u => obtain ⟨v, σ5, H5, J5, r5, q5⟩ := q; exact goes_ok (J5.unhand I.ok) hN hi hk fun s6 J6 => ⟨v, _, _, J6, r5, q5⟩
end L2
namespace L2
open PySem PySem.Spec PyProof.Rows

def excGet (K : PySem.W.Frag) (C : Addr) : Bool := PySem.W.findIn K (.ref C) "__getattribute__" == some (some (.builtin "BaseException.__getattribute__")) && PySem.W.findIn K (.ref C) "__getattr__" == some none
  && PySem.W.findIn K (.ref C) "__class__" == some (some (.builtin "object.__class__")) && PySem.W.specialIn K (.builtin "object.__class__") "__get__" == some (some (.builtin "getset_descriptor.__get__"))
  && PySem.W.takesIn K (.builtin "object.__class__") == some true && PySem.W.mroIn K C (.type "object") == some true && PySem.W.mroIn K C (.type "BaseException") == some true && (PySem.W.clsIn K C).isSome
section
variable {prog : Program} {w : World} {A : Around} {E : Value → Shared → Prop} {s : Shared} {K : PySem.W.Frag} {a C : Addr} {ox : Obj} {od : Option Obj}
theorem find_cls (hq : excGet K C = true) : PySem.W.findObj K C od "__class__" = some (.bind (.builtin "getset_descriptor.__get__") (.builtin "object.__class__")) := by
  unfold excGet at hq
  simp only [Bool.and_eq_true, beq_iff_eq] at hq
  obtain ⟨⟨⟨⟨⟨⟨⟨_, _⟩, h3⟩, h4⟩, h5⟩, _⟩, _⟩, h8⟩ := hq
  obtain ⟨cd, hc⟩ := Option.isSome_iff_exists.mp h8
  unfold PySem.W.findObj
  rw [hc, Option.bind_some, h3, Option.bind_some]
  simp [h4, h5]
theorem check_ga {nameV : Value} {Q : Unit → Shared → Prop} (LI : PySem.W.Looks (model prog w) s.heap (isInstance (.ref a) (.type "BaseException")) true) (k : Q () s) : wpAny (model prog w) A (checkBuiltinCall "BaseException.__getattribute__" ⟨[.ref a, nameV], []⟩) Q E s := by
  obtain ⟨hh, g, d, t, os⟩ := s
  have hk : builtinKind "BaseException.__getattribute__" = some .slot := by decide +kernel
  have hsplit : splitId "BaseException.__getattribute__" = some ("BaseException", "__getattribute__") := by decide +kernel
  have ha := F.args_bexc_ga (.ref a) nameV
  simp only [checkBuiltinCall, hk, hsplit]
  refine wpAny_bind (LI.at ?_)
  repeat (first | assumption | wp_step)
theorem ga_body {tk : Tok} {P : Value → Shared → Prop} {g b : Value} (L0 : PySem.W.Looks (model prog w) s.heap (typeOf (.ref a)) (.ref C)) (L3 : PySem.W.Looks (model prog w) s.heap (Builtin.ObjectAttr.find (.ref a) (.ref C) "__class__") (.bind g b)) (h : wpAny (model prog w) A (call g [b, .ref a, .ref C]) P E s) :
    wpAny (model prog w) A (Builtin.«object.__getattribute__» ⟨[.ref a, .str "__class__" tk], []⟩) (fun fin s' => match fin with | .done (.ret v) => P v s' | _ => False) E s := by
  obtain ⟨hh, gg, d, t, os⟩ := s
  unfold Builtin.«object.__getattribute__»
  refine wpAny_bind (wpAny_pure (a := (Value.ref a, [Value.str "__class__" tk])) ?_)
  refine wpAny_bind (wpAny_pure (a := ("__class__" : Str)) ?_)
  refine wpAny_bind (L0.at (wpAny_bind (L3.at ?_)))
  show wpAny _ _ (holding [b] (call g [b, .ref a, .ref C]) >>= ret) _ _ _
  exact wpAny_bind (wpAny_holding (wpAny_mono h (fun v s' z => wpAny_pure z) fun _ _ z => z))
theorem exc_class {Q : Option Value → Shared → Prop} (hq : excGet K C = true) (X : K.In s.heap) (I : PySem.W.InstAt s.heap a ox C od) (h : Q (some (.ref C)) { s with toks := s.toks + 1 }) : wpAny (model prog w) A (getAttr? (.ref a) "__class__") Q E s := by
  have hf := find_cls (od := od) hq
  unfold excGet at hq
  simp only [Bool.and_eq_true, beq_iff_eq] at hq
  obtain ⟨⟨⟨⟨⟨⟨⟨h1, h2⟩, h3⟩, h4⟩, h5⟩, h6⟩, h7⟩, h8⟩ := hq
  obtain ⟨hh, g, d, t, os⟩ := s
  have L0 := I.type (M := model prog w)
  have L1 := PySem.W.looks_findIn (M := model prog w) X h1
  have L2 := PySem.W.looks_findIn (M := model prog w) X h2
  have L3 := PySem.W.looks_find (M := model prog w) X I hf
  have L4 := PySem.W.looks_mroIn (M := model prog w) X h7
  have LI : PySem.W.Looks (model prog w) hh (isInstance (.ref a) (.type "BaseException")) true := L0.andThen L4
  have f3 := F.attr_ValueError.ga.bind (.ref a)
  have hk : builtinKind "BaseException.__getattribute__" = some .slot := by decide +kernel
  have hsplit : splitId "BaseException.__getattribute__" = some ("BaseException", "__getattribute__") := by decide +kernel
  have hx2 : (Value.builtin "BaseException.__getattribute__" == Value.builtin "object.__getattribute__") = false := by decide +kernel
  unfold getAttr? getAttrBy? getAttrBy
  refine wpAny_bind (wpAny_mkText (wpAny_bind (wpAny_attempt (wpAny_holding (wpAny_bind (L0.at (wpAny_bind (L1.at ?_))))))))
  simp only [hx2, Bool.and_false, Bool.false_eq_true, if_false]
  unfold getAttrByItsOwn hookBefore
  simp only [onTheHeap, if_true]
  refine wpAny_bind (L2.at ?_)
  refine wpAny_bind (wpAny_attempt (wpAny_holding ?_))
  unfold callGetattribute boundAndCalled
  simp only [Bool.false_and, Bool.false_eq_true, if_false]
  rw [f3]
  refine wpAny_bind (wpAny_pure ?_)
  refine wpAny_call (codeAny_call_builtin F.attr_ValueError.ga.plain F.entry_bexc_ga (check_ga (s := ⟨hh, g, d, t + 1, os⟩) LI ?_))
  refine wpAny_mono (ga_body (s := ⟨hh, g, d, t + 1, os⟩) (P := fun v s' => v = .ref C ∧ s' = ⟨hh, g, d, t + 1, os⟩) (E := fun _ _ => False) L0 L3 (wpAny_call (PySem.W.class_get (s := ⟨hh, g, d, t + 1, os⟩) (ox := ox) (od := od) X I h6 ⟨rfl, rfl⟩))) (fun fin s' z => ?_) fun _ _ z => z.elim
  rcases fin with (_ | _ | _ | _) | _ <;> first | (obtain ⟨rfl, rfl⟩ := z; exact PySem.W.handed_on rfl (wpAny_pure h)) | exact z.elim

theorem kitx_exc (hq : excGet K C = true) : PySem.W.KitX K (.ref a) (.ref C) (ExcAt a C none) where
  ty := fun _ _ _ ⟨oe, vs, ge, ce, _, _⟩ => ce ▸ (PySem.W.Looks.ld ge).andThen .now
  it := fun _ _ X _ => by
    unfold excGet at hq
    simp only [Bool.and_eq_true, beq_iff_eq] at hq
    have hcD := hq.2
    unfold PySem.W.clsIn at hcD
    split at hcD
    · rename_i c' d' cd' sl' ho
      intro A' Q' E' s' k q
      unfold isType loadHead
      exact wpAny_bind (wpAny_loadPart (k _ _ (X _ _ ho)) (wpAny_pure q))
    · cases hcD
  ne := fun h tp dd its n sl X htp => by
    unfold excGet at hq
    simp only [Bool.and_eq_true, beq_iff_eq] at hq
    have hcD := hq.2
    refine Bool.eq_false_iff.mpr fun q => ?_
    have e : C = tp := Value.ref.inj (beq_iff_eq.mp q)
    subst e
    unfold PySem.W.clsIn at hcD
    split at hcD
    · rename_i c' d' cd' sl' ho
      have z := (X _ _ ho).symm.trans htp
      cases z
    · cases hcD
  ca := fun X ⟨oe, vs, ge, ce, de, da⟩ k => exc_class hq X (ox := oe) (od := none) ⟨ge, ce, by unfold PySem.W.notCls; rw [da], by rw [de]; trivial⟩ k
end

def clsV : V → Value
  | .ref D => .ref D
  | .ty T => .type T
  | _ => .none

def rIsX (K : PySem.W.Frag) : List V → Hp → VK → Prop := fun xs H Q => ∃ a c C b, xs = [.ref a, c] ∧ H a = some (.ext (ExcAt a C none)) ∧ excGet K C = true ∧ PySem.W.kitOne K (.ref C) (clsV c) = some b ∧ Q (.bl b) H
theorem call_isinstX {X : Cx} : CallR X (.builtin "isinstance") (rIsX X.K) := by
  intro pins s σ H xs us Q I r h
  obtain ⟨a, c, C, b, rfl, ha, hq, e, q⟩ := h
  obtain ⟨u, v, rfl, rx, ry⟩ := r.two
  cases (show u = Value.ref a from rx)
  have x : ExcAt a C none s.heap := (show ObjOk X.prog X.w H s.heap a (.ext (ExcAt a C none)) from I.hok a _ ha).1
  have hv : PySem.W.kitOne X.K (.ref C) v = some b := by
    cases c with
    | ref D => cases (show v = Value.ref D from ry); exact e
    | ty T => cases (show v = Value.type T from ry); exact e
    | _ => simp [clsV, PySem.W.kitOne, PySem.W.kitCls] at e
  exact PySem.W.kia_one (kitx_exc hq) I.kIn x hv (fun z => nomatch z) fun tk => ⟨.bl b, H, I.tok tk, rfl, q⟩
end L2

namespace L2
open PySem
end L2
namespace QL
open PySem L2
structure Txt (mg : Str → Option Value) : Prop where
  len : mg "len" = none
  range : mg "range" = none
  tuple : mg "tuple" = none
  isin : mg "isinstance" = none
  str : mg "str" = none
  list : mg "list" = none
  int : mg "int" = none
  bool : mg "bool" = none
  all : mg "all" = none
  min : mg "min" = none
  max : mg "max" = none
theorem some_at {α : Type} (l : List α) (i : Int) (h0 : 0 ≤ i) (h : i < (l.length : Int)) : ∃ x, l[i.toNat]? = some x := by
  have h' : i.toNat < l.length := by omega
  exact ⟨l[i.toNat], by simp [h']⟩
theorem atI_some {α : Type} (l : List α) (i : Int) (h0 : 0 ≤ i) (h : i < (l.length : Int)) : ∃ x, x ∈ l ∧ atI l i = some x := by
  obtain ⟨x, e⟩ := some_at l i h0 h
  refine ⟨x, List.mem_of_getElem? e, ?_⟩
  have z : i = ((i.toNat : Nat) : Int) := by omega
  rw [z]
  exact atI_nat e
def txB (n : Nat) (z : Str) : Bool := decide (z.length ≤ n) && z.cps.toList.all fun c => decide (c < 128)
theorem txK {n : Nat} {z : Str} (h : txB n z = true) : Tx n z := by
  unfold txB at h
  rw [Bool.and_eq_true] at h
  exact ⟨of_decide_eq_true h.1, fun c hc => of_decide_eq_true (List.all_eq_true.mp h.2 c hc)⟩
theorem ifb {c : Bool} {A B : Prop} (h1 : A) (h2 : B) : if c = true then A else B := by
  cases c with
  | true => exact iteT h1
  | false => exact iteF h2
theorem log_ok {i : Int} (h0 : 0 ≤ i) (h1 : i < 10 ^ 10) : i.natAbs.log2 < 1920 := by
  by_cases z : i.natAbs = 0
  · rw [z]
    decide
  · have q : i.natAbs.log2 < 34 := (Nat.log2_lt z).mpr (by
      have : i.natAbs < 10 ^ 10 := by omega
      exact Nat.lt_trans this (by decide))
    omega
theorem len_sm {n : Nat} {z : Str} (h : Tx n z) (hn : n ≤ 1000) : z.length ≤ sizeLine := Nat.le_of_lt (small1000 (Nat.le_trans h.1 hn))
theorem len2_sm {n m : Nat} {y z : Str} (h : Tx n y) (k : Tx m z) (hn : n + m ≤ 1000) : y.length + z.length ≤ sizeLine := Nat.le_of_lt (small1000 (Nat.le_trans (Nat.add_le_add h.1 k.1) hn))
theorem cps_len (z : Str) : z.cps.toList.length = z.length := by
  rw [Array.length_toList]
  rfl
theorem cut_mem {xs : List V} {lo hi : Option Int} {v : V} (h : v ∈ cutV xs lo hi) : v ∈ xs := by
  unfold cutV at h
  exact List.mem_of_mem_drop (List.mem_of_mem_take h)
theorem ints_at {K : PySem.W.Frag} {H : Hp} : ∀ ns : List Int, DsAt K H (ns.map V.int) (ns.map PyData.int)
  | [] => .nil
  | n :: ns => .cons (.int n) (ints_at ns)
theorem ints_lay : ∀ ns : List Int, PyData.canLayAll0 (ns.map PyData.int) = true
  | [] => rfl
  | n :: ns => by
    rw [List.map_cons, PyData.canLayAll0, ints_lay ns]
    rfl
theorem ints_depth : ∀ ns : List Int, PyData.depthAll (ns.map PyData.int) = 0
  | [] => rfl
  | n :: ns => by
    rw [List.map_cons, PyData.depthAll, ints_depth ns]
    rfl
theorem intsL_ok (ns : List Int) : DOk (.list (ns.map PyData.int)) := ⟨ints_lay ns, by
  rw [PyData.depth, ints_depth]
  decide⟩

abbrev Ent := Int × List Str
def EOk (e : Ent) : Prop := 0 ≤ e.1 ∧ e.1 ≤ 8 ∧ e.2.length ≤ 8 ∧ ∀ x ∈ e.2, Tx 60 x
def EntsAt (H : Hp) (qs : List Addr) (es : List Ent) : Prop := qs.length = es.length ∧ ∀ (i : Nat) (e : Ent), es[i]? = some e → ∃ q z, qs[i]? = some q ∧ H q = some (.tup [.int e.1, .ref z]) ∧ H z = some (.tup (e.2.map V.str))
theorem EntsAt.nil {H : Hp} : EntsAt H [] [] := ⟨rfl, fun i e h => by simp at h⟩
theorem EntsAt.tsame {H H' : Hp} {qs : List Addr} {es : List Ent} (h : EntsAt H qs es) (s : TSame H H') : EntsAt H' qs es := ⟨h.1, fun i r e => by
  obtain ⟨q, z, h1, h2, h3⟩ := h.2 i r e
  exact ⟨q, z, h1, s _ _ h2, s _ _ h3⟩⟩
theorem EntsAt.snoc {H : Hp} {qs : List Addr} {fs : List Ent} {e : Ent} {q z : Addr} (h : EntsAt H qs fs) (h1 : H q = some (.tup [.int e.1, .ref z])) (h2 : H z = some (.tup (e.2.map V.str))) : EntsAt H (qs ++ [q]) (fs ++ [e]) := by
  refine ⟨by rw [List.length_append, List.length_append, h.1]; rfl, fun i r er => ?_⟩
  by_cases hlt : i < fs.length
  · rw [List.getElem?_append_left hlt] at er
    obtain ⟨q', z', g1, g2, g3⟩ := h.2 i r er
    exact ⟨q', z', by rw [List.getElem?_append_left (by rw [h.1]; exact hlt)]; exact g1, g2, g3⟩
  · rw [List.getElem?_append_right (by omega)] at er
    have hi : i - fs.length = 0 := by
      cases g : i - fs.length with
      | zero => rfl
      | succ n => rw [g] at er; simp at er
    rw [hi] at er
    cases er
    refine ⟨q, z, ?_, h1, h2⟩
    have : i = qs.length := by rw [h.1]; omega
    rw [this, List.getElem?_append_right (Nat.le_refl _), Nat.sub_self]
    rfl

def LogAt (H : Hp) (t : Addr) (es : List Ent) : Prop := ∃ qs, H t = some (.tup (qs.map V.ref)) ∧ EntsAt H qs es
theorem LogAt.tsame {H H' : Hp} {t : Addr} {es : List Ent} (h : LogAt H t es) (s : TSame H H') : LogAt H' t es := by
  obtain ⟨qs, h1, h2⟩ := h
  exact ⟨qs, s _ _ h1, h2.tsame s⟩
theorem LogAt.same {H H' : Hp} {t : Addr} {es : List Ent} (h : LogAt H t es) (s : Same H H') : LogAt H' t es := h.tsame s.tups

def spCe (K : PySem.W.Frag) : Sp := fun vs H Q _ => ∃ (a : Addr) (ns : List Int) (k : Int), vs = [.ref a, .int k] ∧ SqL K H a (ns.map V.int) ∧ ns.length ≤ 1000 ∧ 0 ≤ k ∧ k ≤ 2000 ∧ ∀ (z : Int) (H' : Hp), Same H H' → Q (.int z) H'
def spMi : Sp := fun vs H Q _ => ∃ (c k : Int), vs = [.int c, .int k] ∧ 0 ≤ k ∧ k ≤ 1000 ∧ ∀ z : Int, 0 ≤ z → Q (.int z) H
def spPo : Sp := fun vs H Q _ => ∃ (c o : Int), vs = [.int c, .int o] ∧ ∀ (l : Addr) (ws : List Str) (H' : Hp), Same H H' → H' l = some (.lst (ws.map V.str)) → ws.length = 5 → (∀ x ∈ ws, Tx 60 x) → Q (.ref l) H'
def spLe : Sp := fun vs H Q _ => ∃ c : Int, vs = [.int c] ∧ ∀ (l : Addr) (ns : List Int) (H' : Hp), Same H H' → H' l = some (.lst (ns.map V.int)) → ns.length = 3 → (∀ x ∈ ns, 0 ≤ x ∧ x ≤ 8) → Q (.ref l) H'
def spEn : Sp := fun vs H Q _ => ∃ (c : Int) (a b : Addr) (ns : List Int) (ws : List Str), vs = [.int c, .ref a, .ref b] ∧ H a = some (.lst (ns.map V.int)) ∧ ns.length = 3 ∧ (∀ x ∈ ns, 0 ≤ x ∧ x ≤ 8) ∧ H b = some (.lst (ws.map V.str)) ∧ ws.length = 5 ∧ (∀ x ∈ ws, Tx 60 x) ∧
  ∀ (q z : Addr) (e : Ent) (H' : Hp), Same H H' → H' q = some (.tup [.int e.1, .ref z]) → H' z = some (.tup (e.2.map V.str)) → EOk e → Q (.ref q) H'
def spLg (K : PySem.W.Frag) : Sp := fun vs H Q _ => ∃ (s a b : Addr) (cs ns : List Int) (ws : List Str), vs = [.ref s, .ref a, .ref b] ∧ SqL K H s (cs.map V.int) ∧ cs.length ≤ 63 ∧ H a = some (.lst (ns.map V.int)) ∧ ns.length = 3 ∧ (∀ x ∈ ns, 0 ≤ x ∧ x ≤ 8) ∧ H b = some (.lst (ws.map V.str)) ∧ ws.length = 5 ∧ (∀ x ∈ ws, Tx 60 x) ∧
  ∀ (t : Addr) (es : List Ent) (H' : Hp), Same H H' → LogAt H' t es → es.length ≤ 63 → (∀ e ∈ es, EOk e) → Q (.ref t) H'
section
variable {P : Program} {w : World} {K : PySem.W.Frag} {mg : Str → Option Value} {base : Heap}
theorem scCe : FnScope ["_law_script", "_law_k"] ["_law_script", "_law_k"] (defScope sCe) := ⟨rfl, rfl, rfl, by decide +kernel, rfl, by decide +kernel, by decide +kernel⟩
theorem ok_ce {f : Addr} {fd : FuncData} (F : Fun K "_law_cell_at" "_law_cell_at" sCe f fd) (T : Txt mg) : FnOk P w K mg base CX0 1 f fd ["_law_script", "_law_k"] (spCe K) := by
  refine F.ok scCe (fun vs H Q E h => ?_) (fun cdv A outer s H vs Q E hr h => ?_)
  · obtain ⟨a, ns, k, rfl, _⟩ := h
    rfl
  · obtain ⟨a, ns, k, rfl, hS, hln, k0, k1, kk⟩ := h
    refine ⟨_, pss_cons (ps_if (pt_cmpR op_lt (pv 1) (pe_callB call_len_seq (by rfl) T.len PySem.boot_len (pa_cons (pv 0) pa_nil)) (nomark _)) (pss_one (ps_ret (pe_ix ix_list (pv 0) (pv 1) (fun _ _ => rfl)))) pss_nil)
      (pss_one (ps_ret (pe_op op_mod (pe_op op_mul (pe_op op_add (pe_op op_mod (pe_ix ix_list (pe_op op_catL (pv 0) (pe_lst (pa_cons pe_int pa_nil))) pe_int (fun _ _ => rfl)) pe_int) pe_int) (pe_op op_add (pe_op op_mul (pv 1) (pv 1)) pe_int)) pe_int))), ?_⟩
    refine ⟨_, rfl, _, rfl, a, _, rfl, .inl hS, _, _, rfl, rfl, _, rfl, ?_⟩
    refine ite2 (fun hlt => ?_) (fun hge => ?_)
    · have hlt' : k < ((ns.map V.int).length : Int) := of_decide_eq_true hlt
      obtain ⟨x, hx, ex⟩ := atI_some (ns.map V.int) k k0 hlt'
      obtain ⟨z, _, rfl⟩ := List.mem_map.mp hx
      exact ⟨_, rfl, _, rfl, a, _, _, _, rfl, rfl, hS, ex, kk z H (Same.refl H)⟩
    · refine ⟨_, rfl, (by show 1 ≤ sizeLine; decide), fun l hl => ?_⟩
      have s1 : Same H (upd H l (.lst [.int 0])) := (Same.refl H).upd_free hl
      refine ⟨a, l, _, _, rfl, rfl, s1.seq hS, SqL.of upd_same, ?_, fun p hp => ?_⟩
      · rw [List.length_map]
        exact Nat.le_of_lt (small9 (by show ns.length + 1 ≤ 100000; omega))
      have s2 : Same H (upd (upd H l (.lst [.int 0])) p (.lst (ns.map V.int ++ [.int 0]))) := s1.upd_free (s1.free hp)
      obtain ⟨x, hx, ex⟩ := atI_some (ns.map V.int ++ [V.int 0]) 0 (Int.le_refl 0) (by simp)
      obtain ⟨z, rfl⟩ : ∃ z, x = V.int z := by
        rcases List.mem_append.mp hx with q | q
        · obtain ⟨z, _, e⟩ := List.mem_map.mp q
          exact ⟨z, e.symm⟩
        · exact ⟨0, by simpa using q⟩
      refine ⟨p, _, _, .int z, rfl, rfl, SqL.of upd_same, ex, _, _, rfl, rfl, (by show (0 : Int) < 1000003; decide), _, _, rfl, rfl, _, rfl, _, rfl, _, _, rfl, rfl, .inl ⟨by omega, by omega⟩, _, _, rfl, rfl, _, _, rfl, rfl, .inl ⟨by omega, by omega⟩, _, _, rfl, rfl, (by show (0 : Int) < 2147483647; decide), kk _ _ s2⟩
theorem scMi : FnScope ["_law_cell", "_law_k"] ["_law_cell", "_law_k"] (defScope sMi) := ⟨rfl, rfl, rfl, by decide +kernel, rfl, by decide +kernel, by decide +kernel⟩
theorem ok_mi {f : Addr} {fd : FuncData} (F : Fun K "_law_mix" "_law_mix" sMi f fd) : FnOk P w K mg base CX0 1 f fd ["_law_cell", "_law_k"] spMi := by
  refine F.ok scMi (fun vs H Q E h => ?_) (fun cdv A outer s H vs Q E hr h => ?_)
  · obtain ⟨c, k, rfl, _⟩ := h
    rfl
  · obtain ⟨c, k, rfl, k0, k1, kk⟩ := h
    refine ⟨_, pss_one (ps_ret (pe_op op_mod (pe_op op_mul (pe_op op_add (pe_op op_mod (pv 0) pe_int) pe_int) (pe_op op_add pe_int (pe_op op_mul (pe_op op_mul pe_int (pv 1)) (pv 1)))) pe_int)), ?_⟩
    refine ⟨_, rfl, _, _, rfl, rfl, (by show (0 : Int) < 1000000007; decide), _, _, rfl, rfl, _, rfl, _, _, rfl, rfl, .inl ⟨by decide, by decide⟩, _, rfl, _, _, rfl, rfl, .inl ⟨by omega, by omega⟩, _, _, rfl, rfl, _, _, rfl, rfl, .inl ⟨by omega, by omega⟩, _, _, rfl, rfl, (by show (0 : Int) < 2147483647; decide), ?_⟩
    exact kk _ (Int.emod_nonneg _ (by decide))
theorem scPo : FnScope ["_law_cell", "_law_other", "_law_small", "_law_size", "_law_name", "_law_k", "_law_at", "_law_turned", "_law_number", "_law_items"] ["_law_cell", "_law_other"] (defScope sPo) := ⟨rfl, rfl, rfl, by decide +kernel, rfl, by decide +kernel, by decide +kernel⟩
theorem ok_po {f fM : Addr} {fd fdM : FuncData} (F : Fun K "_law_pool" "_law_pool" sPo f fd) (T : Txt mg) (FM : Fun K "_law_mix" "_law_mix" sMi fM fdM) (bM : Binds K fdM ["_law_cell", "_law_k"] []) (gM : mg "_law_mix" = some (.ref fM)) :
    FnOk P w K mg base CX0 2 f fd ["_law_cell", "_law_other"] spPo := by
  have GM : FnOk P w K mg base CX0 1 fM fdM ["_law_cell", "_law_k"] spMi := ok_mi FM
  refine F.ok scPo (fun vs H Q E h => ?_) (fun cdv A outer s H vs Q E hr h => ?_)
  · obtain ⟨c, o, rfl, _⟩ := h
    rfl
  · obtain ⟨c, o, rfl, k⟩ := h
    refine ⟨_, pss_cons (ps_set (i := 2) scPo.nd rfl (Or.inl rfl) pe_str)
      (pss_cons (ps_set (i := 3) scPo.nd rfl (Or.inl rfl) (pe_op op_add pe_int (pe_op op_mod (pv 0) pe_int)))
      (pss_cons (ps_set (i := 4) scPo.nd rfl (Or.inl rfl) (pe_ix ix_str (pv 2) (pe_op op_mod (pe_op op_fdiv (pv 0) pe_int) pe_int) (fun _ _ => rfl)))
      (pss_cons (ps_for PassesOwn.never rfl (pi_range1 rfl T.range (pa_cons (pe_op op_sub (pv 3) pe_int) pa_nil)) (pg_name (i := 5) scPo.nd rfl (Or.inl rfl))
        (pss_one (ps_set (i := 4) scPo.nd rfl (Or.inl rfl) (pe_op op_add_str (pv 4) (pe_ix ix_str (pe_op op_add_str (pv 2) pe_str) (pe_op op_mod (pe_call GM hr rfl gM FM.kp bM .nil pass0 (pa_cons (pv 0) (pa_cons (pe_op op_add (pv 5) pe_int) pa_nil))) pe_int) (fun _ _ => rfl))))))
      (pss_cons (ps_set (i := 6) scPo.nd rfl (Or.inl rfl) (pe_op op_mod (pv 1) (pv 3)))
      (pss_cons (ps_set (i := 7) scPo.nd rfl (Or.inl rfl) (pe_op op_mod (pe_op op_fdiv (pv 1) pe_int) pe_int))
      (pss_cons (ps_cut (ps_if (pt_cmpR op_eq (pe_ix ix_str (pv 2) (pv 7) (fun _ _ => rfl)) (pe_ix ix_str (pv 4) (pv 6) (fun _ _ => rfl)) (nomark _)) (pss_one (ps_set (i := 7) scPo.nd rfl (Or.inl rfl) (pe_op op_mod (pe_op op_add (pv 7) pe_int) pe_int))) pss_nil))
      (pss_cons (ps_set (i := 8) scPo.nd rfl (Or.inl rfl) (pe_callTy call_str_int (by rfl) T.str PyProof.Rows.boot_str (pa_cons (pe_op op_mod (pe_op op_fdiv (pv 1) pe_int) pe_int) pa_nil)))
      (pss_cons (ps_cut (ps_set (i := 9) scPo.nd rfl (Or.inl rfl) (pe_ix ix_list (pe_lst (pa_cons (pe_op op_add_str (pe_op op_add_str (pe_op op_add_str (pe_op op_add_str pe_str (pv 4)) pe_str) (pv 8)) pe_str) (pa_cons pe_str pa_nil))) (pe_op op_mod (pv 1) pe_int) (fun _ _ => rfl))))
      (pss_one (ps_ret (pe_lst (pa_cons (pv 4) (pa_cons (pe_op op_add_str (pe_op op_add_str (pe_slice sl_str (pv 4) po_none (po_some (pv 6))) (pe_ix ix_str (pv 2) (pv 7) (fun _ _ => rfl))) (pe_slice sl_str (pv 4) (po_some (pe_op op_add (pv 6) pe_int)) po_none))
        (pa_cons (pv 8) (pa_cons (pv 9) (pa_cons (pe_op op_add_str (pe_slice sl_str (pv 4) po_none (po_some pe_int)) pe_str) pa_nil)))))))))))))))), ?_⟩
    have dig : Tx 10 (Str.ofString "0123456789") := txK (by decide +kernel)
    have sml : Tx 26 (Str.ofString "abcdefghijklmnopqrstuvwxyz") := txK (by decide +kernel)
    have e26 : (Str.ofString "abcdefghijklmnopqrstuvwxyz").length = 26 := by decide +kernel
    have e36 : (Str.ofString "abcdefghijklmnopqrstuvwxyz" ++ Str.ofString "0123456789").length = 36 := by decide +kernel
    obtain ⟨ch, hch, ech⟩ := atI_some (Str.ofString "abcdefghijklmnopqrstuvwxyz").cps.toList (c / 12 % 26) (by omega) (by rw [cps_len, e26]; omega)
    refine ⟨_, rfl, _, _, rfl, rfl, (by show (0 : Int) < 12; decide), _, _, rfl, rfl, ?_⟩
    refine ⟨_, rfl, _, rfl, _, _, rfl, rfl, ⟨by decide, by decide⟩, _, _, rfl, rfl, (by show (0 : Int) < 26; decide), _, _, ch, rfl, rfl, len_sm sml (by decide), ech, ?_⟩
    refine ⟨_, rfl, _, _, rfl, rfl, _, rfl, by omega, by omega, ?_⟩
    refine for_range (n := (1 + c % 12 - 1).toNat) (fun i σ H2 => ∃ (nm : Str) (v : Option V), H2 = H ∧ σ = [some (.int c), some (.int o), some (.str (Str.ofString "abcdefghijklmnopqrstuvwxyz")), some (.int (1 + c % 12)), some (.str nm), v, none, none, none, none] ∧ Tx (i + 1) nm ∧ nm.length = i + 1)
      ⟨⟨#[ch]⟩, none, rfl, rfl, sml.sign ech, rfl⟩ ?_ ?_
    · rintro i σ H2 hi ⟨nm, v, rfl, rfl, tn, ln⟩
      refine ⟨_, rfl, _, rfl, _, _, rfl, rfl, len2_sm sml dig (by decide), _, rfl, _, rfl, _, _, rfl, rfl, c, _, rfl, by omega, by omega, fun z z0 => ?_⟩
      obtain ⟨ch2, hch2, ech2⟩ := atI_some (Str.ofString "abcdefghijklmnopqrstuvwxyz" ++ Str.ofString "0123456789").cps.toList (z % 36) (by omega) (by rw [cps_len, e36]; omega)
      have tc : Tx 1 (⟨#[ch2]⟩ : Str) := (sml.app dig).sign ech2
      refine ⟨_, _, rfl, rfl, (by show (0 : Int) < 36; decide), _, _, ch2, rfl, rfl, len_sm (sml.app dig) (by decide), ech2, _, _, rfl, rfl, len2_sm tn tc (by omega), ?_⟩
      refine ⟨nm ++ ⟨#[ch2]⟩, _, rfl, rfl, tn.app tc, ?_⟩
      rw [Str.length_append, ln]
      rfl
    · rintro σ H2 ⟨nm, v, rfl, rfl, tn, ln⟩
      have tn' : Tx 12 nm := tn.mono (by omega)
      have lz : (nm.length : Int) = 1 + c % 12 := by omega
      refine ⟨_, rfl, _, rfl, _, _, rfl, rfl, (by omega), ?_⟩
      refine ⟨_, rfl, _, _, rfl, rfl, ⟨by decide, by decide⟩, _, _, rfl, rfl, (by show (0 : Int) < 26; decide), ?_⟩
      have a0 : 0 ≤ o % (1 + c % 12) := Int.emod_nonneg _ (by omega)
      have a1 : o % (1 + c % 12) < nm.length := by rw [lz]; exact Int.emod_lt_of_pos _ (by omega)
      refine ⟨fun σ' H' => ∃ t : Int, 0 ≤ t ∧ t < 26 ∧ H' = H2 ∧ σ' = [some (.int c), some (.int o), some (.str (Str.ofString "abcdefghijklmnopqrstuvwxyz")), some (.int (1 + c % 12)), some (.str nm), v, some (.int (o % (1 + c % 12))), some (.int t), none, none], ?_, ?_⟩
      · obtain ⟨ch3, _, ech3⟩ := atI_some (Str.ofString "abcdefghijklmnopqrstuvwxyz").cps.toList (o / 12 % 26) (by omega) (by rw [cps_len, e26]; omega)
        obtain ⟨ch4, _, ech4⟩ := atI_some nm.cps.toList (o % (1 + c % 12)) a0 (by rw [cps_len]; exact a1)
        refine ⟨_, rfl, _, rfl, _, _, ch3, rfl, rfl, len_sm sml (by decide), ech3, _, rfl, _, rfl, _, _, ch4, rfl, rfl, len_sm tn' (by decide), ech4, rfl, _, rfl, ?_⟩
        refine ifb ?_ ?_
        · exact ⟨_, rfl, _, _, rfl, rfl, _, _, rfl, rfl, (by show (0 : Int) < 26; decide), (o / 12 % 26 + 1) % 26, by omega, by omega, rfl, rfl⟩
        · exact ⟨o / 12 % 26, by omega, by omega, rfl, rfl⟩
      rintro σ' H' ⟨t, t0, t1, rfl, rfl⟩
      have nu := Tx.num (m := o / 7 % 1000000000) (by omega) (by omega)
      refine ⟨_, rfl, _, _, rfl, rfl, ⟨by decide, by decide⟩, _, _, rfl, rfl, (by show (0 : Int) < 1000000000; decide), _, rfl, log_ok (by omega) (by omega), ?_⟩
      generalize hnum : Str.ofString (toString (o / 7 % 1000000000)) = num at nu
      have tl : Tx 1 (Str.ofString "[") := txK (by decide +kernel)
      have tr : Tx 1 (Str.ofString "]") := txK (by decide +kernel)
      have tc : Tx 1 (Str.ofString ",") := txK (by decide +kernel)
      have te : Tx 1 (Str.ofString "=") := txK (by decide +kernel)
      have tb : Tx 2 (Str.ofString "[]") := txK (by decide +kernel)
      refine ⟨fun σ' H3 => ∃ it : Str, Tx 60 it ∧ Same H' H3 ∧ σ' = [some (.int c), some (.int o), some (.str (Str.ofString "abcdefghijklmnopqrstuvwxyz")), some (.int (1 + c % 12)), some (.str nm), v, some (.int (o % (1 + c % 12))), some (.int t), some (.str num), some (.str it)], ?_, ?_⟩
      · refine ⟨_, rfl, _, _, rfl, rfl, len2_sm tl tn' (by decide), _, _, rfl, rfl, len2_sm (tl.app tn') tc (by decide), _, rfl, _, _, rfl, rfl, len2_sm ((tl.app tn').app tc) nu (by decide), _, _, rfl, rfl, len2_sm (((tl.app tn').app tc).app nu) tr (by decide), (by show 2 ≤ sizeLine; decide), fun l hl => ?_⟩
        have s1 := (Same.refl H').upd_free (o := .lst [V.str (Str.ofString "[" ++ nm ++ Str.ofString "," ++ num ++ Str.ofString "]"), V.str (Str.ofString "[]")]) hl
        obtain ⟨x, hx, ex⟩ := atI_some [V.str (Str.ofString "[" ++ nm ++ Str.ofString "," ++ num ++ Str.ofString "]"), V.str (Str.ofString "[]")] (o % 2) (by omega) (by show o % 2 < 2; omega)
        obtain ⟨it, rfl, ti⟩ : ∃ it : Str, x = .str it ∧ Tx 60 it := by
          simp only [List.mem_cons, List.not_mem_nil, or_false] at hx
          rcases hx with rfl | rfl
          · exact ⟨_, rfl, (((((tl.app tn').app tc).app nu).app tr)).mono (by decide)⟩
          · exact ⟨_, rfl, tb.mono (by decide)⟩
        exact ⟨_, rfl, _, _, rfl, rfl, (by show (0 : Int) < 2; decide), l, _, _, _, rfl, rfl, SqL.of upd_same, ex, it, ti, s1, rfl⟩
      rintro σ' H3 ⟨it, ti, s3, rfl⟩
      obtain ⟨ch5, _, ech5⟩ := atI_some (Str.ofString "abcdefghijklmnopqrstuvwxyz").cps.toList t t0 (by rw [cps_len, e26]; omega)
      have tch : Tx 1 (⟨#[ch5]⟩ : Str) := sml.sign ech5
      have ta := tn'.slice none (some (o % (1 + c % 12)))
      have tz := tn'.slice (some (o % (1 + c % 12) + 1)) none
      have t11 := tn'.slice none (some 11)
      refine ⟨_, rfl, _, rfl, _, rfl, _, rfl, nm, rfl, len_sm tn' (by decide), _, rfl, _, rfl, _, _, ch5, rfl, rfl, len_sm sml (by decide), ech5, _, _, rfl, rfl, len2_sm ta tch (by decide), ?_⟩
      refine ⟨_, rfl, _, rfl, _, _, rfl, rfl, _, rfl, nm, rfl, len_sm tn' (by decide), _, _, rfl, rfl, len2_sm (ta.app tch) tz (by decide), _, rfl, _, rfl, _, rfl, _, rfl, nm, rfl, len_sm tn' (by decide), _, _, rfl, rfl, len2_sm t11 te (by decide), (by show 5 ≤ sizeLine; decide), fun l hl => ?_⟩
      refine k l [nm, Txt.slice nm none (some (o % (1 + c % 12))) ++ ⟨#[ch5]⟩ ++ Txt.slice nm (some (o % (1 + c % 12) + 1)) none, num, it, Txt.slice nm none (some 11) ++ Str.ofString "="] _ (s3.upd_free (s3.free hl)) upd_same rfl fun x hx => ?_
      simp only [List.mem_cons, List.not_mem_nil, or_false] at hx
      rcases hx with rfl | rfl | rfl | rfl | rfl
      · exact tn'.mono (by decide)
      · exact ((ta.app tch).app tz).mono (by decide)
      · exact nu.mono (by decide)
      · exact ti
      · exact (t11.app te).mono (by decide)
theorem scLe : FnScope ["_law_cell", "_law_first"] ["_law_cell"] (defScope sLe) := ⟨rfl, rfl, rfl, by decide +kernel, rfl, by decide +kernel, by decide +kernel⟩
theorem ok_le {f : Addr} {fd : FuncData} (F : Fun K "_law_letters" "_law_letters" sLe f fd) : FnOk P w K mg base CX0 1 f fd ["_law_cell"] spLe := by
  refine F.ok scLe (fun vs H Q E h => ?_) (fun cdv A outer s H vs Q E hr h => ?_)
  · obtain ⟨c, rfl, _⟩ := h
    rfl
  · obtain ⟨c, rfl, k⟩ := h
    refine ⟨_, pss_cons (ps_set (i := 1) scLe.nd rfl (Or.inl rfl) (pe_op op_mod (pv 0) pe_int))
      (pss_one (ps_ret (pe_lst (pa_cons (pv 1) (pa_cons (pe_op op_mod (pe_op op_add (pe_op op_add (pv 1) pe_int) (pe_op op_mod (pe_op op_fdiv (pv 0) pe_int) pe_int)) pe_int) (pa_cons (pe_op op_mod (pe_op op_fdiv (pv 0) pe_int) pe_int) pa_nil)))))), ?_⟩
    refine ⟨_, rfl, _, _, rfl, rfl, (by show (0 : Int) < 9; decide), ?_⟩
    refine ⟨_, rfl, _, rfl, _, _, rfl, rfl, _, rfl, _, _, rfl, rfl, ⟨by decide, by decide⟩, _, _, rfl, rfl, (by show (0 : Int) < 8; decide), _, _, rfl, rfl, _, _, rfl, rfl, (by show (0 : Int) < 9; decide), _, rfl, _, _, rfl, rfl, ⟨by decide, by decide⟩, _, _, rfl, rfl, (by show (0 : Int) < 9; decide), (by show 3 ≤ sizeLine; decide), fun l hl => ?_⟩
    refine k l [c % 9, (c % 9 + 1 + c / 9 % 8) % 9, c / 72 % 9] _ ((Same.refl H).upd_free hl) upd_same rfl fun x hx => ?_
    simp only [List.mem_cons, List.not_mem_nil, or_false] at hx
    rcases hx with rfl | rfl | rfl <;> omega
theorem scEn : FnScope ["_law_cell", "_law_letters_here", "_law_pool_here", "_law_size"] ["_law_cell", "_law_letters_here", "_law_pool_here"] (defScope sEn) := ⟨rfl, rfl, rfl, by decide +kernel, rfl, by decide +kernel, by decide +kernel⟩
def scopeE : Scope := { kind := .function, names := [(".0", .local), ("_law_k", .local), ("_law_mix", .globalImplicit), ("_law_cell", .free), ("_law_pool_here", .free)], isGenerator := false, isCoroutine := false, more := [] }
theorem scE : BlkScope (defScope sEn) ["_law_cell", "_law_letters_here", "_law_pool_here", "_law_size"] ["_law_k"] ["_law_cell", "_law_pool_here"] [0, 2] scopeE := ⟨rfl, by decide +kernel, by decide +kernel, by decide +kernel, rfl, by decide +kernel, by decide +kernel⟩
theorem ok_en {f fM : Addr} {fd fdM : FuncData} (F : Fun K "_law_entry" "_law_entry" sEn f fd) (T : Txt mg) (FM : Fun K "_law_mix" "_law_mix" sMi fM fdM) (bM : Binds K fdM ["_law_cell", "_law_k"] []) (gM : mg "_law_mix" = some (.ref fM)) :
    FnOk P w K mg base CX0 2 f fd ["_law_cell", "_law_letters_here", "_law_pool_here"] spEn := by
  have GM : FnOk P w K mg base CX0 1 fM fdM ["_law_cell", "_law_k"] spMi := ok_mi FM
  refine F.ok scEn (fun vs H Q E h => ?_) (fun cdv A outer s H vs Q E hr h => ?_)
  · obtain ⟨c, a, b, ns, ws, rfl, _⟩ := h
    rfl
  · obtain ⟨c, a, b, ns, ws, rfl, hA, nl, nb, hB, wl, wt, k⟩ := h
    refine ⟨_, pss_cons (ps_set (i := 3) scEn.nd rfl (Or.inl rfl) (pe_op op_mod (pe_call GM hr rfl gM FM.kp bM .nil pass0 (pa_cons (pv 0) (pa_cons pe_int pa_nil))) pe_int))
      (pss_cons (ps_cut (ps_if (pt_cmpR op_eq (pe_op op_mod (pe_call GM hr rfl gM FM.kp bM .nil pass0 (pa_cons (pv 0) (pa_cons pe_int pa_nil))) pe_int) pe_int (nomark _)) (pss_one (ps_set (i := 3) scEn.nd rfl (Or.inl rfl) pe_int)) pss_nil))
      (pss_one (ps_ret (pe_tup (pa_cons (pe_ix ix_list (pv 1) (pe_op op_mod (pv 0) pe_int) (fun _ _ => rfl)) (pa_cons (pe_callTy call_tuple_of (by rfl) T.tuple PyProof.Rows.boot_tuple (pa_cons (pe_lc scE rfl rfl rfl (pi_range1 rfl T.range (pa_cons (pv 3) pa_nil)) (fun fp C s1 H1 => pg_name (i := 0) scE.nd rfl (Or.inl rfl)) (fun fp C s1 H1 => pts_nil)
        (fun fp C s1 H1 => pe_ix (r := rIxL K) ix_list (pv 2) (pe_op op_mod (pe_call GM hr rfl gM FM.kp bM .nil pass0 (pa_cons (pv 1) (pa_cons (pe_op op_add (pv 0) pe_int) pa_nil))) pe_int) (fun _ _ => rfl))) pa_nil)) pa_nil)))))), ?_⟩
    refine ⟨_, rfl, c, 1, rfl, by decide, by decide, fun z z0 => ⟨_, _, rfl, rfl, (by show (0 : Int) < 4; decide), ?_⟩⟩
    refine ⟨fun σ' H' => ∃ n : Int, 0 ≤ n ∧ n ≤ 8 ∧ H' = H ∧ σ' = [some (.int c), some (.ref a), some (.ref b), some (.int n)], ?_, ?_⟩
    · refine ⟨_, rfl, c, 2, rfl, by decide, by decide, fun y y0 => ⟨_, _, rfl, rfl, (by show (0 : Int) < 16; decide), rfl, _, rfl, ?_⟩⟩
      refine ifb ⟨8, by decide, by decide, rfl, rfl⟩ ⟨z % 4, by omega, by omega, rfl, rfl⟩
    rintro σ' H' ⟨n, n0, n1, rfl, rfl⟩
    obtain ⟨x, hx, ex⟩ := atI_some (ns.map V.int) (c % 3) (by omega) (by rw [List.length_map, nl]; omega)
    obtain ⟨fl, hfl, rfl⟩ := List.mem_map.mp hx
    refine ⟨_, rfl, _, rfl, _, _, rfl, rfl, (by show (0 : Int) < 3; decide), a, _, _, _, rfl, rfl, SqL.of hA, ex, ?_⟩
    refine ⟨_, rfl, _, rfl, by omega, by omega, fun D hD => ?_⟩
    refine lc_range (n := n.toNat) (fun j ys H3 => Same H' H3 ∧ H3 D = some (.lst ys) ∧ ys.length = j ∧ ∃ zs : List Str, ys = zs.map V.str ∧ ∀ x ∈ zs, Tx 60 x) (Nat.le_of_lt (small1000 (by omega)))
      ⟨(Same.refl H').upd_free hD, upd_same, rfl, [], rfl, fun x hx => by simp at hx⟩ (fun j ys H3 h => Nat.le_of_eq h.2.2.1) ?_ ?_
    · rintro j ys H3 N M hj ⟨u1, u2, u3, zs, rfl, u5⟩ hN hM
      refine ⟨_, rfl, _, rfl, _, rfl, _, _, rfl, rfl, c, _, rfl, by omega, by omega, fun y y0 => ⟨_, _, rfl, rfl, (by show (0 : Int) < 5; decide), ?_⟩⟩
      obtain ⟨x, hx, ex⟩ := atI_some (ws.map V.str) (y % 5) (by omega) (by rw [List.length_map, wl]; omega)
      obtain ⟨sx, hsx, rfl⟩ := List.mem_map.mp hx
      refine ⟨b, _, _, _, rfl, rfl, SqL.of (u1 _ _ hB), ex, ?_⟩
      refine hN _ H3 u2 ⟨u1.upd_free hD, upd_same, by rw [List.length_append, List.length_singleton, u3], zs ++ [sx], by rw [List.map_append]; rfl, fun x hx => ?_⟩
      rcases List.mem_append.mp hx with hx | hx
      · exact u5 x hx
      · rw [List.mem_singleton] at hx
        subst hx
        exact wt _ hsx
    · rintro ys H3 ⟨u1, u2, u3, zs, rfl, u5⟩
      rw [List.length_map] at u3
      refine ⟨D, _, rfl, .inl ⟨SqL.of u2, fun zt hzt => ⟨(by show 2 ≤ sizeLine; decide), fun q hq => ?_⟩⟩⟩
      have v1 : Same H3 (upd H3 zt (.tup (zs.map V.str))) := (Same.refl H3).upd_free hzt
      have nzq : zt ≠ q := fun e => by rw [e, upd_same] at hq; cases hq
      have v2 : Same (upd H3 zt (.tup (zs.map V.str))) (upd (upd H3 zt (.tup (zs.map V.str))) q (.tup [.int fl, .ref zt])) := (Same.refl _).upd_free hq
      have hf := nb fl hfl
      exact k q zt (fl, zs) _ ((u1.trans v1).trans v2) upd_same (v2 _ _ upd_same) ⟨hf.1, hf.2, by show zs.length ≤ 8; omega, u5⟩
theorem scLg : FnScope ["_law_script", "_law_letters_here", "_law_pool_here"] ["_law_script", "_law_letters_here", "_law_pool_here"] (defScope sLg) := ⟨rfl, rfl, rfl, by decide +kernel, rfl, by decide +kernel, by decide +kernel⟩
def scopeG : Scope := { kind := .function, names := [(".0", .local), ("_law_cell", .local), ("_law_entry", .globalImplicit), ("_law_letters_here", .free), ("_law_pool_here", .free)], isGenerator := false, isCoroutine := false, more := [] }
theorem scG : BlkScope (defScope sLg) ["_law_script", "_law_letters_here", "_law_pool_here"] ["_law_cell"] ["_law_letters_here", "_law_pool_here"] [1, 2] scopeG := ⟨rfl, by decide +kernel, by decide +kernel, by decide +kernel, rfl, by decide +kernel, by decide +kernel⟩
theorem ok_lg {f fM fE : Addr} {fd fdM fdE : FuncData} (F : Fun K "_law_log" "_law_log" sLg f fd) (T : Txt mg) (FM : Fun K "_law_mix" "_law_mix" sMi fM fdM) (bM : Binds K fdM ["_law_cell", "_law_k"] []) (gM : mg "_law_mix" = some (.ref fM))
    (FE : Fun K "_law_entry" "_law_entry" sEn fE fdE) (bE : Binds K fdE ["_law_cell", "_law_letters_here", "_law_pool_here"] []) (gE : mg "_law_entry" = some (.ref fE)) :
    FnOk P w K mg base CX0 3 f fd ["_law_script", "_law_letters_here", "_law_pool_here"] (spLg K) := by
  have GE : FnOk P w K mg base CX0 2 fE fdE ["_law_cell", "_law_letters_here", "_law_pool_here"] spEn := ok_en FE T FM bM gM
  refine F.ok scLg (fun vs H Q E h => ?_) (fun cdv A outer s H vs Q E hr h => ?_)
  · obtain ⟨sc, a, b, cs, ns, ws, rfl, _⟩ := h
    rfl
  · obtain ⟨sc, a, b, cs, ns, ws, rfl, hS, cl, hA, nl, nb, hB, wl, wt, k⟩ := h
    refine ⟨_, pss_one (ps_ret (pe_callTy call_tuple_of (by rfl) T.tuple PyProof.Rows.boot_tuple (pa_cons (pe_lc scG rfl rfl rfl (pi_list (pe_slice sl_list (pv 0) (po_some pe_int) (po_some pe_int))) (fun fp C s1 H1 => pg_name (i := 0) scG.nd rfl (Or.inl rfl)) (fun fp C s1 H1 => pts_nil)
      (fun fp C s1 H1 => pe_call GE hr rfl gE FE.kp bE .nil pass0 (pa_cons (pv 0) (pa_cons (pv 1) (pa_cons (pv 2) pa_nil))))) pa_nil))), ?_⟩
    refine ⟨_, rfl, _, rfl, _, rfl, sc, _, rfl, hS, fun p hp => ?_⟩
    have s1 : Same H (upd H p (.lst (cutV (cs.map V.int) (some 12) (some 63)))) := (Same.refl H).upd_free hp
    have cl2 : (cutV (cs.map V.int) (some 12) (some 63)).length ≤ 63 := by
      have := cutV_length (cs.map V.int) (some 12) (some 63)
      rw [List.length_map] at this
      omega
    generalize hxs : cutV (cs.map V.int) (some 12) (some 63) = xs at s1 cl2
    refine ⟨p, rfl, ⟨_, SqL.of upd_same⟩, fun D hD => ?_⟩
    have npD : p ≠ D := fun e => by rw [e, upd_same] at hD; cases hD
    have hDH : H D = none := s1.free hD
    refine lc_list (K := K) (a := p) (xs := xs) (fun j ys H3 => ∃ (qs : List Addr) (es : List Ent), ys = qs.map V.ref ∧ Same H H3 ∧ H3 p = some (.lst xs) ∧ H3 D = some (.lst ys) ∧ EntsAt H3 qs es ∧ es.length = j ∧ ∀ e ∈ es, EOk e) (Nat.le_of_lt (small1000 (by omega)))
      ⟨[], [], rfl, s1.upd_free hDH, by rw [upd_ne npD]; exact upd_same, upd_same, .nil, rfl, fun e he => by simp at he⟩ (fun j ys H3 ⟨qs, es, h1, _, _, _, h5, h6, _⟩ => by rw [h1, List.length_map, h5.1, h6]; exact Nat.le_refl _) (fun j ys H3 ⟨_, _, _, _, h, _⟩ => SqL.of h) ?_ ?_
    · rintro j ys H3 x N M hx ⟨qs, es, rfl, u1, hp3, u2, u3, u4, u5⟩ hN hM
      have hm : x ∈ cs.map V.int := cut_mem (hxs ▸ List.mem_of_getElem? hx)
      obtain ⟨c, _, rfl⟩ := List.mem_map.mp hm
      refine ⟨_, rfl, _, rfl, _, rfl, c, a, b, ns, ws, rfl, u1 _ _ hA, nl, nb, u1 _ _ hB, wl, wt, fun q z e H4 v1 hq hz ok => ?_⟩
      have ts : TSame H4 (upd H4 D (.lst (qs.map V.ref ++ [.ref q]))) := TSame.upd_lst (fun _ _ e => e) (v1 _ _ u2)
      refine hN _ H4 (v1 _ _ u2) ⟨qs ++ [q], es ++ [e], by rw [List.map_append]; rfl, (u1.trans v1).upd_free hDH, by rw [upd_ne npD]; exact v1 _ _ hp3, upd_same, ((u3.tsame v1.tups).tsame ts).snoc (ts _ _ hq) (ts _ _ hz), by rw [List.length_append, List.length_singleton, u4], fun e' he' => ?_⟩
      rcases List.mem_append.mp he' with he' | he'
      · exact u5 e' he'
      · rw [List.mem_singleton] at he'
        subst he'
        exact ok
    · rintro ys H3 ⟨qs, es, rfl, u1, hp3, u2, u3, u4, u5⟩
      refine ⟨D, _, rfl, .inl ⟨SqL.of u2, fun t ht => ?_⟩⟩
      have v1 : Same H3 (upd H3 t (.tup (qs.map V.ref))) := (Same.refl H3).upd_free ht
      exact k t es _ (u1.trans v1) ⟨qs, upd_same, u3.tsame v1.tups⟩ (by omega) u5
end
end QL
namespace QL
open PySem L2

def gapO (e : Ent) (F I : Int) : Option Str := if e.1 = F then e.2[I.toNat]? else none
def vO : Option Str → V
  | none => .non
  | some x => .str x
def sameO (a b : Option Str) : Bool := match a with
  | none => false
  | some x => decide (b = some x)
def Fst (P : Nat → Bool) (lo hi : Nat) : Option Nat → Prop
  | none => ∀ m, lo ≤ m → m < hi → P m = false
  | some m => lo ≤ m ∧ m < hi ∧ P m = true ∧ ∀ j, lo ≤ j → j < m → P j = false
theorem Fst.unique {P : Nat → Bool} {lo hi : Nat} : ∀ {r r' : Option Nat}, Fst P lo hi r → Fst P lo hi r' → r = r'
  | none, none, _, _ => rfl
  | none, some m, h, h' => by
    have := h m h'.1 h'.2.1
    rw [h'.2.2.1] at this
    cases this
  | some m, none, h, h' => by
    have := h' m h.1 h.2.1
    rw [h.2.2.1] at this
    cases this
  | some m, some k, h, h' => by
    by_cases a : m < k
    · have := h'.2.2.2 m h.1 a
      rw [h.2.2.1] at this
      cases this
    · by_cases b : k < m
      · have := h.2.2.2 k h'.1 b
        rw [h'.2.2.1] at this
        cases this
      · have : m = k := by omega
        rw [this]

theorem ent_get {H : Hp} {qs : List Addr} {es : List Ent} (h : EntsAt H qs es) {i : Nat} (hi : i < es.length) : ∃ q z, qs[i]? = some q ∧ H q = some (.tup [.int (es.getD i (0, [])).1, .ref z]) ∧ H z = some (.tup ((es.getD i (0, [])).2.map V.str)) := by
  have e : es[i]? = some es[i] := by simp [hi]
  have d : es.getD i (0, []) = es[i] := by simp [List.getD, hi]
  rw [d]
  exact h.2 i _ e
theorem ent_at {H : Hp} {qs : List Addr} {es : List Ent} (h : EntsAt H qs es) {i : Int} (h0 : 0 ≤ i) (hi : i < es.length) : ∃ q z, atI (qs.map V.ref) i = some (.ref q) ∧ H q = some (.tup [.int (es.getD i.toNat (0, [])).1, .ref z]) ∧ H z = some (.tup ((es.getD i.toNat (0, [])).2.map V.str)) := by
  obtain ⟨q, z, h1, h2, h3⟩ := ent_get h (i := i.toNat) (by omega)
  exact ⟨q, z, atI_int h0 (by rw [List.getElem?_map, h1]; rfl), h2, h3⟩
end QL
namespace QL
open PySem L2
def spWa : Sp := fun vs H Q _ => ∃ (q z p : Addr) (e : Ent) (F I : Int), vs = [.ref q, .ref p] ∧ H q = some (.tup [.int e.1, .ref z]) ∧ H z = some (.tup (e.2.map V.str)) ∧ H p = some (.tup [.int F, .int I]) ∧ 0 ≤ I ∧ Q (vO (gapO e F I)) H
section
variable {P : Program} {w : World} {K : PySem.W.Frag} {mg : Str → Option Value} {base : Heap}
theorem scWa : FnScope ["entry", "place"] ["entry", "place"] (defScope sWa) := ⟨rfl, rfl, rfl, by decide +kernel, rfl, by decide +kernel, by decide +kernel⟩
theorem ok_wa {f : Addr} {fd : FuncData} (F : Fun K "word_at" "word_at" sWa f fd) (T : Txt mg) : FnOk P w K mg base CX0 1 f fd ["entry", "place"] spWa := by
  refine F.ok scWa (fun vs H Q E h => ?_) (fun cdv A outer s H vs Q E hr h => ?_)
  · obtain ⟨q, z, p, e, F, I, rfl, _⟩ := h
    rfl
  · obtain ⟨q, z, p, e, F, I, rfl, hq, hz, hp, i0, k⟩ := h
    refine ⟨_, pss_cons (ps_if (PW.pt (pw_or (pt_cmpR op_ne (pe_ix ix_tup (pv 0) pe_int (fun _ _ => rfl)) (pe_ix ix_tup (pv 1) pe_int (fun _ _ => rfl)) (nomark _))
        (pw_or1 (pt_cmpR op_ge (pe_ix ix_tup (pv 1) pe_int (fun _ _ => rfl)) (pe_callB call_len_seq (by rfl) T.len PySem.boot_len (pa_cons (pe_ix ix_tup (pv 0) pe_int (fun _ _ => rfl)) pa_nil)) (nomark _))))) (pss_one (ps_ret pe_non)) pss_nil)
      (pss_one (ps_ret (pe_ix ix_tup (pe_ix ix_tup (pv 0) pe_int (fun _ _ => rfl)) (pe_ix ix_tup (pv 1) pe_int (fun _ _ => rfl)) (fun _ _ => rfl)))), ?_⟩
    refine ⟨_, rfl, q, _, _, _, rfl, rfl, SqT.of hq, rfl, _, rfl, p, _, _, _, rfl, rfl, SqT.of hp, rfl, rfl, _, rfl, ?_⟩
    unfold gapO at k
    by_cases hF : e.1 = F
    · rw [if_pos hF] at k
      refine iteNS (by rw [hF]) ?_
      refine ⟨_, rfl, p, _, _, _, rfl, rfl, SqT.of hp, rfl, _, rfl, q, _, _, _, rfl, rfl, SqT.of hq, rfl, z, _, rfl, .inr (SqT.of hz), _, _, rfl, rfl, _, rfl, ?_⟩
      rw [List.length_map]
      by_cases hlt : I < (e.2.length : Int)
      · have nle : ¬ ((e.2.length : Int) ≤ I) := by omega
        rw [decide_eq_false nle]
        refine iteF ?_
        obtain ⟨x, ex⟩ := some_at e.2 I i0 hlt
        rw [ex] at k
        exact ⟨_, rfl, q, _, _, _, rfl, rfl, SqT.of hq, rfl, _, rfl, p, _, _, _, rfl, rfl, SqT.of hp, rfl, z, _, _, _, rfl, rfl, SqT.of hz, atI_int i0 (by rw [List.getElem?_map, ex]; rfl), k⟩
      · have le : (e.2.length : Int) ≤ I := by omega
        rw [decide_eq_true le]
        refine iteT ?_
        rw [List.getElem?_eq_none (by omega)] at k
        exact k
    · rw [if_neg hF] at k
      have ne : ¬ (V.int e.1 = V.int F) := fun z => hF (by injection z)
      rw [decide_eq_false ne]
      exact iteT (iteT k)
end
end QL
namespace QL
open PySem L2
def spSw : Sp := fun vs H Q _ => ∃ (q z p q' z' p' : Addr) (e e' : Ent) (F I G J : Int), vs = [.ref q, .ref p, .ref q', .ref p'] ∧ H q = some (.tup [.int e.1, .ref z]) ∧ H z = some (.tup (e.2.map V.str)) ∧ H p = some (.tup [.int F, .int I]) ∧ 0 ≤ I ∧
  H q' = some (.tup [.int e'.1, .ref z']) ∧ H z' = some (.tup (e'.2.map V.str)) ∧ H p' = some (.tup [.int G, .int J]) ∧ 0 ≤ J ∧ Q (.bl (sameO (gapO e F I) (gapO e' G J))) H
section
variable {P : Program} {w : World} {K : PySem.W.Frag} {mg : Str → Option Value} {base : Heap}
theorem scSw : FnScope ["entry", "place", "other", "away", "word"] ["entry", "place", "other", "away"] (defScope sSw) := ⟨rfl, rfl, rfl, by decide +kernel, rfl, by decide +kernel, by decide +kernel⟩
theorem ok_sw {f fW : Addr} {fd fdW : FuncData} (F : Fun K "same_word" "same_word" sSw f fd) (T : Txt mg) (FW : Fun K "word_at" "word_at" sWa fW fdW) (bW : Binds K fdW ["entry", "place"] []) (gW : mg "word_at" = some (.ref fW)) :
    FnOk P w K mg base CX0 2 f fd ["entry", "place", "other", "away"] spSw := by
  have GW : FnOk P w K mg base CX0 1 fW fdW ["entry", "place"] spWa := ok_wa FW T
  refine F.ok scSw (fun vs H Q E h => ?_) (fun cdv A outer s H vs Q E hr h => ?_)
  · obtain ⟨q, z, p, q', z', p', e, e', F, I, G, J, rfl, _⟩ := h
    rfl
  · obtain ⟨q, z, p, q', z', p', e, e', F, I, G, J, rfl, hq, hz, hp, i0, hq', hz', hp', j0, k⟩ := h
    refine ⟨_, pss_cons (ps_set (i := 4) scSw.nd rfl (Or.inl rfl) (pe_call GW hr rfl gW FW.kp bW .nil pass0 (pa_cons (pv 0) (pa_cons (pv 1) pa_nil))))
      (pss_one (ps_ret (pe_and (pe_cmp (pc_notN (pv 4))) (pe_one (pe_cmpR op_eq (pv 4) (pe_call GW hr rfl gW FW.kp bW .nil pass0 (pa_cons (pv 2) (pa_cons (pv 3) pa_nil))) (nomark _)))))), ?_⟩
    refine ⟨_, rfl, _, rfl, q, z, p, e, F, I, rfl, hq, hz, hp, i0, ?_⟩
    cases ha : gapO e F I with
    | none =>
      rw [ha] at k
      refine ⟨_, rfl, _, rfl, iteNS rfl ?_⟩
      exact k
    | some x =>
      rw [ha] at k
      refine ⟨_, rfl, _, rfl, ?_⟩
      have n1 : ¬ (vO (some x) = V.non) := fun z => by cases z
      rw [decide_eq_false n1]
      refine iteT ?_
      refine ⟨_, rfl, _, rfl, _, rfl, q', z', p', e', G, J, rfl, hq', hz', hp', j0, ?_⟩
      cases hb : gapO e' G J with
      | none =>
        rw [hb] at k
        refine ⟨rfl, ?_⟩
        have e1 : decide (vO (some x) = vO none) = false := decide_eq_false (fun z => by cases z)
        rw [e1]
        exact k
      | some y =>
        rw [hb] at k
        refine ⟨rfl, ?_⟩
        have e1 : decide (vO (some x) = vO (some y)) = decide (some y = some x) := decide_eq_decide.mpr ⟨fun z => by injection z with z; rw [z], fun z => by injection z with z; rw [z]⟩
        rw [e1]
        exact k
end
end QL
namespace QL
open PySem L2

inductive Kd where
  | row | wit | beh | ahd | tim | bot | eit | non
  deriving DecidableEq
inductive Qn where
  | row (F : Int) | wit (F I : Int) (W : Str) | beh (F I G J : Int) (R : Nat) | ahd (F I G J : Int) (R : Nat)
  | tim (K C : Nat) (q : Qn) | bot (q r : Qn) | eit (q r : Qn) | non (q : Qn)
def Qn.kd : Qn → Kd
  | .row _ => .row | .wit _ _ _ => .wit | .beh _ _ _ _ _ => .beh | .ahd _ _ _ _ _ => .ahd | .tim _ _ _ => .tim | .bot _ _ => .bot | .eit _ _ => .eit | .non _ => .non
def Qn.dep : Qn → Nat
  | .tim _ _ q => q.dep + 1 | .bot q r => max q.dep r.dep + 1 | .eit q r => max q.dep r.dep + 1 | .non q => q.dep + 1 | _ => 0
def Qn.Ok : Qn → Prop
  | .row _ => True | .wit _ I W => 0 ≤ I ∧ Tx 60 W | .beh _ I _ J R => 0 ≤ I ∧ 0 ≤ J ∧ R ≤ 1000 | .ahd _ I _ J R => 0 ≤ I ∧ 0 ≤ J ∧ R ≤ 1000
  | .tim K C q => 1 ≤ K ∧ K ≤ 1000 ∧ C ≤ 1000 ∧ q.Ok | .bot q r => q.Ok ∧ r.Ok | .eit q r => q.Ok ∧ r.Ok | .non q => q.Ok
def Qn.In (ks : Kd → Bool) : Qn → Prop
  | .row _ => ks .row = true | .wit _ _ _ => ks .wit = true | .beh _ _ _ _ _ => ks .beh = true | .ahd _ _ _ _ _ => ks .ahd = true
  | .tim _ _ q => ks .tim = true ∧ q.In ks | .bot q r => ks .bot = true ∧ q.In ks ∧ r.In ks | .eit q r => ks .eit = true ∧ q.In ks ∧ r.In ks | .non q => ks .non = true ∧ q.In ks
theorem Qn.In.kd {ks : Kd → Bool} : ∀ {q : Qn}, q.In ks → ks q.kd = true
  | .row _, h => h | .wit _ _ _, h => h | .beh _ _ _ _ _, h => h | .ahd _ _ _ _ _, h => h | .tim _ _ _, h => h.1 | .bot _ _, h => h.1 | .eit _ _, h => h.1 | .non _, h => h.1
def rng (lo hi : Nat) : List Nat := (List.range (hi - lo)).map (lo + ·)
theorem mem_rng {lo hi m : Nat} : m ∈ rng lo hi ↔ lo ≤ m ∧ m < hi := by
  unfold rng
  rw [List.mem_map]
  constructor
  · rintro ⟨a, ha, rfl⟩
    rw [List.mem_range] at ha
    omega
  · rintro ⟨h1, h2⟩
    exact ⟨m - lo, by rw [List.mem_range]; omega, by omega⟩
theorem rng_len (lo hi : Nat) : (rng lo hi).length = hi - lo := by
  unfold rng
  rw [List.length_map, List.length_range]
def fstM (P : Nat → Bool) (lo : Nat) : Nat → Option Nat
  | 0 => none
  | k + 1 => if P lo = true then some lo else fstM P (lo + 1) k
theorem fst_is (P : Nat → Bool) : ∀ (k lo : Nat), Fst P lo (lo + k) (fstM P lo k)
  | 0, lo => fun m m1 m2 => by omega
  | k + 1, lo => by
    unfold fstM
    have ih := fst_is P k (lo + 1)
    have e : lo + 1 + k = lo + (k + 1) := by omega
    rw [e] at ih
    by_cases h : P lo = true
    · rw [if_pos h]
      exact ⟨Nat.le_refl _, by omega, h, fun j j1 j2 => by omega⟩
    · rw [if_neg h]
      have h' : P lo = false := by simpa using h
      cases g : fstM P (lo + 1) k with
      | none =>
        rw [g] at ih
        intro m m1 m2
        by_cases e : m = lo
        · rw [e]; exact h'
        · exact ih m (by omega) m2
      | some m =>
        rw [g] at ih
        refine ⟨by have := ih.1; omega, ih.2.1, ih.2.2.1, fun j j1 j2 => ?_⟩
        by_cases e : j = lo
        · rw [e]; exact h'
        · exact ih.2.2.2 j (by omega) j2
theorem fst_to {P : Nat → Bool} {lo hi : Nat} {r : Option Nat} (h : Fst P lo hi r) : fstM P lo (hi - lo) = r := by
  by_cases hl : lo ≤ hi
  · have q := fst_is P (hi - lo) lo
    have e : lo + (hi - lo) = hi := by omega
    rw [e] at q
    exact q.unique h
  · have e : hi - lo = 0 := by omega
    rw [e]
    cases r with
    | none => rfl
    | some m =>
      have := h.1
      have := h.2.1
      omega
def Lst (P : Nat → Bool) (lo hi : Nat) : Option Nat → Prop
  | none => ∀ m, lo ≤ m → m < hi → P m = false
  | some m => lo ≤ m ∧ m < hi ∧ P m = true ∧ ∀ j, m < j → j < hi → P j = false
theorem Lst.unique {P : Nat → Bool} {lo hi : Nat} : ∀ {r r' : Option Nat}, Lst P lo hi r → Lst P lo hi r' → r = r'
  | none, none, _, _ => rfl
  | none, some m, h, h' => by
    have := h m h'.1 h'.2.1
    rw [h'.2.2.1] at this
    cases this
  | some m, none, h, h' => by
    have := h' m h.1 h.2.1
    rw [h.2.2.1] at this
    cases this
  | some m, some k, h, h' => by
    by_cases a : m < k
    · have := h.2.2.2 k a h'.2.1
      rw [h'.2.2.1] at this
      cases this
    · by_cases b : k < m
      · have := h'.2.2.2 m b h.2.1
        rw [h.2.2.1] at this
        cases this
      · have : m = k := by omega
        rw [this]
def lstM (P : Nat → Bool) (lo : Nat) : Nat → Option Nat
  | 0 => none
  | k + 1 => if P (lo + k) = true then some (lo + k) else lstM P lo k
theorem lst_is (P : Nat → Bool) (lo : Nat) : ∀ k : Nat, Lst P lo (lo + k) (lstM P lo k)
  | 0 => fun m m1 m2 => by omega
  | k + 1 => by
    unfold lstM
    have ih := lst_is P lo k
    by_cases h : P (lo + k) = true
    · rw [if_pos h]
      exact ⟨by omega, by omega, h, fun j j1 j2 => by omega⟩
    · rw [if_neg h]
      have h' : P (lo + k) = false := by simpa using h
      cases g : lstM P lo k with
      | none =>
        rw [g] at ih
        intro m m1 m2
        by_cases e : m = lo + k
        · rw [e]; exact h'
        · exact ih m m1 (by omega)
      | some m =>
        rw [g] at ih
        refine ⟨ih.1, by have := ih.2.1; omega, ih.2.2.1, fun j j1 j2 => ?_⟩
        by_cases e : j = lo + k
        · rw [e]; exact h'
        · exact ih.2.2.2 j j1 (by omega)
theorem lst_to {P : Nat → Bool} {lo hi : Nat} {r : Option Nat} (h : Lst P lo hi r) : lstM P lo (hi - lo) = r := by
  by_cases hl : lo ≤ hi
  · have q := lst_is P lo (hi - lo)
    have e : lo + (hi - lo) = hi := by omega
    rw [e] at q
    exact q.unique h
  · have e : hi - lo = 0 := by omega
    rw [e]
    cases r with
    | none => rfl
    | some m =>
      have := h.1
      have := h.2.1
      omega
def behP (es : List Ent) (n : Nat) (F I G J : Int) : Nat → Bool := fun m => sameO (gapO (es.getD n (0, [])) F I) (gapO (es.getD m (0, [])) G J)
def foundM (es : List Ent) : Qn → Nat → Option (List Nat)
  | .row F, n => if (es.getD n (0, [])).1 = F then some [n] else none
  | .wit F I W, n => if gapO (es.getD n (0, [])) F I = some W then some [n] else none
  | .beh F I G J R, n => (fstM (behP es n F I G J) (n + 1) (min (n + R + 1) es.length - (n + 1))).map fun m => [n, m]
  | .ahd F I G J R, n => (lstM (behP es n F I G J) (n - R) (n - (n - R))).map fun m => [m, n]
  | .tim K C q, n => if n ∈ (rng (n + 1 - K) (n + 1)).filter (fun m => (foundM es q m).isSome) ∧ C ≤ ((rng (n + 1 - K) (n + 1)).filter fun m => (foundM es q m).isSome).length
      then some ((rng (n + 1 - K) (n + 1)).filter fun m => (foundM es q m).isSome) else none
  | .bot q r, n => match foundM es q n, foundM es r n with
    | some a, some b => some ((List.range es.length).filter fun m => decide (m ∈ a) || decide (m ∈ b))
    | _, _ => none
  | .eit q r, n => match foundM es q n with
    | some a => some a
    | none => foundM es r n
  | .non q, n => match foundM es q n with
    | none => some []
    | some _ => none
def backM : Qn → Int
  | .ahd _ _ _ _ R => R | .tim K _ q => backM q + K - 1 | .bot q r => max (backM q) (backM r) | .eit q r => max (backM q) (backM r) | .non q => backM q | _ => 0
def onM : Qn → Int
  | .beh _ _ _ _ R => R | .tim _ _ q => onM q | .bot q r => max (onM q) (onM r) | .eit q r => max (onM q) (onM r) | .non q => onM q | _ => 0

def NoMeth (fs : List (Str × V)) : Prop := fs.lookup ("back" : Str) = none ∧ fs.lookup ("on" : Str) = none ∧ fs.lookup ("found" : Str) = none
theorem NoMeth.nil : NoMeth [] := ⟨rfl, rfl, rfl⟩
theorem NoMeth.put {fs : List (Str × V)} (h : NoMeth fs) {f : Str} {v : V} (h1 : ¬ ("back" : Str) = f) (h2 : ¬ ("on" : Str) = f) (h3 : ¬ ("found" : Str) = f) : NoMeth (putF f v fs) :=
  ⟨by rw [lookup_putF, if_neg h1]; exact h.1, by rw [lookup_putF, if_neg h2]; exact h.2.1, by rw [lookup_putF, if_neg h3]; exact h.2.2⟩
def FarAt (C : Addr) (H : Hp) (p : Addr) (F I G J : Int) (R : Nat) : Prop := ∃ dx a b fs, H p = some (.ins C dx fs) ∧ fs.lookup ("here" : Str) = some (.ref a) ∧ fs.lookup ("away" : Str) = some (.ref b) ∧ fs.lookup ("reach" : Str) = some (.int R) ∧ NoMeth fs ∧
  H a = some (.tup [.int F, .int I]) ∧ H b = some (.tup [.int G, .int J])
def QAt (cl : Kd → Addr) (H : Hp) : Qn → Addr → Prop
  | .row F, p => ∃ dx fs, H p = some (.ins (cl .row) dx fs) ∧ fs.lookup ("wanted" : Str) = some (.int F) ∧ NoMeth fs
  | .wit F I W, p => ∃ dx a fs, H p = some (.ins (cl .wit) dx fs) ∧ fs.lookup ("here" : Str) = some (.ref a) ∧ fs.lookup ("wanted" : Str) = some (.str W) ∧ NoMeth fs ∧ H a = some (.tup [.int F, .int I])
  | .beh F I G J R, p => FarAt (cl .beh) H p F I G J R
  | .ahd F I G J R, p => FarAt (cl .ahd) H p F I G J R
  | .tim K C q, p => ∃ dx fs c, H p = some (.ins (cl .tim) dx fs) ∧ fs.lookup ("reach" : Str) = some (.int K) ∧ fs.lookup ("least" : Str) = some (.int C) ∧ fs.lookup ("inner" : Str) = some (.ref c) ∧ NoMeth fs ∧ QAt cl H q c
  | .bot q r, p => ∃ dx fs c e, H p = some (.ins (cl .bot) dx fs) ∧ fs.lookup ("one" : Str) = some (.ref c) ∧ fs.lookup ("other" : Str) = some (.ref e) ∧ NoMeth fs ∧ QAt cl H q c ∧ QAt cl H r e
  | .eit q r, p => ∃ dx fs c e, H p = some (.ins (cl .eit) dx fs) ∧ fs.lookup ("one" : Str) = some (.ref c) ∧ fs.lookup ("other" : Str) = some (.ref e) ∧ NoMeth fs ∧ QAt cl H q c ∧ QAt cl H r e
  | .non q, p => ∃ dx fs c, H p = some (.ins (cl .non) dx fs) ∧ fs.lookup ("one" : Str) = some (.ref c) ∧ NoMeth fs ∧ QAt cl H q c
theorem FarAt.same {C : Addr} {H H' : Hp} {p : Addr} {F I G J : Int} {R : Nat} (h : FarAt C H p F I G J R) (s : Same H H') : FarAt C H' p F I G J R := by
  obtain ⟨dx, a, b, fs, h1, h2, h3, h4, h5, h6, h7⟩ := h
  exact ⟨dx, a, b, fs, s _ _ h1, h2, h3, h4, h5, s _ _ h6, s _ _ h7⟩
theorem QAt.same {cl : Kd → Addr} {H H' : Hp} (s : Same H H') : ∀ {q : Qn} {p : Addr}, QAt cl H q p → QAt cl H' q p
  | .row _, _, ⟨dx, fs, h1, h2, h3⟩ => ⟨dx, fs, s _ _ h1, h2, h3⟩
  | .wit _ _ _, _, ⟨dx, a, fs, h1, h2, h3, h4, h5⟩ => ⟨dx, a, fs, s _ _ h1, h2, h3, h4, s _ _ h5⟩
  | .beh _ _ _ _ _, _, h => FarAt.same h s
  | .ahd _ _ _ _ _, _, h => FarAt.same h s
  | .tim _ _ _, _, ⟨dx, fs, c, h1, h2, h3, h4, h5, h6⟩ => ⟨dx, fs, c, s _ _ h1, h2, h3, h4, h5, QAt.same s h6⟩
  | .bot _ _, _, ⟨dx, fs, c, e, h1, h2, h3, h4, h5, h6⟩ => ⟨dx, fs, c, e, s _ _ h1, h2, h3, h4, QAt.same s h5, QAt.same s h6⟩
  | .eit _ _, _, ⟨dx, fs, c, e, h1, h2, h3, h4, h5, h6⟩ => ⟨dx, fs, c, e, s _ _ h1, h2, h3, h4, QAt.same s h5, QAt.same s h6⟩
  | .non _, _, ⟨dx, fs, c, h1, h2, h3, h4⟩ => ⟨dx, fs, c, s _ _ h1, h2, h3, QAt.same s h4⟩
theorem QAt.ins {cl : Kd → Addr} {H : Hp} : ∀ {q : Qn} {p : Addr}, QAt cl H q p → ∃ dx fs, H p = some (.ins (cl q.kd) dx fs) ∧ NoMeth fs
  | .row _, _, ⟨dx, fs, h1, h2, h3⟩ => ⟨dx, fs, h1, h3⟩
  | .wit _ _ _, _, ⟨dx, a, fs, h1, h2, h3, h4, h5⟩ => ⟨dx, fs, h1, h4⟩
  | .beh _ _ _ _ _, _, ⟨dx, a, b, fs, h1, h2, h3, h4, h5, h6⟩ => ⟨dx, fs, h1, h5⟩
  | .ahd _ _ _ _ _, _, ⟨dx, a, b, fs, h1, h2, h3, h4, h5, h6⟩ => ⟨dx, fs, h1, h5⟩
  | .tim _ _ _, _, ⟨dx, fs, c, h1, h2, h3, h4, h5, h6⟩ => ⟨dx, fs, h1, h5⟩
  | .bot _ _, _, ⟨dx, fs, c, e, h1, h2, h3, h4, h5, h6⟩ => ⟨dx, fs, h1, h4⟩
  | .eit _ _, _, ⟨dx, fs, c, e, h1, h2, h3, h4, h5, h6⟩ => ⟨dx, fs, h1, h4⟩
  | .non _, _, ⟨dx, fs, c, h1, h2, h3, h4⟩ => ⟨dx, fs, h1, h3⟩

def vN (rows : List Nat) : List V := rows.map fun (m : Nat) => V.int (m : Int)
def Told (H : Hp) (Q : VK) : Option (List Nat) → Prop
  | none => ∀ H', Same H H' → Q .non H'
  | some rows => ∀ (a : Addr) (H' : Hp), Same H H' → H' a = some (.tup (vN rows)) → Q (.ref a) H'
def spF (ks : Kd → Bool) (cl : Kd → Addr) (k : Kd) (d : Nat) : Sp := fun vs H Q _ => ∃ (p t : Addr) (n : Nat) (q : Qn) (es : List Ent), vs = [.ref p, .ref t, .int n] ∧ q.kd = k ∧ q.dep < d ∧ q.Ok ∧ q.In ks ∧ QAt cl H q p ∧ LogAt H t es ∧ es.length ≤ 63 ∧ n < es.length ∧ Told H Q (foundM es q n)
def spB (ks : Kd → Bool) (cl : Kd → Addr) (k : Kd) (d : Nat) : Sp := fun vs H Q _ => ∃ (p : Addr) (q : Qn), vs = [.ref p] ∧ q.kd = k ∧ q.dep < d ∧ q.In ks ∧ QAt cl H q p ∧ Q (.int (backM q)) H
def spO (ks : Kd → Bool) (cl : Kd → Addr) (k : Kd) (d : Nat) : Sp := fun vs H Q _ => ∃ (p : Addr) (q : Qn), vs = [.ref p] ∧ q.kd = k ∧ q.dep < d ∧ q.In ks ∧ QAt cl H q p ∧ Q (.int (onM q)) H
section
variable (P : Program) (w : World) (K : PySem.W.Frag) (mg : Str → Option Value) (base : Heap)
structure KE1 (ks : Kd → Bool) (cl : Kd → Addr) (d lev : Nat) (k : Kd) : Prop where
  cls : Cls K (cl k)
  fnd : ∃ f fd, Meth K (cl k) "found" f ∧ Binds K fd ["self", "log", "n"] [] ∧ FnOk P w K mg base CX0 lev f fd ["self", "log", "n"] (spF ks cl k d)
  bck : ∃ f fd, Meth K (cl k) "back" f ∧ Binds K fd ["self"] [] ∧ FnOk P w K mg base CX0 lev f fd ["self"] (spB ks cl k d)
  onn : ∃ f fd, Meth K (cl k) "on" f ∧ Binds K fd ["self"] [] ∧ FnOk P w K mg base CX0 lev f fd ["self"] (spO ks cl k d)
def Tab (ks : Kd → Bool) (cl : Kd → Addr) (d lev : Nat) : Prop := ∀ k, ks k = true → KE1 P w K mg base ks cl d lev k
end
section
variable {P : Program} {w : World} {K : PySem.W.Frag} {mg : Str → Option Value} {base : Heap} {ks : Kd → Bool} {cl : Kd → Addr} {d lev : Nat}
theorem vac {k f : Nat} {fd : FuncData} {ps : List Str} {sp : Sp} (h : ∀ vs H Q E, ¬ sp vs H Q E) : FnOk P w K mg base CX0 k f fd ps sp :=
  ⟨fun vs H Q E q => absurd q (h vs H Q E), fun A outer s H args us vs Q E _ _ _ _ q => absurd q (h vs H Q E)⟩
theorem Tab.found (T : Tab P w K mg base ks cl d lev) {H : Hp} {p : Addr} {q : Qn} (hq : QAt cl H q p) (hi : q.In ks) : ∃ dx fs f fd, H p = some (.ins (cl q.kd) dx fs) ∧ fs.lookup ("found" : Str) = none ∧ Cls K (cl q.kd) ∧ Meth K (cl q.kd) "found" f ∧
    FnOk P w K mg base CX0 lev f fd ["self", "log", "n"] (spF ks cl q.kd d) ∧ Binds K fd ["self", "log", "n"] [] := by
  obtain ⟨dx, fs, h1, h2⟩ := hq.ins
  have E := T q.kd hi.kd
  obtain ⟨f, fd, m, b, o⟩ := E.fnd
  exact ⟨dx, fs, f, fd, h1, h2.2.2, E.cls, m, o, b⟩
theorem Tab.back (T : Tab P w K mg base ks cl d lev) {H : Hp} {p : Addr} {q : Qn} (hq : QAt cl H q p) (hi : q.In ks) : ∃ dx fs f fd, H p = some (.ins (cl q.kd) dx fs) ∧ fs.lookup ("back" : Str) = none ∧ Cls K (cl q.kd) ∧ Meth K (cl q.kd) "back" f ∧
    FnOk P w K mg base CX0 lev f fd ["self"] (spB ks cl q.kd d) ∧ Binds K fd ["self"] [] := by
  obtain ⟨dx, fs, h1, h2⟩ := hq.ins
  have E := T q.kd hi.kd
  obtain ⟨f, fd, m, b, o⟩ := E.bck
  exact ⟨dx, fs, f, fd, h1, h2.1, E.cls, m, o, b⟩
theorem Tab.on (T : Tab P w K mg base ks cl d lev) {H : Hp} {p : Addr} {q : Qn} (hq : QAt cl H q p) (hi : q.In ks) : ∃ dx fs f fd, H p = some (.ins (cl q.kd) dx fs) ∧ fs.lookup ("on" : Str) = none ∧ Cls K (cl q.kd) ∧ Meth K (cl q.kd) "on" f ∧
    FnOk P w K mg base CX0 lev f fd ["self"] (spO ks cl q.kd d) ∧ Binds K fd ["self"] [] := by
  obtain ⟨dx, fs, h1, h2⟩ := hq.ins
  have E := T q.kd hi.kd
  obtain ⟨f, fd, m, b, o⟩ := E.onn
  exact ⟨dx, fs, f, fd, h1, h2.2.1, E.cls, m, o, b⟩
end
end QL
namespace L2
open PySem
section
variable {X : Cx}
theorem pe_fldK {K : PySem.W.Frag} {e : Expr} {ta : TE} {f : Str} {pos : Pos} (hK : X.K = K) (he : PE X e ta) (hb : attributeBase e f X.env (eval e X.env) = eval e X.env) : PE X (.Attribute e f pos) (tFld K ta f) := by
  subst hK
  exact pe_fld he hb
theorem pe_methDK {P : Program} {w : World} {K : PySem.W.Frag} {mg : Str → Option Value} {base : Heap} {CX : CXT} {k : Nat} {m : Str} {E : XK} {pos apos : Pos} {o e : Expr} {es : List Expr} {ta : TE} {t : TA} {pl : Sem Bool}
    (h1 : X.prog = P) (h2 : X.w = w) (h3 : X.K = K) (h4 : X.mg = mg) (h5 : X.base = base) (he : PE X o ta) (hr : Room k X.A) (hx : Passes CX X E) (ha : PA X (e :: es) t)
    (hst : starEach (e :: es) X.env = (false, eval e X.env) :: starEach es X.env := by rfl) (hpl : (backTo pos (starEach es X.env)).any (·.1) = false := by rfl)
    (ht : eval (.Call (.Attribute o m apos) (e :: es) [] pos) X.env = (do
      let ov ← eval o X.env
      standAt apos.atName
      let (f, first) ← holding [ov] (getMethod ov m pl)
      callWith pos f first (backTo pos (starEach (e :: es) X.env)) (backToKw pos (keywordEach [] X.env))) := by rfl) :
    PE X (.Call (.Attribute o m apos) (e :: es) [] pos) (tMethD P w K mg base CX k m E ta t) := by
  subst h1 h2 h3 h4 h5
  exact pe_methD he hr hx ha hst hpl ht
end
end L2
namespace QL
open PySem L2

section
variable {P : Program} {w : World} {K : PySem.W.Frag} {mg : Str → Option Value} {base : Heap} {ks : Kd → Bool} {cl : Kd → Addr} {d : Nat}
theorem zeroB {k : Kd} {q : Qn} (hk : q.kd = k) (h : k = .row ∨ k = .wit ∨ k = .beh) : backM q = 0 := by
  subst hk
  cases q <;> first | rfl | (rcases h with h | h | h <;> cases h)
theorem zeroO {k : Kd} {q : Qn} (hk : q.kd = k) (h : k = .row ∨ k = .wit ∨ k = .ahd) : onM q = 0 := by
  subst hk
  cases q <;> first | rfl | (rcases h with h | h | h <;> cases h)
theorem scBk : FnScope ["self"] ["self"] (defScope sBk) := ⟨rfl, rfl, rfl, by decide +kernel, rfl, by decide +kernel, by decide +kernel⟩
theorem ok_bk {f : Addr} {fd : FuncData} {k : Kd} (F : Fun K "back" "Question.back" sBk f fd) (hk : k = .row ∨ k = .wit ∨ k = .beh) : FnOk P w K mg base CX0 1 f fd ["self"] (spB ks cl k d) := by
  refine F.ok scBk (fun vs H Q E h => ?_) (fun cdv A outer s H vs Q E hr h => ?_)
  · obtain ⟨p, q, rfl, _⟩ := h
    rfl
  · obtain ⟨p, q, rfl, h1, h2, h3, h4, k⟩ := h
    rw [zeroB h1 hk] at k
    exact ⟨_, pss_one (ps_ret pe_int), k⟩
theorem scOn : FnScope ["self"] ["self"] (defScope sOn) := ⟨rfl, rfl, rfl, by decide +kernel, rfl, by decide +kernel, by decide +kernel⟩
theorem ok_on {f : Addr} {fd : FuncData} {k : Kd} (F : Fun K "on" "Question.on" sOn f fd) (hk : k = .row ∨ k = .wit ∨ k = .ahd) : FnOk P w K mg base CX0 1 f fd ["self"] (spO ks cl k d) := by
  refine F.ok scOn (fun vs H Q E h => ?_) (fun cdv A outer s H vs Q E hr h => ?_)
  · obtain ⟨p, q, rfl, _⟩ := h
    rfl
  · obtain ⟨p, q, rfl, h1, h2, h3, h4, k⟩ := h
    rw [zeroO h1 hk] at k
    exact ⟨_, pss_one (ps_ret pe_int), k⟩
theorem scRf : FnScope ["self", "log", "n"] ["self", "log", "n"] (defScope sRf) := ⟨rfl, rfl, rfl, by decide +kernel, rfl, by decide +kernel, by decide +kernel⟩
theorem ok_rf {f : Addr} {fd : FuncData} (F : Fun K "found" "Row.found" sRf f fd) (C : Cls K (cl .row)) (nW : NoAttr K (cl .row) "wanted") : FnOk P w K mg base CX0 1 f fd ["self", "log", "n"] (spF ks cl .row d) := by
  refine F.ok scRf (fun vs H Q E h => ?_) (fun cdv A outer s H vs Q E hr h => ?_)
  · obtain ⟨p, t, n, q, es, rfl, _⟩ := h
    rfl
  · obtain ⟨p, t, n, q, es, rfl, hk, hd, ho, hi, hq, L, hl, hn, k⟩ := h
    cases q <;> try cases hk
    rename_i F
    obtain ⟨dx, fs, r1, r2, r3⟩ := hq
    obtain ⟨qs, ht, hE⟩ := id L
    obtain ⟨e, z, x1, x2, x3⟩ := ent_at hE (i := (n : Int)) (by omega) (by omega)
    rw [Int.toNat_natCast] at x2 x3
    refine ⟨_, pss_one (ps_ret (pe_ifExp (pt_cmpR op_eq (pe_ix ix_tup (pe_ix ix_tup (pv 1) (pv 2) (fun _ _ => rfl)) pe_int (fun _ _ => rfl)) (pe_fld (pv 0) rfl) (nomark _)) (pe_tup (pa_cons (pv 2) pa_nil)) pe_non)), ?_⟩
    refine ⟨_, rfl, _, rfl, t, _, _, _, rfl, rfl, SqT.of ht, x1, e, _, _, _, rfl, rfl, SqT.of x2, rfl, _, rfl, p, _, dx, _, _, rfl, r1, C, nW, r2, rfl, _, rfl, ?_⟩
    unfold foundM at k
    by_cases g : (es.getD n (0, [])).1 = F
    · rw [if_pos g] at k
      have e1 : decide (V.int (es.getD n (0, [])).1 = V.int F) = true := decide_eq_true (by rw [g])
      rw [e1]
      refine iteT ⟨_, rfl, (by show 1 ≤ sizeLine; decide), fun a ha => ?_⟩
      exact k a _ ((Same.refl H).upd_free ha) upd_same
    · rw [if_neg g] at k
      have e1 : decide (V.int (es.getD n (0, [])).1 = V.int F) = false := decide_eq_false (fun z => g (by injection z))
      rw [e1]
      exact iteF (k H (Same.refl H))
theorem scWf : FnScope ["self", "log", "n"] ["self", "log", "n"] (defScope sWf) := ⟨rfl, rfl, rfl, by decide +kernel, rfl, by decide +kernel, by decide +kernel⟩
theorem ok_wf {f fW : Addr} {fd fdW : FuncData} (F : Fun K "found" "With.found" sWf f fd) (T : Txt mg) (C : Cls K (cl .wit)) (nH : NoAttr K (cl .wit) "here") (nW : NoAttr K (cl .wit) "wanted")
    (FW : Fun K "word_at" "word_at" sWa fW fdW) (bW : Binds K fdW ["entry", "place"] []) (gW : mg "word_at" = some (.ref fW)) : FnOk P w K mg base CX0 2 f fd ["self", "log", "n"] (spF ks cl .wit d) := by
  have GW : FnOk P w K mg base CX0 1 fW fdW ["entry", "place"] spWa := ok_wa FW T
  refine F.ok scWf (fun vs H Q E h => ?_) (fun cdv A outer s H vs Q E hr h => ?_)
  · obtain ⟨p, t, n, q, es, rfl, _⟩ := h
    rfl
  · obtain ⟨p, t, n, q, es, rfl, hk, hd, ho, hi, hq, L, hl, hn, k⟩ := h
    cases q <;> try cases hk
    rename_i F I W
    obtain ⟨dx, a, fs, r1, r2, r3, r4, r5⟩ := hq
    obtain ⟨qs, ht, hE⟩ := id L
    obtain ⟨e, z, x1, x2, x3⟩ := ent_at hE (i := (n : Int)) (by omega) (by omega)
    rw [Int.toNat_natCast] at x2 x3
    refine ⟨_, pss_one (ps_ret (pe_ifExp (pt_cmpR op_eq (pe_call GW hr rfl gW FW.kp bW .nil pass0 (pa_cons (pe_ix ix_tup (pv 1) (pv 2) (fun _ _ => rfl)) (pa_cons (pe_fld (pv 0) rfl) pa_nil))) (pe_fld (pv 0) rfl) (nomark _)) (pe_tup (pa_cons (pv 2) pa_nil)) pe_non)), ?_⟩
    refine ⟨_, rfl, _, rfl, t, _, _, _, rfl, rfl, SqT.of ht, x1, _, rfl, p, _, dx, _, _, rfl, r1, C, nH, r2, e, z, a, _, F, I, rfl, x2, x3, r5, ho.1, ?_⟩
    refine ⟨_, rfl, p, _, dx, _, _, rfl, r1, C, nW, r3, ?_⟩
    unfold foundM at k
    cases hg : gapO (es.getD n (0, [])) F I with
    | none =>
      rw [hg, if_neg (fun z => by cases z)] at k
      refine ⟨rfl, _, rfl, ?_⟩
      have e1 : decide (vO none = V.str W) = false := decide_eq_false (fun z => by cases z)
      rw [e1]
      exact iteF (k H (Same.refl H))
    | some y =>
      rw [hg] at k
      refine ⟨rfl, _, rfl, ?_⟩
      by_cases g : y = W
      · rw [if_pos (by rw [g])] at k
        have e1 : decide (vO (some y) = V.str W) = true := decide_eq_true (by rw [g]; rfl)
        rw [e1]
        refine iteT ⟨_, rfl, (by show 1 ≤ sizeLine; decide), fun b hb => ?_⟩
        exact k b _ ((Same.refl H).upd_free hb) upd_same
      · rw [if_neg (fun z => g (Option.some.inj z))] at k
        have e1 : decide (vO (some y) = V.str W) = false := decide_eq_false (fun z => g (by injection z))
        rw [e1]
        exact iteF (k H (Same.refl H))
theorem scHo : FnScope ["self"] ["self"] (defScope sHo) := ⟨rfl, rfl, rfl, by decide +kernel, rfl, by decide +kernel, by decide +kernel⟩
theorem ok_ho {f : Addr} {fd : FuncData} (F : Fun K "on" "Behind.on" sHo f fd) (C : Cls K (cl .beh)) (nR : NoAttr K (cl .beh) "reach") : FnOk P w K mg base CX0 1 f fd ["self"] (spO ks cl .beh d) := by
  refine F.ok scHo (fun vs H Q E h => ?_) (fun cdv A outer s H vs Q E hr h => ?_)
  · obtain ⟨p, q, rfl, _⟩ := h
    rfl
  · obtain ⟨p, q, rfl, hk, h2, h3, hq, k⟩ := h
    cases q <;> try cases hk
    obtain ⟨dx, a, b, fs, h1, h2, h3, h4, h5, h6, h7⟩ := hq
    refine ⟨_, pss_one (ps_ret (pe_fld (pv 0) rfl)), ?_⟩
    exact ⟨_, rfl, p, _, dx, _, _, rfl, h1, C, nR, h4, k⟩
theorem scAb : FnScope ["self"] ["self"] (defScope sAb) := ⟨rfl, rfl, rfl, by decide +kernel, rfl, by decide +kernel, by decide +kernel⟩
theorem ok_ab {f : Addr} {fd : FuncData} (F : Fun K "back" "Ahead.back" sAb f fd) (C : Cls K (cl .ahd)) (nR : NoAttr K (cl .ahd) "reach") : FnOk P w K mg base CX0 1 f fd ["self"] (spB ks cl .ahd d) := by
  refine F.ok scAb (fun vs H Q E h => ?_) (fun cdv A outer s H vs Q E hr h => ?_)
  · obtain ⟨p, q, rfl, _⟩ := h
    rfl
  · obtain ⟨p, q, rfl, hk, h2, h3, hq, k⟩ := h
    cases q <;> try cases hk
    obtain ⟨dx, a, b, fs, h1, h2, h3, h4, h5, h6, h7⟩ := hq
    refine ⟨_, pss_one (ps_ret (pe_fld (pv 0) rfl)), ?_⟩
    exact ⟨_, rfl, p, _, dx, _, _, rfl, h1, C, nR, h4, k⟩
theorem scHf : FnScope ["self", "log", "n", "row"] ["self", "log", "n"] (defScope sHf) := ⟨rfl, rfl, rfl, by decide +kernel, rfl, by decide +kernel, by decide +kernel⟩
theorem ok_hf {f fS fW : Addr} {fd fdS fdW : FuncData} (F : Fun K "found" "Behind.found" sHf f fd) (T : Txt mg) (C : Cls K (cl .beh)) (nH : NoAttr K (cl .beh) "here") (nA : NoAttr K (cl .beh) "away") (nR : NoAttr K (cl .beh) "reach")
    (FW : Fun K "word_at" "word_at" sWa fW fdW) (bW : Binds K fdW ["entry", "place"] []) (gW : mg "word_at" = some (.ref fW))
    (FS : Fun K "same_word" "same_word" sSw fS fdS) (bS : Binds K fdS ["entry", "place", "other", "away"] []) (gS : mg "same_word" = some (.ref fS)) :
    FnOk P w K mg base CX0 3 f fd ["self", "log", "n"] (spF ks cl .beh d) := by
  have GS : FnOk P w K mg base CX0 2 fS fdS ["entry", "place", "other", "away"] spSw := ok_sw FS T FW bW gW
  refine F.ok scHf (fun vs H Q E h => ?_) (fun cdv A outer s H vs Q E hr h => ?_)
  · obtain ⟨p, t, n, q, es, rfl, _⟩ := h
    rfl
  · obtain ⟨p, t, n, q, es, rfl, hk, hd, ho, hi, hq, L, l1, hn, k⟩ := h
    cases q <;> try cases hk
    rename_i F I G J R
    obtain ⟨i0, j0, r1⟩ := ho
    obtain ⟨dx, a, b, fs, h1, h2, h3, h4, h5, h8, h9⟩ := hq
    obtain ⟨qs, ht, hE⟩ := id L
    have hql : (qs.map V.ref).length = es.length := by rw [List.length_map]; exact hE.1
    refine ⟨_, pss_cons (ps_for PassesOwn.never rfl (pi_range2 rfl T.range (pa_cons (pe_op op_add (pv 2) pe_int) (pa_cons (pe_callB (call_min2 rfl) (by rfl) T.min PyProof.Rows.boot_min (pa_cons (pe_op op_add (pe_op op_add (pv 2) (pe_fld (pv 0) rfl)) pe_int) (pa_cons (pe_callB call_len_seq (by rfl) T.len PySem.boot_len (pa_cons (pv 1) pa_nil)) pa_nil))) pa_nil))) (pg_name (i := 3) scHf.nd rfl (Or.inl rfl))
        (pss_one (ps_if (pt_val (pe_call GS hr rfl gS FS.kp bS .nil pass0 (pa_cons (pe_ix ix_tup (pv 1) (pv 2) (fun _ _ => rfl)) (pa_cons (pe_fld (pv 0) rfl) (pa_cons (pe_ix ix_tup (pv 1) (pv 3) (fun _ _ => rfl)) (pa_cons (pe_fld (pv 0) rfl) pa_nil)))))) (pss_one (ps_ret (pe_tup (pa_cons (pv 2) (pa_cons (pv 3) pa_nil))))) pss_nil)))
      (pss_one (ps_ret pe_non)), ?_⟩
    refine ⟨_, rfl, _, _, rfl, rfl, _, rfl, _, rfl, p, _, dx, _, _, rfl, h1, C, nR, h4, _, _, rfl, rfl, _, _, rfl, rfl, _, rfl, t, _, rfl, .inr (SqT.of ht), _, _, rfl, ?_⟩
    rw [hql]
    have hmin : (if (es.length : Int) < (n : Int) + (R : Int) + 1 then (es.length : Int) else (n : Int) + (R : Int) + 1) = ((min (n + R + 1) es.length : Nat) : Int) := by
      split <;> omega
    rw [hmin]
    refine ⟨_, _, rfl, ⟨by omega, by omega, by omega, by omega⟩, ?_⟩
    unfold foundM at k
    refine for_range (lo := (n : Int) + 1) (n := (((min (n + R + 1) es.length : Nat) : Int) - ((n : Int) + 1)).toNat) (fun i σ H2 => ∃ v : Option V, H2 = H ∧ σ = [some (.ref p), some (.ref t), some (.int n), v] ∧ ∀ m, n + 1 ≤ m → m < n + 1 + i → behP es n F I G J m = false)
      ⟨none, rfl, rfl, fun m m1 m2 => by omega⟩ ?_ ?_
    · rintro i σ H2 hi2 ⟨v, rfl, rfl, hno⟩
      have em : (n : Int) + 1 + (i : Int) = ((n + 1 + i : Nat) : Int) := by omega
      rw [em]
      have hm : n + 1 + i < es.length := by omega
      obtain ⟨q, z, x1, x2, x3⟩ := ent_at hE (i := (n : Int)) (by omega) (by omega)
      obtain ⟨q', z', y1, y2, y3⟩ := ent_at hE (i := ((n + 1 + i : Nat) : Int)) (by omega) (by omega)
      rw [Int.toNat_natCast] at x2 x3 y2 y3
      refine ⟨_, rfl, _, rfl, t, _, _, _, rfl, rfl, SqT.of ht, x1, _, rfl, p, _, dx, _, _, rfl, h1, C, nH, h2, _, rfl, _, rfl, t, _, _, _, rfl, rfl, SqT.of ht, y1, _, rfl, p, _, dx, _, _, rfl, h1, C, nA, h3, ?_⟩
      refine ⟨q, z, a, q', z', b, _, _, F, I, G, J, rfl, x2, x3, h8, i0, y2, y3, h9, j0, _, rfl, ?_⟩
      refine ite2 (fun hy => ?_) (fun hno' => ?_)
      · refine ⟨_, rfl, _, rfl, (by show 2 ≤ sizeLine; decide), fun c hc => ?_⟩
        have f1 : Fst (behP es n F I G J) (n + 1) (min (n + R + 1) es.length) (some (n + 1 + i)) := ⟨by omega, by omega, hy, fun j j1 j2 => hno j j1 j2⟩
        rw [fst_to f1] at k
        exact k c _ ((Same.refl H2).upd_free hc) upd_same
      · refine ⟨_, rfl, rfl, fun m m1 m2 => ?_⟩
        by_cases e : m < n + 1 + i
        · exact hno m m1 e
        · have e' : m = n + 1 + i := by omega
          rw [e']
          exact Bool.not_eq_true _ |>.mp hno'
    · rintro σ H2 ⟨v, rfl, rfl, hno⟩
      have f1 : Fst (behP es n F I G J) (n + 1) (min (n + R + 1) es.length) none := fun m m1 m2 => hno m m1 (by omega)
      rw [fst_to f1] at k
      exact k H2 (Same.refl H2)
theorem scAf : FnScope ["self", "log", "n", "row"] ["self", "log", "n"] (defScope sAf) := ⟨rfl, rfl, rfl, by decide +kernel, rfl, by decide +kernel, by decide +kernel⟩
theorem ok_af {f fS fW : Addr} {fd fdS fdW : FuncData} (F : Fun K "found" "Ahead.found" sAf f fd) (T : Txt mg) (C : Cls K (cl .ahd)) (nH : NoAttr K (cl .ahd) "here") (nA : NoAttr K (cl .ahd) "away") (nR : NoAttr K (cl .ahd) "reach")
    (FW : Fun K "word_at" "word_at" sWa fW fdW) (bW : Binds K fdW ["entry", "place"] []) (gW : mg "word_at" = some (.ref fW))
    (FS : Fun K "same_word" "same_word" sSw fS fdS) (bS : Binds K fdS ["entry", "place", "other", "away"] []) (gS : mg "same_word" = some (.ref fS)) :
    FnOk P w K mg base CX0 3 f fd ["self", "log", "n"] (spF ks cl .ahd d) := by
  have GS : FnOk P w K mg base CX0 2 fS fdS ["entry", "place", "other", "away"] spSw := ok_sw FS T FW bW gW
  refine F.ok scAf (fun vs H Q E h => ?_) (fun cdv A outer s H vs Q E hr h => ?_)
  · obtain ⟨p, t, n, q, es, rfl, _⟩ := h
    rfl
  · obtain ⟨p, t, n, q, es, rfl, hk, hd, ho, hi, hq, L, l1, hn, k⟩ := h
    cases q <;> try cases hk
    rename_i F I G J R
    obtain ⟨i0, j0, r1⟩ := ho
    obtain ⟨dx, a, b, fs, h1, h2, h3, h4, h5, h8, h9⟩ := hq
    obtain ⟨qs, ht, hE⟩ := id L
    refine ⟨_, pss_cons (ps_for PassesOwn.never rfl (pi_rangeD rfl T.range (pa_cons (pe_op op_sub (pv 2) pe_int) (pa_cons (pe_op op_sub (pe_callB (call_max2 rfl) (by rfl) T.max PyProof.Rows.boot_max (pa_cons (pe_op op_sub (pv 2) (pe_fld (pv 0) rfl)) (pa_cons pe_int pa_nil))) pe_int) (pa_cons (pe_un un_neg pe_int) pa_nil)))) (pg_name (i := 3) scAf.nd rfl (Or.inl rfl))
        (pss_one (ps_if (pt_val (pe_call GS hr rfl gS FS.kp bS .nil pass0 (pa_cons (pe_ix ix_tup (pv 1) (pv 2) (fun _ _ => rfl)) (pa_cons (pe_fld (pv 0) rfl) (pa_cons (pe_ix ix_tup (pv 1) (pv 3) (fun _ _ => rfl)) (pa_cons (pe_fld (pv 0) rfl) pa_nil)))))) (pss_one (ps_ret (pe_tup (pa_cons (pv 3) (pa_cons (pv 2) pa_nil))))) pss_nil)))
      (pss_one (ps_ret pe_non)), ?_⟩
    refine ⟨_, rfl, _, _, rfl, rfl, _, rfl, _, rfl, p, _, dx, _, _, rfl, h1, C, nR, h4, _, _, rfl, rfl, _, _, rfl, _, _, rfl, rfl, _, rfl, ?_⟩
    have hmax : (if (0 : Int) > (n : Int) - (R : Int) then (0 : Int) else (n : Int) - (R : Int)) = ((n - R : Nat) : Int) := by
      split <;> omega
    rw [hmax]
    refine ⟨_, _, rfl, ⟨by omega, by omega, by omega, by omega⟩, ?_⟩
    unfold foundM at k
    refine for_down (lo := (n : Int) - 1) (n := ((n : Int) - 1 - (((n - R : Nat) : Int) - 1)).toNat) (fun i σ H2 => ∃ v : Option V, H2 = H ∧ σ = [some (.ref p), some (.ref t), some (.int n), v] ∧ ∀ m, n - i ≤ m → m < n → behP es n F I G J m = false)
      ⟨none, rfl, rfl, fun m m1 m2 => by omega⟩ ?_ ?_
    · rintro i σ H2 hi2 ⟨v, rfl, rfl, hno⟩
      have em : (n : Int) - 1 - (i : Int) = ((n - 1 - i : Nat) : Int) := by omega
      rw [em]
      obtain ⟨q, z, x1, x2, x3⟩ := ent_at hE (i := (n : Int)) (by omega) (by omega)
      obtain ⟨q', z', y1, y2, y3⟩ := ent_at hE (i := ((n - 1 - i : Nat) : Int)) (by omega) (by omega)
      rw [Int.toNat_natCast] at x2 x3 y2 y3
      refine ⟨_, rfl, _, rfl, t, _, _, _, rfl, rfl, SqT.of ht, x1, _, rfl, p, _, dx, _, _, rfl, h1, C, nH, h2, _, rfl, _, rfl, t, _, _, _, rfl, rfl, SqT.of ht, y1, _, rfl, p, _, dx, _, _, rfl, h1, C, nA, h3, ?_⟩
      refine ⟨q, z, a, q', z', b, _, _, F, I, G, J, rfl, x2, x3, h8, i0, y2, y3, h9, j0, _, rfl, ?_⟩
      refine ite2 (fun hy => ?_) (fun hno' => ?_)
      · refine ⟨_, rfl, _, rfl, (by show 2 ≤ sizeLine; decide), fun c hc => ?_⟩
        have f1 : Lst (behP es n F I G J) (n - R) n (some (n - 1 - i)) := ⟨by omega, by omega, hy, fun j j1 j2 => hno j (by omega) j2⟩
        rw [lst_to f1] at k
        exact k c _ ((Same.refl H2).upd_free hc) upd_same
      · refine ⟨_, rfl, rfl, fun m m1 m2 => ?_⟩
        by_cases e : n - i ≤ m
        · exact hno m e m2
        · have e' : m = n - 1 - i := by omega
          rw [e']
          exact Bool.not_eq_true _ |>.mp hno'
    · rintro σ H2 ⟨v, rfl, rfl, hno⟩
      have f1 : Lst (behP es n F I G J) (n - R) n none := fun m m1 m2 => hno m (by omega) m2
      rw [lst_to f1] at k
      exact k H2 (Same.refl H2)
end
end QL
namespace QL
open PySem L2
theorem any_int (rows : List Nat) (n : Nat) : ((rows.map fun (m : Nat) => PyData.int (m : Int)).any fun d => PyData.eqv d (.int (n : Int))) = decide (n ∈ rows) := by
  induction rows with
  | nil => rfl
  | cons a r ih =>
    rw [List.map_cons, List.any_cons, ih, PyData.eqv]
    by_cases e : n = a
    · subst e
      simp
    · have e1 : ((a : Int) == (n : Int)) = false := beq_eq_false_iff_ne.mpr (by omega)
      rw [e1, Bool.false_or]
      have : n ∈ a :: r ↔ n ∈ r := by
        rw [List.mem_cons]
        exact ⟨fun z => z.elim (fun z => absurd z e) id, .inr⟩
      exact (decide_eq_decide.mpr this).symm
theorem nats_at {K : PySem.W.Frag} {H : Hp} : ∀ ns : List Nat, DsAt K H (vN ns) (ns.map fun (m : Nat) => PyData.int (m : Int))
  | [] => .nil
  | n :: ns => .cons (.int n) (nats_at ns)
theorem nats_lay : ∀ ns : List Nat, PyData.canLayAll0 (ns.map fun (m : Nat) => PyData.int (m : Int)) = true
  | [] => rfl
  | n :: ns => by
    rw [List.map_cons, PyData.canLayAll0, nats_lay ns]
    rfl
theorem int_ok (n : Int) : DOk (.int n) := ⟨rfl, by rw [PyData.depth]; decide⟩
theorem rng_nil (a : Nat) : rng a (a + 0) = [] := by
  unfold rng
  have e : a + 0 - a = 0 := by omega
  rw [e]
  rfl
theorem vN_len (rows : List Nat) : (vN rows).length = rows.length := List.length_map ..
section
variable {P : Program} {w : World} {K : PySem.W.Frag} {mg : Str → Option Value} {base : Heap} {ks : Kd → Bool} {cl : Kd → Addr} {d lev : Nat}
theorem scTb : FnScope ["self"] ["self"] (defScope sTb) := ⟨rfl, rfl, rfl, by decide +kernel, rfl, by decide +kernel, by decide +kernel⟩
theorem ok_tb {f : Addr} {fd : FuncData} (F : Fun K "back" "Times.back" sTb f fd) (C : Cls K (cl .tim)) (nR : NoAttr K (cl .tim) "reach") (nI : NoAttr K (cl .tim) "inner") (T : Tab P w K mg base ks cl d lev) : FnOk P w K mg base CX0 (lev + 1) f fd ["self"] (spB ks cl .tim (d + 1)) := by
  refine F.ok scTb (fun vs H Q E h => ?_) (fun cdv A outer s H vs Q E hr h => ?_)
  · obtain ⟨p, q, rfl, _⟩ := h
    rfl
  · obtain ⟨p, q, rfl, hk, hd, hi, hq, k⟩ := h
    cases q <;> try cases hk
    rename_i R L q
    obtain ⟨dx, fs, c, h1, h2, h3, h4, h5, h6⟩ := hq
    refine ⟨_, pss_one (ps_ret (pe_op op_sub (pe_op op_add (pe_methD0 (CX := CX0) (pe_fld (pv 0) rfl) hr pass0) (pe_fld (pv 0) rfl)) pe_int)), ?_⟩
    obtain ⟨dx', fs', f', fd', g1, g2, g3, g4, g5, g6⟩ := T.back h6 hi.2
    have hd' : q.dep < d := Nat.lt_of_succ_lt_succ hd
    refine ⟨_, rfl, p, _, dx, _, _, rfl, h1, C, nI, h4, c, _, dx', fs', f', fd', _, _, rfl, g1, g2, g3, g4, g5, g6, c, q, rfl, rfl, hd', hi.2, h6, ?_⟩
    exact ⟨_, rfl, p, _, dx, _, _, rfl, h1, C, nR, h2, _, _, rfl, rfl, _, _, rfl, rfl, k⟩
theorem scTo : FnScope ["self"] ["self"] (defScope sTo) := ⟨rfl, rfl, rfl, by decide +kernel, rfl, by decide +kernel, by decide +kernel⟩
theorem ok_to {f : Addr} {fd : FuncData} (F : Fun K "on" "Times.on" sTo f fd) (C : Cls K (cl .tim)) (nI : NoAttr K (cl .tim) "inner") (T : Tab P w K mg base ks cl d lev) : FnOk P w K mg base CX0 (lev + 1) f fd ["self"] (spO ks cl .tim (d + 1)) := by
  refine F.ok scTo (fun vs H Q E h => ?_) (fun cdv A outer s H vs Q E hr h => ?_)
  · obtain ⟨p, q, rfl, _⟩ := h
    rfl
  · obtain ⟨p, q, rfl, hk, hd, hi, hq, k⟩ := h
    cases q <;> try cases hk
    rename_i R L q
    obtain ⟨dx, fs, c, h1, h2, h3, h4, h5, h6⟩ := hq
    refine ⟨_, pss_one (ps_ret (pe_methD0 (CX := CX0) (pe_fld (pv 0) rfl) hr pass0)), ?_⟩
    obtain ⟨dx', fs', f', fd', g1, g2, g3, g4, g5, g6⟩ := T.on h6 hi.2
    have hd' : q.dep < d := Nat.lt_of_succ_lt_succ hd
    exact ⟨_, rfl, p, _, dx, _, _, rfl, h1, C, nI, h4, c, _, dx', fs', f', fd', _, _, rfl, g1, g2, g3, g4, g5, g6, c, q, rfl, rfl, hd', hi.2, h6, k⟩
theorem scTf : FnScope ["self", "log", "n", "start", "rows"] ["self", "log", "n"] (defScope sTf) := ⟨rfl, rfl, rfl, by decide +kernel, rfl, by decide +kernel, by decide +kernel⟩
def scopeT : Scope := { kind := .function, names := [(".0", .local), ("row", .local), ("log", .free), ("self", .free)], isGenerator := false, isCoroutine := false, more := [] }
theorem scT : BlkScope (defScope sTf) ["self", "log", "n", "start", "rows"] ["row"] ["self", "log"] [0, 1] scopeT := ⟨rfl, by decide +kernel, by decide +kernel, by decide +kernel, rfl, by decide +kernel, by decide +kernel⟩
theorem ok_tf {f : Addr} {fd : FuncData} (F : Fun K "found" "Times.found" sTf f fd) (TX : Txt mg) (C : Cls K (cl .tim)) (nR : NoAttr K (cl .tim) "reach") (nL : NoAttr K (cl .tim) "least") (nI : NoAttr K (cl .tim) "inner") (T : Tab P w K mg base ks cl d lev) : FnOk P w K mg base CX0 (lev + 1) f fd ["self", "log", "n"] (spF ks cl .tim (d + 1)) := by
  refine F.ok scTf (fun vs H Q E h => ?_) (fun cdv A outer s H vs Q E hr h => ?_)
  · obtain ⟨p, t, n, q, es, rfl, _⟩ := h
    rfl
  · obtain ⟨p, t, n, q, es, rfl, hk, hd, ho, hi, hq, L, l1, hn, k⟩ := h
    cases q <;> try cases hk
    rename_i R M q
    obtain ⟨r1, r2, m1, ho'⟩ := ho
    obtain ⟨dx, fs, c, h1, h2, h3, h4, h5, h6⟩ := hq
    have hu := hr.units
    have hd' : q.dep < d := Nat.lt_of_succ_lt_succ hd
    refine ⟨_, pss_cons (ps_set (i := 3) scTf.nd rfl (Or.inl rfl) (pe_callB (call_max2 rfl) (by rfl) TX.max PyProof.Rows.boot_max (pa_cons (pe_op op_add (pe_op op_sub (pv 2) (pe_fld (pv 0) rfl)) pe_int) (pa_cons pe_int pa_nil))))
      (pss_cons (ps_setlc (i := 4) scT rfl rfl rfl (pi_range2 rfl TX.range (pa_cons (pv 3) (pa_cons (pe_op op_add (pv 2) pe_int) pa_nil))) (fun fp C s1 H1 => pg_name (i := 0) scT.nd rfl (Or.inl rfl))
        (fun fp C s1 H1 => pts_one (pt_cmp (pc_notN (pe_methDK (P := P) (w := w) (K := K) (mg := mg) (base := base) (CX := CX0) rfl rfl rfl rfl rfl (pe_fldK (K := K) rfl (pv 1) rfl) hr pass0 (pa_cons (pv 2) (pa_cons (pv 0) pa_nil)))))) (fun fp C s1 H1 => pv 0) scTf.nd rfl rfl rfl)
      (pss_one (ps_ret (pe_ifExp (PW.pt (pw_and (pt_cmpR (op_inD hu) (pv 2) (pv 4) (by with_unfolding_all rfl)) (pw_and1 (pt_cmpR op_ge (pe_callB call_len_seq (by rfl) TX.len PySem.boot_len (pa_cons (pv 4) pa_nil)) (pe_fld (pv 0) rfl) (nomark _)))))
        (pe_callTy call_tuple_of (by rfl) TX.tuple PyProof.Rows.boot_tuple (pa_cons (pv 4) pa_nil)) pe_non)))), ?_⟩
    refine ⟨_, rfl, _, rfl, p, _, dx, _, _, rfl, h1, C, nR, h2, _, _, rfl, rfl, _, _, rfl, rfl, _, _, rfl, ?_⟩
    have hmax : (if (0 : Int) > (n : Int) - (R : Int) + 1 then (0 : Int) else (n : Int) - (R : Int) + 1) = ((n + 1 - R : Nat) : Int) := by
      split <;> omega
    rw [hmax]
    refine ⟨_, rfl, _, rfl, _, _, rfl, rfl, _, _, rfl, ⟨by omega, by omega, by omega, by omega⟩, fun D hD => ?_⟩
    refine lc_range (lo := ((n + 1 - R : Nat) : Int)) (n := ((n : Int) + 1 - ((n + 1 - R : Nat) : Int)).toNat) (fun j ys H3 => Same H H3 ∧ H3 D = some (.lst ys) ∧ ys = vN ((rng (n + 1 - R) (n + 1 - R + j)).filter fun m => (foundM es q m).isSome)) (Nat.le_of_lt (small1000 (by omega)))
      ⟨(Same.refl H).upd_free hD, upd_same, by rw [rng_nil]; rfl⟩ (fun j ys H3 h => by rw [h.2.2, vN_len]; exact Nat.le_trans (List.length_filter_le ..) (by rw [rng_len]; omega)) ?_ ?_
    · rintro j ys H3 N M' hj ⟨u1, u2, rfl⟩ hN hM
      have em : ((n + 1 - R : Nat) : Int) + (j : Int) = ((n + 1 - R + j : Nat) : Int) := by omega
      rw [em]
      have hm : n + 1 - R + j < es.length := by omega
      have hr2 : rng (n + 1 - R) (n + 1 - R + (j + 1)) = rng (n + 1 - R) (n + 1 - R + j) ++ [n + 1 - R + j] := by
        unfold rng
        have e1 : n + 1 - R + (j + 1) - (n + 1 - R) = (n + 1 - R + j - (n + 1 - R)) + 1 := by omega
        rw [e1, List.range_succ, List.map_append]
        have e2 : n + 1 - R + j - (n + 1 - R) = j := by omega
        rw [e2]
        rfl
      obtain ⟨dx', fs', f', fd', g1, g2, g3, g4, g5, g6⟩ := T.found (QAt.same u1 h6) hi.2
      refine ⟨_, rfl, p, _, dx, _, _, rfl, u1 _ _ h1, C, nI, h4, c, _, dx', fs', f', fd', _, _, rfl, g1, g2, g3, g4, g5, g6, _, rfl, _, rfl, c, t, n + 1 - R + j, q, es, rfl, rfl, hd', ho', hi.2, QAt.same u1 h6, L.same u1, l1, hm, ?_⟩
      cases hf : foundM es q (n + 1 - R + j) with
      | none =>
        intro H4 u4
        refine ⟨_, rfl, iteNS rfl ?_⟩
        refine hM H4 ⟨u1.trans u4, u4 _ _ u2, ?_⟩
        rw [hr2, List.filter_append]
        have e0 : [n + 1 - R + j].filter (fun m => (foundM es q m).isSome) = [] := by simp [hf]
        rw [e0, List.append_nil]
      | some rows =>
        intro a H4 u4 ha
        refine ⟨_, rfl, ?_⟩
        have nn : ¬ (V.ref a = V.non) := fun z => by cases z
        rw [decide_eq_false nn]
        refine iteT ⟨_, rfl, ?_⟩
        have e0 : vN ((rng (n + 1 - R) (n + 1 - R + (j + 1))).filter fun m => (foundM es q m).isSome) = vN ((rng (n + 1 - R) (n + 1 - R + j)).filter fun m => (foundM es q m).isSome) ++ [V.int ((n + 1 - R + j : Nat) : Int)] := by
          rw [hr2, List.filter_append]
          have e0 : [n + 1 - R + j].filter (fun m => (foundM es q m).isSome) = [n + 1 - R + j] := by simp [hf]
          rw [e0]
          unfold vN
          rw [List.map_append]
          rfl
        exact hN _ H4 (u4 _ _ u2) ⟨(u1.trans u4).upd_free hD, upd_same, e0.symm⟩
    · rintro ys H3 ⟨u1, u2, rfl⟩
      have e3 : n + 1 - R + ((n : Int) + 1 - ((n + 1 - R : Nat) : Int)).toNat = n + 1 := by omega
      rw [e3] at u2
      unfold foundM at k
      generalize hrows : (rng (n + 1 - R) (n + 1)).filter (fun m => (foundM es q m).isSome) = rows at k u2
      have hlen : rows.length ≤ 1000 := by
        rw [← hrows]
        exact Nat.le_trans (List.length_filter_le ..) (by rw [rng_len]; omega)
      refine ⟨_, rfl, _, rfl, D, _, .int (n : Int), _, rfl, .inl (SqL.of u2), nats_at rows, .int n, int_ok n, nats_lay rows, _, rfl, ?_⟩
      rw [show (if false = true then !((rows.map fun (m : Nat) => PyData.int (m : Int)).any fun d => PyData.eqv d (.int (n : Int))) else ((rows.map fun (m : Nat) => PyData.int (m : Int)).any fun d => PyData.eqv d (.int (n : Int)))) = decide (n ∈ rows) from by rw [if_neg Bool.false_ne_true, any_int]]
      by_cases hin : n ∈ rows
      · rw [decide_eq_true hin]
        refine iteT ⟨_, rfl, D, _, rfl, .inl (SqL.of u2), _, rfl, p, _, dx, _, _, rfl, u1 _ _ h1, C, nL, h3, _, _, rfl, rfl, _, rfl, ?_⟩
        rw [vN_len]
        by_cases hle : M ≤ rows.length
        · have e1 : decide ((M : Int) ≤ (rows.length : Int)) = true := decide_eq_true (by omega)
          rw [e1]
          rw [if_pos ⟨hin, hle⟩] at k
          refine iteT ⟨_, rfl, D, _, rfl, .inl ⟨SqL.of u2, fun a ha => ?_⟩⟩
          exact k a _ (u1.upd_free (u1.free ha)) upd_same
        · have e1 : decide ((M : Int) ≤ (rows.length : Int)) = false := decide_eq_false (by omega)
          rw [e1]
          rw [if_neg (fun z => hle z.2)] at k
          exact iteF (k H3 u1)
      · rw [decide_eq_false hin]
        rw [if_neg (fun z => hin z.1)] at k
        exact iteF (iteF (k H3 u1))
theorem scNb : FnScope ["self"] ["self"] (defScope sNb) := ⟨rfl, rfl, rfl, by decide +kernel, rfl, by decide +kernel, by decide +kernel⟩
theorem ok_nb {f : Addr} {fd : FuncData} (F : Fun K "back" "Not.back" sNb f fd) (C : Cls K (cl .non)) (nO : NoAttr K (cl .non) "one") (T : Tab P w K mg base ks cl d lev) : FnOk P w K mg base CX0 (lev + 1) f fd ["self"] (spB ks cl .non (d + 1)) := by
  refine F.ok scNb (fun vs H Q E h => ?_) (fun cdv A outer s H vs Q E hr h => ?_)
  · obtain ⟨p, q, rfl, _⟩ := h
    rfl
  · obtain ⟨p, q, rfl, hk, hd, hi, hq, k⟩ := h
    cases q <;> try cases hk
    rename_i q
    obtain ⟨dx, fs, c, h1, h2, h3, h4⟩ := hq
    refine ⟨_, pss_one (ps_ret (pe_methD0 (CX := CX0) (pe_fld (pv 0) rfl) hr pass0)), ?_⟩
    obtain ⟨dx', fs', f', fd', g1, g2, g3, g4, g5, g6⟩ := T.back h4 hi.2
    have hd' : q.dep < d := Nat.lt_of_succ_lt_succ hd
    exact ⟨_, rfl, p, _, dx, _, _, rfl, h1, C, nO, h2, c, _, dx', fs', f', fd', _, _, rfl, g1, g2, g3, g4, g5, g6, c, q, rfl, rfl, hd', hi.2, h4, k⟩
theorem scNo : FnScope ["self"] ["self"] (defScope sNo) := ⟨rfl, rfl, rfl, by decide +kernel, rfl, by decide +kernel, by decide +kernel⟩
theorem ok_no {f : Addr} {fd : FuncData} (F : Fun K "on" "Not.on" sNo f fd) (C : Cls K (cl .non)) (nO : NoAttr K (cl .non) "one") (T : Tab P w K mg base ks cl d lev) : FnOk P w K mg base CX0 (lev + 1) f fd ["self"] (spO ks cl .non (d + 1)) := by
  refine F.ok scNo (fun vs H Q E h => ?_) (fun cdv A outer s H vs Q E hr h => ?_)
  · obtain ⟨p, q, rfl, _⟩ := h
    rfl
  · obtain ⟨p, q, rfl, hk, hd, hi, hq, k⟩ := h
    cases q <;> try cases hk
    rename_i q
    obtain ⟨dx, fs, c, h1, h2, h3, h4⟩ := hq
    refine ⟨_, pss_one (ps_ret (pe_methD0 (CX := CX0) (pe_fld (pv 0) rfl) hr pass0)), ?_⟩
    obtain ⟨dx', fs', f', fd', g1, g2, g3, g4, g5, g6⟩ := T.on h4 hi.2
    have hd' : q.dep < d := Nat.lt_of_succ_lt_succ hd
    exact ⟨_, rfl, p, _, dx, _, _, rfl, h1, C, nO, h2, c, _, dx', fs', f', fd', _, _, rfl, g1, g2, g3, g4, g5, g6, c, q, rfl, rfl, hd', hi.2, h4, k⟩
theorem scNf : FnScope ["self", "log", "n"] ["self", "log", "n"] (defScope sNf) := ⟨rfl, rfl, rfl, by decide +kernel, rfl, by decide +kernel, by decide +kernel⟩
theorem ok_nf {f : Addr} {fd : FuncData} (F : Fun K "found" "Not.found" sNf f fd) (C : Cls K (cl .non)) (nO : NoAttr K (cl .non) "one") (T : Tab P w K mg base ks cl d lev) : FnOk P w K mg base CX0 (lev + 1) f fd ["self", "log", "n"] (spF ks cl .non (d + 1)) := by
  refine F.ok scNf (fun vs H Q E h => ?_) (fun cdv A outer s H vs Q E hr h => ?_)
  · obtain ⟨p, t, n, q, es, rfl, _⟩ := h
    rfl
  · obtain ⟨p, t, n, q, es, rfl, hk, hd, ho, hi, hq, L, l1, hn, k⟩ := h
    cases q <;> try cases hk
    rename_i q
    obtain ⟨dx, fs, c, h1, h2, h3, h4⟩ := hq
    refine ⟨_, pss_one (ps_ret (pe_ifExp (pt_cmp (pc_isN (pe_methD (CX := CX0) (pe_fld (pv 0) rfl) hr pass0 (pa_cons (pv 1) (pa_cons (pv 2) pa_nil))))) (pe_tup pa_nil) pe_non)), ?_⟩
    obtain ⟨dx', fs', f', fd', g1, g2, g3, g4, g5, g6⟩ := T.found h4 hi.2
    have hd' : q.dep < d := Nat.lt_of_succ_lt_succ hd
    refine ⟨_, rfl, p, _, dx, _, _, rfl, h1, C, nO, h2, c, _, dx', fs', f', fd', _, _, rfl, g1, g2, g3, g4, g5, g6, _, rfl, _, rfl, c, t, n, q, es, rfl, rfl, hd', ho, hi.2, h4, L, l1, hn, ?_⟩
    unfold foundM at k
    cases hf : foundM es q n with
    | none =>
      rw [hf] at k
      intro H4 u4
      refine ⟨_, rfl, iteT ⟨Nat.zero_le _, fun a ha => ?_⟩⟩
      exact k a _ (u4.upd_free (u4.free ha)) upd_same
    | some rows =>
      rw [hf] at k
      intro a H4 u4 ha
      refine ⟨_, rfl, ?_⟩
      have nn : ¬ (V.ref a = V.non) := fun z => by cases z
      rw [decide_eq_false nn]
      exact iteF (k H4 u4)
end
end QL
namespace QL
open PySem L2
theorem iteTK {c : Bool} {A B : Prop} (h : c = true) (a : A) : if c = true then A else B := by
  rw [if_pos h]
  exact a
theorem iteFK {c : Bool} {A B : Prop} (h : c = false) (b : B) : if c = true then A else B := by
  rw [h]
  exact iteF b

def AAt (H : Hp) : Qn → Addr → Prop
  | .row F, p => H p = some (.tup [.str (Str.ofString "row"), .int F])
  | .wit F I W, p => H p = some (.tup [.str (Str.ofString "with"), .int F, .int I, .str W])
  | .beh F I G J R, p => H p = some (.tup [.str (Str.ofString "behind"), .int F, .int I, .int G, .int J, .int R])
  | .ahd F I G J R, p => H p = some (.tup [.str (Str.ofString "ahead"), .int F, .int I, .int G, .int J, .int R])
  | .tim K C q, p => ∃ c, H p = some (.tup [.str (Str.ofString "times"), .int K, .int C, .ref c]) ∧ AAt H q c
  | .bot q r, p => ∃ c e, H p = some (.tup [.str (Str.ofString "both"), .ref c, .ref e]) ∧ AAt H q c ∧ AAt H r e
  | .eit q r, p => ∃ c e, H p = some (.tup [.str (Str.ofString "either"), .ref c, .ref e]) ∧ AAt H q c ∧ AAt H r e
  | .non q, p => ∃ c, H p = some (.tup [.str (Str.ofString "not"), .ref c]) ∧ AAt H q c
theorem AAt.same {H H' : Hp} (s : Same H H') : ∀ {q : Qn} {p : Addr}, AAt H q p → AAt H' q p
  | .row _, _, h => s _ _ h
  | .wit _ _ _, _, h => s _ _ h
  | .beh _ _ _ _ _, _, h => s _ _ h
  | .ahd _ _ _ _ _, _, h => s _ _ h
  | .tim _ _ _, _, ⟨c, h1, h2⟩ => ⟨c, s _ _ h1, AAt.same s h2⟩
  | .bot _ _, _, ⟨c, e, h1, h2, h3⟩ => ⟨c, e, s _ _ h1, AAt.same s h2, AAt.same s h3⟩
  | .eit _ _, _, ⟨c, e, h1, h2, h3⟩ => ⟨c, e, s _ _ h1, AAt.same s h2, AAt.same s h3⟩
  | .non _, _, ⟨c, h1, h2⟩ => ⟨c, s _ _ h1, AAt.same s h2⟩

def Old (H1 H : Hp) (p : Addr) : Prop := ∀ b o, H1 b = some o → b ≠ p ∧ H b = some o
def Kept (H H' : Hp) (p : Addr) : Prop := ∀ b o, H b = some o → b ≠ p → H' b = some o
theorem Old.then {H1 H H' : Hp} {p : Addr} (h : Old H1 H p) (k : Kept H H' p) : Same H1 H' := fun b o e => k b o (h b o e).2 (h b o e).1
theorem Old.new {H : Hp} {x dx : Addr} {C : Addr} {fs : List (Str × V)} (nx : H x = none) (ndx : H dx = none) : Old H (upd (upd H dx (.own x)) x (.ins C dx fs)) x := fun b o e => ⟨ne_of_none e nx, by
  rw [upd_ne (ne_of_none e nx), upd_ne (ne_of_none e ndx)]
  exact e⟩
def spRi (cl : Kd → Addr) : Sp := fun vs H Q _ => ∃ (p dx : Addr) (F : Int), vs = [.ref p, .int F] ∧ H p = some (.ins (cl .row) dx []) ∧ ∀ H', QAt cl H' (.row F) p → Kept H H' p → Q .non H'
def spWi (cl : Kd → Addr) : Sp := fun vs H Q _ => ∃ (p dx : Addr) (F I : Int) (W : Str), vs = [.ref p, .int F, .int I, .str W] ∧ H p = some (.ins (cl .wit) dx []) ∧ ∀ H', QAt cl H' (.wit F I W) p → Kept H H' p → Q .non H'
def spFi (C : Addr) : Sp := fun vs H Q _ => ∃ (p dx : Addr) (F I G J : Int) (R : Nat), vs = [.ref p, .int F, .int I, .int G, .int J, .int R] ∧ H p = some (.ins C dx []) ∧ ∀ H', FarAt C H' p F I G J R → Kept H H' p → Q .non H'
def spTi (cl : Kd → Addr) : Sp := fun vs H Q _ => ∃ (p dx c : Addr) (R M : Nat) (q : Qn) (H1 : Hp), vs = [.ref p, .int R, .int M, .ref c] ∧ H p = some (.ins (cl .tim) dx []) ∧ QAt cl H1 q c ∧ Old H1 H p ∧ ∀ H', QAt cl H' (.tim R M q) p → Kept H H' p → Q .non H'
def spNi (cl : Kd → Addr) : Sp := fun vs H Q _ => ∃ (p dx c : Addr) (q : Qn) (H1 : Hp), vs = [.ref p, .ref c] ∧ H p = some (.ins (cl .non) dx []) ∧ QAt cl H1 q c ∧ Old H1 H p ∧ ∀ H', QAt cl H' (.non q) p → Kept H H' p → Q .non H'
section
variable {P : Program} {w : World} {K : PySem.W.Frag} {mg : Str → Option Value} {base : Heap} {ks : Kd → Bool} {cl : Kd → Addr}
theorem scRi : FnScope ["self", "letter"] ["self", "letter"] (defScope sRi) := ⟨rfl, rfl, rfl, by decide +kernel, rfl, by decide +kernel, by decide +kernel⟩
theorem ok_ri {f : Addr} {fd : FuncData} (F : Fun K "__init__" "Row.__init__" sRi f fd) (C : Cls K (cl .row)) (nW : NoAttr K (cl .row) "wanted") : FnOk P w K mg base CX0 1 f fd ["self", "letter"] (spRi cl) := by
  refine F.ok scRi (fun vs H Q E h => ?_) (fun cdv A outer s H vs Q E hr h => ?_)
  · obtain ⟨p, dx, F, rfl, _⟩ := h
    rfl
  · obtain ⟨p, dx, F, rfl, hp, k⟩ := h
    refine ⟨_, pss_one (ps_fld (pv 0) (pv 1) rfl), ?_⟩
    refine ⟨_, rfl, _, rfl, p, _, dx, _, rfl, hp, C, nW, (by show 0 < 1000; decide), ?_⟩
    refine k _ ⟨dx, _, upd_same, ?_, NoMeth.nil.put (by decide +kernel) (by decide +kernel) (by decide +kernel)⟩ fun c o e hc => ?_
    · rw [lookup_putF, if_pos rfl]
    · rw [upd_ne hc]
      exact e
theorem scWi : FnScope ["self", "letter", "gap", "word"] ["self", "letter", "gap", "word"] (defScope sWi) := ⟨rfl, rfl, rfl, by decide +kernel, rfl, by decide +kernel, by decide +kernel⟩
theorem ok_wi {f : Addr} {fd : FuncData} (F : Fun K "__init__" "With.__init__" sWi f fd) (C : Cls K (cl .wit)) (nH : NoAttr K (cl .wit) "here") (nW : NoAttr K (cl .wit) "wanted") : FnOk P w K mg base CX0 1 f fd ["self", "letter", "gap", "word"] (spWi cl) := by
  refine F.ok scWi (fun vs H Q E h => ?_) (fun cdv A outer s H vs Q E hr h => ?_)
  · obtain ⟨p, dx, F, I, W, rfl, _⟩ := h
    rfl
  · obtain ⟨p, dx, F, I, W, rfl, hp, k⟩ := h
    refine ⟨_, pss_cons (ps_fld (pv 0) (pe_tup (pa_cons (pv 1) (pa_cons (pv 2) pa_nil))) rfl) (pss_one (ps_fld (pv 0) (pv 3) rfl)), ?_⟩
    refine ⟨_, rfl, _, rfl, (by show 2 ≤ sizeLine; decide), fun a ha => ?_⟩
    have npa : p ≠ a := ne_of_none hp ha
    refine ⟨_, rfl, p, _, dx, _, rfl, (by rw [upd_ne npa]; exact hp), C, nH, (by show 0 < 1000; decide), ?_⟩
    refine ⟨_, rfl, _, rfl, p, _, dx, _, rfl, upd_same, C, nW, (by show 1 < 1000; decide), ?_⟩
    refine k _ ⟨dx, a, _, upd_same, ?_, ?_, (NoMeth.nil.put (by decide +kernel) (by decide +kernel) (by decide +kernel)).put (by decide +kernel) (by decide +kernel) (by decide +kernel), ?_⟩ fun c o e hc => ?_
    · rw [lookup_putF, if_neg (by decide +kernel), lookup_putF, if_pos rfl]
    · rw [lookup_putF, if_pos rfl]
    · rw [upd_ne (Ne.symm npa), upd_ne (Ne.symm npa), upd_same]
    · rw [upd_ne hc, upd_ne hc, upd_ne (ne_of_none e ha)]
      exact e

theorem far_body {X : Cx} {C : Addr} {body : List Stmt} {t : TS} {H : Hp} {p dx : Addr} {F I G J : Int} {R : Nat} {Q : VK} (hK : X.K = K) (CC : Cls K C) (nH : NoAttr K C "here") (nA : NoAttr K C "away") (nR : NoAttr K C "reach") (hp : H p = some (.ins C dx []))
    (k : ∀ H', FarAt C H' p F I G J R → Kept H H' p → Q .non H')
    (ht : t = tSeq (sFld K (tVar 0) (tTup (tCons (tVar 1) (tCons (tVar 2) tNil))) "here") (tSeq (sFld K (tVar 0) (tTup (tCons (tVar 3) (tCons (tVar 4) tNil))) "away") (sFld K (tVar 0) (tVar 5) "reach"))) :
    t { nx := fun _ H' => Q .non H', rt := Q } [some (.ref p), some (.int F), some (.int I), some (.int G), some (.int J), some (.int R)] H := by
  subst ht
  refine ⟨_, rfl, _, rfl, (by show 2 ≤ sizeLine; decide), fun a ha => ?_⟩
  have npa : p ≠ a := ne_of_none hp ha
  refine ⟨_, rfl, p, C, dx, _, rfl, (by rw [upd_ne npa]; exact hp), CC, nH, (by show 0 < 1000; decide), ?_⟩
  refine ⟨_, rfl, _, rfl, (by show 2 ≤ sizeLine; decide), fun b hb => ?_⟩
  have npb : p ≠ b := fun e => by rw [← e, upd_same] at hb; cases hb
  have nab : a ≠ b := fun e => by rw [← e, upd_ne (Ne.symm npa), upd_same] at hb; cases hb
  have hbH : H b = none := by rw [upd_ne (Ne.symm npb), upd_ne (Ne.symm nab)] at hb; exact hb
  refine ⟨_, rfl, p, C, dx, _, rfl, (by rw [upd_ne npb]; exact upd_same), CC, nA, (by show 1 < 1000; decide), ?_⟩
  refine ⟨_, rfl, _, rfl, p, C, dx, _, rfl, upd_same, CC, nR, ?_, ?_⟩
  · have := length_putF "away" (.ref b) (putF "here" (.ref a) [])
    have e : (putF "here" (.ref a) [] : List (Str × V)).length = 1 := rfl
    omega
  refine k _ ⟨dx, a, b, _, upd_same, ?_, ?_, ?_, ((NoMeth.nil.put (by decide +kernel) (by decide +kernel) (by decide +kernel)).put (by decide +kernel) (by decide +kernel) (by decide +kernel)).put (by decide +kernel) (by decide +kernel) (by decide +kernel), ?_, ?_⟩ fun c o e hc => ?_
  · rw [lookup_putF, if_neg (by decide +kernel), lookup_putF, if_neg (by decide +kernel), lookup_putF, if_pos rfl]
  · rw [lookup_putF, if_neg (by decide +kernel), lookup_putF, if_pos rfl]
  · rw [lookup_putF, if_pos rfl]
  · rw [upd_ne (Ne.symm npa), upd_ne (Ne.symm npa), upd_ne nab, upd_ne (Ne.symm npa), upd_same]
  · rw [upd_ne (Ne.symm npb), upd_ne (Ne.symm npb), upd_same]
  · have na := ne_of_none e ha
    have nb := ne_of_none e hbH
    rw [upd_ne hc, upd_ne hc, upd_ne nb, upd_ne hc, upd_ne na]
    exact e
theorem scHi : FnScope ["self", "letter", "gap", "other", "there", "reach"] ["self", "letter", "gap", "other", "there", "reach"] (defScope sHi) := ⟨rfl, rfl, rfl, by decide +kernel, rfl, by decide +kernel, by decide +kernel⟩
theorem ok_hi {f : Addr} {fd : FuncData} {C : Addr} (F : Fun K "__init__" "Behind.__init__" sHi f fd) (CC : Cls K C) (nH : NoAttr K C "here") (nA : NoAttr K C "away") (nR : NoAttr K C "reach") : FnOk P w K mg base CX0 1 f fd ["self", "letter", "gap", "other", "there", "reach"] (spFi C) := by
  refine F.ok scHi (fun vs H Q E h => ?_) (fun cdv A outer s H vs Q E hr h => ?_)
  · obtain ⟨p, dx, F, I, G, J, R, rfl, _⟩ := h
    rfl
  · obtain ⟨p, dx, F, I, G, J, R, rfl, hp, k⟩ := h
    exact ⟨_, pss_cons (ps_fld (pv 0) (pe_tup (pa_cons (pv 1) (pa_cons (pv 2) pa_nil))) rfl) (pss_cons (ps_fld (pv 0) (pe_tup (pa_cons (pv 3) (pa_cons (pv 4) pa_nil))) rfl) (pss_one (ps_fld (pv 0) (pv 5) rfl))), far_body (X := (cxOf CX0 P w K mg base _ _ _ f cdv A outer s H E).nox) (body := []) rfl CC nH nA nR hp k rfl⟩
theorem scAi : FnScope ["self", "letter", "gap", "other", "there", "reach"] ["self", "letter", "gap", "other", "there", "reach"] (defScope sAi) := ⟨rfl, rfl, rfl, by decide +kernel, rfl, by decide +kernel, by decide +kernel⟩
theorem ok_ai {f : Addr} {fd : FuncData} {C : Addr} (F : Fun K "__init__" "Ahead.__init__" sAi f fd) (CC : Cls K C) (nH : NoAttr K C "here") (nA : NoAttr K C "away") (nR : NoAttr K C "reach") : FnOk P w K mg base CX0 1 f fd ["self", "letter", "gap", "other", "there", "reach"] (spFi C) := by
  refine F.ok scAi (fun vs H Q E h => ?_) (fun cdv A outer s H vs Q E hr h => ?_)
  · obtain ⟨p, dx, F, I, G, J, R, rfl, _⟩ := h
    rfl
  · obtain ⟨p, dx, F, I, G, J, R, rfl, hp, k⟩ := h
    exact ⟨_, pss_cons (ps_fld (pv 0) (pe_tup (pa_cons (pv 1) (pa_cons (pv 2) pa_nil))) rfl) (pss_cons (ps_fld (pv 0) (pe_tup (pa_cons (pv 3) (pa_cons (pv 4) pa_nil))) rfl) (pss_one (ps_fld (pv 0) (pv 5) rfl))), far_body (X := (cxOf CX0 P w K mg base _ _ _ f cdv A outer s H E).nox) (body := []) rfl CC nH nA nR hp k rfl⟩
theorem scNi : FnScope ["self", "one"] ["self", "one"] (defScope sNi) := ⟨rfl, rfl, rfl, by decide +kernel, rfl, by decide +kernel, by decide +kernel⟩
theorem ok_ni {f : Addr} {fd : FuncData} (F : Fun K "__init__" "Not.__init__" sNi f fd) (C : Cls K (cl .non)) (nO : NoAttr K (cl .non) "one") : FnOk P w K mg base CX0 1 f fd ["self", "one"] (spNi cl) := by
  refine F.ok scNi (fun vs H Q E h => ?_) (fun cdv A outer s H vs Q E hr h => ?_)
  · obtain ⟨p, dx, c, q, H1, rfl, _⟩ := h
    rfl
  · obtain ⟨p, dx, c, q, H1, rfl, hp, hq, ho, k⟩ := h
    refine ⟨_, pss_one (ps_fld (pv 0) (pv 1) rfl), ?_⟩
    refine ⟨_, rfl, _, rfl, p, _, dx, _, rfl, hp, C, nO, (by show 0 < 1000; decide), ?_⟩
    have kp : Kept H (upd H p (.ins (cl .non) dx (putF "one" (.ref c) []))) p := fun b o e hb => by
      rw [upd_ne hb]
      exact e
    refine k _ ⟨dx, _, c, upd_same, ?_, NoMeth.nil.put (by decide +kernel) (by decide +kernel) (by decide +kernel), QAt.same (ho.then kp) hq⟩ kp
    rw [lookup_putF, if_pos rfl]
theorem scTi : FnScope ["self", "reach", "least", "question"] ["self", "reach", "least", "question"] (defScope sTi) := ⟨rfl, rfl, rfl, by decide +kernel, rfl, by decide +kernel, by decide +kernel⟩
theorem ok_ti {f : Addr} {fd : FuncData} (F : Fun K "__init__" "Times.__init__" sTi f fd) (C : Cls K (cl .tim)) (nR : NoAttr K (cl .tim) "reach") (nL : NoAttr K (cl .tim) "least") (nI : NoAttr K (cl .tim) "inner") : FnOk P w K mg base CX0 1 f fd ["self", "reach", "least", "question"] (spTi cl) := by
  refine F.ok scTi (fun vs H Q E h => ?_) (fun cdv A outer s H vs Q E hr h => ?_)
  · obtain ⟨p, dx, c, R, M, q, H1, rfl, _⟩ := h
    rfl
  · obtain ⟨p, dx, c, R, M, q, H1, rfl, hp, hq, ho, k⟩ := h
    refine ⟨_, pss_cons (ps_fld (pv 0) (pv 1) rfl) (pss_cons (ps_fld (pv 0) (pv 2) rfl) (pss_one (ps_fld (pv 0) (pv 3) rfl))), ?_⟩
    refine ⟨_, rfl, _, rfl, p, _, dx, _, rfl, hp, C, nR, (by show 0 < 1000; decide), ?_⟩
    refine ⟨_, rfl, _, rfl, p, _, dx, _, rfl, upd_same, C, nL, (by show 1 < 1000; decide), ?_⟩
    refine ⟨_, rfl, _, rfl, p, _, dx, _, rfl, upd_same, C, nI, ?_, ?_⟩
    · have := length_putF "least" (.int M) (putF "reach" (.int R) [])
      have e : (putF "reach" (.int R) [] : List (Str × V)).length = 1 := rfl
      omega
    generalize hH' : upd _ p _ = H'
    have kp : Kept H H' p := fun b o e hb => by
      rw [← hH', upd_ne hb, upd_ne hb, upd_ne hb]
      exact e
    refine k _ ⟨dx, _, c, by rw [← hH']; exact upd_same, ?_, ?_, ?_, ((NoMeth.nil.put (by decide +kernel) (by decide +kernel) (by decide +kernel)).put (by decide +kernel) (by decide +kernel) (by decide +kernel)).put (by decide +kernel) (by decide +kernel) (by decide +kernel), QAt.same (ho.then kp) hq⟩ kp
    · rw [lookup_putF, if_neg (by decide +kernel), lookup_putF, if_neg (by decide +kernel), lookup_putF, if_pos rfl]
    · rw [lookup_putF, if_neg (by decide +kernel), lookup_putF, if_pos rfl]
    · rw [lookup_putF, if_pos rfl]
end
end QL
namespace QL
open PySem L2
def spCo : Sp := fun vs H Q _ => ∃ (c k : Int), vs = [.int c, .int k] ∧ 0 ≤ k ∧ k ≤ 900 ∧ ∀ (R : Nat) (H' : Hp), 1 ≤ R → R ≤ 20 → Same H H' → Q (.int (R : Nat)) H'
def spSh : Sp := fun vs H Q _ => ∃ (c : Int) (a b : Addr) (ns : List Int) (ws : List Str), vs = [.int c, .ref a, .ref b] ∧ H a = some (.lst (ns.map V.int)) ∧ ns.length = 3 ∧ H b = some (.lst (ws.map V.str)) ∧ ws.length = 5 ∧ (∀ x ∈ ws, Tx 60 x) ∧
  ∀ (p : Addr) (q : Qn) (H' : Hp), Same H H' → AAt H' q p → q.dep = 0 → q.Ok → Q (.ref p) H'
theorem pick7 (y : Int) (hy : 0 ≤ y) : ∃ g : Int, 0 ≤ g ∧ g ≤ 7 ∧ atI [V.int 0, V.int 0, V.int 1, V.int 2, V.int 7] (y % 5) = some (.int g) := by
  obtain ⟨x, hx, ex⟩ := atI_some [V.int 0, V.int 0, V.int 1, V.int 2, V.int 7] (y % 5) (by omega) (by show y % 5 < 5; omega)
  simp only [List.mem_cons, List.not_mem_nil, or_false] at hx
  rcases hx with rfl | rfl | rfl | rfl | rfl
  · exact ⟨_, by decide, by decide, ex⟩
  · exact ⟨_, by decide, by decide, ex⟩
  · exact ⟨_, by decide, by decide, ex⟩
  · exact ⟨_, by decide, by decide, ex⟩
  · exact ⟨_, by decide, by decide, ex⟩
section
variable {P : Program} {w : World} {K : PySem.W.Frag} {mg : Str → Option Value} {base : Heap} {ks : Kd → Bool} {cl : Kd → Addr}
theorem scCo : FnScope ["_law_cell", "_law_k"] ["_law_cell", "_law_k"] (defScope sCo) := ⟨rfl, rfl, rfl, by decide +kernel, rfl, by decide +kernel, by decide +kernel⟩
theorem ok_co {f fM : Addr} {fd fdM : FuncData} (F : Fun K "_law_count" "_law_count" sCo f fd) (FM : Fun K "_law_mix" "_law_mix" sMi fM fdM) (bM : Binds K fdM ["_law_cell", "_law_k"] []) (gM : mg "_law_mix" = some (.ref fM)) :
    FnOk P w K mg base CX0 2 f fd ["_law_cell", "_law_k"] spCo := by
  have GM : FnOk P w K mg base CX0 1 fM fdM ["_law_cell", "_law_k"] spMi := ok_mi FM
  refine F.ok scCo (fun vs H Q E h => ?_) (fun cdv A outer s H vs Q E hr h => ?_)
  · obtain ⟨c, k, rfl, _⟩ := h
    rfl
  · obtain ⟨c, k, rfl, k0, k1, kk⟩ := h
    refine ⟨_, pss_one (ps_ret (pe_op op_add pe_int (pe_op op_mod (pe_call GM hr rfl gM FM.kp bM .nil pass0 (pa_cons (pv 0) (pa_cons (pv 1) pa_nil))) (pe_ix ix_list (pe_lst (pa_cons pe_int (pa_cons pe_int pa_nil))) (pe_op op_fdiv (pe_op op_mod (pe_call GM hr rfl gM FM.kp bM .nil pass0 (pa_cons (pv 0) (pa_cons (pe_op op_add (pv 1) pe_int) pa_nil))) pe_int) pe_int) (fun _ _ => rfl))))), ?_⟩
    refine ⟨_, rfl, _, rfl, c, k, rfl, k0, by omega, fun z z0 => ⟨(by show 2 ≤ sizeLine; decide), fun l hl => ?_⟩⟩
    refine ⟨_, rfl, _, rfl, _, _, rfl, rfl, c, _, rfl, by omega, by omega, fun y y0 => ⟨_, _, rfl, rfl, (by show (0 : Int) < 4; decide), _, _, rfl, rfl, ⟨by decide, by decide⟩, ?_⟩⟩
    obtain ⟨x, hx, ex⟩ := atI_some [V.int 3, V.int 20] (y % 4 / 3) (by omega) (by show y % 4 / 3 < 2; omega)
    obtain ⟨r, rfl, r0, r1⟩ : ∃ r : Int, x = .int r ∧ 0 < r ∧ r ≤ 20 := by
      simp only [List.mem_cons, List.not_mem_nil, or_false] at hx
      rcases hx with rfl | rfl
      · exact ⟨3, rfl, by decide, by decide⟩
      · exact ⟨20, rfl, by decide, by decide⟩
    have m0 := Int.emod_nonneg z (Int.ne_of_gt r0)
    have m1 := Int.emod_lt_of_pos z r0
    refine ⟨l, _, _, _, rfl, rfl, SqL.of upd_same, ex, _, _, rfl, rfl, r0, _, _, rfl, rfl, ?_⟩
    have e : 1 + z % r = (((1 + z % r).toNat : Nat) : Int) := by omega
    have q := kk (1 + z % r).toNat _ (by omega) (by omega) ((Same.refl H).upd_free (o := .lst [.int 3, .int 20]) hl)
    rw [← e] at q
    exact q
theorem scSh : FnScope ["_law_cell", "_law_letters_here", "_law_pool_here", "_law_kind", "_law_letter", pGap, "_law_other"] ["_law_cell", "_law_letters_here", "_law_pool_here"] (defScope sSh) := ⟨rfl, rfl, rfl, by decide +kernel, rfl, by decide +kernel, by decide +kernel⟩
theorem ok_sh {f fM fC : Addr} {fd fdM fdC : FuncData} (F : Fun K "_law_short" "_law_short" sSh f fd) (FM : Fun K "_law_mix" "_law_mix" sMi fM fdM) (bM : Binds K fdM ["_law_cell", "_law_k"] []) (gM : mg "_law_mix" = some (.ref fM))
    (FC : Fun K "_law_count" "_law_count" sCo fC fdC) (bC : Binds K fdC ["_law_cell", "_law_k"] []) (gC : mg "_law_count" = some (.ref fC)) :
    FnOk P w K mg base CX0 3 f fd ["_law_cell", "_law_letters_here", "_law_pool_here"] spSh := by
  have GM : FnOk P w K mg base CX0 1 fM fdM ["_law_cell", "_law_k"] spMi := ok_mi FM
  have GC : FnOk P w K mg base CX0 2 fC fdC ["_law_cell", "_law_k"] spCo := ok_co FC FM bM gM
  refine F.ok scSh (fun vs H Q E h => ?_) (fun cdv A outer s H vs Q E hr h => ?_)
  · obtain ⟨c, a, b, ns, ws, rfl, _⟩ := h
    rfl
  · obtain ⟨c, a, b, ns, ws, rfl, hA, nl, hB, wl, wt, k⟩ := h
    have hr1 : Room 1 _ := hr.mono (by decide)
    refine ⟨_, pss_cons (ps_cut (ps_set (i := 3) scSh.nd rfl (Or.inl rfl) (pe_ix ix_list (pe_lst (pa_cons pe_str (pa_cons pe_str (pa_cons pe_str (pa_cons pe_str pa_nil))))) (pe_op op_mod (pe_op op_mod (pv 0) pe_int) pe_int) (fun _ _ => rfl))))
      (pss_cons (ps_cut (ps_set (i := 4) scSh.nd rfl (Or.inl rfl) (pe_ix ix_list (pv 1) (pe_op op_mod (pe_call GM hr1 rfl gM FM.kp bM .nil pass0 (pa_cons (pv 0) (pa_cons pe_int pa_nil))) pe_int) (fun _ _ => rfl))))
      (pss_cons (ps_cut (ps_set (i := 5) scSh.nd rfl (Or.inl rfl) (pe_ix ix_list (pe_lst (pa_cons pe_int (pa_cons pe_int (pa_cons pe_int (pa_cons pe_int (pa_cons pe_int pa_nil)))))) (pe_op op_mod (pe_call GM hr1 rfl gM FM.kp bM .nil pass0 (pa_cons (pv 0) (pa_cons pe_int pa_nil))) pe_int) (fun _ _ => rfl))))
      (pss_cons (ps_if (pt_cmpR op_eq (pv 3) pe_str (nomark _)) (pss_one (ps_ret (pe_tup (pa_cons (pv 3) (pa_cons (pv 4) pa_nil))))) pss_nil)
      (pss_cons (ps_if (pt_cmpR op_eq (pv 3) pe_str (nomark _)) (pss_one (ps_ret (pe_tup (pa_cons (pv 3) (pa_cons (pv 4) (pa_cons (pv 5) (pa_cons (pe_ix ix_list (pv 2) (pe_op op_mod (pe_call GM hr1 rfl gM FM.kp bM .nil pass0 (pa_cons (pv 0) (pa_cons pe_int pa_nil))) pe_int) (fun _ _ => rfl)) pa_nil))))))) pss_nil)
      (pss_cons (ps_cut (ps_set (i := 6) scSh.nd rfl (Or.inl rfl) (pe_ix ix_list (pv 1) (pe_op op_mod (pe_call GM hr1 rfl gM FM.kp bM .nil pass0 (pa_cons (pv 0) (pa_cons pe_int pa_nil))) pe_int) (fun _ _ => rfl))))
      (pss_one (ps_ret (pe_tup (pa_cons (pv 3) (pa_cons (pv 4) (pa_cons (pv 5) (pa_cons (pv 6) (pa_cons (pe_ix ix_list (pe_lst (pa_cons pe_int (pa_cons pe_int (pa_cons pe_int (pa_cons pe_int (pa_cons pe_int pa_nil)))))) (pe_op op_mod (pe_call GM hr1 rfl gM FM.kp bM .nil pass0 (pa_cons (pv 0) (pa_cons pe_int pa_nil))) pe_int) (fun _ _ => rfl))
        (pa_cons (pe_call GC hr rfl gC FC.kp bC .nil pass0 (pa_cons (pv 0) (pa_cons pe_int pa_nil))) pa_nil)))))))))))))), ?_⟩
    -- kind
    refine ⟨fun σ' H' => ∃ kd : String, (kd = "row" ∨ kd = "with" ∨ kd = "behind" ∨ kd = "ahead") ∧ Same H H' ∧ σ' = [some (.int c), some (.ref a), some (.ref b), some (.str (Str.ofString kd)), none, none, none], ?_, ?_⟩
    · refine ⟨(by show 4 ≤ sizeLine; decide), fun l hl => ?_⟩
      obtain ⟨x, hx, ex⟩ := atI_some [V.str (Str.ofString "row"), V.str (Str.ofString "with"), V.str (Str.ofString "behind"), V.str (Str.ofString "ahead")] (c % 8 % 4) (by omega) (by show c % 8 % 4 < 4; omega)
      obtain ⟨kd, rfl, hkd⟩ : ∃ kd : String, x = .str (Str.ofString kd) ∧ (kd = "row" ∨ kd = "with" ∨ kd = "behind" ∨ kd = "ahead") := by
        simp only [List.mem_cons, List.not_mem_nil, or_false] at hx
        rcases hx with rfl | rfl | rfl | rfl
        · exact ⟨_, rfl, .inl rfl⟩
        · exact ⟨_, rfl, .inr (.inl rfl)⟩
        · exact ⟨_, rfl, .inr (.inr (.inl rfl))⟩
        · exact ⟨_, rfl, .inr (.inr (.inr rfl))⟩
      exact ⟨_, rfl, _, _, rfl, rfl, (by show (0 : Int) < 8; decide), _, _, rfl, rfl, (by show (0 : Int) < 4; decide), l, _, _, _, rfl, rfl, SqL.of upd_same, ex, kd, hkd, (Same.refl H).upd_free hl, rfl⟩
    rintro σ' H1 ⟨kd, hkd, s1, rfl⟩
    refine ⟨fun σ' H' => ∃ F : Int, H' = H1 ∧ σ' = [some (.int c), some (.ref a), some (.ref b), some (.str (Str.ofString kd)), some (.int F), none, none], ?_, ?_⟩
    · refine ⟨_, rfl, _, rfl, c, 1, rfl, by decide, by decide, fun z z0 => ?_⟩
      obtain ⟨x, hx, ex⟩ := atI_some (ns.map V.int) (z % 2) (by omega) (by rw [List.length_map, nl]; omega)
      obtain ⟨F, _, rfl⟩ := List.mem_map.mp hx
      exact ⟨_, _, rfl, rfl, (by show (0 : Int) < 2; decide), a, _, _, _, rfl, rfl, SqL.of (s1 _ _ hA), ex, F, rfl, rfl⟩
    rintro σ' H' ⟨F, rfl, rfl⟩
    refine ⟨fun σ' H2 => ∃ I : Int, 0 ≤ I ∧ Same H' H2 ∧ σ' = [some (.int c), some (.ref a), some (.ref b), some (.str (Str.ofString kd)), some (.int F), some (.int I), none], ?_, ?_⟩
    · refine ⟨(by show 5 ≤ sizeLine; decide), fun l hl => ?_⟩
      refine ⟨_, rfl, c, 2, rfl, by decide, by decide, fun y y0 => ⟨_, _, rfl, rfl, (by show (0 : Int) < 5; decide), ?_⟩⟩
      obtain ⟨g, g0, _, eg⟩ := pick7 y y0
      exact ⟨l, _, _, _, rfl, rfl, SqL.of upd_same, eg, g, g0, (Same.refl H').upd_free hl, rfl⟩
    rintro σ' H2 ⟨I, i0, s2, rfl⟩
    have t2 := s1.trans s2
    refine ⟨_, rfl, rfl, _, rfl, ?_⟩
    rcases hkd with rfl | hkd
    · refine iteTK (by decide +kernel) ?_
      refine ⟨_, rfl, _, rfl, (by show 2 ≤ sizeLine; decide), fun p hp => ?_⟩
      exact k p (.row F) _ (t2.upd_free (t2.free hp)) upd_same rfl True.intro
    have n1 : decide (V.str (Str.ofString kd) = V.str (Str.ofString "row")) = false := by
      rcases hkd with rfl | rfl | rfl <;> decide +kernel
    refine iteFK n1 ?_
    refine ⟨_, rfl, rfl, _, rfl, ?_⟩
    rcases hkd with rfl | hkd
    · refine iteTK (by decide +kernel) ?_
      refine ⟨_, rfl, _, rfl, _, rfl, _, rfl, _, rfl, c, 3, rfl, by decide, by decide, fun z z0 => ⟨_, _, rfl, rfl, (by show (0 : Int) < 5; decide), ?_⟩⟩
      obtain ⟨x, hx, ex⟩ := atI_some (ws.map V.str) (z % 5) (by omega) (by rw [List.length_map, wl]; omega)
      obtain ⟨W, hW, rfl⟩ := List.mem_map.mp hx
      refine ⟨b, _, _, _, rfl, rfl, SqL.of (t2 _ _ hB), ex, (by show 4 ≤ sizeLine; decide), fun p hp => ?_⟩
      exact k p (.wit F I W) _ (t2.upd_free (t2.free hp)) upd_same rfl ⟨i0, wt W hW⟩
    have n2 : decide (V.str (Str.ofString kd) = V.str (Str.ofString "with")) = false := by
      rcases hkd with rfl | rfl <;> decide +kernel
    refine iteFK n2 ?_
    refine ⟨fun σ' H' => ∃ G : Int, H' = H2 ∧ σ' = [some (.int c), some (.ref a), some (.ref b), some (.str (Str.ofString kd)), some (.int F), some (.int I), some (.int G)], ?_, ?_⟩
    · refine ⟨_, rfl, _, rfl, c, 4, rfl, by decide, by decide, fun z z0 => ?_⟩
      obtain ⟨x, hx, ex⟩ := atI_some (ns.map V.int) (z % 2) (by omega) (by rw [List.length_map, nl]; omega)
      obtain ⟨G, _, rfl⟩ := List.mem_map.mp hx
      exact ⟨_, _, rfl, rfl, (by show (0 : Int) < 2; decide), a, _, _, _, rfl, rfl, SqL.of (t2 _ _ hA), ex, G, rfl, rfl⟩
    rintro σ' H3 ⟨G, rfl, rfl⟩
    refine ⟨_, rfl, _, rfl, _, rfl, _, rfl, (by show 5 ≤ sizeLine; decide), fun l hl => ?_⟩
    have s3 := t2.upd_free (o := .lst [.int 0, .int 0, .int 1, .int 2, .int 7]) (t2.free hl)
    refine ⟨_, rfl, c, 5, rfl, by decide, by decide, fun y y0 => ⟨_, _, rfl, rfl, (by show (0 : Int) < 5; decide), ?_⟩⟩
    obtain ⟨J, j0, _, eg⟩ := pick7 y y0
    refine ⟨l, _, _, _, rfl, rfl, SqL.of upd_same, eg, _, rfl, c, 6, rfl, by decide, by decide, fun R H4 r1 r2 s4 => ⟨(by show 6 ≤ sizeLine; decide), fun p hp => ?_⟩⟩
    have t4 := s3.trans s4
    rcases hkd with rfl | rfl
    · exact k p (.beh F I G J R) _ (t4.upd_free (t4.free hp)) upd_same rfl ⟨i0, j0, by omega⟩
    · exact k p (.ahd F I G J R) _ (t4.upd_free (t4.free hp)) upd_same rfl ⟨i0, j0, by omega⟩

structure Mk4 (P : Program) (w : World) (K : PySem.W.Frag) (mg : Str → Option Value) (base : Heap) (cl : Kd → Addr) (fR fW fH fA : Addr) (dR dW dH dA : FuncData) : Prop where
  mR : Mk K (cl .row) fR
  mW : Mk K (cl .wit) fW
  mH : Mk K (cl .beh) fH
  mA : Mk K (cl .ahd) fA
  gR : mg "Row" = some (.ref (cl .row))
  gW : mg "With" = some (.ref (cl .wit))
  gH : mg "Behind" = some (.ref (cl .beh))
  gA : mg "Ahead" = some (.ref (cl .ahd))
  bR : Binds K dR ["self", "letter"] []
  bW : Binds K dW ["self", "letter", "gap", "word"] []
  bH : Binds K dH ["self", "letter", "gap", "other", "there", "reach"] []
  bA : Binds K dA ["self", "letter", "gap", "other", "there", "reach"] []
  oR : FnOk P w K mg base CX0 1 fR dR ["self", "letter"] (spRi cl)
  oW : FnOk P w K mg base CX0 1 fW dW ["self", "letter", "gap", "word"] (spWi cl)
  oH : FnOk P w K mg base CX0 1 fH dH ["self", "letter", "gap", "other", "there", "reach"] (spFi (cl .beh))
  oA : FnOk P w K mg base CX0 1 fA dA ["self", "letter", "gap", "other", "there", "reach"] (spFi (cl .ahd))
end
end QL
namespace QL
open PySem L2

structure Txt2 (mg : Str → Option Value) : Prop where
  sorted : mg "sorted" = none
  set : mg "set" = none
theorem vN_eq (rows : List Nat) : vN rows = (rows.map fun (m : Nat) => (m : Int)).map V.int := by
  unfold vN
  rw [List.map_map]
  rfl
theorem found_lt {es : List Ent} : ∀ (q : Qn) (n : Nat) (rows : List Nat), n < es.length → foundM es q n = some rows → ∀ m ∈ rows, m < es.length
  | .row F, n, rows, hn, h, m, hm => by
    unfold foundM at h
    split at h
    · cases h
      rw [List.mem_singleton.mp hm]
      exact hn
    · cases h
  | .wit F I W, n, rows, hn, h, m, hm => by
    unfold foundM at h
    split at h
    · cases h
      rw [List.mem_singleton.mp hm]
      exact hn
    · cases h
  | .beh F I G J R, n, rows, hn, h, m, hm => by
    unfold foundM at h
    obtain ⟨x, hx, e⟩ := Option.map_eq_some_iff.mp h
    subst e
    have F := fst_is (behP es n F I G J) (min (n + R + 1) es.length - (n + 1)) (n + 1)
    rw [hx] at F
    have := F.1
    have := F.2.1
    simp only [List.mem_cons, List.not_mem_nil, or_false] at hm
    rcases hm with rfl | rfl <;> omega
  | .ahd F I G J R, n, rows, hn, h, m, hm => by
    unfold foundM at h
    obtain ⟨x, hx, e⟩ := Option.map_eq_some_iff.mp h
    subst e
    have F := lst_is (behP es n F I G J) (n - R) (n - (n - R))
    rw [hx] at F
    have := F.1
    have := F.2.1
    simp only [List.mem_cons, List.not_mem_nil, or_false] at hm
    rcases hm with rfl | rfl <;> omega
  | .tim K C q, n, rows, hn, h, m, hm => by
    unfold foundM at h
    split at h
    · cases h
      have := (mem_rng.mp (List.mem_filter.mp hm).1).2
      omega
    · cases h
  | .bot q r, n, rows, hn, h, m, hm => by
    unfold foundM at h
    split at h
    · cases h
      exact List.mem_range.mp (List.mem_filter.mp hm).1
    · cases h
  | .eit q r, n, rows, hn, h, m, hm => by
    unfold foundM at h
    split at h
    · rename_i a ha
      cases h
      exact found_lt q n _ hn ha m hm
    · exact found_lt r n rows hn h m hm
  | .non q, n, rows, hn, h, m, hm => by
    unfold foundM at h
    split at h
    · cases h
      cases hm
    · cases h

def both (L : Nat) (a b : List Nat) : List Nat := (List.range L).filter fun m => decide (m ∈ a) || decide (m ∈ b)
theorem both_mem {L : Nat} {a b : List Nat} (ha : ∀ m ∈ a, m < L) (hb : ∀ m ∈ b, m < L) (m : Nat) : m ∈ both L a b ↔ m ∈ a ++ b := by
  unfold both
  rw [List.mem_filter, List.mem_range, List.mem_append]
  constructor
  · rintro ⟨_, h⟩
    simpa using h
  · intro h
    exact ⟨h.elim (ha m) (hb m), by simpa using h⟩
theorem both_len (L : Nat) (a b : List Nat) : (both L a b).length ≤ L := Nat.le_trans (List.length_filter_le ..) (by rw [List.length_range]; exact Nat.le_refl _)
theorem both_lt (L : Nat) (a b : List Nat) : (both L a b).Pairwise (· < ·) := List.pairwise_lt_range.filter _
def zs (rows : List Nat) : List Int := rows.map fun (m : Nat) => (m : Int)
theorem zs_lt {rows : List Nat} (h : rows.Pairwise (· < ·)) : (zs rows).Pairwise (· < ·) := by
  unfold zs
  rw [List.pairwise_map]
  exact h.imp fun h => by omega
theorem zs_mem {rows : List Nat} {k : Int} : k ∈ zs rows ↔ ∃ m ∈ rows, (m : Int) = k := List.mem_map
theorem both_perm {L : Nat} {a b : List Nat} (ha : ∀ m ∈ a, m < L) (hb : ∀ m ∈ b, m < L) {σ : List Int} (nd : σ.Nodup) (hm : ∀ k, k ∈ σ ↔ k ∈ zs (a ++ b)) : σ.Perm (zs (both L a b)) := by
  refine (List.perm_ext_iff_of_nodup nd ((zs_lt (both_lt L a b)).imp fun h => by omega)).mpr fun k => ?_
  rw [hm, zs_mem, zs_mem]
  constructor
  · rintro ⟨m, h1, h2⟩
    exact ⟨m, (both_mem ha hb m).mpr h1, h2⟩
  · rintro ⟨m, h1, h2⟩
    exact ⟨m, (both_mem ha hb m).mp h1, h2⟩
theorem both_sorted {L : Nat} {a b : List Nat} (ha : ∀ m ∈ a, m < L) (hb : ∀ m ∈ b, m < L) {σ ns : List Int} (nd : σ.Nodup) (hm : ∀ k, k ∈ σ ↔ k ∈ zs (a ++ b)) (hp : ns.Perm σ) (hs : ns.Pairwise (· ≤ ·)) : ns.map V.int = vN (both L a b) := by
  rw [vN_eq]
  refine congrArg _ ?_
  exact List.Perm.eq_of_pairwise (le := fun (x y : Int) => x ≤ y) (fun x y _ _ h1 h2 => Int.le_antisymm h1 h2) hs ((zs_lt (both_lt L a b)).imp fun h => by omega) (hp.trans (both_perm ha hb nd hm))
theorem vN_app (a b : List Nat) : vN a ++ vN b = (zs (a ++ b)).map V.int := by
  rw [vN_eq, vN_eq]
  unfold zs
  rw [List.map_append, List.map_append]
theorem zs_len (a : List Nat) : (zs a).length = a.length := List.length_map ..
theorem found_bot {es : List Ent} {q r : Qn} {n : Nat} {a b : List Nat} (h1 : foundM es q n = some a) (h2 : foundM es r n = some b) : foundM es (.bot q r) n = some (both es.length a b) := by
  show (match foundM es q n, foundM es r n with
    | some a, some b => some ((List.range es.length).filter fun m => decide (m ∈ a) || decide (m ∈ b))
    | _, _ => none) = _
  rw [h1, h2]
  rfl
theorem found_bot1 {es : List Ent} {q r : Qn} {n : Nat} (h1 : foundM es q n = none) : foundM es (.bot q r) n = none := by
  show (match foundM es q n, foundM es r n with
    | some a, some b => some ((List.range es.length).filter fun m => decide (m ∈ a) || decide (m ∈ b))
    | _, _ => none) = _
  rw [h1]
theorem found_bot2 {es : List Ent} {q r : Qn} {n : Nat} (h1 : foundM es r n = none) : foundM es (.bot q r) n = none := by
  show (match foundM es q n, foundM es r n with
    | some a, some b => some ((List.range es.length).filter fun m => decide (m ∈ a) || decide (m ∈ b))
    | _, _ => none) = _
  rw [h1]
  cases foundM es q n <;> rfl
theorem found_short {es : List Ent} : ∀ (q : Qn) (n : Nat) (rows : List Nat), n < es.length → foundM es q n = some rows → rows.length ≤ es.length + 2
  | .row F, n, rows, hn, h => by
    unfold foundM at h
    split at h
    · cases h
      show 1 ≤ _
      omega
    · cases h
  | .wit F I W, n, rows, hn, h => by
    unfold foundM at h
    split at h
    · cases h
      show 1 ≤ _
      omega
    · cases h
  | .beh F I G J R, n, rows, hn, h => by
    unfold foundM at h
    obtain ⟨m, _, e⟩ := Option.map_eq_some_iff.mp h
    subst e
    show 2 ≤ _
    omega
  | .ahd F I G J R, n, rows, hn, h => by
    unfold foundM at h
    obtain ⟨m, _, e⟩ := Option.map_eq_some_iff.mp h
    subst e
    show 2 ≤ _
    omega
  | .tim K C q, n, rows, hn, h => by
    unfold foundM at h
    split at h
    · cases h
      exact Nat.le_trans (List.length_filter_le ..) (by rw [rng_len]; omega)
    · cases h
  | .bot q r, n, rows, hn, h => by
    unfold foundM at h
    split at h
    · cases h
      exact Nat.le_trans (List.length_filter_le ..) (by rw [List.length_range]; omega)
    · cases h
  | .eit q r, n, rows, hn, h => by
    unfold foundM at h
    split at h
    · rename_i a ha
      cases h
      exact found_short q n _ hn ha
    · exact found_short r n rows hn h
  | .non q, n, rows, hn, h => by
    unfold foundM at h
    split at h
    · cases h
      exact Nat.zero_le _
    · cases h
section
variable {P : Program} {w : World} {K : PySem.W.Frag} {mg : Str → Option Value} {base : Heap} {ks : Kd → Bool} {cl : Kd → Addr} {d lev : Nat}
theorem joint_of {k : Kd} {H : Hp} {p : Addr} {q : Qn} (hk : q.kd = k) (h : k = .bot ∨ k = .eit) (hq : QAt cl H q p) (hi : q.In ks) (hd : q.dep < d + 1) : ∃ (a b : Qn) (dx : Addr) (fs : List (Str × V)) (c e : Addr), H p = some (.ins (cl k) dx fs) ∧ fs.lookup ("one" : Str) = some (.ref c) ∧ fs.lookup ("other" : Str) = some (.ref e) ∧
    QAt cl H a c ∧ QAt cl H b e ∧ a.In ks ∧ b.In ks ∧ a.dep < d ∧ b.dep < d ∧ backM q = max (backM a) (backM b) ∧ onM q = max (onM a) (onM b) := by
  rcases h with rfl | rfl
  · cases q <;> try cases hk
    rename_i a b
    obtain ⟨dx, fs, c, e, h1, h2, h3, h4, h5, h6⟩ := hq
    have hd' : max a.dep b.dep + 1 < d + 1 := hd
    exact ⟨a, b, dx, fs, c, e, h1, h2, h3, h5, h6, hi.2.1, hi.2.2, by omega, by omega, rfl, rfl⟩
  · cases q <;> try cases hk
    rename_i a b
    obtain ⟨dx, fs, c, e, h1, h2, h3, h4, h5, h6⟩ := hq
    have hd' : max a.dep b.dep + 1 < d + 1 := hd
    exact ⟨a, b, dx, fs, c, e, h1, h2, h3, h5, h6, hi.2.1, hi.2.2, by omega, by omega, rfl, rfl⟩
theorem max_is (i j : Int) : (if j > i then j else i) = max i j := by
  split <;> omega
theorem scJb : FnScope ["self"] ["self"] (defScope sJb) := ⟨rfl, rfl, rfl, by decide +kernel, rfl, by decide +kernel, by decide +kernel⟩
theorem ok_jb {f : Addr} {fd : FuncData} {k : Kd} (F : Fun K "back" "Joint.back" sJb f fd) (TX : Txt mg) (C : Cls K (cl k)) (hj : k = .bot ∨ k = .eit) (nO : NoAttr K (cl k) "one") (nR : NoAttr K (cl k) "other") (T : Tab P w K mg base ks cl d lev) : FnOk P w K mg base CX0 (lev + 1) f fd ["self"] (spB ks cl k (d + 1)) := by
  refine F.ok scJb (fun vs H Q E h => ?_) (fun cdv A outer s H vs Q E hr h => ?_)
  · obtain ⟨p, q, rfl, _⟩ := h
    rfl
  · obtain ⟨p, q, rfl, hk, hd, hi, hq, k⟩ := h
    obtain ⟨a, b, dx, fs, c, e, h1, h2, h3, h5, h6, ia, ib, da, db, eb, eo⟩ := joint_of hk hj hq hi hd
    refine ⟨_, pss_one (ps_ret (pe_callB (call_max2 rfl) (by rfl) TX.max PyProof.Rows.boot_max (pa_cons (pe_methD0 (CX := CX0) (pe_fld (pv 0) rfl) hr pass0) (pa_cons (pe_methD0 (CX := CX0) (pe_fld (pv 0) rfl) hr pass0) pa_nil)))), ?_⟩
    obtain ⟨x1, x2, x3, x4, g1, g2, g3, g4, g5, g6⟩ := T.back h5 ia
    obtain ⟨y1, y2, y3, y4, l1, l2, l3, l4, l5, l6⟩ := T.back h6 ib
    refine ⟨_, rfl, p, _, dx, _, _, rfl, h1, C, nO, h2, c, _, x1, x2, x3, x4, _, _, rfl, g1, g2, g3, g4, g5, g6, c, a, rfl, rfl, da, ia, h5, _, rfl, p, _, dx, _, _, rfl, h1, C, nR, h3, e, _, y1, y2, y3, y4, _, _, rfl, l1, l2, l3, l4, l5, l6, e, b, rfl, rfl, db, ib, h6, _, _, rfl, ?_⟩
    rw [eb] at k
    rw [max_is]
    exact k
theorem scJo : FnScope ["self"] ["self"] (defScope sJo) := ⟨rfl, rfl, rfl, by decide +kernel, rfl, by decide +kernel, by decide +kernel⟩
theorem ok_jo {f : Addr} {fd : FuncData} {k : Kd} (F : Fun K "on" "Joint.on" sJo f fd) (TX : Txt mg) (C : Cls K (cl k)) (hj : k = .bot ∨ k = .eit) (nO : NoAttr K (cl k) "one") (nR : NoAttr K (cl k) "other") (T : Tab P w K mg base ks cl d lev) : FnOk P w K mg base CX0 (lev + 1) f fd ["self"] (spO ks cl k (d + 1)) := by
  refine F.ok scJo (fun vs H Q E h => ?_) (fun cdv A outer s H vs Q E hr h => ?_)
  · obtain ⟨p, q, rfl, _⟩ := h
    rfl
  · obtain ⟨p, q, rfl, hk, hd, hi, hq, k⟩ := h
    obtain ⟨a, b, dx, fs, c, e, h1, h2, h3, h5, h6, ia, ib, da, db, eb, eo⟩ := joint_of hk hj hq hi hd
    refine ⟨_, pss_one (ps_ret (pe_callB (call_max2 rfl) (by rfl) TX.max PyProof.Rows.boot_max (pa_cons (pe_methD0 (CX := CX0) (pe_fld (pv 0) rfl) hr pass0) (pa_cons (pe_methD0 (CX := CX0) (pe_fld (pv 0) rfl) hr pass0) pa_nil)))), ?_⟩
    obtain ⟨x1, x2, x3, x4, g1, g2, g3, g4, g5, g6⟩ := T.on h5 ia
    obtain ⟨y1, y2, y3, y4, l1, l2, l3, l4, l5, l6⟩ := T.on h6 ib
    refine ⟨_, rfl, p, _, dx, _, _, rfl, h1, C, nO, h2, c, _, x1, x2, x3, x4, _, _, rfl, g1, g2, g3, g4, g5, g6, c, a, rfl, rfl, da, ia, h5, _, rfl, p, _, dx, _, _, rfl, h1, C, nR, h3, e, _, y1, y2, y3, y4, _, _, rfl, l1, l2, l3, l4, l5, l6, e, b, rfl, rfl, db, ib, h6, _, _, rfl, ?_⟩
    rw [eo] at k
    rw [max_is]
    exact k
theorem scBf : FnScope ["self", "log", "n", "rows", "others"] ["self", "log", "n"] (defScope sBf) := ⟨rfl, rfl, rfl, by decide +kernel, rfl, by decide +kernel, by decide +kernel⟩
theorem ok_bf {f : Addr} {fd : FuncData} (F : Fun K "found" "Both.found" sBf f fd) (TX : Txt mg) (T2 : Txt2 mg) (C : Cls K (cl .bot)) (nO : NoAttr K (cl .bot) "one") (nR : NoAttr K (cl .bot) "other") (T : Tab P w K mg base ks cl d lev) : FnOk P w K mg base CX0 (lev + 1) f fd ["self", "log", "n"] (spF ks cl .bot (d + 1)) := by
  refine F.ok scBf (fun vs H Q E h => ?_) (fun cdv A outer s H vs Q E hr h => ?_)
  · obtain ⟨p, t, n, q, es, rfl, _⟩ := h
    rfl
  · obtain ⟨p, t, n, q, es, rfl, hk, hd, ho, hi, hq, L, l1, hn, k⟩ := h
    cases q <;> try cases hk
    rename_i qa qb
    obtain ⟨dx, fs, c, e, h1, h2, h3, h4, h5, h6⟩ := hq
    have hd' : max qa.dep qb.dep + 1 < d + 1 := hd
    have da : qa.dep < d := by omega
    have db : qb.dep < d := by omega
    refine ⟨_, pss_cons (ps_set (i := 3) scBf.nd rfl (Or.inl rfl) (pe_methD (CX := CX0) (pe_fld (pv 0) rfl) hr pass0 (pa_cons (pv 1) (pa_cons (pv 2) pa_nil))))
      (pss_cons (ps_set (i := 4) scBf.nd rfl (Or.inl rfl) (pe_methD (CX := CX0) (pe_fld (pv 0) rfl) hr pass0 (pa_cons (pv 1) (pa_cons (pv 2) pa_nil))))
      (pss_cons (ps_if (PW.pt (pw_or (pt_cmp (pc_isN (pv 3))) (pw_or1 (pt_cmp (pc_isN (pv 4)))))) (pss_one (ps_ret pe_non)) pss_nil)
      (pss_one (ps_ret (pe_callTy call_tuple_of (by rfl) TX.tuple PyProof.Rows.boot_tuple (pa_cons (pe_callB (call_sortedS rfl (P := P) (w := w) rfl rfl) (by rfl) T2.sorted PyProof.Rows.boot_sorted (pa_cons (pe_callTy (call_setR rfl (P := P) (w := w) rfl rfl) (by rfl) T2.set PyProof.Rows.boot_set (pa_cons (pe_op op_catA (pv 3) (pv 4)) pa_nil)) pa_nil)) pa_nil)))))), ?_⟩
    obtain ⟨x1, x2, x3, x4, g1, g2, g3, g4, g5, g6⟩ := T.found h5 hi.2.1
    refine ⟨_, rfl, p, _, dx, _, _, rfl, h1, C, nO, h2, c, _, x1, x2, x3, x4, _, _, rfl, g1, g2, g3, g4, g5, g6, _, rfl, _, rfl, c, t, n, qa, es, rfl, rfl, da, ho.1, hi.2.1, h5, L, l1, hn, ?_⟩
    cases hfa : foundM es qa n with
    | none =>
      rw [found_bot1 hfa] at k
      intro H4 u4
      obtain ⟨y1, y2, y3, y4, l1', l2, l3, l4, l5, l6⟩ := T.found (QAt.same u4 h6) hi.2.2
      refine ⟨_, rfl, p, _, dx, _, _, rfl, u4 _ _ h1, C, nR, h3, e, _, y1, y2, y3, y4, _, _, rfl, l1', l2, l3, l4, l5, l6, _, rfl, _, rfl, e, t, n, qb, es, rfl, rfl, db, ho.2, hi.2.2, QAt.same u4 h6, L.same u4, l1, hn, ?_⟩
      cases hfb : foundM es qb n with
      | none =>
        intro H5 u5
        exact ⟨_, rfl, _, rfl, iteT (iteT (k H5 (u4.trans u5)))⟩
      | some b =>
        intro ab H5 u5 _
        exact ⟨_, rfl, _, rfl, iteT (iteT (k H5 (u4.trans u5)))⟩
    | some a =>
      intro aa H4 u4 haa
      obtain ⟨y1, y2, y3, y4, l1', l2, l3, l4, l5, l6⟩ := T.found (QAt.same u4 h6) hi.2.2
      refine ⟨_, rfl, p, _, dx, _, _, rfl, u4 _ _ h1, C, nR, h3, e, _, y1, y2, y3, y4, _, _, rfl, l1', l2, l3, l4, l5, l6, _, rfl, _, rfl, e, t, n, qb, es, rfl, rfl, db, ho.2, hi.2.2, QAt.same u4 h6, L.same u4, l1, hn, ?_⟩
      cases hfb : foundM es qb n with
      | none =>
        rw [found_bot2 hfb] at k
        intro H5 u5
        exact ⟨_, rfl, _, rfl, iteF ⟨_, rfl, _, rfl, iteT (k H5 (u4.trans u5))⟩⟩
      | some b =>
        rw [found_bot hfa hfb] at k
        intro ab H5 u5 hab
        refine ⟨_, rfl, _, rfl, iteF ⟨_, rfl, _, rfl, iteF ?_⟩⟩
        have ha := found_lt qa n a hn hfa
        have hb := found_lt qb n b hn hfb
        have la := found_short qa n a hn hfa
        have lb := found_short qb n b hn hfb
        have hla := vN_len a
        have hlb := vN_len b
        refine ⟨_, rfl, _, rfl, aa, ab, _, _, rfl, rfl, u5 _ _ haa, hab, Nat.le_of_lt (small1000 (by omega)), fun pc H6 u6 hc => ?_⟩
        rw [vN_app] at hc
        refine ⟨pc, zs (a ++ b), rfl, .inr (SqT.of hc), by rw [zs_len, List.length_append]; omega, fun sa σ hsa nd hm _ => ?_⟩
        have hp := both_perm ha hb nd hm
        have h64 : σ.length < 64 := by
          have := hp.length_eq
          rw [zs_len] at this
          have := both_len es.length a b
          omega
        have u7 : Same H6 (upd H6 sa (IS P w sa σ)) := (Same.refl H6).upd_free hsa
        refine ⟨sa, σ, rfl, upd_same, h64, fun l ns hl hpn hs => ?_⟩
        have u8 : Same (upd H6 sa (IS P w sa σ)) (upd (upd H6 sa (IS P w sa σ)) l (.lst (ns.map V.int))) := (Same.refl _).upd_free hl
        rw [both_sorted ha hb nd hm hpn hs] at u8 ⊢
        refine ⟨l, _, rfl, .inl ⟨SqL.of upd_same, fun lt hlt => ?_⟩⟩
        exact k lt _ ((((u4.trans u5).trans u6).trans (u7.trans u8)).upd_free ((((u4.trans u5).trans u6).trans (u7.trans u8)).free hlt)) upd_same
theorem scEf : FnScope ["self", "log", "n", "rows"] ["self", "log", "n"] (defScope sEf) := ⟨rfl, rfl, rfl, by decide +kernel, rfl, by decide +kernel, by decide +kernel⟩
theorem ok_ef {f : Addr} {fd : FuncData} (F : Fun K "found" "Either.found" sEf f fd) (C : Cls K (cl .eit)) (nO : NoAttr K (cl .eit) "one") (nR : NoAttr K (cl .eit) "other") (T : Tab P w K mg base ks cl d lev) : FnOk P w K mg base CX0 (lev + 1) f fd ["self", "log", "n"] (spF ks cl .eit (d + 1)) := by
  refine F.ok scEf (fun vs H Q E h => ?_) (fun cdv A outer s H vs Q E hr h => ?_)
  · obtain ⟨p, t, n, q, es, rfl, _⟩ := h
    rfl
  · obtain ⟨p, t, n, q, es, rfl, hk, hd, ho, hi, hq, L, l1, hn, k⟩ := h
    cases q <;> try cases hk
    rename_i qa qb
    obtain ⟨dx, fs, c, e, h1, h2, h3, h4, h5, h6⟩ := hq
    have hd' : max qa.dep qb.dep + 1 < d + 1 := hd
    have da : qa.dep < d := by omega
    have db : qb.dep < d := by omega
    refine ⟨_, pss_cons (ps_set (i := 3) scEf.nd rfl (Or.inl rfl) (pe_methD (CX := CX0) (pe_fld (pv 0) rfl) hr pass0 (pa_cons (pv 1) (pa_cons (pv 2) pa_nil))))
      (pss_one (ps_ret (pe_ifExp (pt_cmp (pc_isN (pv 3))) (pe_methD (CX := CX0) (pe_fld (pv 0) rfl) hr pass0 (pa_cons (pv 1) (pa_cons (pv 2) pa_nil))) (pv 3)))), ?_⟩
    obtain ⟨x1, x2, x3, x4, g1, g2, g3, g4, g5, g6⟩ := T.found h5 hi.2.1
    refine ⟨_, rfl, p, _, dx, _, _, rfl, h1, C, nO, h2, c, _, x1, x2, x3, x4, _, _, rfl, g1, g2, g3, g4, g5, g6, _, rfl, _, rfl, c, t, n, qa, es, rfl, rfl, da, ho.1, hi.2.1, h5, L, l1, hn, ?_⟩
    unfold foundM at k
    cases hfa : foundM es qa n with
    | none =>
      rw [hfa] at k
      intro H4 u4
      obtain ⟨y1, y2, y3, y4, l1', l2, l3, l4, l5, l6⟩ := T.found (QAt.same u4 h6) hi.2.2
      refine ⟨_, rfl, _, rfl, iteT ⟨_, rfl, p, _, dx, _, _, rfl, u4 _ _ h1, C, nR, h3, e, _, y1, y2, y3, y4, _, _, rfl, l1', l2, l3, l4, l5, l6, _, rfl, _, rfl, e, t, n, qb, es, rfl, rfl, db, ho.2, hi.2.2, QAt.same u4 h6, L.same u4, l1, hn, ?_⟩⟩
      replace k : Told H Q (foundM es qb n) := k
      cases hfb : foundM es qb n with
      | none =>
        rw [hfb] at k
        intro H5 u5
        exact k H5 (u4.trans u5)
      | some b =>
        rw [hfb] at k
        intro ab H5 u5 hab
        exact k ab H5 (u4.trans u5) hab
    | some a =>
      rw [hfa] at k
      intro aa H4 u4 haa
      exact ⟨_, rfl, _, rfl, iteF ⟨_, rfl, k aa H4 u4 haa⟩⟩

def jq (b : Bool) (q r : Qn) : Qn := if b then .bot q r else .eit q r
def jk (b : Bool) : Kd := if b then .bot else .eit
def spJi (cl : Kd → Addr) (b : Bool) : Sp := fun vs H Q _ => ∃ (p dx c e : Addr) (q r : Qn) (H1 : Hp), vs = [.ref p, .ref c, .ref e] ∧ H p = some (.ins (cl (jk b)) dx []) ∧ QAt cl H1 q c ∧ QAt cl H1 r e ∧ Old H1 H p ∧ ∀ H', QAt cl H' (jq b q r) p → Kept H H' p → Q .non H'
theorem scJi : FnScope ["self", "one", "other"] ["self", "one", "other"] (defScope sJi) := ⟨rfl, rfl, rfl, by decide +kernel, rfl, by decide +kernel, by decide +kernel⟩
theorem ok_ji {f : Addr} {fd : FuncData} (b : Bool) (F : Fun K "__init__" "Joint.__init__" sJi f fd) (C : Cls K (cl (jk b))) (nO : NoAttr K (cl (jk b)) "one") (nR : NoAttr K (cl (jk b)) "other") : FnOk P w K mg base CX0 1 f fd ["self", "one", "other"] (spJi cl b) := by
  refine F.ok scJi (fun vs H Q E h => ?_) (fun cdv A outer s H vs Q E hr h => ?_)
  · obtain ⟨p, dx, c, e, q, r, H1, rfl, _⟩ := h
    rfl
  · obtain ⟨p, dx, c, e, q, r, H1, rfl, hp, hq, hq', ho, k⟩ := h
    refine ⟨_, pss_cons (ps_fld (pv 0) (pv 1) rfl) (pss_one (ps_fld (pv 0) (pv 2) rfl)), ?_⟩
    refine ⟨_, rfl, _, rfl, p, _, dx, _, rfl, hp, C, nO, (by show 0 < 1000; decide), ?_⟩
    refine ⟨_, rfl, _, rfl, p, _, dx, _, rfl, upd_same, C, nR, (by show 1 < 1000; decide), ?_⟩
    generalize hH' : upd _ p _ = H'
    have kp : Kept H H' p := fun b o e hb => by
      rw [← hH', upd_ne hb, upd_ne hb]
      exact e
    have at' : ∃ fs : List (Str × V), H' p = some (.ins (cl (jk b)) dx fs) ∧ fs.lookup ("one" : Str) = some (.ref c) ∧ fs.lookup ("other" : Str) = some (.ref e) ∧ NoMeth fs := by
      refine ⟨_, by rw [← hH']; exact upd_same, ?_, ?_, (NoMeth.nil.put (by decide +kernel) (by decide +kernel) (by decide +kernel)).put (by decide +kernel) (by decide +kernel) (by decide +kernel)⟩
      · rw [lookup_putF, if_neg (by decide +kernel), lookup_putF, if_pos rfl]
      · rw [lookup_putF, if_pos rfl]
    obtain ⟨fs, a1, a2, a3, a4⟩ := at'
    refine k H' ?_ kp
    cases b with
    | true => exact ⟨dx, fs, c, e, a1, a2, a3, a4, QAt.same (ho.then kp) hq, QAt.same (ho.then kp) hq'⟩
    | false => exact ⟨dx, fs, c, e, a1, a2, a3, a4, QAt.same (ho.then kp) hq, QAt.same (ho.then kp) hq'⟩
end
end QL
namespace QL
open PySem L2
def ks : Kd → Bool
  | .row => true
  | .wit => true
  | .beh => true
  | .ahd => true
  | .tim => true
  | .bot => true
  | .eit => true
  | .non => true
abbrev clF (r w h a t b e n : Addr) : Kd → Addr
  | .row => r
  | .wit => w
  | .beh => h
  | .ahd => a
  | .tim => t
  | .bot => b
  | .eit => e
  | .non => n

structure Prog (K : PySem.W.Frag) (mg : Str → Option Value) (cl : Kd → Addr) (fW fS : Addr) (dW dS : FuncData) (f_Qb f_Qo f_Rf f_Wf f_Ho f_Hf f_Ab f_Af f_Tb f_To f_Tf f_Jb f_Jo f_Bf f_Ef f_Nb f_No f_Nf : Addr) (d_Qb d_Qo d_Rf d_Wf d_Ho d_Hf d_Ab d_Af d_Tb d_To d_Tf d_Jb d_Jo d_Bf d_Ef d_Nb d_No d_Nf : FuncData) : Prop where
  T : Txt mg
  FW : Fun K "word_at" "word_at" sWa fW dW
  bW : Binds K dW ["entry", "place"] []
  gW : mg "word_at" = some (.ref fW)
  FS : Fun K "same_word" "same_word" sSw fS dS
  bS : Binds K dS ["entry", "place", "other", "away"] []
  gS : mg "same_word" = some (.ref fS)
  T2 : Txt2 mg
  c_row : Cls K (cl .row)
  n_row_wanted : NoAttr K (cl .row) "wanted"
  c_wit : Cls K (cl .wit)
  n_wit_here : NoAttr K (cl .wit) "here"
  n_wit_wanted : NoAttr K (cl .wit) "wanted"
  c_beh : Cls K (cl .beh)
  n_beh_here : NoAttr K (cl .beh) "here"
  n_beh_away : NoAttr K (cl .beh) "away"
  n_beh_reach : NoAttr K (cl .beh) "reach"
  c_ahd : Cls K (cl .ahd)
  n_ahd_here : NoAttr K (cl .ahd) "here"
  n_ahd_away : NoAttr K (cl .ahd) "away"
  n_ahd_reach : NoAttr K (cl .ahd) "reach"
  c_tim : Cls K (cl .tim)
  n_tim_reach : NoAttr K (cl .tim) "reach"
  n_tim_least : NoAttr K (cl .tim) "least"
  n_tim_inner : NoAttr K (cl .tim) "inner"
  c_bot : Cls K (cl .bot)
  n_bot_one : NoAttr K (cl .bot) "one"
  n_bot_other : NoAttr K (cl .bot) "other"
  c_eit : Cls K (cl .eit)
  n_eit_one : NoAttr K (cl .eit) "one"
  n_eit_other : NoAttr K (cl .eit) "other"
  c_non : Cls K (cl .non)
  n_non_one : NoAttr K (cl .non) "one"
  F_Qb : Fun K "back" "Question.back" sBk f_Qb d_Qb
  b_Qb : Binds K d_Qb ["self"] []
  F_Qo : Fun K "on" "Question.on" sOn f_Qo d_Qo
  b_Qo : Binds K d_Qo ["self"] []
  F_Rf : Fun K "found" "Row.found" sRf f_Rf d_Rf
  b_Rf : Binds K d_Rf ["self", "log", "n"] []
  F_Wf : Fun K "found" "With.found" sWf f_Wf d_Wf
  b_Wf : Binds K d_Wf ["self", "log", "n"] []
  F_Ho : Fun K "on" "Behind.on" sHo f_Ho d_Ho
  b_Ho : Binds K d_Ho ["self"] []
  F_Hf : Fun K "found" "Behind.found" sHf f_Hf d_Hf
  b_Hf : Binds K d_Hf ["self", "log", "n"] []
  F_Ab : Fun K "back" "Ahead.back" sAb f_Ab d_Ab
  b_Ab : Binds K d_Ab ["self"] []
  F_Af : Fun K "found" "Ahead.found" sAf f_Af d_Af
  b_Af : Binds K d_Af ["self", "log", "n"] []
  F_Tb : Fun K "back" "Times.back" sTb f_Tb d_Tb
  b_Tb : Binds K d_Tb ["self"] []
  F_To : Fun K "on" "Times.on" sTo f_To d_To
  b_To : Binds K d_To ["self"] []
  F_Tf : Fun K "found" "Times.found" sTf f_Tf d_Tf
  b_Tf : Binds K d_Tf ["self", "log", "n"] []
  F_Jb : Fun K "back" "Joint.back" sJb f_Jb d_Jb
  b_Jb : Binds K d_Jb ["self"] []
  F_Jo : Fun K "on" "Joint.on" sJo f_Jo d_Jo
  b_Jo : Binds K d_Jo ["self"] []
  F_Bf : Fun K "found" "Both.found" sBf f_Bf d_Bf
  b_Bf : Binds K d_Bf ["self", "log", "n"] []
  F_Ef : Fun K "found" "Either.found" sEf f_Ef d_Ef
  b_Ef : Binds K d_Ef ["self", "log", "n"] []
  F_Nb : Fun K "back" "Not.back" sNb f_Nb d_Nb
  b_Nb : Binds K d_Nb ["self"] []
  F_No : Fun K "on" "Not.on" sNo f_No d_No
  b_No : Binds K d_No ["self"] []
  F_Nf : Fun K "found" "Not.found" sNf f_Nf d_Nf
  b_Nf : Binds K d_Nf ["self", "log", "n"] []
  m_row_back : Meth K (cl .row) "back" f_Qb
  m_row_on : Meth K (cl .row) "on" f_Qo
  m_row_found : Meth K (cl .row) "found" f_Rf
  m_wit_back : Meth K (cl .wit) "back" f_Qb
  m_wit_on : Meth K (cl .wit) "on" f_Qo
  m_wit_found : Meth K (cl .wit) "found" f_Wf
  m_beh_back : Meth K (cl .beh) "back" f_Qb
  m_beh_on : Meth K (cl .beh) "on" f_Ho
  m_beh_found : Meth K (cl .beh) "found" f_Hf
  m_ahd_back : Meth K (cl .ahd) "back" f_Ab
  m_ahd_on : Meth K (cl .ahd) "on" f_Qo
  m_ahd_found : Meth K (cl .ahd) "found" f_Af
  m_tim_back : Meth K (cl .tim) "back" f_Tb
  m_tim_on : Meth K (cl .tim) "on" f_To
  m_tim_found : Meth K (cl .tim) "found" f_Tf
  m_bot_back : Meth K (cl .bot) "back" f_Jb
  m_bot_on : Meth K (cl .bot) "on" f_Jo
  m_bot_found : Meth K (cl .bot) "found" f_Bf
  m_eit_back : Meth K (cl .eit) "back" f_Jb
  m_eit_on : Meth K (cl .eit) "on" f_Jo
  m_eit_found : Meth K (cl .eit) "found" f_Ef
  m_non_back : Meth K (cl .non) "back" f_Nb
  m_non_on : Meth K (cl .non) "on" f_No
  m_non_found : Meth K (cl .non) "found" f_Nf
section
variable {P : Program} {w : World} {K : PySem.W.Frag} {mg : Str → Option Value} {base : Heap} {cl : Kd → Addr}
theorem vacF {k : Kd} {lev : Nat} {f : Addr} {fd : FuncData} {ps : List Str} : FnOk P w K mg base CX0 lev f fd ps (spF ks cl k 0) := vac fun vs H Q E h => by
  obtain ⟨p, t, n, q, es, _, _, hd, _⟩ := h
  exact Nat.not_lt_zero _ hd
theorem vacB {k : Kd} {lev : Nat} {f : Addr} {fd : FuncData} {ps : List Str} : FnOk P w K mg base CX0 lev f fd ps (spB ks cl k 0) := vac fun vs H Q E h => by
  obtain ⟨p, q, _, _, hd, _⟩ := h
  exact Nat.not_lt_zero _ hd
theorem vacO {k : Kd} {lev : Nat} {f : Addr} {fd : FuncData} {ps : List Str} : FnOk P w K mg base CX0 lev f fd ps (spO ks cl k 0) := vac fun vs H Q E h => by
  obtain ⟨p, q, _, _, hd, _⟩ := h
  exact Nat.not_lt_zero _ hd
theorem tab {fW fS f_Qb f_Qo f_Rf f_Wf f_Ho f_Hf f_Ab f_Af f_Tb f_To f_Tf f_Jb f_Jo f_Bf f_Ef f_Nb f_No f_Nf : Addr} {dW dS d_Qb d_Qo d_Rf d_Wf d_Ho d_Hf d_Ab d_Af d_Tb d_To d_Tf d_Jb d_Jo d_Bf d_Ef d_Nb d_No d_Nf : FuncData} (X : Prog K mg cl fW fS dW dS f_Qb f_Qo f_Rf f_Wf f_Ho f_Hf f_Ab f_Af f_Tb f_To f_Tf f_Jb f_Jo f_Bf f_Ef f_Nb f_No f_Nf d_Qb d_Qo d_Rf d_Wf d_Ho d_Hf d_Ab d_Af d_Tb d_To d_Tf d_Jb d_Jo d_Bf d_Ef d_Nb d_No d_Nf) : ∀ d : Nat, Tab P w K mg base ks cl d (d + 3)
  | 0 => fun k hk => by
    cases k with
    | row => exact ⟨X.c_row, ⟨f_Rf, d_Rf, X.m_row_found, X.b_Rf, vacF⟩, ⟨f_Qb, d_Qb, X.m_row_back, X.b_Qb, vacB⟩, ⟨f_Qo, d_Qo, X.m_row_on, X.b_Qo, vacO⟩⟩
    | wit => exact ⟨X.c_wit, ⟨f_Wf, d_Wf, X.m_wit_found, X.b_Wf, vacF⟩, ⟨f_Qb, d_Qb, X.m_wit_back, X.b_Qb, vacB⟩, ⟨f_Qo, d_Qo, X.m_wit_on, X.b_Qo, vacO⟩⟩
    | beh => exact ⟨X.c_beh, ⟨f_Hf, d_Hf, X.m_beh_found, X.b_Hf, vacF⟩, ⟨f_Qb, d_Qb, X.m_beh_back, X.b_Qb, vacB⟩, ⟨f_Ho, d_Ho, X.m_beh_on, X.b_Ho, vacO⟩⟩
    | ahd => exact ⟨X.c_ahd, ⟨f_Af, d_Af, X.m_ahd_found, X.b_Af, vacF⟩, ⟨f_Ab, d_Ab, X.m_ahd_back, X.b_Ab, vacB⟩, ⟨f_Qo, d_Qo, X.m_ahd_on, X.b_Qo, vacO⟩⟩
    | tim => exact ⟨X.c_tim, ⟨f_Tf, d_Tf, X.m_tim_found, X.b_Tf, vacF⟩, ⟨f_Tb, d_Tb, X.m_tim_back, X.b_Tb, vacB⟩, ⟨f_To, d_To, X.m_tim_on, X.b_To, vacO⟩⟩
    | bot => exact ⟨X.c_bot, ⟨f_Bf, d_Bf, X.m_bot_found, X.b_Bf, vacF⟩, ⟨f_Jb, d_Jb, X.m_bot_back, X.b_Jb, vacB⟩, ⟨f_Jo, d_Jo, X.m_bot_on, X.b_Jo, vacO⟩⟩
    | eit => exact ⟨X.c_eit, ⟨f_Ef, d_Ef, X.m_eit_found, X.b_Ef, vacF⟩, ⟨f_Jb, d_Jb, X.m_eit_back, X.b_Jb, vacB⟩, ⟨f_Jo, d_Jo, X.m_eit_on, X.b_Jo, vacO⟩⟩
    | non => exact ⟨X.c_non, ⟨f_Nf, d_Nf, X.m_non_found, X.b_Nf, vacF⟩, ⟨f_Nb, d_Nb, X.m_non_back, X.b_Nb, vacB⟩, ⟨f_No, d_No, X.m_non_on, X.b_No, vacO⟩⟩
  | d + 1 => fun k hk => by
    have TB : Tab P w K mg base ks cl d (d + 3) := tab X d
    cases k with
    | row => exact ⟨X.c_row, ⟨f_Rf, d_Rf, X.m_row_found, X.b_Rf, (ok_rf X.F_Rf X.c_row X.n_row_wanted).mono (by omega)⟩, ⟨f_Qb, d_Qb, X.m_row_back, X.b_Qb, (ok_bk X.F_Qb (.inl rfl)).mono (by omega)⟩, ⟨f_Qo, d_Qo, X.m_row_on, X.b_Qo, (ok_on X.F_Qo (.inl rfl)).mono (by omega)⟩⟩
    | wit => exact ⟨X.c_wit, ⟨f_Wf, d_Wf, X.m_wit_found, X.b_Wf, (ok_wf X.F_Wf X.T X.c_wit X.n_wit_here X.n_wit_wanted X.FW X.bW X.gW).mono (by omega)⟩, ⟨f_Qb, d_Qb, X.m_wit_back, X.b_Qb, (ok_bk X.F_Qb (.inr (.inl rfl))).mono (by omega)⟩, ⟨f_Qo, d_Qo, X.m_wit_on, X.b_Qo, (ok_on X.F_Qo (.inr (.inl rfl))).mono (by omega)⟩⟩
    | beh => exact ⟨X.c_beh, ⟨f_Hf, d_Hf, X.m_beh_found, X.b_Hf, (ok_hf X.F_Hf X.T X.c_beh X.n_beh_here X.n_beh_away X.n_beh_reach X.FW X.bW X.gW X.FS X.bS X.gS).mono (by omega)⟩, ⟨f_Qb, d_Qb, X.m_beh_back, X.b_Qb, (ok_bk X.F_Qb (.inr (.inr rfl))).mono (by omega)⟩, ⟨f_Ho, d_Ho, X.m_beh_on, X.b_Ho, (ok_ho X.F_Ho X.c_beh X.n_beh_reach).mono (by omega)⟩⟩
    | ahd => exact ⟨X.c_ahd, ⟨f_Af, d_Af, X.m_ahd_found, X.b_Af, (ok_af X.F_Af X.T X.c_ahd X.n_ahd_here X.n_ahd_away X.n_ahd_reach X.FW X.bW X.gW X.FS X.bS X.gS).mono (by omega)⟩, ⟨f_Ab, d_Ab, X.m_ahd_back, X.b_Ab, (ok_ab X.F_Ab X.c_ahd X.n_ahd_reach).mono (by omega)⟩, ⟨f_Qo, d_Qo, X.m_ahd_on, X.b_Qo, (ok_on X.F_Qo (.inr (.inr rfl))).mono (by omega)⟩⟩
    | tim => exact ⟨X.c_tim, ⟨f_Tf, d_Tf, X.m_tim_found, X.b_Tf, ok_tf X.F_Tf X.T X.c_tim X.n_tim_reach X.n_tim_least X.n_tim_inner TB⟩, ⟨f_Tb, d_Tb, X.m_tim_back, X.b_Tb, ok_tb X.F_Tb X.c_tim X.n_tim_reach X.n_tim_inner TB⟩, ⟨f_To, d_To, X.m_tim_on, X.b_To, ok_to X.F_To X.c_tim X.n_tim_inner TB⟩⟩
    | bot => exact ⟨X.c_bot, ⟨f_Bf, d_Bf, X.m_bot_found, X.b_Bf, ok_bf X.F_Bf X.T X.T2 X.c_bot X.n_bot_one X.n_bot_other TB⟩, ⟨f_Jb, d_Jb, X.m_bot_back, X.b_Jb, ok_jb X.F_Jb X.T X.c_bot (Or.inl rfl) X.n_bot_one X.n_bot_other TB⟩, ⟨f_Jo, d_Jo, X.m_bot_on, X.b_Jo, ok_jo X.F_Jo X.T X.c_bot (Or.inl rfl) X.n_bot_one X.n_bot_other TB⟩⟩
    | eit => exact ⟨X.c_eit, ⟨f_Ef, d_Ef, X.m_eit_found, X.b_Ef, ok_ef X.F_Ef X.c_eit X.n_eit_one X.n_eit_other TB⟩, ⟨f_Jb, d_Jb, X.m_eit_back, X.b_Jb, ok_jb X.F_Jb X.T X.c_eit (Or.inr rfl) X.n_eit_one X.n_eit_other TB⟩, ⟨f_Jo, d_Jo, X.m_eit_on, X.b_Jo, ok_jo X.F_Jo X.T X.c_eit (Or.inr rfl) X.n_eit_one X.n_eit_other TB⟩⟩
    | non => exact ⟨X.c_non, ⟨f_Nf, d_Nf, X.m_non_found, X.b_Nf, ok_nf X.F_Nf X.c_non X.n_non_one TB⟩, ⟨f_Nb, d_Nb, X.m_non_back, X.b_Nb, ok_nb X.F_Nb X.c_non X.n_non_one TB⟩, ⟨f_No, d_No, X.m_non_on, X.b_No, ok_no X.F_No X.c_non X.n_non_one TB⟩⟩
end
end QL

namespace QL
open PySem L2
theorem AAt.tsame {H H' : Hp} (s : TSame H H') : ∀ {q : Qn} {p : Addr}, AAt H q p → AAt H' q p
  | .row _, _, h => s _ _ h
  | .wit _ _ _, _, h => s _ _ h
  | .beh _ _ _ _ _, _, h => s _ _ h
  | .ahd _ _ _ _ _, _, h => s _ _ h
  | .tim _ _ _, _, ⟨c, h1, h2⟩ => ⟨c, s _ _ h1, AAt.tsame s h2⟩
  | .bot _ _, _, ⟨c, e, h1, h2, h3⟩ => ⟨c, e, s _ _ h1, AAt.tsame s h2, AAt.tsame s h3⟩
  | .eit _ _, _, ⟨c, e, h1, h2, h3⟩ => ⟨c, e, s _ _ h1, AAt.tsame s h2, AAt.tsame s h3⟩
  | .non _, _, ⟨c, h1, h2⟩ => ⟨c, s _ _ h1, AAt.tsame s h2⟩
theorem str_ok {z : Str} {n : Nat} (h : Tx n z) : DOk (.str z) := ⟨h.ok, by rw [PyData.depth]; decide⟩
def spNr : Sp := fun vs H Q _ => ∃ (p : Addr) (q : Qn) (wi : Bool), vs = [.ref p, .bl wi] ∧ AAt H q p ∧ q.dep = 0 ∧ q.Ok ∧ ∀ (p' : Addr) (q' : Qn) (H' : Hp), Same H H' → AAt H' q' p' → q'.dep = 0 → q'.Ok → Q (.ref p') H'
section
variable {P : Program} {w : World} {K : PySem.W.Frag} {mg : Str → Option Value} {base : Heap} {cl : Kd → Addr}
theorem scNr : FnScope ["_law_asked", "_law_within"] ["_law_asked", "_law_within"] (defScope sNr) := ⟨rfl, rfl, rfl, by decide +kernel, rfl, by decide +kernel, by decide +kernel⟩
theorem ok_nr {f : Addr} {fd : FuncData} (F : Fun K "_law_nearer" "_law_nearer" sNr f fd) : FnOk P w K mg base CX0 1 f fd ["_law_asked", "_law_within"] spNr := by
  refine F.ok scNr (fun vs H Q E h => ?_) (fun cdv A outer s H vs Q E hr h => ?_)
  · obtain ⟨p, q, wi, rfl, _⟩ := h
    rfl
  · obtain ⟨p, q, wi, rfl, hA, hd, hok, k⟩ := h
    have hu := hr.units
    refine ⟨_, pss_cons (ps_if (PW.pt (pw_and (pt_val (pv 1)) (pw_and1 (pt_cmpR (op_inD hu) (pe_ix ix_tup (pv 0) pe_int (fun _ _ => rfl)) (pe_lst (pa_cons pe_str (pa_cons pe_str pa_nil))) (by with_unfolding_all rfl)))))
        (pss_one (ps_ret (pe_op op_catA (pe_slice sl_tupA (pv 0) po_none (po_some pe_int)) (pe_tup (pa_cons (pe_op op_add pe_int (pe_op op_mod (pe_ix ix_tup (pv 0) pe_int (fun _ _ => rfl)) pe_int)) pa_nil))))) pss_nil)
      (pss_one (ps_ret (pv 0))), ?_⟩
    cases wi with
    | false => exact ⟨_, rfl, false, rfl, iteF (iteF ⟨_, rfl, k p q H (Same.refl H) hA hd hok⟩)⟩
    | true =>
      refine ⟨_, rfl, true, rfl, iteT ?_⟩
      have inn : ∀ (z : Str), PyData.canLayAll0 [PyData.str (Str.ofString "behind"), .str (Str.ofString "ahead")] = true := fun z => by decide +kernel
      have two : ∀ l, DsAt K (upd H l (.lst [.str (Str.ofString "behind"), .str (Str.ofString "ahead")])) [V.str (Str.ofString "behind"), .str (Str.ofString "ahead")] [PyData.str (Str.ofString "behind"), .str (Str.ofString "ahead")] := fun l => .cons (.str _) (.cons (.str _) .nil)
      cases q <;> cases hd
      · rename_i F
        refine ⟨_, rfl, p, _, _, _, rfl, rfl, SqT.of hA, rfl, (by show 2 ≤ sizeLine; decide), fun l hl => ?_⟩
        refine ⟨l, _, _, _, rfl, .inl (SqL.of upd_same), two l, .str _, by exact str_ok (n := 10) (txK (by decide +kernel)), inn Str.empty, _, rfl, ?_⟩
        refine iteFK (by decide +kernel) ?_
        have s1 : Same H (upd H l (.lst [.str (Str.ofString "behind"), .str (Str.ofString "ahead")])) := (Same.refl H).upd_free hl
        exact ⟨_, rfl, k p (.row F) _ s1 (AAt.same (q := .row F) s1 hA) rfl hok⟩
      · rename_i F I W
        refine ⟨_, rfl, p, _, _, _, rfl, rfl, SqT.of hA, rfl, (by show 2 ≤ sizeLine; decide), fun l hl => ?_⟩
        refine ⟨l, _, _, _, rfl, .inl (SqL.of upd_same), two l, .str _, by exact str_ok (n := 10) (txK (by decide +kernel)), inn Str.empty, _, rfl, ?_⟩
        refine iteFK (by decide +kernel) ?_
        have s1 : Same H (upd H l (.lst [.str (Str.ofString "behind"), .str (Str.ofString "ahead")])) := (Same.refl H).upd_free hl
        exact ⟨_, rfl, k p (.wit F I W) _ s1 (AAt.same (q := .wit F I W) s1 hA) rfl hok⟩
      · rename_i F I G J R
        refine ⟨_, rfl, p, _, _, _, rfl, rfl, SqT.of hA, rfl, (by show 2 ≤ sizeLine; decide), fun l hl => ?_⟩
        refine ⟨l, _, _, _, rfl, .inl (SqL.of upd_same), two l, .str _, by exact str_ok (n := 10) (txK (by decide +kernel)), inn Str.empty, _, rfl, ?_⟩
        refine iteTK (by decide +kernel) ?_
        have s1 : Same H (upd H l (.lst [.str (Str.ofString "behind"), .str (Str.ofString "ahead")])) := (Same.refl H).upd_free hl
        generalize upd H l (.lst [.str (Str.ofString "behind"), .str (Str.ofString "ahead")]) = H1 at s1
        have hA1 := s1 _ _ hA
        refine ⟨_, rfl, _, rfl, p, _, rfl, hA1, fun c H2 s2 hc => ?_⟩
        refine ⟨_, rfl, p, _, _, _, rfl, rfl, SqT.of (s2 _ _ hA1), rfl, _, _, rfl, rfl, (by show (0 : Int) < 6; decide), _, _, rfl, rfl, (by show 1 ≤ sizeLine; decide), fun d hd => ?_⟩
        have s3 : Same H2 (upd H2 d (.tup [.int (1 + (R : Int) % 6)])) := (Same.refl H2).upd_free hd
        refine ⟨c, d, _, _, rfl, rfl, s3 _ _ hc, upd_same, (by show 6 ≤ sizeLine; decide), fun e H4 s4 he => ?_⟩
        have eR : (1 + (R : Int) % 6) = ((1 + R % 6 : Nat) : Int) := by omega
        replace he : H4 e = some (.tup [.str (Str.ofString "behind"), .int F, .int I, .int G, .int J, .int (1 + (R : Int) % 6)]) := he
        rw [eR] at he
        exact k e (.beh F I G J (1 + R % 6)) H4 ((s1.trans s2).trans (s3.trans s4)) he rfl ⟨hok.1, hok.2.1, by omega⟩
      · rename_i F I G J R
        refine ⟨_, rfl, p, _, _, _, rfl, rfl, SqT.of hA, rfl, (by show 2 ≤ sizeLine; decide), fun l hl => ?_⟩
        refine ⟨l, _, _, _, rfl, .inl (SqL.of upd_same), two l, .str _, by exact str_ok (n := 10) (txK (by decide +kernel)), inn Str.empty, _, rfl, ?_⟩
        refine iteTK (by decide +kernel) ?_
        have s1 : Same H (upd H l (.lst [.str (Str.ofString "behind"), .str (Str.ofString "ahead")])) := (Same.refl H).upd_free hl
        generalize upd H l (.lst [.str (Str.ofString "behind"), .str (Str.ofString "ahead")]) = H1 at s1
        have hA1 := s1 _ _ hA
        refine ⟨_, rfl, _, rfl, p, _, rfl, hA1, fun c H2 s2 hc => ?_⟩
        refine ⟨_, rfl, p, _, _, _, rfl, rfl, SqT.of (s2 _ _ hA1), rfl, _, _, rfl, rfl, (by show (0 : Int) < 6; decide), _, _, rfl, rfl, (by show 1 ≤ sizeLine; decide), fun d hd => ?_⟩
        have s3 : Same H2 (upd H2 d (.tup [.int (1 + (R : Int) % 6)])) := (Same.refl H2).upd_free hd
        refine ⟨c, d, _, _, rfl, rfl, s3 _ _ hc, upd_same, (by show 6 ≤ sizeLine; decide), fun e H4 s4 he => ?_⟩
        have eR : (1 + (R : Int) % 6) = ((1 + R % 6 : Nat) : Int) := by omega
        replace he : H4 e = some (.tup [.str (Str.ofString "ahead"), .int F, .int I, .int G, .int J, .int (1 + (R : Int) % 6)]) := he
        rw [eR] at he
        exact k e (.ahd F I G J (1 + R % 6)) H4 ((s1.trans s2).trans (s3.trans s4)) he rfl ⟨hok.1, hok.2.1, by omega⟩
end
end QL
namespace QL
open PySem L2
theorem eqv_nilZ (cs : List Int) : PyData.eqv (.list (cs.map PyData.int)) (.list []) = decide (cs = []) := by
  cases cs with
  | nil => rfl
  | cons a r => rfl
theorem pop0 (n : Nat) : seqIndex? 0 (n + 1) = some 0 := by
  unfold seqIndex?
  have h : (0 : Int) < ((n + 1 : Nat) : Int) := by omega
  simp [h]
def spGw (m : Nat) : Sp := fun vs H Q _ => ∃ (c a b : Addr) (wi : Bool) (cs ns : List Int) (ws : List Str), vs = [.ref c, .ref a, .ref b, .bl wi] ∧ H c = some (.lst (cs.map V.int)) ∧ 1 ≤ cs.length ∧ cs.length ≤ m ∧ cs.length ≤ 60 ∧ c ≠ a ∧ c ≠ b ∧ H a = some (.lst (ns.map V.int)) ∧ ns.length = 3 ∧ H b = some (.lst (ws.map V.str)) ∧ ws.length = 5 ∧ (∀ x ∈ ws, Tx 60 x) ∧
  ∀ (p : Addr) (q : Qn) (cs' : List Int) (H' : Hp), Kept H H' c → H' c = some (.lst (cs'.map V.int)) → cs'.length < cs.length → AAt H' q p → q.dep < cs.length → q.Ok → Q (.ref p) H'
theorem Kept.trans {H H1 H2 : Hp} {c : Addr} (a : Kept H H1 c) (b : Kept H1 H2 c) : Kept H H2 c := fun x o e n => b x o (a x o e n) n
theorem Kept.same {H H1 : Hp} {c : Addr} (a : Same H H1) : Kept H H1 c := fun x o e _ => a x o e
theorem Kept.tups {H H' : Hp} {c : Addr} {ys : List V} (k : Kept H H' c) (h : H c = some (.lst ys)) : TSame H H' := fun b xs e => k b _ e fun z => by
  subst z
  rw [h] at e
  cases e
section
variable {P : Program} {w : World} {K : PySem.W.Frag} {mg : Str → Option Value} {base : Heap} {cl : Kd → Addr}
theorem scGw : FnScope ["_law_cells", "_law_letters_here", "_law_pool_here", "_law_within", "_law_cell", "_law_counts", "_law_one", "_law_other"] ["_law_cells", "_law_letters_here", "_law_pool_here", "_law_within"] (defScope sGw) := ⟨rfl, rfl, rfl, by decide +kernel, rfl, by decide +kernel, by decide +kernel⟩
theorem ok_gw {f fM fC fS fN : Addr} {fd dM dC dS dN : FuncData} (F : Fun K "_law_grown" "_law_grown" sGw f fd) (bF : Binds K fd ["_law_cells", "_law_letters_here", "_law_pool_here", "_law_within"] []) (gF : mg "_law_grown" = some (.ref f))
    (FM : Fun K "_law_mix" "_law_mix" sMi fM dM) (bM : Binds K dM ["_law_cell", "_law_k"] []) (gM : mg "_law_mix" = some (.ref fM))
    (FCo : Fun K "_law_count" "_law_count" sCo fC dC) (bCo : Binds K dC ["_law_cell", "_law_k"] []) (gCo : mg "_law_count" = some (.ref fC))
    (FSh : Fun K "_law_short" "_law_short" sSh fS dS) (bSh : Binds K dS ["_law_cell", "_law_letters_here", "_law_pool_here"] []) (gSh : mg "_law_short" = some (.ref fS))
    (FNr : Fun K "_law_nearer" "_law_nearer" sNr fN dN) (bNr : Binds K dN ["_law_asked", "_law_within"] []) (gNr : mg "_law_nearer" = some (.ref fN)) :
    ∀ m : Nat, FnOk P w K mg base CX0 (m + 3) f fd ["_law_cells", "_law_letters_here", "_law_pool_here", "_law_within"] (spGw m)
  | 0 => vac fun vs H Q E h => by
    obtain ⟨c, a, b, wi, cs, ns, ws, _, _, h1, h2, _⟩ := h
    omega
  | m + 1 => by
    have GG : FnOk P w K mg base CX0 (m + 3) f fd ["_law_cells", "_law_letters_here", "_law_pool_here", "_law_within"] (spGw m) := ok_gw F bF gF FM bM gM FCo bCo gCo FSh bSh gSh FNr bNr gNr m
    have GCo : FnOk P w K mg base CX0 2 fC dC ["_law_cell", "_law_k"] spCo := ok_co FCo FM bM gM
    have GSh : FnOk P w K mg base CX0 3 fS dS ["_law_cell", "_law_letters_here", "_law_pool_here"] spSh := ok_sh FSh FM bM gM FCo bCo gCo
    have GNr : FnOk P w K mg base CX0 1 fN dN ["_law_asked", "_law_within"] spNr := ok_nr FNr
    refine F.ok (k := m + 3) scGw (fun vs H Q E h => ?_) (fun cdv A outer s H vs Q E hr h => ?_)
    · obtain ⟨c, a, b, wi, cs, ns, ws, rfl, _⟩ := h
      rfl
    · obtain ⟨c, a, b, wi, cs, ns, ws, rfl, hC, l1, l2, l3, ca, cb, hA, nl, hB, wl, wt, k⟩ := h
      have hu := hr.units
      have hr1 : Room 1 _ := hr.mono (by omega)
      have hr2 : Room 2 _ := hr.mono (by omega)
      have hr3 : Room 3 _ := hr.mono (by omega)
      refine ⟨_, pss_cons (ps_set (i := 4) scGw.nd rfl (Or.inl rfl) (pe_bm PySem.F.plainAttrs_list PySem.F.slot_list_pop PySem.F.type_list_pop mt_popAt (pv 0) (pa_cons pe_int pa_nil)))
        (pss_cons (ps_if (pt_cut (PW.pt (pw_or (pt_cmpR op_lt (pe_op op_mod (pv 4) pe_int) pe_int (nomark _)) (pw_or (pt_cmpR (op_eqD hu) (pv 0) (pe_lst pa_nil) (nomark _)) (pw_or1 (PW.pt (pw_and (pt_cmpR op_eq (pe_op op_mod (pv 4) pe_int) pe_int (nomark _)) (pw_and1 (pt_val (pv 3))))))))))
          (pss_one (ps_ret (pe_call GNr hr1 rfl gNr FNr.kp bNr .nil pass0 (pa_cons (pe_call GSh hr3 rfl gSh FSh.kp bSh .nil pass0 (pa_cons (pe_op op_fdiv (pv 4) pe_int) (pa_cons (pv 1) (pa_cons (pv 2) pa_nil)))) (pa_cons (pv 3) pa_nil))))) pss_nil)
        (pss_cons (ps_if (pt_cmpR op_eq (pe_op op_mod (pv 4) pe_int) pe_int (nomark _))
          (pss_cons (ps_set (i := 5) scGw.nd rfl (Or.inl rfl) (pe_tup (pa_cons (pe_call GCo hr2 rfl gCo FCo.kp bCo .nil pass0 (pa_cons (pe_op op_fdiv (pv 4) pe_int) (pa_cons pe_int pa_nil))) (pa_cons (pe_call GCo hr2 rfl gCo FCo.kp bCo .nil pass0 (pa_cons (pe_op op_fdiv (pv 4) pe_int) (pa_cons pe_int pa_nil))) pa_nil))))
          (pss_one (ps_ret (pe_tup (pa_cons pe_str (pa_cons (pe_ix ix_tup (pv 5) pe_int (fun _ _ => rfl)) (pa_cons (pe_ix ix_tup (pv 5) pe_int (fun _ _ => rfl)) (pa_cons (pe_call GG hr rfl gF F.kp bF .nil pass0 (pa_cons (pv 0) (pa_cons (pv 1) (pa_cons (pv 2) (pa_cons pe_bl pa_nil))))) pa_nil)))))))) pss_nil)
        (pss_cons (ps_if (pt_cmpR op_eq (pe_op op_mod (pv 4) pe_int) pe_int (nomark _))
          (pss_one (ps_ret (pe_tup (pa_cons pe_str (pa_cons (pe_call GG hr rfl gF F.kp bF .nil pass0 (pa_cons (pv 0) (pa_cons (pv 1) (pa_cons (pv 2) (pa_cons (pv 3) pa_nil))))) pa_nil))))) pss_nil)
        (pss_cons (ps_set (i := 6) scGw.nd rfl (Or.inl rfl) (pe_call GG hr rfl gF F.kp bF .nil pass0 (pa_cons (pv 0) (pa_cons (pv 1) (pa_cons (pv 2) (pa_cons (pv 3) pa_nil))))))
        (pss_cons (ps_set (i := 7) scGw.nd rfl (Or.inl rfl) (pe_call GNr hr1 rfl gNr FNr.kp bNr .nil pass0 (pa_cons (pe_call GSh hr3 rfl gSh FSh.kp bSh .nil pass0 (pa_cons (pe_op op_fdiv (pv 4) pe_int) (pa_cons (pv 1) (pa_cons (pv 2) pa_nil)))) (pa_cons (pv 3) pa_nil))))
        (pss_cons (ps_cut (ps_if (pt_cmpR (op_neD hu) (pv 0) (pe_lst pa_nil) (nomark _)) (pss_one (ps_set (i := 7) scGw.nd rfl (Or.inl rfl) (pe_call GG hr rfl gF F.kp bF .nil pass0 (pa_cons (pv 0) (pa_cons (pv 1) (pa_cons (pv 2) (pa_cons (pv 3) pa_nil))))))) pss_nil))
        (pss_one (ps_ret (pe_tup (pa_cons (pe_ix ix_list (pe_lst (pa_cons pe_str (pa_cons pe_str pa_nil))) (pe_op op_mod (pv 4) pe_int) (fun _ _ => rfl)) (pa_cons (pv 6) (pa_cons (pv 7) pa_nil)))))))))))), ?_⟩
      obtain ⟨c0, cs1, rfl⟩ : ∃ c0 cs1, cs = c0 :: cs1 := by
        cases cs with
        | nil => exact absurd l1 (by decide)
        | cons x y => exact ⟨x, y, rfl⟩
      rw [List.length_cons] at l1 l2 l3
      refine ⟨_, rfl, .inl ⟨rfl, _, SqL.of hC⟩, c, _, _, 0, _, rfl, rfl, hC, by decide, by decide, (by rw [List.length_map, List.length_cons]; exact pop0 _), rfl, ?_⟩
      have kp1 : Kept H (upd H c (.lst (((c0 :: cs1).map V.int).eraseIdx 0))) c := fun x o e n => by
        rw [upd_ne n]
        exact e
      have hC1 : upd H c (.lst (((c0 :: cs1).map V.int).eraseIdx 0)) c = some (.lst (cs1.map V.int)) := upd_same
      generalize upd H c (.lst (((c0 :: cs1).map V.int).eraseIdx 0)) = H1 at kp1 hC1
      have hA1 := kp1 _ _ hA (Ne.symm ca)
      have hB1 := kp1 _ _ hB (Ne.symm cb)
      -- the first test
      refine ⟨fun b' H' => Same H1 H' ∧ (b' = false → cs1 ≠ []), ?_, ?_⟩
      · refine ⟨_, rfl, _, _, rfl, rfl, (by show (0 : Int) < 8; decide), _, _, rfl, rfl, _, rfl, ?_⟩
        refine ifb ⟨Same.refl H1, fun z => by cases z⟩ ?_
        refine ⟨_, rfl, (by show 0 ≤ sizeLine; decide), fun l hl => ?_⟩
        have s2 : Same H1 (upd H1 l (.lst [])) := (Same.refl H1).upd_free hl
        refine ⟨.list (cs1.map PyData.int), .list [], .lst (SqL.of (s2 _ _ hC1)) (ints_at cs1), .lst (SqL.of upd_same) .nil, intsL_ok cs1, intsL_ok [], _, rfl, ?_⟩
        rw [eqv_nilZ]
        by_cases e : cs1 = []
        · exact iteTK (by simp [e]) ⟨s2, fun z => by cases z⟩
        · refine iteFK (by simp [e]) ?_
          refine ⟨_, rfl, _, _, rfl, rfl, (by show (0 : Int) < 8; decide), rfl, _, rfl, ?_⟩
          refine ifb ⟨_, rfl, wi, rfl, s2, fun _ => e⟩ ⟨s2, fun _ => e⟩
      rintro b' H2 ⟨s2, hne⟩
      have kp2 := kp1.trans (Kept.same s2)
      have hC2 := s2 _ _ hC1
      have hA2 := s2 _ _ hA1
      have hB2 := s2 _ _ hB1
      cases b' with
      | true =>
        refine iteT ⟨_, rfl, _, _, rfl, rfl, ⟨by decide, by decide⟩, _, rfl, _, rfl, _, a, b, ns, ws, rfl, hA2, nl, hB2, wl, wt, fun p q H3 s3 hp hd hok => ?_⟩
        refine ⟨_, rfl, p, q, wi, rfl, hp, hd, hok, fun p' q' H4 s4 hp' hd' hok' => ?_⟩
        refine k p' q' cs1 H4 (kp2.trans (Kept.same (s3.trans s4))) (s4 _ _ (s3 _ _ hC2)) (Nat.lt_succ_self _) hp' ?_ hok'
        rw [hd', List.length_cons]
        exact Nat.succ_pos _
      | false =>
        refine iteF ?_
        have hne := hne rfl
        have l1' : 1 ≤ cs1.length := by
          cases cs1 with
          | nil => exact absurd rfl hne
          | cons x y => exact Nat.succ_le_succ (Nat.zero_le _)
        -- times
        refine ⟨_, rfl, _, _, rfl, rfl, (by show (0 : Int) < 8; decide), rfl, _, rfl, ifb ?_ ?_⟩
        · refine ⟨_, rfl, _, _, rfl, rfl, ⟨by decide, by decide⟩, _, 1, rfl, by decide, by decide, fun R H3 r1 r2 s3 => ?_⟩
          refine ⟨_, rfl, _, _, rfl, rfl, ⟨by decide, by decide⟩, _, 4, rfl, by decide, by decide, fun M H4 m1 m2 s4 => ?_⟩
          refine ⟨(by show 2 ≤ sizeLine; decide), fun pt hpt => ?_⟩
          have s5 : Same H4 (upd H4 pt (.tup [.int (R : Nat), .int (M : Nat)])) := (Same.refl H4).upd_free hpt
          have hT5 : upd H4 pt (.tup [.int (R : Nat), .int (M : Nat)]) pt = some (.tup [.int (R : Nat), .int (M : Nat)]) := upd_same
          generalize upd H4 pt (.tup [.int (R : Nat), .int (M : Nat)]) = H5 at s5 hT5
          have t5 := (s3.trans s4).trans s5
          refine ⟨_, rfl, pt, _, _, _, rfl, rfl, SqT.of hT5, rfl, _, rfl, pt, _, _, _, rfl, rfl, SqT.of hT5, rfl, _, rfl, _, rfl, _, rfl, c, a, b, true, cs1, ns, ws, rfl, t5 _ _ hC2, l1', by omega, by omega, ca, cb, t5 _ _ hA2, nl, t5 _ _ hB2, wl, wt, fun p q cs' H6 kp6 hC6 lt6 hp hd hok => ?_⟩
          refine ⟨(by show 4 ≤ sizeLine; decide), fun pp hpp => ?_⟩
          have s7 : Same H6 (upd H6 pp (.tup [.str (Str.ofString "times"), .int (R : Nat), .int (M : Nat), .ref p])) := (Same.refl H6).upd_free hpp
          refine k pp (.tim R M q) cs' _ ((kp2.trans (Kept.same t5)).trans (kp6.trans (Kept.same s7))) (s7 _ _ hC6) (Nat.lt_succ_of_lt lt6) ⟨p, upd_same, AAt.same s7 hp⟩ ?_ ⟨r1, by omega, by omega, hok⟩
          show q.dep + 1 < cs1.length + 1
          omega
        -- not
        refine ⟨_, rfl, _, _, rfl, rfl, (by show (0 : Int) < 8; decide), rfl, _, rfl, ifb ?_ ?_⟩
        · refine ⟨_, rfl, _, rfl, _, rfl, _, rfl, c, a, b, wi, cs1, ns, ws, rfl, hC2, l1', by omega, by omega, ca, cb, hA2, nl, hB2, wl, wt, fun p q cs' H6 kp6 hC6 lt6 hp hd hok => ?_⟩
          refine ⟨(by show 2 ≤ sizeLine; decide), fun pp hpp => ?_⟩
          have s7 : Same H6 (upd H6 pp (.tup [.str (Str.ofString "not"), .ref p])) := (Same.refl H6).upd_free hpp
          refine k pp (.non q) cs' _ (kp2.trans (kp6.trans (Kept.same s7))) (s7 _ _ hC6) (Nat.lt_succ_of_lt lt6) ⟨p, upd_same, AAt.same s7 hp⟩ ?_ hok
          show q.dep + 1 < cs1.length + 1
          omega
        -- both, either
        refine ⟨_, rfl, _, rfl, _, rfl, _, rfl, c, a, b, wi, cs1, ns, ws, rfl, hC2, l1', by omega, by omega, ca, cb, hA2, nl, hB2, wl, wt, fun p1 q1 cs2 H3 kp3 hC3 lt3 hp1 hd1 hok1 => ?_⟩
        have hA3 := kp3 _ _ hA2 (Ne.symm ca)
        have hB3 := kp3 _ _ hB2 (Ne.symm cb)
        refine ⟨_, rfl, _, _, rfl, rfl, ⟨by decide, by decide⟩, _, rfl, _, rfl, _, a, b, ns, ws, rfl, hA3, nl, hB3, wl, wt, fun p2 q2 H4 s4 hp2 hd2 hok2 => ?_⟩
        refine ⟨_, rfl, p2, q2, wi, rfl, hp2, hd2, hok2, fun p3 q3 H5 s5 hp3 hd3 hok3 => ?_⟩
        have s35 := s4.trans s5
        have hC5 := s35 _ _ hC3
        refine ⟨fun σ' H' => ∃ (p4 : Addr) (q4 : Qn) (cs3 : List Int), Kept H5 H' c ∧ H' c = some (.lst (cs3.map V.int)) ∧ cs3.length ≤ cs2.length ∧ AAt H' q4 p4 ∧ q4.dep ≤ cs2.length ∧ q4.Ok ∧ σ' = [some (.ref c), some (.ref a), some (.ref b), some (.bl wi), some (.int c0), none, some (.ref p1), some (.ref p4)], ?_, ?_⟩
        · refine ⟨_, rfl, (by show 0 ≤ sizeLine; decide), fun l hl => ?_⟩
          have s6 : Same H5 (upd H5 l (.lst [])) := (Same.refl H5).upd_free hl
          refine ⟨.list (cs2.map PyData.int), .list [], .lst (SqL.of (s6 _ _ hC5)) (ints_at cs2), .lst (SqL.of upd_same) .nil, intsL_ok cs2, intsL_ok [], _, rfl, ?_⟩
          rw [eqv_nilZ]
          by_cases e : cs2 = []
          · refine iteFK (by simp [e]) ?_
            exact ⟨p3, q3, cs2, Kept.same s6, s6 _ _ hC5, Nat.le_refl _, AAt.same s6 hp3, by omega, hok3, rfl⟩
          · refine iteTK (by simp [e]) ?_
            have l4 : 1 ≤ cs2.length := by
              cases cs2 with
              | nil => exact absurd rfl e
              | cons x y => exact Nat.succ_le_succ (Nat.zero_le _)
            refine ⟨_, rfl, _, rfl, _, rfl, _, rfl, c, a, b, wi, cs2, ns, ws, rfl, s6 _ _ hC5, l4, by omega, by omega, ca, cb, s6 _ _ (s35 _ _ hA3), nl, s6 _ _ (s35 _ _ hB3), wl, wt, fun p4 q4 cs3 H7 kp7 hC7 lt7 hp4 hd4 hok4 => ?_⟩
            exact ⟨p4, q4, cs3, (Kept.same s6).trans kp7, hC7, Nat.le_of_lt lt7, hp4, Nat.le_of_lt hd4, hok4, rfl⟩
        rintro σ' H6 ⟨p4, q4, cs3, kp6, hC6, l6, hp4, hd4, hok4, rfl⟩
        have hp1' : AAt H6 q1 p1 := AAt.tsame (kp6.tups hC5) (AAt.same s35 hp1)
        refine ⟨(by show 2 ≤ sizeLine; decide), fun l hl => ?_⟩
        have s7 : Same H6 (upd H6 l (.lst [.str (Str.ofString "both"), .str (Str.ofString "either")])) := (Same.refl H6).upd_free hl
        have hL7 : upd H6 l (.lst [.str (Str.ofString "both"), .str (Str.ofString "either")]) l = some (.lst [.str (Str.ofString "both"), .str (Str.ofString "either")]) := upd_same
        generalize upd H6 l (.lst [.str (Str.ofString "both"), .str (Str.ofString "either")]) = H7 at s7 hL7
        have d2 : c0 % 2 = 0 ∨ c0 % 2 = 1 := by omega
        refine ⟨_, rfl, _, _, rfl, rfl, (by show (0 : Int) < 2; decide), ?_⟩
        have kall : Kept H H7 c := (kp2.trans kp3).trans ((Kept.same s35).trans (kp6.trans (Kept.same s7)))
        have hdm : max q1.dep q4.dep + 1 < cs1.length + 1 := by omega
        rcases d2 with e | e
        · refine ⟨l, _, _, .str (Str.ofString "both"), rfl, rfl, SqL.of hL7, by rw [e]; rfl, _, rfl, _, rfl, (by show 3 ≤ sizeLine; decide), fun pp hpp => ?_⟩
          have s8 : Same H7 (upd H7 pp (.tup [.str (Str.ofString "both"), .ref p1, .ref p4])) := (Same.refl H7).upd_free hpp
          exact k pp (.bot q1 q4) cs3 _ (kall.trans (Kept.same s8)) (s8 _ _ (s7 _ _ hC6)) (by rw [List.length_cons]; omega) ⟨p1, p4, upd_same, AAt.same (s7.trans s8) hp1', AAt.same (s7.trans s8) hp4⟩ hdm ⟨hok1, hok4⟩
        · refine ⟨l, _, _, .str (Str.ofString "either"), rfl, rfl, SqL.of hL7, by rw [e]; rfl, _, rfl, _, rfl, (by show 3 ≤ sizeLine; decide), fun pp hpp => ?_⟩
          have s8 : Same H7 (upd H7 pp (.tup [.str (Str.ofString "either"), .ref p1, .ref p4])) := (Same.refl H7).upd_free hpp
          exact k pp (.eit q1 q4) cs3 _ (kall.trans (Kept.same s8)) (s8 _ _ (s7 _ _ hC6)) (by rw [List.length_cons]; omega) ⟨p1, p4, upd_same, AAt.same (s7.trans s8) hp1', AAt.same (s7.trans s8) hp4⟩ hdm ⟨hok1, hok4⟩
end
end QL
namespace QL
open PySem L2
def spBu (cl : Kd → Addr) (d : Nat) : Sp := fun vs H Q _ => ∃ (p : Addr) (q : Qn), vs = [.ref p] ∧ AAt H q p ∧ q.dep < d ∧ ∀ (o : Addr) (H' : Hp), Same H H' → QAt cl H' q o → Q (.ref o) H'
section
variable {P : Program} {w : World} {K : PySem.W.Frag} {mg : Str → Option Value} {base : Heap} {cl : Kd → Addr}

structure Mk5 (P : Program) (w : World) (K : PySem.W.Frag) (mg : Str → Option Value) (base : Heap) (cl : Kd → Addr) (fT fJ fN : Addr) (dT dJ dN : FuncData) : Prop where
  mT : Mk K (cl .tim) fT
  mB : Mk K (cl .bot) fJ
  mE : Mk K (cl .eit) fJ
  mN : Mk K (cl .non) fN
  gT : mg "Times" = some (.ref (cl .tim))
  gB : mg "Both" = some (.ref (cl .bot))
  gE : mg "Either" = some (.ref (cl .eit))
  gN : mg "Not" = some (.ref (cl .non))
  bT : Binds K dT ["self", "reach", "least", "question"] []
  bJ : Binds K dJ ["self", "one", "other"] []
  bN : Binds K dN ["self", "one"] []
  oT : FnOk P w K mg base CX0 1 fT dT ["self", "reach", "least", "question"] (spTi cl)
  oB : FnOk P w K mg base CX0 1 fJ dJ ["self", "one", "other"] (spJi cl true)
  oE : FnOk P w K mg base CX0 1 fJ dJ ["self", "one", "other"] (spJi cl false)
  oN : FnOk P w K mg base CX0 1 fN dN ["self", "one"] (spNi cl)
theorem scBu : FnScope ["_law_asked", "_law_kind"] ["_law_asked"] (defScope sBu) := ⟨rfl, rfl, rfl, by decide +kernel, rfl, by decide +kernel, by decide +kernel⟩
theorem ok_bu {f fR fW fH fA fT fJ fN : Addr} {fd dR dW dH dA dT dJ dN : FuncData} (F : Fun K "_law_built" "_law_built" sBu f fd) (bF : Binds K fd ["_law_asked"] []) (gF : mg "_law_built" = some (.ref f)) (M : Mk4 P w K mg base cl fR fW fH fA dR dW dH dA) (N : Mk5 P w K mg base cl fT fJ fN dT dJ dN) :
    ∀ d : Nat, FnOk P w K mg base CX0 (d + 3) f fd ["_law_asked"] (spBu cl d)
  | 0 => vac fun vs H Q E h => by
    obtain ⟨p, q, _, _, hd, _⟩ := h
    exact Nat.not_lt_zero _ hd
  | d + 1 => by
    have GB : FnOk P w K mg base CX0 (d + 3) f fd ["_law_asked"] (spBu cl d) := ok_bu F bF gF M N d
    refine F.ok (k := d + 3) scBu (fun vs H Q E h => ?_) (fun cdv A outer s H vs Q E hr h => ?_)
    · obtain ⟨p, q, rfl, _⟩ := h
      rfl
    · obtain ⟨p, q, rfl, hA, hd, k⟩ := h
      have hr2 : Room 2 _ := hr.mono (by omega)
      refine ⟨_, pss_cons (ps_set (i := 1) scBu.nd rfl (Or.inl rfl) (pe_ix ix_tup (pv 0) pe_int (fun _ _ => rfl)))
        (pss_cons (ps_if (pt_cmpR op_eq (pv 1) pe_str (nomark _)) (pss_one (ps_ret (pe_make M.mR M.oR hr2 rfl M.gR M.bR .nil pass0 (pa_cons (pe_ix ix_tup (pv 0) pe_int (fun _ _ => rfl)) pa_nil)))) pss_nil)
        (pss_cons (ps_if (pt_cmpR op_eq (pv 1) pe_str (nomark _)) (pss_one (ps_ret (pe_make M.mW M.oW hr2 rfl M.gW M.bW .nil pass0 (pa_cons (pe_ix ix_tup (pv 0) pe_int (fun _ _ => rfl)) (pa_cons (pe_ix ix_tup (pv 0) pe_int (fun _ _ => rfl)) (pa_cons (pe_ix ix_tup (pv 0) pe_int (fun _ _ => rfl)) pa_nil)))))) pss_nil)
        (pss_cons (ps_if (pt_cmpR op_eq (pv 1) pe_str (nomark _)) (pss_one (ps_ret (pe_make M.mH M.oH hr2 rfl M.gH M.bH .nil pass0 (pa_cons (pe_ix ix_tup (pv 0) pe_int (fun _ _ => rfl)) (pa_cons (pe_ix ix_tup (pv 0) pe_int (fun _ _ => rfl)) (pa_cons (pe_ix ix_tup (pv 0) pe_int (fun _ _ => rfl)) (pa_cons (pe_ix ix_tup (pv 0) pe_int (fun _ _ => rfl)) (pa_cons (pe_ix ix_tup (pv 0) pe_int (fun _ _ => rfl)) pa_nil)))))))) pss_nil)
        (pss_cons (ps_if (pt_cmpR op_eq (pv 1) pe_str (nomark _)) (pss_one (ps_ret (pe_make M.mA M.oA hr2 rfl M.gA M.bA .nil pass0 (pa_cons (pe_ix ix_tup (pv 0) pe_int (fun _ _ => rfl)) (pa_cons (pe_ix ix_tup (pv 0) pe_int (fun _ _ => rfl)) (pa_cons (pe_ix ix_tup (pv 0) pe_int (fun _ _ => rfl)) (pa_cons (pe_ix ix_tup (pv 0) pe_int (fun _ _ => rfl)) (pa_cons (pe_ix ix_tup (pv 0) pe_int (fun _ _ => rfl)) pa_nil)))))))) pss_nil)
        (pss_cons (ps_if (pt_cmpR op_eq (pv 1) pe_str (nomark _)) (pss_one (ps_ret (pe_make N.mT N.oT hr2 rfl N.gT N.bT .nil pass0 (pa_cons (pe_ix ix_tup (pv 0) pe_int (fun _ _ => rfl)) (pa_cons (pe_ix ix_tup (pv 0) pe_int (fun _ _ => rfl)) (pa_cons (pe_call GB hr rfl gF F.kp bF .nil pass0 (pa_cons (pe_ix ix_tup (pv 0) pe_int (fun _ _ => rfl)) pa_nil)) pa_nil)))))) pss_nil)
        (pss_cons (ps_if (pt_cmpR op_eq (pv 1) pe_str (nomark _)) (pss_one (ps_ret (pe_make N.mN N.oN hr2 rfl N.gN N.bN .nil pass0 (pa_cons (pe_call GB hr rfl gF F.kp bF .nil pass0 (pa_cons (pe_ix ix_tup (pv 0) pe_int (fun _ _ => rfl)) pa_nil)) pa_nil)))) pss_nil)
        (pss_cons (ps_if (pt_cmpR op_eq (pv 1) pe_str (nomark _)) (pss_one (ps_ret (pe_make N.mB N.oB hr2 rfl N.gB N.bJ .nil pass0 (pa_cons (pe_call GB hr rfl gF F.kp bF .nil pass0 (pa_cons (pe_ix ix_tup (pv 0) pe_int (fun _ _ => rfl)) pa_nil)) (pa_cons (pe_call GB hr rfl gF F.kp bF .nil pass0 (pa_cons (pe_ix ix_tup (pv 0) pe_int (fun _ _ => rfl)) pa_nil)) pa_nil))))) pss_nil)
        (pss_one (ps_ret (pe_make N.mE N.oE hr2 rfl N.gE N.bJ .nil pass0 (pa_cons (pe_call GB hr rfl gF F.kp bF .nil pass0 (pa_cons (pe_ix ix_tup (pv 0) pe_int (fun _ _ => rfl)) pa_nil)) (pa_cons (pe_call GB hr rfl gF F.kp bF .nil pass0 (pa_cons (pe_ix ix_tup (pv 0) pe_int (fun _ _ => rfl)) pa_nil)) pa_nil)))))))))))), ?_⟩
      cases q with
      | row F =>
        replace hA : H p = some (.tup [.str (Str.ofString "row"), .int F]) := hA
        refine ⟨_, rfl, p, _, _, _, rfl, rfl, SqT.of hA, rfl, ?_⟩
        refine ⟨_, rfl, rfl, _, rfl, iteTK (by decide +kernel) ?_⟩
        refine ⟨_, rfl, p, _, _, _, rfl, rfl, SqT.of hA, rfl, fun x dx nx ndx nex => ?_⟩
        exact ⟨x, dx, F, rfl, upd_same, fun H' q kp => ⟨rfl, k x H' ((Old.new nx ndx).then kp) q⟩⟩
      | wit F I W =>
        replace hA : H p = some (.tup [.str (Str.ofString "with"), .int F, .int I, .str W]) := hA
        refine ⟨_, rfl, p, _, _, _, rfl, rfl, SqT.of hA, rfl, ?_⟩
        refine ⟨_, rfl, rfl, _, rfl, iteFK (by decide +kernel) ⟨_, rfl, rfl, _, rfl, iteTK (by decide +kernel) ?_⟩⟩
        refine ⟨_, rfl, p, _, _, _, rfl, rfl, SqT.of hA, rfl, _, rfl, p, _, _, _, rfl, rfl, SqT.of hA, rfl, _, rfl, p, _, _, _, rfl, rfl, SqT.of hA, rfl, fun x dx nx ndx nex => ?_⟩
        exact ⟨x, dx, F, I, W, rfl, upd_same, fun H' q kp => ⟨rfl, k x H' ((Old.new nx ndx).then kp) q⟩⟩
      | beh F I G J R =>
        replace hA : H p = some (.tup [.str (Str.ofString "behind"), .int F, .int I, .int G, .int J, .int R]) := hA
        refine ⟨_, rfl, p, _, _, _, rfl, rfl, SqT.of hA, rfl, ?_⟩
        refine ⟨_, rfl, rfl, _, rfl, iteFK (by decide +kernel) ⟨_, rfl, rfl, _, rfl, iteFK (by decide +kernel) ⟨_, rfl, rfl, _, rfl, iteTK (by decide +kernel) ?_⟩⟩⟩
        refine ⟨_, rfl, p, _, _, _, rfl, rfl, SqT.of hA, rfl, _, rfl, p, _, _, _, rfl, rfl, SqT.of hA, rfl, _, rfl, p, _, _, _, rfl, rfl, SqT.of hA, rfl, _, rfl, p, _, _, _, rfl, rfl, SqT.of hA, rfl, _, rfl, p, _, _, _, rfl, rfl, SqT.of hA, rfl, fun x dx nx ndx nex => ?_⟩
        exact ⟨x, dx, F, I, G, J, R, rfl, upd_same, fun H' q kp => ⟨rfl, k x H' ((Old.new nx ndx).then kp) q⟩⟩
      | ahd F I G J R =>
        replace hA : H p = some (.tup [.str (Str.ofString "ahead"), .int F, .int I, .int G, .int J, .int R]) := hA
        refine ⟨_, rfl, p, _, _, _, rfl, rfl, SqT.of hA, rfl, ?_⟩
        refine ⟨_, rfl, rfl, _, rfl, iteFK (by decide +kernel) ⟨_, rfl, rfl, _, rfl, iteFK (by decide +kernel) ⟨_, rfl, rfl, _, rfl, iteFK (by decide +kernel) ⟨_, rfl, rfl, _, rfl, iteTK (by decide +kernel) ?_⟩⟩⟩⟩
        refine ⟨_, rfl, p, _, _, _, rfl, rfl, SqT.of hA, rfl, _, rfl, p, _, _, _, rfl, rfl, SqT.of hA, rfl, _, rfl, p, _, _, _, rfl, rfl, SqT.of hA, rfl, _, rfl, p, _, _, _, rfl, rfl, SqT.of hA, rfl, _, rfl, p, _, _, _, rfl, rfl, SqT.of hA, rfl, fun x dx nx ndx nex => ?_⟩
        exact ⟨x, dx, F, I, G, J, R, rfl, upd_same, fun H' q kp => ⟨rfl, k x H' ((Old.new nx ndx).then kp) q⟩⟩
      | tim R L q =>
        obtain ⟨c, hA, hc⟩ := hA
        have hd' : q.dep < d := Nat.lt_of_succ_lt_succ hd
        refine ⟨_, rfl, p, _, _, _, rfl, rfl, SqT.of hA, rfl, ?_⟩
        refine ⟨_, rfl, rfl, _, rfl, iteFK (by decide +kernel) ⟨_, rfl, rfl, _, rfl, iteFK (by decide +kernel) ⟨_, rfl, rfl, _, rfl, iteFK (by decide +kernel) ⟨_, rfl, rfl, _, rfl, iteFK (by decide +kernel) ⟨_, rfl, rfl, _, rfl, iteTK (by decide +kernel) ?_⟩⟩⟩⟩⟩
        refine ⟨_, rfl, p, _, _, _, rfl, rfl, SqT.of hA, rfl, _, rfl, p, _, _, _, rfl, rfl, SqT.of hA, rfl, _, rfl, p, _, _, _, rfl, rfl, SqT.of hA, rfl, c, q, rfl, hc, hd', fun o H1 s1 hq x dx nx ndx nex => ?_⟩
        exact ⟨x, dx, o, R, L, q, H1, rfl, upd_same, hq, Old.new nx ndx, fun H' hq' kp => ⟨rfl, k x H' (s1.trans ((Old.new (C := cl .tim) (fs := []) nx ndx).then kp)) hq'⟩⟩
      | non q =>
        obtain ⟨c, hA, hc⟩ := hA
        have hd' : q.dep < d := Nat.lt_of_succ_lt_succ hd
        refine ⟨_, rfl, p, _, _, _, rfl, rfl, SqT.of hA, rfl, ?_⟩
        refine ⟨_, rfl, rfl, _, rfl, iteFK (by decide +kernel) ⟨_, rfl, rfl, _, rfl, iteFK (by decide +kernel) ⟨_, rfl, rfl, _, rfl, iteFK (by decide +kernel) ⟨_, rfl, rfl, _, rfl, iteFK (by decide +kernel) ⟨_, rfl, rfl, _, rfl, iteFK (by decide +kernel) ⟨_, rfl, rfl, _, rfl, iteTK (by decide +kernel) ?_⟩⟩⟩⟩⟩⟩
        refine ⟨_, rfl, p, _, _, _, rfl, rfl, SqT.of hA, rfl, c, q, rfl, hc, hd', fun o H1 s1 hq x dx nx ndx nex => ?_⟩
        exact ⟨x, dx, o, q, H1, rfl, upd_same, hq, Old.new nx ndx, fun H' hq' kp => ⟨rfl, k x H' (s1.trans ((Old.new (C := cl .non) (fs := []) nx ndx).then kp)) hq'⟩⟩
      | bot q r =>
        obtain ⟨c, e, hA, hc, he⟩ := hA
        have hdm : max q.dep r.dep + 1 < d + 1 := hd
        refine ⟨_, rfl, p, _, _, _, rfl, rfl, SqT.of hA, rfl, ?_⟩
        refine ⟨_, rfl, rfl, _, rfl, iteFK (by decide +kernel) ⟨_, rfl, rfl, _, rfl, iteFK (by decide +kernel) ⟨_, rfl, rfl, _, rfl, iteFK (by decide +kernel) ⟨_, rfl, rfl, _, rfl, iteFK (by decide +kernel) ⟨_, rfl, rfl, _, rfl, iteFK (by decide +kernel) ⟨_, rfl, rfl, _, rfl, iteFK (by decide +kernel) ⟨_, rfl, rfl, _, rfl, iteTK (by decide +kernel) ?_⟩⟩⟩⟩⟩⟩⟩
        refine ⟨_, rfl, p, _, _, _, rfl, rfl, SqT.of hA, rfl, c, q, rfl, hc, by omega, fun o H1 s1 hq => ?_⟩
        refine ⟨_, rfl, p, _, _, _, rfl, rfl, SqT.of (s1 _ _ hA), rfl, e, r, rfl, AAt.same s1 he, by omega, fun o' H2 s2 hq' x dx nx ndx nex => ?_⟩
        exact ⟨x, dx, o, o', q, r, H2, rfl, upd_same, QAt.same s2 hq, hq', Old.new nx ndx, fun H' hq'' kp => ⟨rfl, k x H' ((s1.trans s2).trans ((Old.new (C := cl (jk true)) (fs := []) nx ndx).then kp)) hq''⟩⟩
      | eit q r =>
        obtain ⟨c, e, hA, hc, he⟩ := hA
        have hdm : max q.dep r.dep + 1 < d + 1 := hd
        refine ⟨_, rfl, p, _, _, _, rfl, rfl, SqT.of hA, rfl, ?_⟩
        refine ⟨_, rfl, rfl, _, rfl, iteFK (by decide +kernel) ⟨_, rfl, rfl, _, rfl, iteFK (by decide +kernel) ⟨_, rfl, rfl, _, rfl, iteFK (by decide +kernel) ⟨_, rfl, rfl, _, rfl, iteFK (by decide +kernel) ⟨_, rfl, rfl, _, rfl, iteFK (by decide +kernel) ⟨_, rfl, rfl, _, rfl, iteFK (by decide +kernel) ⟨_, rfl, rfl, _, rfl, iteFK (by decide +kernel) ?_⟩⟩⟩⟩⟩⟩⟩
        refine ⟨_, rfl, p, _, _, _, rfl, rfl, SqT.of hA, rfl, c, q, rfl, hc, by omega, fun o H1 s1 hq => ?_⟩
        refine ⟨_, rfl, p, _, _, _, rfl, rfl, SqT.of (s1 _ _ hA), rfl, e, r, rfl, AAt.same s1 he, by omega, fun o' H2 s2 hq' x dx nx ndx nex => ?_⟩
        exact ⟨x, dx, o, o', q, r, H2, rfl, upd_same, QAt.same s2 hq, hq', Old.new nx ndx, fun H' hq'' kp => ⟨rfl, k x H' ((s1.trans s2).trans ((Old.new (C := cl (jk false)) (fs := []) nx ndx).then kp)) hq''⟩⟩
end
end QL
namespace QL
open PySem L2

theorem back_pos : ∀ {q : Qn}, q.Ok → 0 ≤ backM q
  | .row _, _ => Int.le_refl 0
  | .wit _ _ _, _ => Int.le_refl 0
  | .beh _ _ _ _ _, _ => Int.le_refl 0
  | .ahd _ _ _ _ R, _ => Int.natCast_nonneg R
  | .tim K C q, h => by
    have := back_pos (q := q) h.2.2.2
    have := h.1
    show 0 ≤ backM q + (K : Int) - 1
    omega
  | .bot q r, h => by
    have := back_pos (q := q) h.1
    show 0 ≤ max (backM q) (backM r)
    omega
  | .eit q r, h => by
    have := back_pos (q := q) h.1
    show 0 ≤ max (backM q) (backM r)
    omega
  | .non q, h => back_pos (q := q) h
theorem on_pos : ∀ {q : Qn}, q.Ok → 0 ≤ onM q
  | .row _, _ => Int.le_refl 0
  | .wit _ _ _, _ => Int.le_refl 0
  | .beh _ _ _ _ R, _ => Int.natCast_nonneg R
  | .ahd _ _ _ _ _, _ => Int.le_refl 0
  | .tim K C q, h => on_pos (q := q) h.2.2.2
  | .bot q r, h => by
    have := on_pos (q := q) h.1
    show 0 ≤ max (onM q) (onM r)
    omega
  | .eit q r, h => by
    have := on_pos (q := q) h.1
    show 0 ≤ max (onM q) (onM r)
    omega
  | .non q, h => on_pos (q := q) h
theorem inc_eq {a b : List Nat} (ha : a.Pairwise (· < ·)) (hb : b.Pairwise (· < ·)) (h : ∀ x, x ∈ a ↔ x ∈ b) : a = b := by
  have p : a.Perm b := (List.perm_ext_iff_of_nodup (ha.imp fun h => by omega) (hb.imp fun h => by omega)).mpr h
  exact List.Perm.eq_of_pairwise (le := fun (x y : Nat) => x ≤ y) (fun x y _ _ h1 h2 => Nat.le_antisymm h1 h2) (ha.imp fun h => by omega) (hb.imp fun h => by omega) p
theorem fst_shift {P P' : Nat → Bool} {f lo k : Nat} (h : ∀ m, lo ≤ m → m < lo + k → P (f + m) = P' m) : fstM P (f + lo) k = (fstM P' lo k).map (f + ·) := by
  have A := fst_is P' k lo
  have B : Fst P (f + lo) (f + lo + k) ((fstM P' lo k).map (f + ·)) := by
    cases e : fstM P' lo k with
    | none =>
      rw [e] at A
      intro m h1 h2
      have := A (m - f) (by omega) (by omega)
      rw [← h (m - f) (by omega) (by omega)] at this
      rw [show f + (m - f) = m by omega] at this
      exact this
    | some x =>
      rw [e] at A
      obtain ⟨a1, a2, a3, a4⟩ := A
      refine ⟨by show f + lo ≤ f + x; omega, by show f + x < f + lo + k; omega, by show P (f + x) = true; rw [h x a1 a2]; exact a3, fun j h1 h2 => ?_⟩
      replace h2 : j < f + x := h2
      have := a4 (j - f) (by omega) (by omega)
      rw [← h (j - f) (by omega) (by omega)] at this
      rw [show f + (j - f) = j by omega] at this
      exact this
  have := fst_to B
  rw [show f + lo + k - (f + lo) = k by omega] at this
  exact this
theorem lst_shift {P P' : Nat → Bool} {f lo k : Nat} (h : ∀ m, lo ≤ m → m < lo + k → P (f + m) = P' m) : lstM P (f + lo) k = (lstM P' lo k).map (f + ·) := by
  have A := lst_is P' lo k
  have B : Lst P (f + lo) (f + lo + k) ((lstM P' lo k).map (f + ·)) := by
    cases e : lstM P' lo k with
    | none =>
      rw [e] at A
      intro m h1 h2
      have := A (m - f) (by omega) (by omega)
      rw [← h (m - f) (by omega) (by omega)] at this
      rw [show f + (m - f) = m by omega] at this
      exact this
    | some x =>
      rw [e] at A
      obtain ⟨a1, a2, a3, a4⟩ := A
      refine ⟨by show f + lo ≤ f + x; omega, by show f + x < f + lo + k; omega, by show P (f + x) = true; rw [h x a1 a2]; exact a3, fun j h1 h2 => ?_⟩
      replace h1 : f + x < j := h1
      have := a4 (j - f) (by omega) (by omega)
      rw [← h (j - f) (by omega) (by omega)] at this
      rw [show f + (j - f) = j by omega] at this
      exact this
  have := lst_to B
  rw [show f + lo + k - (f + lo) = k by omega] at this
  exact this
theorem rng_shift (f a b : Nat) : rng (f + a) (f + b) = (rng a b).map (f + ·) := by
  unfold rng
  rw [List.map_map, show f + b - (f + a) = b - a by omega]
  apply List.map_congr_left
  intro x _
  show f + a + x = f + (a + x)
  omega
theorem mem_shift {f n : Nat} {l : List Nat} : f + n ∈ l.map (f + ·) ↔ n ∈ l := by
  rw [List.mem_map]
  constructor
  · rintro ⟨a, h1, h2⟩
    have : a = n := by
      have h3 : f + a = f + n := h2
      omega
    rw [← this]
    exact h1
  · exact fun h => ⟨n, h, rfl⟩
theorem both_shift {f L L' : Nat} {a b : List Nat} (hL : f + L' ≤ L) (ha : ∀ m ∈ a, m < L') (hb : ∀ m ∈ b, m < L') : both L (a.map (f + ·)) (b.map (f + ·)) = (both L' a b).map (f + ·) := by
  have sh : ∀ (c : List Nat), (∀ m ∈ c, m < L') → ∀ m ∈ c.map (f + ·), m < L := fun c hc m hm => by
    obtain ⟨x, h1, h2⟩ := List.mem_map.mp hm
    have := hc x h1
    have h3 : f + x = m := h2
    omega
  refine inc_eq (both_lt _ _ _) ?_ fun x => ?_
  · rw [List.pairwise_map]
    exact (both_lt L' a b).imp fun h => by omega
  · rw [both_mem (sh a ha) (sh b hb), ← List.map_append, List.mem_map, List.mem_map]
    constructor
    · rintro ⟨y, h1, h2⟩
      exact ⟨y, (both_mem ha hb y).mpr h1, h2⟩
    · rintro ⟨y, h1, h2⟩
      exact ⟨y, (both_mem ha hb y).mp h1, h2⟩
section
variable {es es' : List Ent} {f : Nat}
theorem beh_shift (hE : ∀ m, m < es'.length → es'.getD m (0, []) = es.getD (f + m) (0, [])) {n m : Nat} (hn : n < es'.length) (hm : m < es'.length) (F I G J : Int) : behP es (f + n) F I G J (f + m) = behP es' n F I G J m := by
  unfold behP
  rw [hE n hn, hE m hm]
theorem found_shift (hE : ∀ m, m < es'.length → es'.getD m (0, []) = es.getD (f + m) (0, [])) (hL : f + es'.length ≤ es.length) : ∀ (q : Qn) (n : Nat), q.Ok → n < es'.length → (f = 0 ∨ backM q ≤ (n : Int)) → (f + es'.length = es.length ∨ (n : Int) + onM q < (es'.length : Int)) →
    foundM es q (f + n) = (foundM es' q n).map fun rs => rs.map (f + ·)
  | .row F, n, _, hn, _, _ => by
    unfold foundM
    rw [hE n hn]
    split <;> rfl
  | .wit F I W, n, _, hn, _, _ => by
    unfold foundM
    rw [hE n hn]
    split <;> rfl
  | .beh F I G J R, n, _, hn, _, ho => by
    unfold foundM
    have ho' : f + es'.length = es.length ∨ (n : Int) + (R : Int) < (es'.length : Int) := ho
    have ek : min (f + n + R + 1) es.length - (f + n + 1) = min (n + R + 1) es'.length - (n + 1) := by omega
    rw [ek, show f + n + 1 = f + (n + 1) by omega]
    rw [fst_shift (P' := behP es' n F I G J) fun m h1 h2 => beh_shift hE hn (by omega) F I G J]
    cases fstM (behP es' n F I G J) (n + 1) (min (n + R + 1) es'.length - (n + 1)) <;> rfl
  | .ahd F I G J R, n, _, hn, hb, _ => by
    unfold foundM
    have hb' : f = 0 ∨ (R : Int) ≤ (n : Int) := hb
    rw [show f + n - R = f + (n - R) by omega, show f + n - (f + (n - R)) = n - (n - R) by omega]
    rw [lst_shift (P' := behP es' n F I G J) fun m h1 h2 => beh_shift hE hn (by omega) F I G J]
    cases lstM (behP es' n F I G J) (n - R) (n - (n - R)) <;> rfl
  | .tim K C q, n, hk, hn, hb, ho => by
    have hb' : f = 0 ∨ backM q + (K : Int) - 1 ≤ (n : Int) := hb
    have ho' : f + es'.length = es.length ∨ (n : Int) + onM q < (es'.length : Int) := ho
    have hq := back_pos (q := q) hk.2.2.2
    have k1 := hk.1
    have er : rng (f + n + 1 - K) (f + n + 1) = (rng (n + 1 - K) (n + 1)).map (f + ·) := by
      rw [← rng_shift, show f + n + 1 - K = f + (n + 1 - K) by omega, show f + (n + 1) = f + n + 1 by omega]
    have ef : (rng (f + n + 1 - K) (f + n + 1)).filter (fun m => (foundM es q m).isSome) = ((rng (n + 1 - K) (n + 1)).filter fun m => (foundM es' q m).isSome).map (f + ·) := by
      rw [er, List.filter_map]
      congr 1
      apply List.filter_congr
      intro m hm
      obtain ⟨h1, h2⟩ := mem_rng.mp hm
      show (foundM es q (f + m)).isSome = (foundM es' q m).isSome
      rw [found_shift hE hL q m hk.2.2.2 (by omega) (by omega) (by omega)]
      cases foundM es' q m <;> rfl
    unfold foundM
    rw [ef, List.length_map]
    by_cases g : n ∈ (rng (n + 1 - K) (n + 1)).filter (fun m => (foundM es' q m).isSome) ∧ C ≤ ((rng (n + 1 - K) (n + 1)).filter fun m => (foundM es' q m).isSome).length
    · rw [if_pos g, if_pos ⟨mem_shift.mpr g.1, g.2⟩]
      rfl
    · rw [if_neg g, if_neg fun z => g ⟨mem_shift.mp z.1, z.2⟩]
      rfl
  | .bot q r, n, hk, hn, hb, ho => by
    have hb' : f = 0 ∨ max (backM q) (backM r) ≤ (n : Int) := hb
    have ho' : f + es'.length = es.length ∨ (n : Int) + max (onM q) (onM r) < (es'.length : Int) := ho
    have e1 := found_shift hE hL q n hk.1 hn (by omega) (by omega)
    have e2 := found_shift hE hL r n hk.2 hn (by omega) (by omega)
    cases h1 : foundM es' q n with
    | none =>
      rw [h1] at e1
      rw [found_bot1 h1, found_bot1 e1]
      rfl
    | some a =>
      rw [h1] at e1
      cases h2 : foundM es' r n with
      | none =>
        rw [h2] at e2
        rw [found_bot2 h2, found_bot2 e2]
        rfl
      | some b =>
        rw [h2] at e2
        rw [found_bot h1 h2, found_bot e1 e2]
        show some (both es.length (a.map (f + ·)) (b.map (f + ·))) = some ((both es'.length a b).map (f + ·))
        rw [both_shift hL (found_lt q n a hn h1) (found_lt r n b hn h2)]
  | .eit q r, n, hk, hn, hb, ho => by
    have hb' : f = 0 ∨ max (backM q) (backM r) ≤ (n : Int) := hb
    have ho' : f + es'.length = es.length ∨ (n : Int) + max (onM q) (onM r) < (es'.length : Int) := ho
    have e1 := found_shift hE hL q n hk.1 hn (by omega) (by omega)
    have e2 := found_shift hE hL r n hk.2 hn (by omega) (by omega)
    unfold foundM
    cases h1 : foundM es' q n with
    | none =>
      rw [h1] at e1
      rw [e1]
      exact e2
    | some a =>
      rw [h1] at e1
      rw [e1]
      rfl
  | .non q, n, hk, hn, hb, ho => by
    have e1 := found_shift hE hL q n hk hn hb ho
    unfold foundM
    cases h1 : foundM es' q n with
    | none =>
      rw [h1] at e1
      rw [e1]
      rfl
    | some a =>
      rw [h1] at e1
      rw [e1]
      rfl
end
end QL
namespace QL
open PySem L2
def FoundAs (H : Hp) (v : V) : Option (List Nat) → Prop
  | none => v = .non
  | some rows => ∃ a, v = .ref a ∧ H a = some (.tup (vN rows))
theorem FoundAs.same {H H' : Hp} (s : Same H H') {v : V} : ∀ {o : Option (List Nat)}, FoundAs H v o → FoundAs H' v o
  | none, h => h
  | some _, ⟨a, h1, h2⟩ => ⟨a, h1, s _ _ h2⟩
theorem told_of {H : Hp} {Q : VK} {o : Option (List Nat)} (h : ∀ v H', Same H H' → FoundAs H' v o → Q v H') : Told H Q o := by
  cases o with
  | none => exact fun H' s => h _ _ s rfl
  | some rows => exact fun a H' s ha => h _ _ s ⟨a, rfl, ha⟩
theorem refN {a : Addr} : decide (V.ref a = V.non) = false := decide_eq_false fun z => by cases z

theorem ents_cut {H : Hp} {qs : List Addr} {es : List Ent} (h : EntsAt H qs es) (a n : Nat) : EntsAt H ((qs.drop a).take n) ((es.drop a).take n) := by
  refine ⟨by rw [List.length_take, List.length_take, List.length_drop, List.length_drop, h.1], fun i e he => ?_⟩
  rw [List.getElem?_take] at he
  split at he
  · rename_i hi
    rw [List.getElem?_drop] at he
    obtain ⟨q, z, h1, h2, h3⟩ := h.2 _ _ he
    exact ⟨q, z, by rw [List.getElem?_take, if_pos hi, List.getElem?_drop]; exact h1, h2, h3⟩
  · cases he
theorem all_in : ∀ q : Qn, q.In ks
  | .row _ => rfl
  | .wit _ _ _ => rfl
  | .beh _ _ _ _ _ => rfl
  | .ahd _ _ _ _ _ => rfl
  | .tim _ _ q => ⟨rfl, all_in q⟩
  | .bot q r => ⟨rfl, all_in q, all_in r⟩
  | .eit q r => ⟨rfl, all_in q, all_in r⟩
  | .non q => ⟨rfl, all_in q⟩
end QL
namespace QL
open PySem L2

def AnsAt (H : Hp) (us : List V) (an : List (Nat × List Nat)) : Prop := us.length = an.length ∧ ∀ (i : Nat) (x : Nat × List Nat), an[i]? = some x → ∃ t a, us[i]? = some (.ref t) ∧ H t = some (.tup [.int (x.1 : Int), .ref a]) ∧ H a = some (.tup (vN x.2))
theorem AnsAt.tsame {H H' : Hp} (s : TSame H H') {us : List V} {an : List (Nat × List Nat)} (h : AnsAt H us an) : AnsAt H' us an :=
  ⟨h.1, fun i x hx => by
    obtain ⟨t, a, h1, h2, h3⟩ := h.2 i x hx
    exact ⟨t, a, h1, s _ _ h2, s _ _ h3⟩⟩
theorem AnsAt.nil {H : Hp} : AnsAt H [] [] := ⟨rfl, fun i x h => by simp at h⟩
theorem AnsAt.snoc {H : Hp} {us : List V} {an : List (Nat × List Nat)} {t a : Addr} {x : Nat × List Nat} (h : AnsAt H us an) (h1 : H t = some (.tup [.int (x.1 : Int), .ref a])) (h2 : H a = some (.tup (vN x.2))) : AnsAt H (us ++ [.ref t]) (an ++ [x]) := by
  refine ⟨by rw [List.length_append, List.length_append, h.1]; rfl, fun i e he => ?_⟩
  by_cases hi : i < an.length
  · rw [List.getElem?_append_left hi] at he
    obtain ⟨t', a', g1, g2⟩ := h.2 i e he
    exact ⟨t', a', by rw [List.getElem?_append_left (by rw [h.1]; exact hi)]; exact g1, g2⟩
  · rw [List.getElem?_append_right (by omega)] at he
    have : i = an.length := by
      have := (List.getElem?_eq_some_iff.mp he).1
      simp at this
      omega
    subst this
    rw [Nat.sub_self] at he
    cases he
    exact ⟨t, a, by rw [List.getElem?_append_right (by rw [h.1]; exact Nat.le_refl _), h.1, Nat.sub_self]; rfl, h1, h2⟩
theorem AnsAt.app {H : Hp} {us vs : List V} {an bn : List (Nat × List Nat)} (h : AnsAt H us an) (k : AnsAt H vs bn) : AnsAt H (us ++ vs) (an ++ bn) := by
  refine ⟨by rw [List.length_append, List.length_append, h.1, k.1], fun i e he => ?_⟩
  by_cases hi : i < an.length
  · rw [List.getElem?_append_left hi] at he
    obtain ⟨t', a', g1, g2⟩ := h.2 i e he
    exact ⟨t', a', by rw [List.getElem?_append_left (by rw [h.1]; exact hi)]; exact g1, g2⟩
  · rw [List.getElem?_append_right (by omega)] at he
    obtain ⟨t', a', g1, g2⟩ := k.2 _ e he
    exact ⟨t', a', by rw [List.getElem?_append_right (by rw [h.1]; omega), h.1]; exact g1, g2⟩
def one1 (es : List Ent) (q : Qn) (n : Nat) : List (Nat × List Nat) := match foundM es q n with
  | none => []
  | some rows => [(n, rows)]
def ansM (es : List Ent) (q : Qn) (lo hi : Nat) : List (Nat × List Nat) := (rng lo hi).flatMap (one1 es q)
theorem rng_succ {lo hi : Nat} (h : lo ≤ hi) : rng lo (hi + 1) = rng lo hi ++ [hi] := by
  unfold rng
  have e1 : hi + 1 - lo = (hi - lo) + 1 := by omega
  rw [e1, List.range_succ, List.map_append]
  have e2 : lo + (hi - lo) = hi := by omega
  show _ ++ [lo + (hi - lo)] = _
  rw [e2]
theorem ans_succ (es : List Ent) (q : Qn) {lo hi : Nat} (h : lo ≤ hi) : ansM es q lo (hi + 1) = ansM es q lo hi ++ one1 es q hi := by
  unfold ansM
  rw [rng_succ h, List.flatMap_append, List.flatMap_cons, List.flatMap_nil, List.append_nil]
theorem ans_same (es : List Ent) (q : Qn) (lo : Nat) : ansM es q lo lo = [] := by
  unfold ansM rng
  rw [Nat.sub_self]
  rfl
theorem ans_add (es : List Ent) (q : Qn) (lo k : Nat) : ∀ m : Nat, ansM es q lo (lo + k) ++ ansM es q (lo + k) (lo + k + m) = ansM es q lo (lo + k + m)
  | 0 => by rw [Nat.add_zero, ans_same, List.append_nil]
  | m + 1 => by
    have e : lo + k + (m + 1) = (lo + k + m) + 1 := by omega
    rw [e, ans_succ es q (by omega), ans_succ es q (by omega), ← List.append_assoc, ans_add es q lo k m]
theorem ans_app (es : List Ent) (q : Qn) {lo mid hi : Nat} (h1 : lo ≤ mid) (h2 : mid ≤ hi) : ansM es q lo mid ++ ansM es q mid hi = ansM es q lo hi := by
  obtain ⟨k, rfl⟩ : ∃ k, mid = lo + k := ⟨mid - lo, by omega⟩
  obtain ⟨m, rfl⟩ : ∃ m, hi = lo + k + m := ⟨hi - (lo + k), by omega⟩
  exact ans_add es q lo k m
theorem ans_len (es : List Ent) (q : Qn) (lo : Nat) : ∀ k : Nat, (ansM es q lo (lo + k)).length ≤ k
  | 0 => by rw [Nat.add_zero, ans_same]; exact Nat.le_refl _
  | k + 1 => by
    have e : lo + (k + 1) = (lo + k) + 1 := by omega
    rw [e, ans_succ es q (by omega), List.length_append]
    have := ans_len es q lo k
    have h1 : (one1 es q (lo + k)).length ≤ 1 := by
      unfold one1
      split <;> simp
    omega
theorem ans_len' (es : List Ent) (q : Qn) {lo hi : Nat} (h : lo ≤ hi) : (ansM es q lo hi).length ≤ hi - lo := by
  obtain ⟨k, rfl⟩ : ∃ k, hi = lo + k := ⟨hi - lo, by omega⟩
  have := ans_len es q lo k
  omega
theorem ans_congr {es es' : List Ent} {q : Qn} {lo hi : Nat} (h : ∀ n, lo ≤ n → n < hi → foundM es q n = foundM es' q n) : ansM es q lo hi = ansM es' q lo hi := by
  unfold ansM
  have : ∀ l : List Nat, (∀ n ∈ l, lo ≤ n ∧ n < hi) → l.flatMap (one1 es q) = l.flatMap (one1 es' q) := by
    intro l
    induction l with
    | nil => intro _; rfl
    | cons a l ih =>
      intro hl
      have ha := hl a List.mem_cons_self
      rw [List.flatMap_cons, List.flatMap_cons, ih fun n hn => hl n (List.mem_cons_of_mem _ hn)]
      unfold one1
      rw [h a ha.1 ha.2]
  exact this _ fun n hn => mem_rng.mp hn
theorem found_pre {es : List Ent} {q : Qn} (hq : q.Ok) {m n : Nat} (hm : m ≤ es.length) (hn : n < m) (h : m = es.length ∨ (n : Int) + onM q < (m : Int)) : foundM (es.take m) q n = foundM es q n := by
  have hl : (es.take m).length = m := by rw [List.length_take]; omega
  have e := found_shift (es := es) (es' := es.take m) (f := 0) (fun i hi => by
    rw [Nat.zero_add]
    have : i < m := by omega
    rw [List.getD_eq_getElem?_getD, List.getD_eq_getElem?_getD, List.getElem?_take, if_pos this]) (by omega) q n hq (by omega) (.inl rfl) (by rw [hl, Nat.zero_add]; exact h)
  rw [Nat.zero_add] at e
  rw [e]
  have z : (fun rs : List Nat => rs.map (0 + ·)) = id := by
    funext rs
    have : (fun x : Nat => 0 + x) = id := by funext x; exact Nat.zero_add x
    rw [this, List.map_id]
    rfl
  rw [z, Option.map_id]
  rfl

def spMv : Sp := fun vs H Q _ => ∃ (a : Addr) (f : Nat) (rows : List Nat), vs = [.ref a, .int (f : Int)] ∧ H a = some (.tup (vN rows)) ∧ rows.length ≤ 1000 ∧ ∀ (p : Addr) (H' : Hp), Same H H' → H' p = some (.tup (vN (rows.map (f + ·)))) → Q (.ref p) H'
section
variable {P : Program} {w : World} {K : PySem.W.Frag} {mg : Str → Option Value} {base : Heap} {ks : Kd → Bool} {cl : Kd → Addr} {d lev : Nat}
theorem scMv : FnScope ["rows", "far"] ["rows", "far"] (defScope sMv) := ⟨rfl, rfl, rfl, by decide +kernel, rfl, by decide +kernel, by decide +kernel⟩
def scopeMv : Scope := { kind := .function, names := [(".0", .local), ("row", .local), ("far", .free)], isGenerator := false, isCoroutine := false, more := [] }
theorem scMv1 : BlkScope (defScope sMv) ["rows", "far"] ["row"] ["far"] [1] scopeMv := ⟨rfl, by decide +kernel, by decide +kernel, by decide +kernel, rfl, by decide +kernel, by decide +kernel⟩
theorem ok_mv {f : Addr} {fd : FuncData} (F : Fun K "moved" "moved" sMv f fd) (T : Txt mg) : FnOk P w K mg base CX0 1 f fd ["rows", "far"] spMv := by
  refine F.ok scMv (fun vs H Q E h => ?_) (fun cdv A outer s H vs Q E hr h => ?_)
  · obtain ⟨a, f, rows, rfl, _⟩ := h
    rfl
  · obtain ⟨a, fa, rows, rfl, ha, hl, k⟩ := h
    refine ⟨_, pss_one (ps_ret (pe_callTy call_tuple_of (by rfl) T.tuple PyProof.Rows.boot_tuple (pa_cons (pe_lc scMv1 rfl rfl rfl (pi_tup (pv 0)) (fun fp C s1 H1 => pg_name (i := 0) scMv1.nd rfl (Or.inl rfl)) (fun fp C s1 H1 => pts_nil) (fun fp C s1 H1 => pe_op op_add (pv 0) (pv 1))) pa_nil))), ?_⟩
    refine ⟨_, rfl, a, rfl, ⟨_, SqT.of ha⟩, fun D hD => ?_⟩
    refine lc_tup (K := K) (a := a) (xs := vN rows) (fun j ys H3 => ys = vN ((rows.take j).map (fa + ·)) ∧ Same H H3 ∧ H3 D = some (.lst ys)) (Nat.le_of_lt (small1000 (by rw [vN_len]; exact hl))) ⟨by simp [vN], (Same.refl H).upd_free hD, upd_same⟩
      (fun j ys H3 h => by rw [h.1, vN_len, List.length_map, List.length_take]; exact Nat.min_le_left _ _) (fun j ys H3 h => SqT.of (h.2.1 _ _ ha)) ?_ ?_
    · rintro j ys H3 x N M hx ⟨rfl, s3, hD3⟩ hN hM
      unfold vN at hx
      rw [List.getElem?_map] at hx
      cases et : rows[j]? with
      | none => rw [et] at hx; cases hx
      | some m =>
        rw [et] at hx
        cases hx
        refine ⟨_, rfl, _, rfl, _, _, rfl, rfl, ?_⟩
        show N (V.int ((m : Int) + (fa : Int))) H3
        have em : (m : Int) + (fa : Int) = ((fa + m : Nat) : Int) := by omega
        rw [em]
        refine hN _ H3 hD3 ⟨?_, s3.upd_free hD, upd_same⟩
        rw [List.take_add_one, et, List.map_append]
        unfold vN
        rw [List.map_append]
        rfl
    · rintro ys H3 ⟨rfl, s3, hD3⟩
      rw [vN_len, List.take_of_length_le (Nat.le_refl _)] at hD3
      refine ⟨D, _, rfl, .inl ⟨SqL.of hD3, fun t ht => ?_⟩⟩
      have s4 := (Same.refl H3).upd_free (o := .tup (vN (rows.map (fa + ·)))) ht
      exact k t _ (s3.trans s4) upd_same

def spWk (ks : Kd → Bool) (cl : Kd → Addr) (d : Nat) : Sp := fun vs H Q _ => ∃ (qo t : Addr) (q : Qn) (es : List Ent), vs = [.ref qo, .ref t] ∧ q.dep < d ∧ q.Ok ∧ q.In ks ∧ QAt cl H q qo ∧ LogAt H t es ∧ es.length ≤ 63 ∧
  ∀ (p : Addr) (us : List V) (H' : Hp), Same H H' → H' p = some (.tup us) → AnsAt H' us (ansM es q 0 es.length) → Q (.ref p) H'

def PrsAt (H : Hp) (us : List V) (an : List (Nat × Option (List Nat))) : Prop := us.length = an.length ∧ ∀ (i : Nat) (x : Nat × Option (List Nat)), an[i]? = some x → ∃ t v, us[i]? = some (.ref t) ∧ H t = some (.tup [.int (x.1 : Int), v]) ∧ FoundAs H v x.2
theorem FoundAs.tsame {H H' : Hp} (s : TSame H H') {v : V} : ∀ {o : Option (List Nat)}, FoundAs H v o → FoundAs H' v o
  | none, h => h
  | some _, ⟨a, h1, h2⟩ => ⟨a, h1, s _ _ h2⟩
theorem PrsAt.tsame {H H' : Hp} (s : TSame H H') {us : List V} {an : List (Nat × Option (List Nat))} (h : PrsAt H us an) : PrsAt H' us an :=
  ⟨h.1, fun i x hx => by
    obtain ⟨t, a, h1, h2, h3⟩ := h.2 i x hx
    exact ⟨t, a, h1, s _ _ h2, h3.tsame s⟩⟩
theorem PrsAt.snoc {H : Hp} {us : List V} {an : List (Nat × Option (List Nat))} {t : Addr} {v : V} {x : Nat × Option (List Nat)} (h : PrsAt H us an) (h1 : H t = some (.tup [.int (x.1 : Int), v])) (h2 : FoundAs H v x.2) : PrsAt H (us ++ [.ref t]) (an ++ [x]) := by
  refine ⟨by rw [List.length_append, List.length_append, h.1]; rfl, fun i e he => ?_⟩
  by_cases hi : i < an.length
  · rw [List.getElem?_append_left hi] at he
    obtain ⟨t', a', g1, g2⟩ := h.2 i e he
    exact ⟨t', a', by rw [List.getElem?_append_left (by rw [h.1]; exact hi)]; exact g1, g2⟩
  · rw [List.getElem?_append_right (by omega)] at he
    have : i = an.length := by
      have := (List.getElem?_eq_some_iff.mp he).1
      simp at this
      omega
    subst this
    rw [Nat.sub_self] at he
    cases he
    exact ⟨t, v, by rw [List.getElem?_append_right (by rw [h.1]; exact Nat.le_refl _), h.1, Nat.sub_self]; rfl, h1, h2⟩
theorem scWk : FnScope ["question", "log", "found"] ["question", "log"] (defScope sWk) := ⟨rfl, rfl, rfl, by decide +kernel, rfl, by decide +kernel, by decide +kernel⟩
def scopeWk1 : Scope := { kind := .function, names := [(".0", .local), ("n", .local), ("log", .free), ("question", .free)], isGenerator := false, isCoroutine := false, more := [] }
def scopeWk2 : Scope := { kind := .function, names := [(".0", .local), ("told", .local)], isGenerator := false, isCoroutine := false, more := [] }
theorem scWk1 : BlkScope (defScope sWk) ["question", "log", "found"] ["n"] ["question", "log"] [0, 1] scopeWk1 := ⟨rfl, by decide +kernel, by decide +kernel, by decide +kernel, rfl, by decide +kernel, by decide +kernel⟩
theorem scWk2 : BlkScope (defScope sWk) ["question", "log", "found"] ["told"] [] [] scopeWk2 := ⟨rfl, by decide +kernel, by decide +kernel, by decide +kernel, rfl, by decide +kernel, by decide +kernel⟩
theorem ok_wk {f : Addr} {fd : FuncData} (F : Fun K "walked" "walked" sWk f fd) (TX : Txt mg) (T : Tab P w K mg base ks cl d lev) : FnOk P w K mg base CX0 (lev + 1) f fd ["question", "log"] (spWk ks cl d) := by
  refine F.ok scWk (fun vs H Q E h => ?_) (fun cdv A outer s H vs Q E hr h => ?_)
  · obtain ⟨qo, t, q, es, rfl, _⟩ := h
    rfl
  · obtain ⟨qo, t, q, es, rfl, hd, ho, hi, hq, L, hl, k⟩ := h
    obtain ⟨qs, ht, hE⟩ := L
    have hql : (qs.map V.ref).length = es.length := by rw [List.length_map]; exact hE.1
    refine ⟨_, pss_cons (ps_setlc (i := 2) scWk1 rfl rfl rfl (pi_range1 rfl TX.range (pa_cons (pe_callB call_len_seq (by rfl) TX.len PySem.boot_len (pa_cons (pv 1) pa_nil)) pa_nil)) (fun fp C s1 H1 => pg_name (i := 0) scWk1.nd rfl (Or.inl rfl)) (fun fp C s1 H1 => pts_nil)
        (fun fp C s1 H1 => pe_tup (pa_cons (pv 0) (pa_cons (pe_methDK (P := P) (w := w) (K := K) (mg := mg) (base := base) (CX := CX0) rfl rfl rfl rfl rfl (pv 1) hr pass0 (pa_cons (pv 2) (pa_cons (pv 0) pa_nil))) pa_nil))) scWk.nd rfl rfl rfl)
      (pss_one (ps_ret (pe_callTy call_tuple_of (by rfl) TX.tuple PyProof.Rows.boot_tuple (pa_cons (pe_lc scWk2 rfl rfl rfl (pi_list (pv 2)) (fun fp C s1 H1 => pg_name (i := 0) scWk2.nd rfl (Or.inl rfl)) (fun fp C s1 H1 => pts_one (pt_cmp (pc_notN (pe_ix (r := rIxT K) ix_tup (pv 0) pe_int (fun _ _ => rfl))))) (fun fp C s1 H1 => pv 0)) pa_nil)))), ?_⟩
    refine ⟨_, rfl, t, _, rfl, .inr (SqT.of ht), _, rfl, by omega, by omega, fun D hD => ?_⟩
    rw [hql, Int.toNat_natCast]
    refine lc_range (lo := 0) (n := es.length) (fun j ys H3 => Same H H3 ∧ H3 D = some (.lst ys) ∧ PrsAt H3 ys ((List.range j).map fun n => (n, foundM es q n))) (Nat.le_of_lt (small1000 (by omega)))
      ⟨(Same.refl H).upd_free hD, upd_same, rfl, fun i x h => by simp at h⟩ (fun j ys H3 h => by rw [h.2.2.1, List.length_map, List.length_range]; exact Nat.le_refl _) ?_ ?_
    · rintro j ys H3 N M hj ⟨u1, u2, u3⟩ hN hM
      have e0 : 0 + (j : Int) = (j : Int) := Int.zero_add _
      rw [e0]
      obtain ⟨dx', fs', f', fd', g1, g2, g3, g4, g5, g6⟩ := T.found (QAt.same u1 hq) hi
      refine ⟨_, rfl, _, rfl, qo, _, dx', fs', f', fd', _, _, rfl, g1, g2, g3, g4, g5, g6, _, rfl, _, rfl, qo, t, j, q, es, rfl, rfl, hd, ho, hi, QAt.same u1 hq, ⟨qs, u1 _ _ ht, hE.tsame u1.tups⟩, hl, hj, ?_⟩
      refine told_of fun v H4 u4 hv => ?_
      refine ⟨(by show 2 ≤ sizeLine; decide), fun p hp => ?_⟩
      have s5 := (Same.refl H4).upd_free (o := .tup [.int (j : Int), v]) hp
      have u45 := u4.trans s5
      have hD5 := u45 _ _ u2
      have ts : TSame (upd H4 p (.tup [.int (j : Int), v])) (upd (upd H4 p (.tup [.int (j : Int), v])) D (.lst (ys ++ [.ref p]))) := TSame.upd_lst (fun _ _ e => e) hD5
      refine hN _ _ hD5 ⟨(u1.trans u45).upd_free hD, upd_same, ?_⟩
      rw [List.range_succ, List.map_append]
      exact ((u3.tsame u45.tups).tsame ts).snoc (x := (j, foundM es q j)) (ts _ _ upd_same) ((hv.same s5).tsame ts)
    rintro ys H3 ⟨u1, u2, u3⟩
    have hyl : ys.length = es.length := by rw [u3.1, List.length_map, List.length_range]
    refine ⟨_, rfl, D, rfl, ⟨_, SqL.of u2⟩, fun D2 hD2 => ?_⟩
    refine lc_list (K := K) (a := D) (xs := ys) (fun j zs H4 => Same H3 H4 ∧ H4 D2 = some (.lst zs) ∧ AnsAt H4 zs (ansM es q 0 j) ∧ zs.length ≤ j) (Nat.le_of_lt (small1000 (by omega)))
      ⟨(Same.refl H3).upd_free hD2, upd_same, by rw [ans_same]; exact AnsAt.nil, Nat.le_refl _⟩ (fun j zs H4 h => h.2.2.2) (fun j zs H4 h => SqL.of (h.1 _ _ u2)) ?_ ?_
    · rintro j zs H4 x N M hx ⟨w1, w2, w3, w4⟩ hN hM
      have hj : j < es.length := by
        have := (List.getElem?_eq_some_iff.mp hx).1
        omega
      obtain ⟨p, v, e1, e2, e3⟩ := u3.2 j (j, foundM es q j) (by rw [List.getElem?_map, List.getElem?_range hj]; rfl)
      rw [e1] at hx
      cases hx
      refine ⟨_, rfl, p, _, _, v, rfl, rfl, SqT.of (w1 _ _ e2), rfl, ?_⟩
      have en := ans_succ es q (lo := 0) (hi := j) (Nat.zero_le _)
      unfold one1 at en
      cases hf : foundM es q j with
      | none =>
        rw [hf] at e3 en
        cases (show v = .non from e3)
        refine ⟨_, rfl, iteNS rfl ?_⟩
        refine hM H4 ⟨w1, w2, ?_, by omega⟩
        rw [en]
        exact w3.tsame (fun _ _ e => e) |> fun z => by rw [List.append_nil]; exact z
      | some rows =>
        rw [hf] at e3 en
        obtain ⟨a, rfl, ha⟩ := e3
        refine ⟨_, rfl, ?_⟩
        rw [refN]
        refine iteT ⟨_, rfl, ?_⟩
        have ts : TSame H4 (upd H4 D2 (.lst (zs ++ [.ref p]))) := TSame.upd_lst (fun _ _ e => e) w2
        refine hN _ H4 w2 ⟨w1.upd_free hD2, upd_same, ?_, by rw [List.length_append, List.length_singleton]; omega⟩
        rw [en]
        exact (w3.tsame ts).snoc (x := (j, rows)) (ts _ _ (w1 _ _ e2)) (ts _ _ (w1 _ _ ha))
    · rintro zs H4 ⟨w1, w2, w3, w4⟩
      rw [hyl] at w3
      refine ⟨D2, _, rfl, .inl ⟨SqL.of w2, fun p hp => ?_⟩⟩
      have s5 := (Same.refl H4).upd_free (o := .tup zs) hp
      exact k p zs _ ((u1.trans w1).trans s5) upd_same (w3.tsame s5.tups)
end
end QL
namespace QL
open PySem L2
theorem putF_len {f : Str} {v x : V} : ∀ {fs : List (Str × V)}, fs.lookup f = some x → (putF f v fs).length = fs.length
  | [], h => by cases h
  | (g, y) :: r, h => by
    show (if g = f then (g, v) :: r else (g, y) :: putF f v r).length = _
    by_cases e : g = f
    · rw [if_pos e]
      rfl
    · rw [if_neg e, List.length_cons, List.length_cons, putF_len (fs := r)]
      have hb : (f == g) = false := beq_eq_false_iff_ne.mpr (Ne.symm e)
      simpa only [List.lookup, hb] using h
theorem putF_len1 {f : Str} {v : V} : ∀ {fs : List (Str × V)}, (putF f v fs).length ≤ fs.length + 1
  | [] => Nat.le_refl _
  | (g, y) :: r => by
    show (if g = f then (g, v) :: r else (g, y) :: putF f v r).length ≤ _
    by_cases e : g = f
    · rw [if_pos e]
      exact Nat.le_succ _
    · rw [if_neg e, List.length_cons, List.length_cons]
      exact Nat.succ_le_succ putF_len1
theorem cut_fromR (qs : List Addr) (a : Nat) (h : a ≤ qs.length) : cutV (qs.map V.ref) (some (a : Int)) none = (qs.drop a).map V.ref := by
  unfold cutV
  rw [HT.sIx_nat, HT.sIx_none, List.length_map, Nat.min_eq_left h, List.take_of_length_le (by rw [List.length_drop, List.length_map]; exact Nat.le_refl _), List.map_drop]

def WNo (fs : List (Str × V)) : Prop := fs.lookup ("take" : Str) = none ∧ fs.lookup ("end" : Str) = none ∧ fs.lookup ("refuse_if_over" : Str) = none ∧ fs.lookup ("settle" : Str) = none ∧ fs.lookup ("kept" : Str) = none
theorem WNo.nil : WNo [] := ⟨rfl, rfl, rfl, rfl, rfl⟩
theorem WNo.put {fs : List (Str × V)} (h : WNo fs) {f : Str} {v : V} (h1 : ¬ ("take" : Str) = f) (h2 : ¬ ("end" : Str) = f) (h3 : ¬ ("refuse_if_over" : Str) = f) (h4 : ¬ ("settle" : Str) = f) (h5 : ¬ ("kept" : Str) = f) : WNo (putF f v fs) :=
  ⟨by rw [lookup_putF, if_neg h1]; exact h.1, by rw [lookup_putF, if_neg h2]; exact h.2.1, by rw [lookup_putF, if_neg h3]; exact h.2.2.1, by rw [lookup_putF, if_neg h4]; exact h.2.2.2.1, by rw [lookup_putF, if_neg h5]; exact h.2.2.2.2⟩

structure WFs (fs : List (Str × V)) (qo te : Addr) (f lo : Nat) (ov : Bool) : Prop where
  q : fs.lookup ("question" : Str) = some (.ref qo)
  e : fs.lookup ("entries" : Str) = some (.ref te)
  f : fs.lookup ("first" : Str) = some (.int (f : Int))
  s : fs.lookup ("settled" : Str) = some (.int (lo : Int))
  o : fs.lookup ("over" : Str) = some (.bl ov)
  no : WNo fs
  few : fs.length ≤ 5
structure WK (K : PySem.W.Frag) (C : Addr) : Prop where
  cls : Cls K C
  nQ : NoAttr K C "question"
  nE : NoAttr K C "entries"
  nF : NoAttr K C "first"
  nS : NoAttr K C "settled"
  nO : NoAttr K C "over"
abbrev bkN (q : Qn) : Nat := (backM q).toNat
abbrev onN (q : Qn) : Nat := (onM q).toNat

def WSt (C : Addr) (H : Hp) (wa : Addr) (q : Qn) (qo : Addr) (qs : List Addr) : Prop := ∃ (dx te : Addr) (fs : List (Str × V)), H wa = some (.ins C dx fs) ∧ WFs fs qo te (qs.length - onN q - bkN q) (qs.length - onN q) false ∧ H te = some (.tup ((qs.drop (qs.length - onN q - bkN q)).map V.ref))

def WOv (C : Addr) (H : Hp) (wa : Addr) : Prop := ∃ (dx qo te : Addr) (fs : List (Str × V)) (f lo : Nat), H wa = some (.ins C dx fs) ∧ WFs fs qo te f lo true ∧ H te = some (.tup [])
theorem WSt.kept {C : Addr} {H H' : Hp} {wa : Addr} {q : Qn} {qo : Addr} {qs : List Addr} {wb : Addr} (k : Kept H H' wb) (n : wa ≠ wb) {C' dx' : Addr} {fs' : List (Str × V)} (hb : H wb = some (.ins C' dx' fs')) (h : WSt C H wa q qo qs) : WSt C H' wa q qo qs := by
  obtain ⟨dx, te, fs, h1, h2, h3⟩ := h
  exact ⟨dx, te, fs, k _ _ h1 n, h2, k _ _ h3 fun z => by rw [z, hb] at h3; cases h3⟩
theorem WSt.same {C : Addr} {H H' : Hp} {wa : Addr} {q : Qn} {qo : Addr} {qs : List Addr} (s : Same H H') (h : WSt C H wa q qo qs) : WSt C H' wa q qo qs := by
  obtain ⟨dx, te, fs, h1, h2, h3⟩ := h
  exact ⟨dx, te, fs, s _ _ h1, h2, s _ _ h3⟩
def spYi (C : Addr) : Sp := fun vs H Q _ => ∃ (p dx qo : Addr), vs = [.ref p, .ref qo] ∧ H p = some (.ins C dx []) ∧ ∀ H', (∀ q : Qn, WSt C H' p q qo []) → Kept H H' p → Q .non H'
def spYr (C : Addr) : Sp := fun vs H Q _ => ∃ (wa dx qo te : Addr) (fs : List (Str × V)) (f lo : Nat), vs = [.ref wa] ∧ H wa = some (.ins C dx fs) ∧ WFs fs qo te f lo false ∧ Q .non H
def spYs (ks : Kd → Bool) (cl : Kd → Addr) (C : Addr) (d : Nat) : Sp := fun vs H Q _ => ∃ (wa te te0 dx qo : Addr) (fs : List (Str × V)) (f lo hi : Nat) (qs : List Addr) (es : List Ent) (q : Qn), vs = [.ref wa, .ref te, .int (hi : Int)] ∧ H wa = some (.ins C dx fs) ∧ WFs fs qo te0 f lo false ∧
  QAt cl H q qo ∧ q.dep < d ∧ q.Ok ∧ q.In ks ∧ H te = some (.tup ((qs.drop f).map V.ref)) ∧ EntsAt H qs es ∧ es.length ≤ 63 ∧ f ≤ lo ∧ lo ≤ hi ∧ hi ≤ es.length ∧ (f = 0 ∨ f + bkN q ≤ lo) ∧
  ∀ (p te' : Addr) (us : List V) (fs' : List (Str × V)) (H' : Hp), Kept H H' wa → H' p = some (.tup us) → AnsAt H' us (ansM es q lo hi) → H' wa = some (.ins C dx fs') → WFs fs' qo te' (max (hi - bkN q) f) hi false → H' te' = some (.tup ((qs.drop (max (hi - bkN q) f)).map V.ref)) → Q (.ref p) H'
def spYt (ks : Kd → Bool) (cl : Kd → Addr) (C : Addr) (d : Nat) : Sp := fun vs H Q _ => ∃ (wa tp qo : Addr) (qs0 ps : List Addr) (es : List Ent) (q : Qn), vs = [.ref wa, .ref tp] ∧ WSt C H wa q qo qs0 ∧ QAt cl H q qo ∧ q.dep < d ∧ q.Ok ∧ q.In ks ∧ H tp = some (.tup (ps.map V.ref)) ∧ EntsAt H (qs0 ++ ps) es ∧ es.length ≤ 63 ∧
  ∀ (p : Addr) (us : List V) (H' : Hp), Kept H H' wa → H' p = some (.tup us) → AnsAt H' us (ansM es q (qs0.length - onN q) (es.length - onN q)) → WSt C H' wa q qo (qs0 ++ ps) → Q (.ref p) H'
def spYe (ks : Kd → Bool) (cl : Kd → Addr) (C : Addr) (d : Nat) : Sp := fun vs H Q _ => ∃ (wa qo : Addr) (qs : List Addr) (es : List Ent) (q : Qn), vs = [.ref wa] ∧ WSt C H wa q qo qs ∧ QAt cl H q qo ∧ q.dep < d ∧ q.Ok ∧ q.In ks ∧ EntsAt H qs es ∧ es.length ≤ 63 ∧
  ∀ (p : Addr) (us : List V) (H' : Hp), Kept H H' wa → H' p = some (.tup us) → AnsAt H' us (ansM es q (es.length - onN q) es.length) → WOv C H' wa → Q (.ref p) H'
section
variable {P : Program} {w : World} {K : PySem.W.Frag} {mg : Str → Option Value} {base : Heap} {ks : Kd → Bool} {cl : Kd → Addr} {d lev : Nat} {C : Addr}
theorem scYi : FnScope ["self", "question"] ["self", "question"] (defScope sYi) := ⟨rfl, rfl, rfl, by decide +kernel, rfl, by decide +kernel, by decide +kernel⟩
theorem ok_yi {f : Addr} {fd : FuncData} (F : Fun K "__init__" "Watch.__init__" sYi f fd) (Y : WK K C) : FnOk P w K mg base CX0 1 f fd ["self", "question"] (spYi C) := by
  refine F.ok scYi (fun vs H Q E h => ?_) (fun cdv A outer s H vs Q E hr h => ?_)
  · obtain ⟨p, dx, qo, rfl, _⟩ := h
    rfl
  · obtain ⟨p, dx, qo, rfl, hp, k⟩ := h
    refine ⟨_, pss_cons (ps_fld (pv 0) (pv 1) rfl) (pss_cons (ps_fld (pv 0) (pe_tup pa_nil) rfl) (pss_cons (ps_fld (pv 0) pe_int rfl) (pss_cons (ps_fld (pv 0) pe_int rfl) (pss_one (ps_fld (pv 0) pe_bl rfl))))), ?_⟩
    refine ⟨_, rfl, _, rfl, p, _, dx, _, rfl, hp, Y.cls, Y.nQ, (by show 0 < 1000; decide), ?_⟩
    refine ⟨(by show 0 ≤ sizeLine; decide), fun t ht => ?_⟩
    have npt : p ≠ t := fun z => by rw [← z, upd_same] at ht; cases ht
    have htH : H t = none := by rw [upd_ne (Ne.symm npt)] at ht; exact ht
    refine ⟨_, rfl, p, _, dx, _, rfl, (by rw [upd_ne npt]; exact upd_same), Y.cls, Y.nE, (by show 1 < 1000; decide), ?_⟩
    refine ⟨_, rfl, p, _, dx, _, rfl, upd_same, Y.cls, Y.nF, (by show 2 < 1000; decide), ?_⟩
    refine ⟨_, rfl, p, _, dx, _, rfl, upd_same, Y.cls, Y.nS, (by show 3 < 1000; decide), ?_⟩
    refine ⟨_, rfl, p, _, dx, _, rfl, upd_same, Y.cls, Y.nO, (by show 4 < 1000; decide), ?_⟩
    refine k _ (fun q => ⟨dx, t, _, upd_same, ?_, ?_⟩) fun c o e hc => ?_
    · have z1 : ([] : List Addr).length - onN q - bkN q = 0 := by
        show 0 - onN q - bkN q = 0
        omega
      have z2 : ([] : List Addr).length - onN q = 0 := by
        show 0 - onN q = 0
        omega
      rw [z1, z2]
      refine ⟨by rw [lookup_putF, if_neg (by decide +kernel), lookup_putF, if_neg (by decide +kernel), lookup_putF, if_neg (by decide +kernel), lookup_putF, if_neg (by decide +kernel), lookup_putF, if_pos rfl], by rw [lookup_putF, if_neg (by decide +kernel), lookup_putF, if_neg (by decide +kernel), lookup_putF, if_neg (by decide +kernel), lookup_putF, if_pos rfl], by rw [lookup_putF, if_neg (by decide +kernel), lookup_putF, if_neg (by decide +kernel), lookup_putF, if_pos rfl]; rfl, by rw [lookup_putF, if_neg (by decide +kernel), lookup_putF, if_pos rfl]; rfl, by rw [lookup_putF, if_pos rfl], (((((WNo.nil).put (by decide +kernel) (by decide +kernel) (by decide +kernel) (by decide +kernel) (by decide +kernel)).put (by decide +kernel) (by decide +kernel) (by decide +kernel) (by decide +kernel) (by decide +kernel)).put (by decide +kernel) (by decide +kernel) (by decide +kernel) (by decide +kernel) (by decide +kernel)).put (by decide +kernel) (by decide +kernel) (by decide +kernel) (by decide +kernel) (by decide +kernel)).put (by decide +kernel) (by decide +kernel) (by decide +kernel) (by decide +kernel) (by decide +kernel), ?_⟩
      have c1 := @putF_len1 "question" (.ref qo) []
      have c2 := @putF_len1 "entries" (.ref t) (putF "question" (.ref qo) [])
      have c3 := @putF_len1 "first" (.int 0) (putF "entries" (.ref t) (putF "question" (.ref qo) []))
      have c4 := @putF_len1 "settled" (.int 0) (putF "first" (.int 0) (putF "entries" (.ref t) (putF "question" (.ref qo) [])))
      have c5 := @putF_len1 "over" (.bl false) (putF "settled" (.int 0) (putF "first" (.int 0) (putF "entries" (.ref t) (putF "question" (.ref qo) []))))
      rw [List.length_nil] at c1
      omega
    · rw [upd_ne (Ne.symm npt), upd_ne (Ne.symm npt), upd_ne (Ne.symm npt), upd_ne (Ne.symm npt), upd_same, List.drop_nil]
      rfl
    · rw [upd_ne hc, upd_ne hc, upd_ne hc, upd_ne hc, upd_ne (ne_of_none e htH), upd_ne hc]
      exact e
theorem scYr : FnScope ["self"] ["self"] (defScope sYr) := ⟨rfl, rfl, rfl, by decide +kernel, rfl, by decide +kernel, by decide +kernel⟩
theorem ok_yr {f : Addr} {fd : FuncData} (F : Fun K "refuse_if_over" "Watch.refuse_if_over" sYr f fd) (Y : WK K C) : FnOk P w K mg base CX0 1 f fd ["self"] (spYr C) := by
  refine F.ok scYr (fun vs H Q E h => ?_) (fun cdv A outer s H vs Q E hr h => ?_)
  · obtain ⟨wa, dx, qo, te, fs, f, lo, rfl, _⟩ := h
    rfl
  · obtain ⟨wa, dx, qo, te, fs, f, lo, rfl, hw, W, k⟩ := h
    refine ⟨_, pss_one (ps_if (pt_val (pe_fld (pv 0) rfl)) pss_never pss_nil), ?_⟩
    exact ⟨_, rfl, wa, _, dx, _, _, rfl, hw, Y.cls, Y.nO, W.o, false, rfl, iteF k⟩
theorem scYs : FnScope ["self", "entries", "stop", "told", "n", "rows", "first"] ["self", "entries", "stop"] (defScope sYs) := ⟨rfl, rfl, rfl, by decide +kernel, rfl, by decide +kernel, by decide +kernel⟩
theorem ok_ys {f fM : Addr} {fd fdM : FuncData} (F : Fun K "settle" "Watch.settle" sYs f fd) (TX : Txt mg) (Y : WK K C) (T : Tab P w K mg base ks cl d lev) (hlev : 1 ≤ lev)
    (FM : Fun K "moved" "moved" sMv fM fdM) (bM : Binds K fdM ["rows", "far"] []) (gM : mg "moved" = some (.ref fM)) : FnOk P w K mg base CX0 (lev + 1) f fd ["self", "entries", "stop"] (spYs ks cl C d) := by
  have GM : FnOk P w K mg base CX0 1 fM fdM ["rows", "far"] spMv := ok_mv FM TX
  refine F.ok scYs (fun vs H Q E h => ?_) (fun cdv A outer s H vs Q E hr h => ?_)
  · obtain ⟨wa, te, te0, dx, qo, fs, f, lo, hi, qs, es, q, rfl, _⟩ := h
    rfl
  · obtain ⟨wa, te, te0, dx, qo, fs, fa, lo, hi, qs, es, q, rfl, hw, W, hq, hd, ho, hin, hte, hE, h63, h1, h2, h3, h4, k⟩ := h
    have hr1 : Room 1 _ := hr.mono hlev
    have hb0 := back_pos ho
    have hbb : ((bkN q : Nat) : Int) = backM q := Int.toNat_of_nonneg hb0
    have hql : qs.length = es.length := hE.1
    refine ⟨_, pss_cons (ps_set (i := 3) scYs.nd rfl (Or.inl rfl) (pe_lst pa_nil))
      (pss_cons (ps_for PassesOwn.never rfl (pi_range2 rfl TX.range (pa_cons (pe_fld (pv 0) rfl) (pa_cons (pv 2) pa_nil))) (pg_name (i := 4) scYs.nd rfl (Or.inl rfl))
        (pss_cons (ps_set (i := 5) scYs.nd rfl (Or.inl rfl) (pe_methD (CX := CX0) (pe_fld (pv 0) rfl) hr pass0 (pa_cons (pv 1) (pa_cons (pe_op op_sub (pv 4) (pe_fld (pv 0) rfl)) pa_nil))))
        (pss_one (ps_if (pt_cmp (pc_notN (pv 5))) (pss_one (ps_expr (pe_bm PySem.F.plainAttrs_list PySem.F.slot_list_append PySem.F.type_list_append mt_append (pv 3) (pa_cons (pe_tup (pa_cons (pv 4) (pa_cons (pe_call GM hr1 rfl gM FM.kp bM .nil pass0 (pa_cons (pv 5) (pa_cons (pe_fld (pv 0) rfl) pa_nil))) pa_nil))) pa_nil)))) pss_nil))))
      (pss_cons (ps_set (i := 6) scYs.nd rfl (Or.inl rfl) (pe_callB (call_max2 rfl) (by rfl) TX.max PyProof.Rows.boot_max (pa_cons (pe_op op_sub (pv 2) (pe_methD0 (CX := CX0) (pe_fld (pv 0) rfl) hr pass0)) (pa_cons (pe_fld (pv 0) rfl) pa_nil))))
      (pss_cons (ps_fld (pv 0) (pe_slice sl_tupA (pv 1) (po_some (pe_op op_sub (pv 6) (pe_fld (pv 0) rfl))) po_none) rfl)
      (pss_cons (ps_fld (pv 0) (pv 6) rfl)
      (pss_cons (ps_fld (pv 0) (pv 2) rfl)
      (pss_one (ps_ret (pe_callTy call_tuple_of (by rfl) TX.tuple PyProof.Rows.boot_tuple (pa_cons (pv 3) pa_nil))))))))), ?_⟩
    refine ⟨(by show 0 ≤ sizeLine; decide), fun lt hlt => ?_⟩
    have s0 : Same H (upd H lt (.lst [])) := (Same.refl H).upd_free hlt
    refine ⟨_, rfl, wa, _, dx, _, _, rfl, s0 _ _ hw, Y.cls, Y.nS, W.s, _, rfl, _, _, rfl, ⟨by omega, by omega, by omega, by omega⟩, ?_⟩
    refine for_range (lo := (lo : Int)) (n := ((hi : Int) - (lo : Int)).toNat) (fun i σ H2 => ∃ (us : List V) (v4 v5 : Option V), σ = [some (.ref wa), some (.ref te), some (.int (hi : Int)), some (.ref lt), v4, v5, none] ∧ Same H H2 ∧ H2 lt = some (.lst us) ∧ AnsAt H2 us (ansM es q lo (lo + i)))
      ⟨[], none, none, rfl, s0, upd_same, by rw [Nat.add_zero, ans_same]; exact AnsAt.nil⟩ ?_ ?_
    · rintro i σ H2 hi2 ⟨us, v4, v5, rfl, s2, hL, hA⟩
      have hdl : (es.drop fa).length = es.length - fa := List.length_drop ..
      have hn : lo + i - fa < (es.drop fa).length := by omega
      obtain ⟨dx', fs', f', fd', g1, g2, g3, g4, g5, g6⟩ := T.found (QAt.same s2 hq) hin
      have hc := ents_cut hE fa es.length
      have et : (es.drop fa).take es.length = es.drop fa := List.take_of_length_le (by omega)
      have eq' : (qs.drop fa).take es.length = qs.drop fa := List.take_of_length_le (by rw [List.length_drop]; omega)
      rw [et, eq'] at hc
      have fsh := found_shift (es := es) (es' := es.drop fa) (f := fa) (fun m hm => by rw [List.getD_eq_getElem?_getD, List.getD_eq_getElem?_getD, List.getElem?_drop]) (by omega) q (lo + i - fa) ho hn (by rcases h4 with h4 | h4; exact .inl h4; right; omega) (.inl (by omega))
      have ef : fa + (lo + i - fa) = lo + i := by omega
      rw [ef] at fsh
      refine ⟨_, rfl, wa, _, dx, _, _, rfl, s2 _ _ hw, Y.cls, Y.nQ, W.q, qo, _, dx', fs', f', fd', _, _, rfl, g1, g2, g3, g4, g5, g6, _, rfl, _, rfl, _, rfl, wa, _, dx, _, _, rfl, s2 _ _ hw, Y.cls, Y.nF, W.f, _, _, rfl, rfl, qo, te, lo + i - fa, q, es.drop fa, (by (show [V.ref qo, V.ref te, V.int ((lo : Int) + (i : Int) - (fa : Int))] = _); rw [show (lo : Int) + (i : Int) - (fa : Int) = ((lo + i - fa : Nat) : Int) by omega]), rfl, hd, ho, hin, QAt.same s2 hq, ⟨qs.drop fa, s2 _ _ hte, hc.tsame s2.tups⟩, by omega, hn, ?_⟩
      have en := ans_succ es q (lo := lo) (hi := lo + i) (by omega)
      unfold one1 at en
      rw [fsh] at en
      have e2 : lo + (i + 1) = lo + i + 1 := by omega
      refine told_of fun v H3 u3 hv => ?_
      have t3 := s2.trans u3
      cases hf : foundM (es.drop fa) q (lo + i - fa) with
      | none =>
        rw [hf] at hv en
        cases (show v = .non from hv)
        refine ⟨_, rfl, false, rfl, iteF ⟨us, _, _, rfl, t3, u3 _ _ hL, ?_⟩⟩
        rw [e2, en, Option.map_none]
        show AnsAt H3 us (ansM es q lo (lo + i) ++ [])
        rw [List.append_nil]
        exact hA.tsame u3.tups
      | some rows =>
        rw [hf] at hv en
        obtain ⟨a, rfl, ha⟩ := hv
        have hrl := found_short q _ rows hn hf
        have hL3 := u3 _ _ hL
        refine ⟨_, rfl, true, rfl, iteT ?_⟩
        refine ⟨_, rfl, .inl ⟨rfl, _, SqL.of hL3⟩, _, rfl, _, rfl, _, rfl, wa, _, dx, _, _, rfl, t3 _ _ hw, Y.cls, Y.nF, W.f, a, fa, rows, rfl, ha, by omega, fun p H4 s4 hp => ?_⟩
        refine ⟨(by show 2 ≤ sizeLine; decide), fun t ht => ?_⟩
        have s5 := (Same.refl H4).upd_free (o := .tup [.int ((lo : Int) + (i : Int)), .ref p]) ht
        have hL5 := (s4.trans s5) _ _ hL3
        have hul := hA.1
        have hal := ans_len es q lo i
        have t5 := t3.trans (s4.trans s5)
        have tsm : TSame (upd H4 t (.tup [.int ((lo : Int) + (i : Int)), .ref p])) (upd (upd H4 t (.tup [.int ((lo : Int) + (i : Int)), .ref p])) lt (.lst (us ++ [.ref t]))) := TSame.upd_lst (fun _ _ e => e) hL5
        refine ⟨lt, _, _, rfl, rfl, hL5, small1000 (by omega), us ++ [.ref t], _, _, rfl, t5.upd_free hlt, upd_same, ?_⟩
        rw [e2, en]
        refine ((hA.tsame (u3.trans (s4.trans s5)).tups).tsame tsm).snoc (x := (lo + i, rows.map (fa + ·))) (t := t) (a := p) (tsm _ _ ?_) (tsm _ _ (s5 _ _ hp))
        rw [upd_same]
        show some (HO.tup [V.int ((lo : Int) + (i : Int)), V.ref p]) = some (HO.tup [V.int ((lo + i : Nat) : Int), V.ref p])
        rw [Int.natCast_add]
    · rintro σ H2 ⟨us, v4, v5, rfl, s2, hL, hA⟩
      have el : lo + ((hi : Int) - (lo : Int)).toNat = hi := by omega
      rw [el] at hA
      obtain ⟨dx', fs', f', fd', g1, g2, g3, g4, g5, g6⟩ := T.back (QAt.same s2 hq) hin
      have hw2 := s2 _ _ hw
      refine ⟨_, rfl, _, rfl, wa, _, dx, _, _, rfl, hw2, Y.cls, Y.nQ, W.q, qo, _, dx', fs', f', fd', _, _, rfl, g1, g2, g3, g4, g5, g6, qo, q, rfl, rfl, hd, hin, QAt.same s2 hq, _, _, rfl, rfl, _, rfl, wa, _, dx, _, _, rfl, hw2, Y.cls, Y.nF, W.f, _, _, rfl, ?_⟩
      have hmax : (if (fa : Int) > (hi : Int) - backM q then (fa : Int) else (hi : Int) - backM q) = ((max (hi - bkN q) fa : Nat) : Int) := by
        by_cases z : hi - bkN q ≤ fa
        · rw [Nat.max_eq_right z]
          split <;> omega
        · rw [Nat.max_eq_left (by omega)]
          split <;> omega
      rw [hmax]
      have hf2 : max (hi - bkN q) fa ≤ es.length := Nat.max_le.mpr ⟨by omega, by omega⟩
      have hf3 : fa ≤ max (hi - bkN q) fa := Nat.le_max_right _ _
      generalize max (hi - bkN q) fa = f2 at hf2 hf3 k
      -- the entries kept
      have hte2 := s2 _ _ hte
      refine ⟨_, rfl, _, rfl, _, rfl, wa, _, dx, _, _, rfl, hw2, Y.cls, Y.nF, W.f, _, _, rfl, rfl, _, rfl, te, _, rfl, hte2, fun p H3 s3 hp => ?_⟩
      have ec : cutV ((qs.drop fa).map V.ref) (some ((f2 : Int) - (fa : Int))) none = (qs.drop f2).map V.ref := by
        have e1 : (f2 : Int) - (fa : Int) = ((f2 - fa : Nat) : Int) := by omega
        rw [e1, cut_fromR _ _ (by rw [List.length_drop]; omega), List.drop_drop]
        congr 2
        omega
      replace hp : H3 p = some (.tup ((qs.drop f2).map V.ref)) := by
        rw [← ec]
        exact hp
      have hw3 := s3 _ _ hw2
      have hL3 := s3 _ _ hL
      have npw : p ≠ wa := fun z => by rw [z, hw3] at hp; cases hp
      have nlw : lt ≠ wa := fun z => by rw [z, hw3] at hL3; cases hL3
      have w5 := W.few
      have l1 : (putF ("entries" : Str) (.ref p) fs).length = fs.length := putF_len W.e
      have k1 : (putF ("entries" : Str) (V.ref p) fs).lookup ("first" : Str) = some (.int (fa : Int)) := by rw [lookup_putF, if_neg (by decide +kernel)]; exact W.f
      have l2 : (putF ("first" : Str) (.int (f2 : Int)) (putF ("entries" : Str) (.ref p) fs)).length = fs.length := by rw [putF_len k1, l1]
      have k2 : (putF ("first" : Str) (.int (f2 : Int)) (putF ("entries" : Str) (V.ref p) fs)).lookup ("settled" : Str) = some (.int (lo : Int)) := by rw [lookup_putF, if_neg (by decide +kernel), lookup_putF, if_neg (by decide +kernel)]; exact W.s
      have l3 : (putF ("settled" : Str) (.int (hi : Int)) (putF ("first" : Str) (.int (f2 : Int)) (putF ("entries" : Str) (.ref p) fs))).length = fs.length := by rw [putF_len k2, l2]
      refine ⟨_, rfl, wa, _, dx, _, rfl, hw3, Y.cls, Y.nE, by omega, ?_⟩
      refine ⟨_, rfl, _, rfl, wa, _, dx, _, rfl, upd_same, Y.cls, Y.nF, by rw [l1]; omega, ?_⟩
      refine ⟨_, rfl, _, rfl, wa, _, dx, _, rfl, upd_same, Y.cls, Y.nS, by rw [l2]; omega, ?_⟩
      have nlw' : wa ≠ lt := Ne.symm nlw
      refine ⟨_, rfl, lt, _, rfl, .inl ⟨SqL.of (by rw [upd_ne nlw, upd_ne nlw, upd_ne nlw]; exact hL3), fun t ht => ?_⟩⟩
      have ntw : t ≠ wa := fun z => by rw [z, upd_same] at ht; cases ht
      have htH : H3 t = none := by rw [upd_ne ntw, upd_ne ntw, upd_ne ntw] at ht; exact ht
      have up : ∀ b o, H3 b = some o → b ≠ wa → (upd (upd (upd (upd H3 wa (.ins C dx (putF "entries" (.ref p) fs))) wa (.ins C dx (putF "first" (.int (f2 : Int)) (putF "entries" (.ref p) fs)))) wa (.ins C dx (putF "settled" (.int (hi : Int)) (putF "first" (.int (f2 : Int)) (putF "entries" (.ref p) fs))))) t (.tup us)) b = some o := fun b o e n => by
        rw [upd_ne (ne_of_none e htH), upd_ne n, upd_ne n, upd_ne n]
        exact e
      refine k t p us _ _ (fun b o e n => up b o ((s2.trans s3) _ _ e) n) upd_same ?_ (by rw [upd_ne (Ne.symm ntw)]; exact upd_same) ?_ (up _ _ hp npw)
      · refine (hA.tsame s3.tups).tsame fun b xs e => up b _ e fun z => ?_
        rw [z, hw3] at e
        cases e
      · refine ⟨?_, ?_, ?_, ?_, ?_, ?_, by rw [l3]; exact w5⟩
        · rw [lookup_putF, if_neg (by decide +kernel), lookup_putF, if_neg (by decide +kernel), lookup_putF, if_neg (by decide +kernel)]
          exact W.q
        · rw [lookup_putF, if_neg (by decide +kernel), lookup_putF, if_neg (by decide +kernel), lookup_putF, if_pos rfl]
        · rw [lookup_putF, if_neg (by decide +kernel), lookup_putF, if_pos rfl]
        · rw [lookup_putF, if_pos rfl]
        · rw [lookup_putF, if_neg (by decide +kernel), lookup_putF, if_neg (by decide +kernel), lookup_putF, if_neg (by decide +kernel)]
          exact W.o
        · exact ((W.no.put (by decide +kernel) (by decide +kernel) (by decide +kernel) (by decide +kernel) (by decide +kernel)).put (by decide +kernel) (by decide +kernel) (by decide +kernel) (by decide +kernel) (by decide +kernel)).put (by decide +kernel) (by decide +kernel) (by decide +kernel) (by decide +kernel) (by decide +kernel)
end
end QL
namespace QL
open PySem L2
section
variable {P : Program} {w : World} {K : PySem.W.Frag} {mg : Str → Option Value} {base : Heap} {ks : Kd → Bool} {cl : Kd → Addr} {d lev : Nat} {C : Addr}
theorem scYt : FnScope ["self", "piece", "entries"] ["self", "piece"] (defScope sYt) := ⟨rfl, rfl, rfl, by decide +kernel, rfl, by decide +kernel, by decide +kernel⟩
theorem ok_yt {f fR fS : Addr} {fd fdR fdS : FuncData} (F : Fun K "take" "Watch.take" sYt f fd) (TX : Txt mg) (Y : WK K C) (T : Tab P w K mg base ks cl d lev)
    (FR : Fun K "refuse_if_over" "Watch.refuse_if_over" sYr fR fdR) (bR : Binds K fdR ["self"] []) (mR : Meth K C "refuse_if_over" fR)
    (bS : Binds K fdS ["self", "entries", "stop"] []) (mS : Meth K C "settle" fS) (GS : FnOk P w K mg base CX0 (lev + 1) fS fdS ["self", "entries", "stop"] (spYs ks cl C d)) :
    FnOk P w K mg base CX0 (lev + 2) f fd ["self", "piece"] (spYt ks cl C d) := by
  have GR : FnOk P w K mg base CX0 1 fR fdR ["self"] (spYr C) := ok_yr FR Y
  refine F.ok scYt (fun vs H Q E h => ?_) (fun cdv A outer s H vs Q E hr h => ?_)
  · obtain ⟨wa, tp, qo, qs0, ps, es, q, rfl, _⟩ := h
    rfl
  · obtain ⟨wa, tp, qo, qs0, ps, es, q, rfl, ⟨dx, te, fs, hw, W, hte⟩, hq, hd, ho, hin, htp, hE, h63, k⟩ := h
    have hr1 : Room 1 _ := hr.mono (Nat.le_add_left 1 lev)
    have hr0 : Room lev _ := hr.mono (Nat.le_add_right lev 1)
    have ho0 := on_pos ho
    have hoo : ((onN q : Nat) : Int) = onM q := Int.toNat_of_nonneg ho0
    have hlen : qs0.length + ps.length = es.length := by rw [← List.length_append]; exact hE.1
    refine ⟨_, pss_cons (ps_expr (pe_meth0 (pv 0) Y.cls mR GR hr1 bR .nil pass0))
      (pss_cons (ps_set (i := 2) scYt.nd rfl (Or.inl rfl) (pe_op op_catA (pe_fld (pv 0) rfl) (pv 1)))
      (pss_one (ps_ret (pe_meth (pv 0) Y.cls mS GS hr bS .nil pass0 (pa_cons (pv 2) (pa_cons (pe_callB (call_max2 rfl) (by rfl) TX.max PyProof.Rows.boot_max (pa_cons (pe_op op_sub (pe_op op_add (pe_fld (pv 0) rfl) (pe_callB call_len_seq (by rfl) TX.len PySem.boot_len (pa_cons (pv 2) pa_nil))) (pe_methD0 (CX := CX0) (pe_fld (pv 0) rfl) hr0 pass0)) (pa_cons pe_int pa_nil))) pa_nil)))))), ?_⟩
    generalize hf0 : qs0.length - onN q - bkN q = f0 at W hte
    generalize hl0 : qs0.length - onN q = l0 at W
    refine ⟨_, rfl, wa, dx, fs, rfl, hw, W.no.2.2.1, wa, dx, qo, te, fs, f0, l0, rfl, hw, W, ?_⟩
    refine ⟨_, rfl, wa, _, dx, _, _, rfl, hw, Y.cls, Y.nE, W.e, _, rfl, te, tp, _, _, rfl, rfl, hte, htp, Nat.le_of_lt (small1000 (by rw [List.length_map, List.length_map, List.length_drop]; omega)), fun t1 H1 s1 ht1 => ?_⟩
    have hw1 := s1 _ _ hw
    have hq1 := QAt.same s1 hq
    have ed : (qs0.drop f0).map V.ref ++ ps.map V.ref = ((qs0 ++ ps).drop f0).map V.ref := by
      rw [List.drop_append_of_le_length (by omega), List.map_append]
    rw [ed] at ht1
    have hdl : (((qs0 ++ ps).drop f0).map V.ref).length = es.length - f0 := by
      rw [List.length_map, List.length_drop, List.length_append, hlen]
    obtain ⟨dx', fs', f', fd', g1, g2, g3, g4, g5, g6⟩ := T.on hq1 hin
    refine ⟨_, rfl, wa, dx, fs, rfl, hw1, W.no.2.2.2.1, _, rfl, _, rfl, wa, _, dx, _, _, rfl, hw1, Y.cls, Y.nF, W.f, _, rfl, t1, _, rfl, .inr (SqT.of ht1), _, _, rfl, rfl, _, rfl, wa, _, dx, _, _, rfl, hw1, Y.cls, Y.nQ, W.q, qo, _, dx', fs', f', fd', _, _, rfl, g1, g2, g3, g4, g5, g6, qo, q, rfl, rfl, hd, hin, hq1, _, _, rfl, rfl, _, _, rfl, ?_⟩
    have hst : (if (0 : Int) > (f0 : Int) + ((((qs0 ++ ps).drop f0).map V.ref).length : Int) - onM q then (0 : Int) else (f0 : Int) + ((((qs0 ++ ps).drop f0).map V.ref).length : Int) - onM q) = ((es.length - onN q : Nat) : Int) := by
      rw [hdl]
      split <;> omega
    rw [hst]
    refine ⟨wa, t1, te, dx, qo, fs, f0, l0, es.length - onN q, qs0 ++ ps, es, q, rfl, hw1, W, hq1, hd, ho, hin, ht1, hE.tsame s1.tups, h63, by omega, by omega, by omega, by omega, fun p te' us fs'' H' kp hp hA hw' W' hte' => ?_⟩
    have em : max (es.length - onN q - bkN q) f0 = es.length - onN q - bkN q := Nat.max_eq_left (by omega)
    rw [em] at W' hte'
    have en : (qs0 ++ ps).length = es.length := hE.1
    refine k p us H' (fun b o e n => kp b o (s1 _ _ e) n) hp ?_ ⟨dx, te', fs'', hw', ?_, ?_⟩
    · rw [hl0]
      exact hA
    · rw [en]
      exact W'
    · rw [en]
      exact hte'
theorem scYe : FnScope ["self", "told"] ["self"] (defScope sYe) := ⟨rfl, rfl, rfl, by decide +kernel, rfl, by decide +kernel, by decide +kernel⟩
theorem ok_ye {f fR fS : Addr} {fd fdR fdS : FuncData} (F : Fun K "end" "Watch.end" sYe f fd) (TX : Txt mg) (Y : WK K C)
    (FR : Fun K "refuse_if_over" "Watch.refuse_if_over" sYr fR fdR) (bR : Binds K fdR ["self"] []) (mR : Meth K C "refuse_if_over" fR)
    (bS : Binds K fdS ["self", "entries", "stop"] []) (mS : Meth K C "settle" fS) (GS : FnOk P w K mg base CX0 (lev + 1) fS fdS ["self", "entries", "stop"] (spYs ks cl C d)) :
    FnOk P w K mg base CX0 (lev + 2) f fd ["self"] (spYe ks cl C d) := by
  have GR : FnOk P w K mg base CX0 1 fR fdR ["self"] (spYr C) := ok_yr FR Y
  refine F.ok scYe (fun vs H Q E h => ?_) (fun cdv A outer s H vs Q E hr h => ?_)
  · obtain ⟨wa, qo, qs, es, q, rfl, _⟩ := h
    rfl
  · obtain ⟨wa, qo, qs, es, q, rfl, ⟨dx, te, fs, hw, W, hte⟩, hq, hd, ho, hin, hE, h63, k⟩ := h
    have hr1 : Room 1 _ := hr.mono (Nat.le_add_left 1 lev)
    have hlen : qs.length = es.length := hE.1
    refine ⟨_, pss_cons (ps_expr (pe_meth0 (pv 0) Y.cls mR GR hr1 bR .nil pass0))
      (pss_cons (ps_set (i := 1) scYe.nd rfl (Or.inl rfl) (pe_meth (pv 0) Y.cls mS GS hr bS .nil pass0 (pa_cons (pe_fld (pv 0) rfl) (pa_cons (pe_op op_add (pe_fld (pv 0) rfl) (pe_callB call_len_seq (by rfl) TX.len PySem.boot_len (pa_cons (pe_fld (pv 0) rfl) pa_nil))) pa_nil))))
      (pss_cons (ps_fld (pv 0) (pe_tup pa_nil) rfl) (pss_cons (ps_fld (pv 0) pe_bl rfl) (pss_one (ps_ret (pv 1)))))), ?_⟩
    generalize hf0 : qs.length - onN q - bkN q = f0 at W hte
    generalize hl0 : qs.length - onN q = l0 at W
    refine ⟨_, rfl, wa, dx, fs, rfl, hw, W.no.2.2.1, wa, dx, qo, te, fs, f0, l0, rfl, hw, W, ?_⟩
    have hdl : ((qs.drop f0).map V.ref).length = es.length - f0 := by
      rw [List.length_map, List.length_drop, hlen]
    refine ⟨_, rfl, wa, dx, fs, rfl, hw, W.no.2.2.2.1, _, rfl, wa, _, dx, _, _, rfl, hw, Y.cls, Y.nE, W.e, _, rfl, wa, _, dx, _, _, rfl, hw, Y.cls, Y.nF, W.f, _, rfl, wa, _, dx, _, _, rfl, hw, Y.cls, Y.nE, W.e, te, _, rfl, .inr (SqT.of hte), _, _, rfl, rfl, ?_⟩
    refine ⟨wa, te, te, dx, qo, fs, f0, l0, es.length, qs, es, q, (by (show [V.ref wa, V.ref te, V.int ((f0 : Int) + ((((qs.drop f0).map V.ref).length : Nat) : Int))] = _); rw [hdl, show (f0 : Int) + ((es.length - f0 : Nat) : Int) = (es.length : Int) by omega]), hw, W, hq, hd, ho, hin, hte, hE, h63, by omega, by omega, by omega, by omega, fun p te' us fs' H' kp hp hA hw' W' hte' => ?_⟩
    refine ⟨(by show 0 ≤ sizeLine; decide), fun t ht => ?_⟩
    have nwt : wa ≠ t := fun z => by rw [← z, hw'] at ht; cases ht
    have l1 : (putF ("entries" : Str) (.ref t) fs').length = fs'.length := putF_len W'.e
    have k1 : (putF ("entries" : Str) (V.ref t) fs').lookup ("over" : Str) = some (.bl false) := by rw [lookup_putF, if_neg (by decide +kernel)]; exact W'.o
    have l2 : (putF ("over" : Str) (.bl true) (putF ("entries" : Str) (.ref t) fs')).length = fs'.length := by rw [putF_len k1, l1]
    have w5 := W'.few
    refine ⟨_, rfl, wa, _, dx, _, rfl, (by rw [upd_ne nwt]; exact hw'), Y.cls, Y.nE, by omega, ?_⟩
    refine ⟨_, rfl, wa, _, dx, _, rfl, upd_same, Y.cls, Y.nO, by rw [l1]; omega, ?_⟩
    have up : ∀ b o, H' b = some o → b ≠ wa → (upd (upd (upd H' t (.tup [])) wa (.ins C dx (putF "entries" (.ref t) fs'))) wa (.ins C dx (putF "over" (.bl true) (putF "entries" (.ref t) fs')))) b = some o := fun b o e n => by
      rw [upd_ne n, upd_ne n, upd_ne (ne_of_none e ht)]
      exact e
    have npw : p ≠ wa := fun z => by rw [z, hw'] at hp; cases hp
    refine ⟨_, rfl, k p us _ (fun b o e n => up b o (kp b o e n) n) (up _ _ hp npw) ?_ ⟨dx, qo, t, _, max (es.length - bkN q) f0, es.length, upd_same, ?_, ?_⟩⟩
    · rw [← hlen, hl0]
      rw [← hlen] at hA
      refine hA.tsame fun b xs e => up b _ e fun z => ?_
      rw [z, hw'] at e
      cases e
    · refine ⟨?_, ?_, ?_, ?_, ?_, ?_, by rw [l2]; exact w5⟩
      · rw [lookup_putF, if_neg (by decide +kernel), lookup_putF, if_neg (by decide +kernel)]
        exact W'.q
      · rw [lookup_putF, if_neg (by decide +kernel), lookup_putF, if_pos rfl]
      · rw [lookup_putF, if_neg (by decide +kernel), lookup_putF, if_neg (by decide +kernel)]
        exact W'.f
      · rw [lookup_putF, if_neg (by decide +kernel), lookup_putF, if_neg (by decide +kernel)]
        exact W'.s
      · rw [lookup_putF, if_pos rfl]
      · exact (W'.no.put (by decide +kernel) (by decide +kernel) (by decide +kernel) (by decide +kernel) (by decide +kernel)).put (by decide +kernel) (by decide +kernel) (by decide +kernel) (by decide +kernel) (by decide +kernel)
    · rw [upd_ne (Ne.symm nwt), upd_ne (Ne.symm nwt), upd_same]
end
end QL
namespace QL
open PySem L2
def spYk (C : Addr) : Sp := fun vs H Q _ => ∃ (wa dx te : Addr) (fs : List (Str × V)) (us : List V), vs = [.ref wa] ∧ H wa = some (.ins C dx fs) ∧ fs.lookup ("entries" : Str) = some (.ref te) ∧ H te = some (.tup us) ∧ Q (.int (us.length : Int)) H
section
variable {P : Program} {w : World} {K : PySem.W.Frag} {mg : Str → Option Value} {base : Heap} {C : Addr}
theorem scYk : FnScope ["self"] ["self"] (defScope sYk) := ⟨rfl, rfl, rfl, by decide +kernel, rfl, by decide +kernel, by decide +kernel⟩
theorem ok_yk {f : Addr} {fd : FuncData} (F : Fun K "kept" "Watch.kept" sYk f fd) (T : Txt mg) (Y : WK K C) : FnOk P w K mg base CX0 1 f fd ["self"] (spYk C) := by
  refine F.ok scYk (fun vs H Q E h => ?_) (fun cdv A outer s H vs Q E hr h => ?_)
  · obtain ⟨wa, dx, te, fs, us, rfl, _⟩ := h
    rfl
  · obtain ⟨wa, dx, te, fs, us, rfl, hw, he, ht, k⟩ := h
    refine ⟨_, pss_one (ps_ret (pe_callB call_len_seq (by rfl) T.len PySem.boot_len (pa_cons (pe_fld (pv 0) rfl) pa_nil))), ?_⟩
    exact ⟨_, rfl, wa, _, dx, _, _, rfl, hw, Y.cls, Y.nE, he, te, _, rfl, .inr (SqT.of ht), k⟩
end
end QL
namespace QL
open PySem L2

theorem Kept.tupsI {H H' : Hp} {wa C dx : Addr} {fs : List (Str × V)} (k : Kept H H' wa) (h : H wa = some (.ins C dx fs)) : TSame H H' := fun b xs e => k b _ e fun z => by
  rw [z, h] at e
  cases e
theorem Kept.base {H H1 H' : Hp} {wa : Addr} (k : Kept H1 H' wa) (s : Same H H1) (h : H wa = none) : Same H H' := fun b o e => k b o (s _ _ e) (ne_of_none e h)
def dAn (x : Nat × List Nat) : PyData := .tuple [.int (x.1 : Int), .tuple (x.2.map fun (m : Nat) => PyData.int (m : Int))]
theorem AnsAt.data {K : PySem.W.Frag} {H : Hp} : ∀ {us : List V} {an : List (Nat × List Nat)}, AnsAt H us an → DsAt K H us (an.map dAn)
  | [], [], _ => .nil
  | [], _ :: _, h => by have := h.1; simp at this
  | _ :: _, [], h => by have := h.1; simp at this
  | u :: us, x :: an, h => by
    obtain ⟨t, a, h1, h2, h3⟩ := h.2 0 x rfl
    have eu : u = .ref t := by simpa using h1
    subst eu
    refine .cons (.tup (SqT.of h2) (.cons (.int _) (.cons (.tup (SqT.of h3) (nats_at _)) .nil))) (AnsAt.data (an := an) ⟨by have := h.1; simpa using this, fun i y hy => ?_⟩)
    obtain ⟨t', a', g1, g2, g3⟩ := h.2 (i + 1) y (by simpa using hy)
    exact ⟨t', a', by simpa using g1, g2, g3⟩
theorem nats_depth : ∀ ns : List Nat, PyData.depthAll (ns.map fun (m : Nat) => PyData.int (m : Int)) = 0
  | [] => rfl
  | n :: ns => by
    rw [List.map_cons, PyData.depthAll, nats_depth ns]
    rfl
theorem an_lay : ∀ an : List (Nat × List Nat), PyData.canLayAll0 (an.map dAn) = true
  | [] => rfl
  | x :: an => by
    rw [List.map_cons, PyData.canLayAll0, an_lay an, Bool.and_true]
    show (PyData.canLay0 (.int (x.1 : Int)) && (PyData.canLayAll0 (x.2.map fun (m : Nat) => PyData.int (m : Int)) && PyData.canLayAll0 [])) = true
    rw [nats_lay]
    rfl
theorem an_depth : ∀ an : List (Nat × List Nat), PyData.depthAll (an.map dAn) ≤ 2
  | [] => Nat.zero_le _
  | x :: an => by
    rw [List.map_cons, PyData.depthAll]
    refine Nat.max_le.mpr ⟨?_, an_depth an⟩
    unfold dAn
    simp only [PyData.depth, PyData.depthAll, nats_depth]
    decide
theorem an_okL (an : List (Nat × List Nat)) : DOk (.list (an.map dAn)) := ⟨an_lay an, by
  rw [PyData.depth]
  have := an_depth an
  omega⟩
theorem an_eqL (an : List (Nat × List Nat)) : PyData.eqv (.list (an.map dAn)) (.list (an.map dAn)) = true := SeqAt.eqv_refl _ (an_okL an).1
theorem ents_pre {H : Hp} {qs : List Addr} {es : List Ent} (h : EntsAt H qs es) (m : Nat) : EntsAt H (qs.take m) (es.take m) := by
  have := ents_cut h 0 m
  rw [List.drop_zero, List.drop_zero] at this
  exact this

theorem ans_pre {es : List Ent} {q : Qn} (hq : q.Ok) {m lo hi : Nat} (hm : m ≤ es.length) (h : hi + onN q ≤ m ∨ hi = 0) : ansM (es.take m) q lo hi = ansM es q lo hi := ans_congr fun n _ hn => by
  have ho0 := on_pos hq
  have hoo : ((onN q : Nat) : Int) = onM q := Int.toNat_of_nonneg ho0
  exact found_pre hq hm (by omega) (.inr (by omega))

structure WM (P : Program) (w : World) (K : PySem.W.Frag) (mg : Str → Option Value) (base : Heap) (ks : Kd → Bool) (cl : Kd → Addr) (C : Addr) (d lev : Nat) (fI fT fE : Addr) (dI dT dE : FuncData) : Prop where
  Y : WK K C
  mW : Mk K C fI
  gI : mg "Watch" = some (.ref C)
  bI : Binds K dI ["self", "question"] []
  GI : FnOk P w K mg base CX0 1 fI dI ["self", "question"] (spYi C)
  mT : Meth K C "take" fT
  bT : Binds K dT ["self", "piece"] []
  GT : FnOk P w K mg base CX0 (lev + 2) fT dT ["self", "piece"] (spYt ks cl C d)
  mE : Meth K C "end" fE
  bE : Binds K dE ["self"] []
  GE : FnOk P w K mg base CX0 (lev + 2) fE dE ["self"] (spYe ks cl C d)
end QL
namespace QL
open PySem L2
abbrev bmV : List Value := [.type "ValueError", .type "Exception", .type "BaseException", .type "object"]

structure EndK (K : PySem.W.Frag) (mg : Str → Option Value) (CE CL CS CU CN : Addr) : Prop where
  gE : mg "Ended" = some (.ref CE)
  gL : mg "LoomError" = some (.ref CL)
  gS : mg "Spoiled" = some (.ref CS)
  gU : mg "Untaught" = some (.ref CU)
  gN : mg "NoQuestion" = some (.ref CN)
  vE : mg "ValueError" = none
  ex : PySem.W.excIn K CE bmV "ValueError.__new__" = true
  tE : takesX K CE (.ref CE) = true
  tL : takesX K CE (.ref CL) = true
  get : excGet K CE = true
  iS : PySem.W.kitOne K (.ref CE) (.ref CS) = some false
  iU : PySem.W.kitOne K (.ref CE) (.ref CU) = some false
  iN : PySem.W.kitOne K (.ref CE) (.ref CN) = some false
  iV : PySem.W.kitOne K (.ref CE) (.type "ValueError") = some true

def WOx (C : Addr) (H : Hp) (wa : Addr) : Prop := ∃ (dx : Addr) (fs : List (Str × V)), H wa = some (.ins C dx fs) ∧ fs.lookup ("over" : Str) = some (.bl true) ∧ WNo fs
theorem WOv.ox {C : Addr} {H : Hp} {wa : Addr} (h : WOv C H wa) : WOx C H wa := by
  obtain ⟨dx, qo, te, fs, f, lo, h1, h2, _⟩ := h
  exact ⟨dx, fs, h1, h2.o, h2.no⟩
theorem WOx.keep {C : Addr} {H H' : Hp} {wa : Addr} (h : WOx C H wa) (k : ∀ o, H wa = some o → H' wa = some o) : WOx C H' wa := by
  obtain ⟨dx, fs, h1, h2⟩ := h
  exact ⟨dx, fs, k _ h1, h2⟩
def spXr (C CE : Addr) : Sp := fun vs H _ E => ∃ wa, vs = [.ref wa] ∧ WOx C H wa ∧ E (.ref CE) none H
def spXt (C CE : Addr) : Sp := fun vs H _ E => ∃ wa x, vs = [.ref wa, x] ∧ WOx C H wa ∧ E (.ref CE) none H
def spRd (C : Addr) : Sp := fun vs H Q _ => ∃ wa x, vs = [.ref wa, x] ∧ WOx C H wa ∧ ∀ H', Same H H' → Q (.bl true) H'
section
variable {P : Program} {w : World} {K : PySem.W.Frag} {mg : Str → Option Value} {base : Heap} {C CE CL CS CU CN : Addr}
theorem ok_xr {f : Addr} {fd : FuncData} (F : Fun K "refuse_if_over" "Watch.refuse_if_over" sYr f fd) (Y : WK K C) (N : EndK K mg CE CL CS CU CN) : FnOk P w K mg base (CX1 P w) 1 f fd ["self"] (spXr C CE) := by
  refine F.okX scYr (fun vs H Q E h => ?_) (fun cdv A outer s H vs Q E hr h => ?_)
  · obtain ⟨wa, rfl, _⟩ := h
    rfl
  · obtain ⟨wa, rfl, ⟨dx, fs, hw, ho, _⟩, k⟩ := h
    refine ⟨_, pss_one (ps_if (pt_val (pe_fld (pv 0) rfl)) (pss_one (ps_raise0 (by rfl) N.gE N.ex PySem.F.excBase_ValueError rfl throws_cx)) pss_nil), ?_⟩
    exact ⟨_, rfl, wa, _, dx, _, _, rfl, hw, Y.cls, Y.nO, ho, true, rfl, iteT k⟩
theorem ok_xt {f fR : Addr} {fd fdR : FuncData} (F : Fun K "take" "Watch.take" sYt f fd) (Y : WK K C) (N : EndK K mg CE CL CS CU CN)
    (FR : Fun K "refuse_if_over" "Watch.refuse_if_over" sYr fR fdR) (bR : Binds K fdR ["self"] []) (mR : Meth K C "refuse_if_over" fR) : FnOk P w K mg base (CX1 P w) 2 f fd ["self", "piece"] (spXt C CE) := by
  have GR : FnOk P w K mg base (CX1 P w) 1 fR fdR ["self"] (spXr C CE) := ok_xr FR Y N
  refine F.okX scYt (fun vs H Q E h => ?_) (fun cdv A outer s H vs Q E hr h => ?_)
  · obtain ⟨wa, x, rfl, _⟩ := h
    rfl
  · obtain ⟨wa, x, rfl, hO, k⟩ := h
    refine ⟨_, pss_cons (ps_expr (pe_meth0 (pv 0) Y.cls mR GR hr bR .nil pass1)) pss_never, ?_⟩
    obtain ⟨dx, fs, hw, ho, hn⟩ := id hO
    exact ⟨_, rfl, wa, dx, fs, rfl, hw, hn.2.2.1, wa, rfl, hO, k⟩
theorem ok_xe {f fR : Addr} {fd fdR : FuncData} (F : Fun K "end" "Watch.end" sYe f fd) (Y : WK K C) (N : EndK K mg CE CL CS CU CN)
    (FR : Fun K "refuse_if_over" "Watch.refuse_if_over" sYr fR fdR) (bR : Binds K fdR ["self"] []) (mR : Meth K C "refuse_if_over" fR) : FnOk P w K mg base (CX1 P w) 2 f fd ["self"] (spXr C CE) := by
  have GR : FnOk P w K mg base (CX1 P w) 1 fR fdR ["self"] (spXr C CE) := ok_xr FR Y N
  refine F.okX scYe (fun vs H Q E h => ?_) (fun cdv A outer s H vs Q E hr h => ?_)
  · obtain ⟨wa, rfl, _⟩ := h
    rfl
  · obtain ⟨wa, rfl, hO, k⟩ := h
    refine ⟨_, pss_cons (ps_expr (pe_meth0 (pv 0) Y.cls mR GR hr bR .nil pass1)) pss_never, ?_⟩
    obtain ⟨dx, fs, hw, ho, hn⟩ := id hO
    exact ⟨_, rfl, wa, dx, fs, rfl, hw, hn.2.2.1, wa, rfl, hO, k⟩
end
end QL
namespace QL
open PySem L2
section
variable {P : Program} {w : World} {K : PySem.W.Frag} {mg : Str → Option Value} {base : Heap} {C CE CL CS CU CN : Addr}
theorem scRd : FnScope ["_law_watch", "_law_piece", "_law_told", "e", "_law_based"] ["_law_watch", "_law_piece"] (defScope sRd) := ⟨rfl, rfl, rfl, by decide +kernel, rfl, by decide +kernel, by decide +kernel⟩
theorem ok_rd {f fR fT fE : Addr} {fd fdR fdT fdE : FuncData} (F : Fun K "_law_refused" "_law_refused" sRd f fd) (T : Txt mg) (Y : WK K C) (N : EndK K mg CE CL CS CU CN)
    (FR : Fun K "refuse_if_over" "Watch.refuse_if_over" sYr fR fdR) (bR : Binds K fdR ["self"] []) (mR : Meth K C "refuse_if_over" fR)
    (FT : Fun K "take" "Watch.take" sYt fT fdT) (bT : Binds K fdT ["self", "piece"] []) (mT : Meth K C "take" fT)
    (FE : Fun K "end" "Watch.end" sYe fE fdE) (bE : Binds K fdE ["self"] []) (mE : Meth K C "end" fE) : FnOk P w K mg base CX0 3 f fd ["_law_watch", "_law_piece"] (spRd C) := by
  have GT : FnOk P w K mg base (CX1 P w) 2 fT fdT ["self", "piece"] (spXt C CE) := ok_xt FT Y N FR bR mR
  have GE : FnOk P w K mg base (CX1 P w) 2 fE fdE ["self"] (spXr C CE) := ok_xe FE Y N FR bR mR
  refine F.ok scRd (fun vs H Q E h => ?_) (fun cdv A outer s H vs Q E hr h => ?_)
  · obtain ⟨wa, x, rfl, _⟩ := h
    rfl
  · obtain ⟨wa, x, rfl, hO, k⟩ := h
    have hu := hr.units
    refine ⟨_, pss_cons (ps_set (i := 2) scRd.nd rfl (Or.inl rfl) (pe_lst pa_nil))
      (pss_cons (ps_try (i := 3) ⟨rfl, rfl⟩ scRd.nd rfl rfl ⟨by rfl, by decide, .inl N.gE⟩ (pssx_one (psx_expr (pex_meth (pv 0) Y.cls mT GT hr bT .nil (pa_cons (pv 1) pa_nil))))
        (fun a => pss_one (ps_expr (pe_bm PySem.F.plainAttrs_list PySem.F.slot_list_append PySem.F.type_list_append mt_append (pv 2) (pa_cons
          (pe_or (pe_callB call_isinstX (by rfl) T.isin PyProof.Rows.boot_isinstance (pa_cons (pv 3) (pa_cons (pe_glob (v := .ref CS) (by rfl) N.gS rfl) pa_nil)))
          (pe_or (pe_callB call_isinstX (by rfl) T.isin PyProof.Rows.boot_isinstance (pa_cons (pv 3) (pa_cons (pe_glob (v := .ref CU) (by rfl) N.gU rfl) pa_nil)))
          (pe_one (pe_callB call_isinstX (by rfl) T.isin PyProof.Rows.boot_isinstance (pa_cons (pv 3) (pa_cons (pe_glob (v := .ref CN) (by rfl) N.gN rfl) pa_nil)))))) pa_nil)))))
      (pss_cons (ps_try (i := 3) ⟨rfl, rfl⟩ scRd.nd rfl rfl ⟨by rfl, by decide, .inl N.gE⟩ (pssx_one (psx_expr (pex_meth0 (pv 0) Y.cls mE GE hr bE .nil)))
        (fun a => pss_one (ps_expr (pe_bm PySem.F.plainAttrs_list PySem.F.slot_list_append PySem.F.type_list_append mt_append (pv 2) (pa_cons
          (pe_or (pe_callB call_isinstX (by rfl) T.isin PyProof.Rows.boot_isinstance (pa_cons (pv 3) (pa_cons (pe_glob (v := .ref CS) (by rfl) N.gS rfl) pa_nil)))
          (pe_or (pe_callB call_isinstX (by rfl) T.isin PyProof.Rows.boot_isinstance (pa_cons (pv 3) (pa_cons (pe_glob (v := .ref CU) (by rfl) N.gU rfl) pa_nil)))
          (pe_one (pe_callB call_isinstX (by rfl) T.isin PyProof.Rows.boot_isinstance (pa_cons (pv 3) (pa_cons (pe_glob (v := .ref CN) (by rfl) N.gN rfl) pa_nil)))))) pa_nil)))))
      (pss_cons (ps_set (i := 4) scRd.nd rfl (Or.inl rfl) pe_bl)
      (pss_cons (ps_try (i := 3) ⟨rfl, rfl⟩ scRd.nd rfl rfl ⟨by rfl, by decide, .inl N.gL⟩ (pssx_one (psx_expr (pex_meth (pv 0) Y.cls mT GT hr bT .nil (pa_cons (pv 1) pa_nil))))
        (fun a => pss_one (ps_set (i := 4) scRd.nd rfl (Or.inl rfl) (pe_callB call_isinstX (by rfl) T.isin PyProof.Rows.boot_isinstance (pa_cons (pv 3) (pa_cons (pe_bltn (v := .ty "ValueError") (by rfl) N.vE rfl rfl) pa_nil))))))
      (pss_one (ps_ret (pe_and (pe_cmpR (op_eqD hu) (pv 2) (pe_lst (pa_cons pe_bl (pa_cons pe_bl pa_nil))) (nomark _)) (pe_one (pv 4))))))))), ?_⟩
    refine ⟨(by show 0 ≤ sizeLine; decide), fun l hl => ?_⟩
    obtain ⟨dx, fs, hw, ho, hn⟩ := id hO
    have s1 := (Same.refl H).upd_free (o := .lst []) hl
    have g1 : upd H l (.lst []) l = some (.lst []) := upd_same
    generalize upd H l (.lst []) = H1 at s1 g1
    refine ⟨_, rfl, wa, dx, fs, rfl, s1 _ _ hw, hn.1, _, rfl, wa, x, rfl, hO.keep fun o e => s1 _ _ e, CE, rfl, N.tE, fun e1 he1 => ?_⟩
    have s2 := (Same.refl H1).upd_free (o := .ext (ExcAt e1 CE none)) he1
    have g2 : upd H1 e1 (.ext (ExcAt e1 CE none)) e1 = some (.ext (ExcAt e1 CE none)) := upd_same
    generalize upd H1 e1 (.ext (ExcAt e1 CE none)) = H2 at s2 g2
    refine ⟨_, rfl, .inl ⟨rfl, _, SqL.of (s2 _ _ g1)⟩, _, rfl, e1, .ref CS, CE, false, rfl, g2, N.get, N.iS, false, rfl, iteF ⟨_, rfl, e1, .ref CU, CE, false, rfl, g2, N.get, N.iU, false, rfl, iteF ⟨_, rfl, e1, .ref CN, CE, false, rfl, g2, N.get, N.iN, l, [], .bl false, rfl, rfl, s2 _ _ g1, by decide, ?_⟩⟩⟩
    have s3 : Same H (upd H2 l (.lst ([] ++ [V.bl false]))) := (s1.trans s2).upd_free hl
    have g3 : upd H2 l (.lst ([] ++ [V.bl false])) l = some (.lst [V.bl false]) := upd_same
    generalize upd H2 l (.lst ([] ++ [V.bl false])) = H3 at s3 g3
    refine ⟨_, rfl, wa, dx, fs, rfl, s3 _ _ hw, hn.2.1, wa, rfl, hO.keep fun o e => s3 _ _ e, CE, rfl, N.tE, fun e2 he2 => ?_⟩
    have s4 := (Same.refl H3).upd_free (o := .ext (ExcAt e2 CE none)) he2
    have g4 : upd H3 e2 (.ext (ExcAt e2 CE none)) e2 = some (.ext (ExcAt e2 CE none)) := upd_same
    generalize upd H3 e2 (.ext (ExcAt e2 CE none)) = H4 at s4 g4
    refine ⟨_, rfl, .inl ⟨rfl, _, SqL.of (s4 _ _ g3)⟩, _, rfl, e2, .ref CS, CE, false, rfl, g4, N.get, N.iS, false, rfl, iteF ⟨_, rfl, e2, .ref CU, CE, false, rfl, g4, N.get, N.iU, false, rfl, iteF ⟨_, rfl, e2, .ref CN, CE, false, rfl, g4, N.get, N.iN, l, [V.bl false], .bl false, rfl, rfl, s4 _ _ g3, by (show 1 < sizeLine); decide, ?_⟩⟩⟩
    have s5 : Same H (upd H4 l (.lst ([V.bl false] ++ [V.bl false]))) := (s3.trans s4).upd_free hl
    have g5 : upd H4 l (.lst ([V.bl false] ++ [V.bl false])) l = some (.lst [V.bl false, V.bl false]) := upd_same
    generalize upd H4 l (.lst ([V.bl false] ++ [V.bl false])) = H5 at s5 g5
    refine ⟨_, rfl, wa, dx, fs, rfl, s5 _ _ hw, hn.1, _, rfl, wa, x, rfl, hO.keep fun o e => s5 _ _ e, CE, rfl, N.tL, fun e3 he3 => ?_⟩
    have s6 := (Same.refl H5).upd_free (o := .ext (ExcAt e3 CE none)) he3
    have g6 : upd H5 e3 (.ext (ExcAt e3 CE none)) e3 = some (.ext (ExcAt e3 CE none)) := upd_same
    generalize upd H5 e3 (.ext (ExcAt e3 CE none)) = H6 at s6 g6
    refine ⟨_, rfl, e3, .ty "ValueError", CE, true, rfl, g6, N.get, N.iV, ?_⟩
    refine ⟨_, rfl, (by show 2 ≤ sizeLine; decide), fun l2 hl2 => ?_⟩
    have s7 := (Same.refl H6).upd_free (o := .lst [V.bl false, V.bl false]) hl2
    have g7 : upd H6 l2 (.lst [V.bl false, V.bl false]) l2 = some (.lst [V.bl false, V.bl false]) := upd_same
    generalize upd H6 l2 (.lst [V.bl false, V.bl false]) = H7 at s7 g7
    have s57 := s6.trans s7
    have ok : DOk (.list [.bool false, .bool false]) := ⟨by decide, by decide⟩
    refine ⟨.list [.bool false, .bool false], .list [.bool false, .bool false], .lst (SqL.of (s57 _ _ g5)) (.cons (.bl false) (.cons (.bl false) .nil)), .lst (SqL.of g7) (.cons (.bl false) (.cons (.bl false) .nil)), ok, ok, true, (by first | rfl | decide), iteT ⟨_, rfl, k _ (s5.trans s57)⟩⟩
end
end QL
namespace QL
open PySem L2
def spLaw (K : PySem.W.Frag) : Sp := fun vs H Q _ => ∃ (a : Addr) (ns : List Int), vs = [.ref a] ∧ SqL K H a (ns.map V.int) ∧ ns.length ≤ 63 ∧ ∀ H', Q (.bl true) H'
theorem cut_to0 (qs : List Addr) (k : Nat) (h : k ≤ qs.length) : cutV (qs.map V.ref) none (some (k : Int)) = (qs.take k).map V.ref := by
  unfold cutV
  rw [HT.sIx_nat, HT.sIx_none, List.length_map, Nat.min_eq_left h, List.drop_zero, Nat.sub_zero, List.map_take]
theorem WOv.kept {C : Addr} {H H' : Hp} {wa wb : Addr} (k : Kept H H' wb) (n : wa ≠ wb) {C' dx' : Addr} {fs' : List (Str × V)} (hb : H wb = some (.ins C' dx' fs')) (h : WOv C H wa) : WOv C H' wa := by
  obtain ⟨dx, qo, te, fs, f, lo, h1, h2, h3⟩ := h
  exact ⟨dx, qo, te, fs, f, lo, k _ _ h1 n, h2, k _ _ h3 fun z => by rw [z, hb] at h3; cases h3⟩
theorem WOv.same {C : Addr} {H H' : Hp} {wa : Addr} (s : Same H H') (h : WOv C H wa) : WOv C H' wa := by
  obtain ⟨dx, qo, te, fs, f, lo, h1, h2, h3⟩ := h
  exact ⟨dx, qo, te, fs, f, lo, s _ _ h1, h2, s _ _ h3⟩
theorem _root_.L2.Same.none {H H' : Hp} (s : Same H H') {b : Addr} (h : H' b = none) : H b = none := by
  cases e : H b with
  | none => rfl
  | some o => rw [s _ _ e] at h; cases h
theorem WSt.at_ {C : Addr} {H : Hp} {wa : Addr} {q : Qn} {qo : Addr} {qs : List Addr} (h : WSt C H wa q qo qs) : ∃ dx fs, H wa = some (.ins C dx fs) ∧ WNo fs := by
  obtain ⟨dx, te, fs, h1, h2, h3⟩ := h
  exact ⟨dx, fs, h1, h2.no⟩
theorem WOv.at_ {C : Addr} {H : Hp} {wa : Addr} (h : WOv C H wa) : ∃ dx te fs, H wa = some (.ins C dx fs) ∧ WNo fs ∧ fs.lookup ("entries" : Str) = some (.ref te) ∧ H te = some (.tup []) := by
  obtain ⟨dx, qo, te, fs, f, lo, h1, h2, h3⟩ := h
  exact ⟨dx, te, fs, h1, h2.no, h2.e, h3⟩
section
variable {P : Program} {w : World} {K : PySem.W.Frag} {mg : Str → Option Value} {base : Heap} {cl : Kd → Addr} {C fI fT fE2 : Addr} {dI dT dE2 : FuncData}
abbrev nLaw : List Str := ["_law_script", "_law_pool_here", "_law_letters_here", "_law_log_here", "_law_asked", "_law_question", "_law_most", "_law_due", "_law_at", "_law_watch", "_law_other", "_law_answers", "_law_piece", "_law_third"]
theorem scLaw : FnScope nLaw ["_law_script"] (defScope sLaw) := ⟨rfl, rfl, rfl, by decide +kernel, rfl, by decide +kernel, by decide +kernel⟩
def scopeC : Scope := { kind := .function, names := [(".0", .local), ("_law_k", .local), ("_law_cell_at", .globalImplicit), ("_law_script", .free)], isGenerator := false, isCoroutine := false, more := [] }
theorem scC : BlkScope (defScope sLaw) nLaw ["_law_k"] ["_law_script"] [0] scopeC := ⟨rfl, by decide +kernel, by decide +kernel, by decide +kernel, rfl, by decide +kernel, by decide +kernel⟩
theorem ok_law {f fC fM fP fL fE fG fCo fSh fNr fGw fBu fRi fWi fHi fAi fTi fJi fNi fWk fRd fYk : Addr} {fd dC dM dP dL dE dG dCo dSh dNr dGw dBu dRi dWi dHi dAi dTi dJi dNi dWk dRd dYk : FuncData} (F : Fun K "law" "law" sLaw f fd) (T : Txt mg) (TB : Tab P w K mg base ks cl 5 8)
    (M4 : Mk4 P w K mg base cl fRi fWi fHi fAi dRi dWi dHi dAi) (M5 : Mk5 P w K mg base cl fTi fJi fNi dTi dJi dNi) (WW : WM P w K mg base ks cl C 5 8 fI fT fE2 dI dT dE2)
    (FYk : Fun K "kept" "Watch.kept" sYk fYk dYk) (bYk : Binds K dYk ["self"] []) (mYk : Meth K C "kept" fYk)
    (GRd : FnOk P w K mg base CX0 3 fRd dRd ["_law_watch", "_law_piece"] (spRd C))
    (FC : Fun K "_law_cell_at" "_law_cell_at" sCe fC dC) (bC : Binds K dC ["_law_script", "_law_k"] []) (gC : mg "_law_cell_at" = some (.ref fC))
    (FM : Fun K "_law_mix" "_law_mix" sMi fM dM) (bM : Binds K dM ["_law_cell", "_law_k"] []) (gM : mg "_law_mix" = some (.ref fM))
    (FP : Fun K "_law_pool" "_law_pool" sPo fP dP) (bP : Binds K dP ["_law_cell", "_law_other"] []) (gP : mg "_law_pool" = some (.ref fP))
    (FL : Fun K "_law_letters" "_law_letters" sLe fL dL) (bL : Binds K dL ["_law_cell"] []) (gL : mg "_law_letters" = some (.ref fL))
    (FE : Fun K "_law_entry" "_law_entry" sEn fE dE) (bE : Binds K dE ["_law_cell", "_law_letters_here", "_law_pool_here"] []) (gE : mg "_law_entry" = some (.ref fE))
    (FG : Fun K "_law_log" "_law_log" sLg fG dG) (bG : Binds K dG ["_law_script", "_law_letters_here", "_law_pool_here"] []) (gG : mg "_law_log" = some (.ref fG))
    (FCo : Fun K "_law_count" "_law_count" sCo fCo dCo) (bCo : Binds K dCo ["_law_cell", "_law_k"] []) (gCo : mg "_law_count" = some (.ref fCo))
    (FSh : Fun K "_law_short" "_law_short" sSh fSh dSh) (bSh : Binds K dSh ["_law_cell", "_law_letters_here", "_law_pool_here"] []) (gSh : mg "_law_short" = some (.ref fSh))
    (FNr : Fun K "_law_nearer" "_law_nearer" sNr fNr dNr) (bNr : Binds K dNr ["_law_asked", "_law_within"] []) (gNr : mg "_law_nearer" = some (.ref fNr))
    (FGw : Fun K "_law_grown" "_law_grown" sGw fGw dGw) (bGw : Binds K dGw ["_law_cells", "_law_letters_here", "_law_pool_here", "_law_within"] []) (gGw : mg "_law_grown" = some (.ref fGw))
    (FBu : Fun K "_law_built" "_law_built" sBu fBu dBu) (bBu : Binds K dBu ["_law_asked"] []) (gBu : mg "_law_built" = some (.ref fBu))
    (FWk : Fun K "walked" "walked" sWk fWk dWk) (bWk : Binds K dWk ["question", "log"] []) (gWk : mg "walked" = some (.ref fWk))
    (FRd : Fun K "_law_refused" "_law_refused" sRd fRd dRd) (bRd : Binds K dRd ["_law_watch", "_law_piece"] []) (gRd : mg "_law_refused" = some (.ref fRd)) :
    FnOk P w K mg base CX0 11 f fd ["_law_script"] (spLaw K) := by
  have GC : FnOk P w K mg base CX0 1 fC dC ["_law_script", "_law_k"] (spCe K) := ok_ce FC T
  have GP : FnOk P w K mg base CX0 2 fP dP ["_law_cell", "_law_other"] spPo := ok_po FP T FM bM gM
  have GL : FnOk P w K mg base CX0 1 fL dL ["_law_cell"] spLe := ok_le FL
  have GG : FnOk P w K mg base CX0 3 fG dG ["_law_script", "_law_letters_here", "_law_pool_here"] (spLg K) := ok_lg FG T FM bM gM FE bE gE
  have GGw : FnOk P w K mg base CX0 8 fGw dGw ["_law_cells", "_law_letters_here", "_law_pool_here", "_law_within"] (spGw 5) := ok_gw FGw bGw gGw FM bM gM FCo bCo gCo FSh bSh gSh FNr bNr gNr 5
  have GBu : FnOk P w K mg base CX0 8 fBu dBu ["_law_asked"] (spBu cl 5) := ok_bu FBu bBu gBu M4 M5 5
  have GWk : FnOk P w K mg base CX0 9 fWk dWk ["question", "log"] (spWk ks cl 5) := ok_wk FWk T TB
  have GYk : FnOk P w K mg base CX0 1 fYk dYk ["self"] (spYk C) := ok_yk FYk T WW.Y
  refine F.ok scLaw (fun vs H Q E h => ?_) (fun cdv A outer s H vs Q E hr h => ?_)
  · obtain ⟨a, ns, rfl, _⟩ := h
    rfl
  · obtain ⟨a, ns, rfl, hS, hln, k⟩ := h
    have hu := hr.units
    have hr1 : Room 1 _ := hr.mono (by decide)
    have hr2 : Room 2 _ := hr.mono (by decide)
    have hr3 : Room 3 _ := hr.mono (by decide)
    have hr8 : Room 8 _ := hr.mono (by decide)
    have hr9 : Room 9 _ := hr.mono (by decide)
    refine ⟨_, pss_cons (ps_set (i := 1) scLaw.nd rfl (Or.inl rfl) (pe_call GP hr2 rfl gP FP.kp bP .nil pass0 (pa_cons (pe_call GC hr1 rfl gC FC.kp bC .nil pass0 (pa_cons (pv 0) (pa_cons pe_int pa_nil))) (pa_cons (pe_call GC hr1 rfl gC FC.kp bC .nil pass0 (pa_cons (pv 0) (pa_cons pe_int pa_nil))) pa_nil))))
      (pss_cons (ps_set (i := 2) scLaw.nd rfl (Or.inl rfl) (pe_call GL hr1 rfl gL FL.kp bL .nil pass0 (pa_cons (pe_call GC hr1 rfl gC FC.kp bC .nil pass0 (pa_cons (pv 0) (pa_cons pe_int pa_nil))) pa_nil)))
      (pss_cons (ps_set (i := 3) scLaw.nd rfl (Or.inl rfl) (pe_call GG hr3 rfl gG FG.kp bG .nil pass0 (pa_cons (pv 0) (pa_cons (pv 2) (pa_cons (pv 1) pa_nil)))))
      (pss_cons (ps_set (i := 4) scLaw.nd rfl (Or.inl rfl) (pe_call GGw hr8 rfl gGw FGw.kp bGw .nil pass0 (pa_cons (pe_lc scC rfl rfl rfl (pi_range1 rfl T.range (pa_cons pe_int pa_nil)) (fun fp C s1 H1 => pg_name (i := 0) scC.nd rfl (Or.inl rfl)) (fun fp C s1 H1 => pts_nil)
        (fun fp C s1 H1 => pe_call GC hr1 rfl gC FC.kp bC .nil pass0 (pa_cons (pv 1) (pa_cons (pe_op op_add pe_int (pv 0)) pa_nil)))) (pa_cons (pv 2) (pa_cons (pv 1) (pa_cons pe_bl pa_nil))))))
      (pss_cons (ps_set (i := 5) scLaw.nd rfl (Or.inl rfl) (pe_call GBu hr8 rfl gBu FBu.kp bBu .nil pass0 (pa_cons (pv 4) pa_nil)))
      (pss_cons (ps_set (i := 6) scLaw.nd rfl (Or.inl rfl) (pe_op op_add (pe_methD0 (CX := CX0) (pv 5) hr8 pass0) (pe_methD0 (CX := CX0) (pv 5) hr8 pass0)))
      (pss_cons (ps_set (i := 7) scLaw.nd rfl (Or.inl rfl) (pe_callTy call_list_of (by rfl) T.list PyProof.Rows.boot_list (pa_cons (pe_call GWk hr9 rfl gWk FWk.kp bWk .nil pass0 (pa_cons (pv 5) (pa_cons (pv 3) pa_nil))) pa_nil)))
      (pss_cons (ps_set (i := 8) scLaw.nd rfl (Or.inl rfl) (pe_op op_mod (pe_call GC hr1 rfl gC FC.kp bC .nil pass0 (pa_cons (pv 0) (pa_cons pe_int pa_nil))) (pe_op op_add (pe_callB call_len_seq (by rfl) T.len PySem.boot_len (pa_cons (pv 3) pa_nil)) pe_int)))
      (pss_cons (ps_set (i := 9) scLaw.nd rfl (Or.inl rfl) (pe_make WW.mW WW.GI hr2 rfl WW.gI WW.bI .nil pass0 (pa_cons (pv 5) pa_nil)))
      (pss_cons (ps_set (i := 10) scLaw.nd rfl (Or.inl rfl) (pe_make WW.mW WW.GI hr2 rfl WW.gI WW.bI .nil pass0 (pa_cons (pv 5) pa_nil)))
      (pss_cons (ps_set (i := 11) scLaw.nd rfl (Or.inl rfl) (pe_callTy call_list_of (by rfl) T.list PyProof.Rows.boot_list (pa_cons (pe_meth (pv 10) WW.Y.cls WW.mT WW.GT hr WW.bT .nil pass0 (pa_cons (pe_slice sl_tupA (pv 3) po_none (po_some (pv 8))) pa_nil)) pa_nil)))
      (pss_cons (ps_cut (ps_if (pt_cmpR op_gt (pe_op op_mod (pe_call GC hr1 rfl gC FC.kp bC .nil pass0 (pa_cons (pv 0) (pa_cons pe_int pa_nil))) pe_int) pe_int (nomark _)) (pss_cons (ps_expr (pe_meth (pv 9) WW.Y.cls WW.mT WW.GT hr WW.bT .nil pass0 (pa_cons (pe_slice sl_tupA (pv 3) po_none (po_some (pv 8))) pa_nil))) (pss_one (ps_expr (pe_meth (pv 9) WW.Y.cls WW.mT WW.GT hr WW.bT .nil pass0 (pa_cons (pe_slice sl_tupA (pv 3) (po_some (pv 8)) po_none) pa_nil))))) pss_nil))
      (pss_cons (ps_expr (pe_meth0 (pv 9) WW.Y.cls WW.mE WW.GE hr WW.bE .nil pass0))
      (pss_cons (ps_set (i := 12) scLaw.nd rfl (Or.inl rfl) (pe_slice sl_tupA (pv 3) po_none (po_some (pe_op op_mod (pe_call GC hr1 rfl gC FC.kp bC .nil pass0 (pa_cons (pv 0) (pa_cons pe_int pa_nil))) pe_int))))
      (pss_cons (ps_if (PW.pt (pw_or (pt_not (pt_val (pe_call GRd hr3 rfl gRd FRd.kp bRd .nil pass0 (pa_cons (pv 9) (pa_cons (pv 12) pa_nil))))) (pw_or1 (pt_not (pt_chain op_le op_le pe_int (pe_meth0 (pv 9) WW.Y.cls mYk GYk hr1 bYk .nil pass0) (pv 6)))))) (pss_one (ps_ret pe_bl)) pss_nil)
      (pss_cons (ps_set (i := 13) scLaw.nd rfl (Or.inl rfl) (pe_make WW.mW WW.GI hr2 rfl WW.gI WW.bI .nil pass0 (pa_cons (pv 5) pa_nil)))
      (pss_cons (ps_set (i := 11) scLaw.nd rfl (Or.inl rfl) (pe_op op_catL (pe_op op_catL (pv 11) (pe_callTy call_list_of (by rfl) T.list PyProof.Rows.boot_list (pa_cons (pe_meth (pv 10) WW.Y.cls WW.mT WW.GT hr WW.bT .nil pass0 (pa_cons (pe_slice sl_tupA (pv 3) (po_some (pv 8)) po_none) pa_nil)) pa_nil))) (pe_callTy call_list_of (by rfl) T.list PyProof.Rows.boot_list (pa_cons (pe_meth0 (pv 10) WW.Y.cls WW.mE WW.GE hr WW.bE .nil pass0) pa_nil))))
      (pss_cons (ps_if (PW.pt (pw_or (pt_cmpR (op_neD hu) (pv 11) (pv 7) (nomark _)) (pw_or1 (pt_cmpR (op_neD hu) (pe_op op_catL (pe_callTy call_list_of (by rfl) T.list PyProof.Rows.boot_list (pa_cons (pe_meth (pv 13) WW.Y.cls WW.mT WW.GT hr WW.bT .nil pass0 (pa_cons (pv 3) pa_nil)) pa_nil)) (pe_callTy call_list_of (by rfl) T.list PyProof.Rows.boot_list (pa_cons (pe_meth0 (pv 13) WW.Y.cls WW.mE WW.GE hr WW.bE .nil pass0) pa_nil))) (pv 7) (nomark _))))) (pss_one (ps_ret pe_bl)) pss_nil)
      (pss_one (ps_ret (pe_and (pe_call GRd hr3 rfl gRd FRd.kp bRd .nil pass0 (pa_cons (pv 9) (pa_cons (pv 12) pa_nil))) (pe_and (pe_call GRd hr3 rfl gRd FRd.kp bRd .nil pass0 (pa_cons (pv 10) (pa_cons (pe_tup pa_nil) pa_nil))) (pe_one (pe_chain op_le op_le pe_int (pe_meth0 (pv 9) WW.Y.cls mYk GYk hr1 bYk .nil pass0) (pv 6)))))))))))))))))))))))), ?_⟩
    -- the log
    refine ⟨_, rfl, a, ns, 0, rfl, hS, by omega, by decide, by decide, fun c0 H1 s1 => ?_⟩
    refine ⟨_, rfl, a, ns, 1, rfl, s1.seq hS, by omega, by decide, by decide, fun c1 H2 s2 => ?_⟩
    refine ⟨c0, c1, rfl, fun po ws H3 s3 hpo wl wt => ?_⟩
    have t3 : Same H H3 := (s1.trans s2).trans s3
    refine ⟨_, rfl, a, ns, 2, rfl, t3.seq hS, by omega, by decide, by decide, fun c2 H4 s4 => ?_⟩
    refine ⟨c2, rfl, fun le ls H5 s5 hle ll lb => ?_⟩
    have t5 : Same H3 H5 := s4.trans s5
    refine ⟨_, rfl, _, rfl, _, rfl, a, le, po, ns, ls, ws, rfl, (t3.trans t5).seq hS, hln, hle, ll, lb, t5 _ _ hpo, wl, wt, fun t es H6 s6 L el eok => ?_⟩
    have t6 : Same H H6 := (t3.trans t5).trans s6
    have hS6 := t6.seq hS
    have hle6 := s6 _ _ hle
    have hpo6 := s6 _ _ (t5 _ _ hpo)
    -- the cells
    refine ⟨_, rfl, by decide, by decide, fun D hD => ?_⟩
    refine lc_range (lo := 0) (n := (3 : Int).toNat) (fun j ys H7 => Same H6 H7 ∧ ∃ cs : List Int, ys = cs.map V.int ∧ cs.length = j ∧ H7 D = some (.lst ys)) (by decide) ⟨(Same.refl H6).upd_free hD, [], rfl, rfl, upd_same⟩
      (fun j ys H7 ⟨_, cs, h1, h2, _⟩ => by rw [h1, List.length_map, h2]; exact Nat.le_refl _) ?_ ?_
    · rintro j ys H7 N M hj ⟨u1, cs, rfl, rfl, hD7⟩ hN hM
      refine ⟨_, rfl, _, rfl, _, _, rfl, rfl, a, ns, _, rfl, u1.seq hS6, by omega, by omega, by omega, fun z H8 u8 => ?_⟩
      exact hN _ H8 (u8 _ _ hD7) ⟨(u1.trans u8).upd_free hD, cs ++ [z], by rw [List.map_append]; rfl, by rw [List.length_append]; rfl, upd_same⟩
    rintro ys H7 ⟨u7, cs, rfl, hcl, hD7⟩
    have nDa : D ≠ le := fun z => by
      rw [z, hle6] at hD
      cases hD
    have nDb : D ≠ po := fun z => by
      rw [z, hpo6] at hD
      cases hD
    refine ⟨_, rfl, _, rfl, D, le, po, false, cs, ls, ws, rfl, hD7, by omega, by omega, by omega, nDa, nDb, u7 _ _ hle6, ll, u7 _ _ hpo6, wl, wt, fun p q cs' H8 kp8 hD8 lt8 hp hd hok => ?_⟩
    have hd5 : q.dep < 5 := by omega
    have L8 : LogAt H8 t es := (L.same u7).tsame (kp8.tups hD7)
    have iq := all_in q
    -- the question
    refine ⟨_, rfl, p, q, rfl, hp, hd5, fun o H9 s9 hq9 => ?_⟩
    have L9 := L8.same s9
    have hb0 := back_pos hok
    have ho0 := on_pos hok
    have hbb : ((bkN q : Nat) : Int) = backM q := Int.toNat_of_nonneg hb0
    have hoo : ((onN q : Nat) : Int) = onM q := Int.toNat_of_nonneg ho0
    have e63 : es.length ≤ 63 := by omega
    -- how far it looks
    obtain ⟨b1, b2, b3, b4, b5, b6, b7, b8, b9, b10⟩ := TB.back hq9 iq
    obtain ⟨c1, c2', c3, c4, c5, c6, c7', c8', c9, c10⟩ := TB.on hq9 iq
    refine ⟨_, rfl, o, _, b1, b2, b3, b4, _, _, rfl, b5, b6, b7, b8, b9, b10, o, q, rfl, rfl, hd5, iq, hq9, _, rfl, o, _, c1, c2', c3, c4, _, _, rfl, c5, c6, c7', c8', c9, c10, o, q, rfl, rfl, hd5, iq, hq9, _, _, rfl, rfl, ?_⟩
    show gName 6 (V.int (backM q + onM q)) _ H9 _
    -- what is due
    refine ⟨_, rfl, _, rfl, o, t, q, es, rfl, hd5, hok, iq, hq9, L9, e63, fun pw uw H10 s10 hpw hAw => ?_⟩
    refine ⟨pw, _, rfl, .inr (SqT.of hpw), fun ld hld => ?_⟩
    have s11 := (Same.refl H10).upd_free (o := .lst uw) hld
    have g11 : upd H10 ld (.lst uw) ld = some (.lst uw) := upd_same
    generalize upd H10 ld (.lst uw) = H11 at s11 g11
    have t11 := s10.trans s11
    have hA11 := hAw.tsame s11.tups
    obtain ⟨qs, ht9, hE9⟩ := L9
    have hq11 := QAt.same t11 hq9
    have hE11 := hE9.tsame t11.tups
    have ht11 := t11 _ _ ht9
    have hel : qs.length = es.length := hE9.1
    have hS9 : SqL K H9 a (ns.map V.int) := s9.seq ((kp8.base u7 hD).seq hS6)
    refine ⟨_, rfl, a, ns, 6, rfl, t11.seq hS9, by omega, by decide, by decide, fun c6 H12 s12 => ?_⟩
    refine ⟨_, rfl, t, _, rfl, .inr (SqT.of (s12 _ _ ht11)), _, _, rfl, rfl, _, _, rfl, rfl, (by show (0 : Int) < ((qs.map V.ref).length : Int) + 1; omega), ?_⟩
    obtain ⟨m, hm1, hm2⟩ : ∃ m : Nat, c6 % (((qs.map V.ref).length : Int) + 1) = (m : Int) ∧ m ≤ qs.length := by
      have h1 : (qs.map V.ref).length = qs.length := List.length_map ..
      have h2 := Int.emod_nonneg c6 (b := ((qs.map V.ref).length : Int) + 1) (by omega)
      have h3 := Int.emod_lt_of_pos c6 (b := ((qs.map V.ref).length : Int) + 1) (by omega)
      exact ⟨(c6 % (((qs.map V.ref).length : Int) + 1)).toNat, by omega, by omega⟩
    show gName 8 (V.int (c6 % (((qs.map V.ref).length : Int) + 1))) _ H12 _
    rw [hm1]
    have hSb : SqL K H12 a (ns.map V.int) := (t11.trans s12).seq hS9
    have hqb := QAt.same s12 hq11
    have hEb := hE11.tsame s12.tups
    have htb := s12 _ _ ht11
    have gdb := s12 _ _ g11
    have hAb := hA11.tsame s12.tups
    have hEm : ∀ H', Same H12 H' → EntsAt H' ([] ++ qs.take m) (es.take m) := fun H' s' => (ents_pre (hEb.tsame s'.tups) m)
    have hEf : ∀ H', Same H12 H' → EntsAt H' (qs.take m ++ qs.drop m) es := fun H' s' => by rw [List.take_append_drop]; exact hEb.tsame s'.tups
    have hml : (es.take m).length = m := by rw [List.length_take]; omega
    have htk : (qs.take m).length = m := by rw [List.length_take]; omega
    have hz : ([] : List Addr).length - onN q = 0 := by show 0 - onN q = 0; omega
    -- two watches
    refine ⟨_, rfl, fun x dx nx ndx nex => ?_⟩
    refine ⟨x, dx, o, rfl, upd_same, fun H13 hWx kp13 => ⟨rfl, ?_⟩⟩
    have s13 : Same H12 H13 := (Old.new (C := C) (fs := []) nx ndx).then kp13
    have hWx13 := hWx q
    refine ⟨_, rfl, fun y dy ny ndy ney => ?_⟩
    refine ⟨y, dy, o, rfl, upd_same, fun H14 hWy kp14 => ⟨rfl, ?_⟩⟩
    have s14 : Same H13 H14 := (Old.new (C := C) (fs := []) ny ndy).then kp14
    have hWy14 := hWy q
    have hWx14 := hWx13.same s14
    have sB14 := s13.trans s14
    have nyB : H12 y = none := s13.none ny
    have nxy : x ≠ y := fun z => by
      obtain ⟨_, _, e, _⟩ := hWx13.at_
      rw [z, ny] at e
      cases e
    -- the other one takes the first part
    obtain ⟨dy1, fy1, y1, y1n⟩ := hWy14.at_
    refine ⟨_, rfl, y, dy1, fy1, rfl, y1, y1n.1, _, rfl, _, rfl, _, rfl, t, _, rfl, sB14 _ _ htb, fun pa H15 s15 hpa => ?_⟩
    rw [cut_to0 qs m hm2] at hpa
    have sB15 := sB14.trans s15
    refine ⟨y, pa, o, [], qs.take m, es.take m, q, rfl, hWy14.same s15, QAt.same sB15 hqb, hd5, hok, iq, hpa, hEm _ sB15, by omega, fun p1 us1 H16 kp16 hp1 hA1 hWy16 => ?_⟩
    rw [hml, hz, ans_pre hok (by omega) (by omega)] at hA1
    have sB16 : Same H12 H16 := kp16.base sB15 nyB
    have hWx16 := (hWx14.same s15).kept kp16 nxy (s15 _ _ y1)
    refine ⟨p1, _, rfl, .inr (SqT.of hp1), fun l1 hl1 => ?_⟩
    have s17 := (Same.refl H16).upd_free (o := .lst us1) hl1
    have g17 : upd H16 l1 (.lst us1) l1 = some (.lst us1) := upd_same
    generalize upd H16 l1 (.lst us1) = H17 at s17 g17
    have sB17 := sB16.trans s17
    have hA17 := hA1.tsame s17.tups
    have hWx17 := hWx16.same s17
    have hWy17 := hWy16.same s17
    rw [List.nil_append] at hWy17
    -- the first one takes all, or nothing
    refine ⟨fun σ' H' => σ' = [some (.ref a), some (.ref po), some (.ref le), some (.ref t), some (.ref p), some (.ref o), some (.int (backM q + onM q)), some (.ref ld), some (.int (m : Int)), some (.ref x), some (.ref y), some (.ref l1), none, none] ∧ Same H12 H' ∧ H' l1 = some (.lst us1) ∧ AnsAt H' us1 (ansM es q 0 (m - onN q)) ∧ WSt C H' y q o (qs.take m) ∧ ∃ R es', WSt C H' x q o R ∧ EntsAt H' R es' ∧ es'.length ≤ 63, ?_, ?_⟩
    · refine ⟨_, rfl, a, ns, 7, rfl, sB17.seq hSb, by omega, by decide, by decide, fun c7 H18 s18 => ?_⟩
      refine ⟨_, _, rfl, rfl, (by show (0 : Int) < 3; decide), _, _, rfl, rfl, decide (c7 % 3 > 0), rfl, ?_⟩
      have sB18 := sB17.trans s18
      by_cases hc : c7 % 3 > 0
      · rw [decide_eq_true hc]
        refine iteT ?_
        obtain ⟨dx2, fx2, x2, x2n⟩ := (hWx17.same s18).at_
        refine ⟨_, rfl, x, dx2, fx2, rfl, x2, x2n.1, _, rfl, _, rfl, _, rfl, t, _, rfl, sB18 _ _ htb, fun pb H19 s19 hpb => ?_⟩
        rw [cut_to0 qs m hm2] at hpb
        have sB19 := sB18.trans s19
        have u19 := s18.trans s19
        refine ⟨x, pb, o, [], qs.take m, es.take m, q, rfl, hWx17.same u19, QAt.same sB19 hqb, hd5, hok, iq, hpb, hEm _ sB19, by omega, fun p2 us2 H20 kp20 hp2 hA2 hWx20 => ?_⟩
        have sB20 : Same H12 H20 := kp20.base sB19 nx
        have x19 := s19 _ _ x2
        have T20 := kp20.tupsI x19
        have hWy20 := (hWy17.same u19).kept kp20 (Ne.symm nxy) x19
        have g20 : H20 l1 = some (.lst us1) := kp20 _ _ (u19 _ _ g17) fun z => by
          have := u19 _ _ g17
          rw [z, x19] at this
          cases this
        have hA20 := (hA17.tsame u19.tups).tsame T20
        rw [List.nil_append] at hWx20
        obtain ⟨dx3, fx3, x3, x3n⟩ := hWx20.at_
        refine ⟨_, rfl, x, dx3, fx3, rfl, x3, x3n.1, _, rfl, _, rfl, _, rfl, t, _, rfl, sB20 _ _ htb, fun pc H21 s21 hpc => ?_⟩
        rw [cut_fromR qs m hm2] at hpc
        have sB21 := sB20.trans s21
        refine ⟨x, pc, o, qs.take m, qs.drop m, es, q, rfl, hWx20.same s21, QAt.same sB21 hqb, hd5, hok, iq, hpc, hEf _ sB21, e63, fun p3 us3 H22 kp22 hp3 hA3 hWx22 => ?_⟩
        have sB22 : Same H12 H22 := kp22.base sB21 nx
        have x21 := s21 _ _ x3
        have T22 := kp22.tupsI x21
        refine ⟨rfl, sB22, kp22 _ _ (s21 _ _ g20) (fun z => ?_), (hA20.tsame s21.tups).tsame T22, (hWy20.same s21).kept kp22 (Ne.symm nxy) x21, _, es, hWx22, hEf _ sB22, e63⟩
        have := s21 _ _ g20
        rw [z, x21] at this
        cases this
      · rw [decide_eq_false hc]
        refine iteF ⟨rfl, sB18, s18 _ _ g17, hA17.tsame s18.tups, hWy17.same s18, [], [], hWx17.same s18, ⟨rfl, fun i e he => by simp at he⟩, by decide⟩
    rintro _ H20 ⟨rfl, sB20, g20, hA20, hWy20, R, es', hWx20, hER, hR63⟩
    -- its end
    obtain ⟨dx2, fx2, x2, x2n⟩ := hWx20.at_
    refine ⟨_, rfl, x, dx2, fx2, rfl, x2, x2n.2.1, x, o, R, es', q, rfl, hWx20, QAt.same sB20 hqb, hd5, hok, iq, hER, hR63, fun p2 us2 H21 kp21 hp2 hA2 hO21 => ?_⟩
    have sB21 : Same H12 H21 := kp21.base sB20 nx
    have T21 := kp21.tupsI x2
    have hWy21 := hWy20.kept kp21 (Ne.symm nxy) x2
    have g21 : H21 l1 = some (.lst us1) := kp21 _ _ g20 fun z => by
      rw [z, x2] at g20
      cases g20
    have hA21 := hA20.tsame T21
    -- the piece
    refine ⟨_, rfl, _, rfl, a, ns, 8, rfl, sB21.seq hSb, by omega, by decide, by decide, fun c8 H22 s22 => ?_⟩
    refine ⟨_, _, rfl, rfl, (by show (0 : Int) < 4; decide), _, rfl, t, _, rfl, (sB21.trans s22) _ _ htb, fun pp H23 s23 hpp => ?_⟩
    have u23 := s22.trans s23
    -- refused
    refine ⟨_, rfl, _, rfl, x, .ref pp, rfl, (hO21.same u23).ox, fun H24 s24 => ?_⟩
    have u24 := u23.trans s24
    refine ⟨true, rfl, iteF ?_⟩
    have hO24 := hO21.same u24
    obtain ⟨dx4, te4, fx4, x4, x4n, x4e, x4t⟩ := hO24.at_
    refine ⟨_, rfl, x, dx4, fx4, rfl, x4, x4n.2.2.2.2, x, dx4, te4, fx4, [], rfl, x4, x4e, x4t, _, _, rfl, rfl, true, rfl, iteT ⟨_, rfl, _, _, rfl, rfl, true, ?_, iteF ?_⟩⟩
    · show V.bl (decide ((0 : Int) ≤ backM q + onM q)) = V.bl true
      rw [decide_eq_true (show (0 : Int) ≤ backM q + onM q by omega)]
    -- a third one
    refine ⟨_, rfl, fun z dz nz ndz nez => ?_⟩
    refine ⟨z, dz, o, rfl, upd_same, fun H25 hWz kp25 => ⟨rfl, ?_⟩⟩
    have s25 : Same H24 H25 := (Old.new (C := C) (fs := []) nz ndz).then kp25
    have hWz25 := hWz q
    have u25 := u24.trans s25
    have sB25 := sB21.trans u25
    have hWy25 := hWy21.same u25
    have hO25 := hO24.same s25
    have nzB : H12 z = none := (sB21.trans u24).none nz
    have nzx : x ≠ z := fun e => by rw [← e, x4] at nz; cases nz
    have nzy : y ≠ z := fun e => by
      obtain ⟨_, _, h1, _⟩ := (hWy21.same u24).at_
      rw [e, nz] at h1
      cases h1
    -- the other one's answers
    have gl25 := u25 _ _ g21
    have hA25 := hA21.tsame u25.tups
    obtain ⟨dy5, fy5, y5, y5n⟩ := hWy25.at_
    refine ⟨_, rfl, _, rfl, y, dy5, fy5, rfl, y5, y5n.1, _, rfl, _, rfl, _, rfl, t, _, rfl, sB25 _ _ htb, fun pe H26 s26 hpe => ?_⟩
    rw [cut_fromR qs m hm2] at hpe
    have sB26 := sB25.trans s26
    refine ⟨y, pe, o, qs.take m, qs.drop m, es, q, rfl, hWy25.same s26, QAt.same sB26 hqb, hd5, hok, iq, hpe, hEf _ sB26, e63, fun p4 us4 H27 kp27 hp4 hA4 hWy27 => ?_⟩
    rw [htk] at hA4
    have y26 := s26 _ _ y5
    have T27 := kp27.tupsI y26
    have sB27 : Same H12 H27 := kp27.base sB26 nyB
    have nlst : ∀ {G : Hp} {l wa dx : Addr} {xs : List V} {fs : List (Str × V)}, G l = some (.lst xs) → G wa = some (.ins C dx fs) → l ≠ wa := fun e1 e2 z => by rw [z, e2] at e1; cases e1
    have gl27 : H27 l1 = some (.lst us1) := kp27 _ _ (s26 _ _ gl25) (nlst (s26 _ _ gl25) y26)
    have hA27 := (hA25.tsame s26.tups).tsame T27
    have hO27 := (hO25.same s26).kept kp27 nxy y26
    have hWz27 := (hWz25.same s26).kept kp27 (Ne.symm nzy) y26
    refine ⟨p4, _, rfl, .inr (SqT.of hp4), fun l2 hl2 => ?_⟩
    have s28 := (Same.refl H27).upd_free (o := .lst us4) hl2
    have g28 : upd H27 l2 (.lst us4) l2 = some (.lst us4) := upd_same
    generalize upd H27 l2 (.lst us4) = H28 at s28 g28
    have n1 := hA27.1
    have n1' := ans_len' es q (lo := 0) (hi := m - onN q) (Nat.zero_le _)
    have n4 := hA4.1
    have n4' := ans_len' es q (lo := m - onN q) (hi := es.length - onN q) (by omega)
    refine ⟨l1, l2, _, _, rfl, rfl, SqL.of (s28 _ _ gl27), SqL.of g28, Nat.le_of_lt (small1000 (by omega)), fun l3 hl3 => ?_⟩
    have s29 := (Same.refl H28).upd_free (o := .lst (us1 ++ us4)) hl3
    have g29 : upd H28 l3 (.lst (us1 ++ us4)) l3 = some (.lst (us1 ++ us4)) := upd_same
    generalize upd H28 l3 (.lst (us1 ++ us4)) = H29 at s29 g29
    have u29 := s28.trans s29
    have sB29 := sB27.trans u29
    have hA29 : AnsAt H29 (us1 ++ us4) (ansM es q 0 (es.length - onN q)) := by
      have h := (hA27.tsame u29.tups).app (hA4.tsame u29.tups)
      rw [ans_app es q (Nat.zero_le _) (by omega)] at h
      exact h
    have hWy29 := hWy27.same u29
    obtain ⟨dy6, fy6, y6, y6n⟩ := hWy29.at_
    refine ⟨_, rfl, y, dy6, fy6, rfl, y6, y6n.2.1, y, o, qs.take m ++ qs.drop m, es, q, rfl, hWy29, QAt.same sB29 hqb, hd5, hok, iq, hEf _ sB29, e63, fun p5 us5 H30 kp30 hp5 hA5 hOy30 => ?_⟩
    have T30 := kp30.tupsI y6
    have sB30 : Same H12 H30 := kp30.base sB29 nyB
    have g30 := kp30 _ _ g29 (nlst g29 y6)
    have hA30 := hA29.tsame T30
    have hO30 := (hO27.same u29).kept kp30 nxy y6
    have hWz30 := (hWz27.same u29).kept kp30 (Ne.symm nzy) y6
    refine ⟨p5, _, rfl, .inr (SqT.of hp5), fun l4 hl4 => ?_⟩
    have s31 := (Same.refl H30).upd_free (o := .lst us5) hl4
    have g31 : upd H30 l4 (.lst us5) l4 = some (.lst us5) := upd_same
    generalize upd H30 l4 (.lst us5) = H31 at s31 g31
    have n5 := hA5.1
    have n5' := ans_len' es q (lo := es.length - onN q) (hi := es.length) (by omega)
    refine ⟨l3, l4, _, _, rfl, rfl, SqL.of (s31 _ _ g30), SqL.of g31, Nat.le_of_lt (small1000 (by rw [List.length_append]; omega)), fun l5 hl5 => ?_⟩
    have s32 := (Same.refl H31).upd_free (o := .lst ((us1 ++ us4) ++ us5)) hl5
    have g32 : upd H31 l5 (.lst ((us1 ++ us4) ++ us5)) l5 = some (.lst ((us1 ++ us4) ++ us5)) := upd_same
    generalize upd H31 l5 (.lst ((us1 ++ us4) ++ us5)) = H32 at s32 g32
    have u32 := s31.trans s32
    have sB32 := sB30.trans u32
    have hA32 : AnsAt H32 ((us1 ++ us4) ++ us5) (ansM es q 0 es.length) := by
      have h := (hA30.tsame u32.tups).app (hA5.tsame u32.tups)
      rw [ans_app es q (Nat.zero_le _) (by omega)] at h
      exact h
    have okL := an_okL (ansM es q 0 es.length)
    refine ⟨_, rfl, _, rfl, .list ((ansM es q 0 es.length).map dAn), .list ((ansM es q 0 es.length).map dAn), .lst (SqL.of g32) hA32.data, .lst (SqL.of (sB32 _ _ gdb)) (hAb.tsame sB32.tups).data, okL, okL, false, by rw [an_eqL]; rfl, iteF ?_⟩
    -- the third one's answers
    have hWz32 := hWz30.same u32
    have hO32 := hO30.same u32
    have hOy32 := hOy30.same u32
    obtain ⟨dz7, fz7, z7, z7n⟩ := hWz32.at_
    refine ⟨_, rfl, z, dz7, fz7, rfl, z7, z7n.1, _, rfl, z, t, o, [], qs, es, q, rfl, hWz32, QAt.same sB32 hqb, hd5, hok, iq, sB32 _ _ htb, hEb.tsame sB32.tups, e63, fun p6 us6 H33 kp33 hp6 hA6 hWz33 => ?_⟩
    rw [hz] at hA6
    have sB33 : Same H12 H33 := kp33.base sB32 nzB
    have hO33 := hO32.kept kp33 nzx z7
    have hOy33 := hOy32.kept kp33 nzy z7
    refine ⟨p6, _, rfl, .inr (SqT.of hp6), fun l6 hl6 => ?_⟩
    have s34 := (Same.refl H33).upd_free (o := .lst us6) hl6
    have g34 : upd H33 l6 (.lst us6) l6 = some (.lst us6) := upd_same
    generalize upd H33 l6 (.lst us6) = H34 at s34 g34
    have sB34 := sB33.trans s34
    have hWz34 := hWz33.same s34
    obtain ⟨dz8, fz8, z8, z8n⟩ := hWz34.at_
    refine ⟨_, rfl, z, dz8, fz8, rfl, z8, z8n.2.1, z, o, [] ++ qs, es, q, rfl, hWz34, QAt.same sB34 hqb, hd5, hok, iq, hEb.tsame sB34.tups, e63, fun p7 us7 H35 kp35 hp7 hA7 hOz35 => ?_⟩
    have T35 := kp35.tupsI z8
    have sB35 : Same H12 H35 := kp35.base sB34 nzB
    have hO35 := (hO33.same s34).kept kp35 nzx z8
    have hOy35 := (hOy33.same s34).kept kp35 nzy z8
    have g35 := kp35 _ _ g34 (nlst g34 z8)
    have hA35 := (hA6.tsame s34.tups).tsame T35
    refine ⟨p7, _, rfl, .inr (SqT.of hp7), fun l7 hl7 => ?_⟩
    have s36 := (Same.refl H35).upd_free (o := .lst us7) hl7
    have g36 : upd H35 l7 (.lst us7) l7 = some (.lst us7) := upd_same
    generalize upd H35 l7 (.lst us7) = H36 at s36 g36
    have n6 := hA35.1
    have n6' := ans_len' es q (lo := 0) (hi := es.length - onN q) (Nat.zero_le _)
    have n7 := hA7.1
    refine ⟨l6, l7, _, _, rfl, rfl, SqL.of (s36 _ _ g35), SqL.of g36, Nat.le_of_lt (small1000 (by omega)), fun l8 hl8 => ?_⟩
    have s37 := (Same.refl H36).upd_free (o := .lst (us6 ++ us7)) hl8
    have g37 : upd H36 l8 (.lst (us6 ++ us7)) l8 = some (.lst (us6 ++ us7)) := upd_same
    generalize upd H36 l8 (.lst (us6 ++ us7)) = H37 at s37 g37
    have u37 := s36.trans s37
    have sB37 := sB35.trans u37
    have hA37 : AnsAt H37 (us6 ++ us7) (ansM es q 0 es.length) := by
      have h := (hA35.tsame u37.tups).app (hA7.tsame u37.tups)
      rw [ans_app es q (Nat.zero_le _) (by omega)] at h
      exact h
    refine ⟨_, rfl, .list ((ansM es q 0 es.length).map dAn), .list ((ansM es q 0 es.length).map dAn), .lst (SqL.of g37) hA37.data, .lst (SqL.of (sB37 _ _ gdb)) (hAb.tsame sB37.tups).data, okL, okL, false, by rw [an_eqL]; rfl, iteF ?_⟩
    -- refused again
    have hO37 := hO35.same u37
    have hOy37 := hOy35.same u37
    refine ⟨_, rfl, _, rfl, x, .ref pp, rfl, hO37.ox, fun H38 s38 => ⟨true, rfl, iteT ?_⟩⟩
    refine ⟨_, rfl, (by show 0 ≤ sizeLine; decide), fun pt hpt => ?_⟩
    have s39 := (Same.refl H38).upd_free (o := .tup []) hpt
    generalize upd H38 pt (.tup []) = H39 at s39
    have u39 := s38.trans s39
    refine ⟨y, .ref pt, rfl, (hOy37.same u39).ox, fun H40 s40 => ⟨true, rfl, iteT ?_⟩⟩
    obtain ⟨dx9, te9, fx9, x9, x9n, x9e, x9t⟩ := (hO37.same (u39.trans s40)).at_
    refine ⟨_, rfl, x, dx9, fx9, rfl, x9, x9n.2.2.2.2, x, dx9, te9, fx9, [], rfl, x9, x9e, x9t, _, _, rfl, rfl, true, rfl, iteT ⟨_, rfl, _, _, rfl, rfl, ?_⟩⟩
    show Q (V.bl (decide ((0 : Int) ≤ backM q + onM q))) H40
    rw [decide_eq_true (show (0 : Int) ≤ backM q + onM q by omega)]
    exact k _
end
end QL

namespace QL
open PySem L2
theorem all_mk {l : PySem.W.OpenLaw} {w : World} {K : PySem.W.Frag} {h : Heap} {mg : Str → Option Value} {fa CR CW CH CA CT CB CE CN CY XE XL XS XU XN fW fS2 fMv fC1 fM1 fP fL fE fG1 fCo fSh fNr fGw fBu fWk fRd fZ fQb fQo fRf fWf fHo fHf fAb fAf fTb fTo fTf fJb fJo fBf fEf fNb fNo fNf fRi fWi fHi fAi fTi fJi fNi fYi fYt fYe fYr fYs fYk : Addr} (X : K.In h) (G : h.Ns mainGlobals mg) (hfa : mg "law" = some (.ref fa))
    {odW anW odS2 anS2 odMv anMv odC1 anC1 odM1 anM1 odP anP odL anL odE anE odG1 anG1 odCo anCo odSh anSh odNr anNr odGw anGw odBu anBu odWk anWk odRd anRd odZ anZ odQb anQb odQo anQo odRf anRf odWf anWf odHo anHo odHf anHf odAb anAb odAf anAf odTb anTb odTo anTo odTf anTf odJb anJb odJo anJo odBf anBf odEf anEf odNb anNb odNo anNo odNf anNf odRi anRi odWi anWi odHi anHi odAi anAi odTi anTi odJi anJi odNi anNi odYi anYi odYt anYt odYe anYe odYr anYr odYs anYs odYk anYk : Option Addr} {slW slS2 slMv slC1 slM1 slP slL slE slG1 slCo slSh slNr slGw slBu slWk slRd slZ slQb slQo slRf slWf slHo slHf slAb slAf slTb slTo slTf slJb slJo slBf slEf slNb slNo slNf slRi slWi slHi slAi slTi slJi slNi slYi slYt slYe slYr slYs slYk : Array (Option Value)} {ocW kVW dcW pmW cdW ctW ocS2 kVS2 dcS2 pmS2 cdS2 ctS2 ocMv kVMv dcMv pmMv cdMv ctMv ocC1 kVC1 dcC1 pmC1 cdC1 ctC1 ocM1 kVM1 dcM1 pmM1 cdM1 ctM1 ocP kVP dcP pmP cdP ctP ocL kVL dcL pmL cdL ctL ocE kVE dcE pmE cdE ctE ocG1 kVG1 dcG1 pmG1 cdG1 ctG1 ocCo kVCo dcCo pmCo cdCo ctCo ocSh kVSh dcSh pmSh cdSh ctSh ocNr kVNr dcNr pmNr cdNr ctNr ocGw kVGw dcGw pmGw cdGw ctGw ocBu kVBu dcBu pmBu cdBu ctBu ocWk kVWk dcWk pmWk cdWk ctWk ocRd kVRd dcRd pmRd cdRd ctRd ocZ kVZ dcZ pmZ cdZ ctZ ocQb kVQb dcQb pmQb cdQb ctQb ocQo kVQo dcQo pmQo cdQo ctQo ocRf kVRf dcRf pmRf cdRf ctRf ocWf kVWf dcWf pmWf cdWf ctWf ocHo kVHo dcHo pmHo cdHo ctHo ocHf kVHf dcHf pmHf cdHf ctHf ocAb kVAb dcAb pmAb cdAb ctAb ocAf kVAf dcAf pmAf cdAf ctAf ocTb kVTb dcTb pmTb cdTb ctTb ocTo kVTo dcTo pmTo cdTo ctTo ocTf kVTf dcTf pmTf cdTf ctTf ocJb kVJb dcJb pmJb cdJb ctJb ocJo kVJo dcJo pmJo cdJo ctJo ocBf kVBf dcBf pmBf cdBf ctBf ocEf kVEf dcEf pmEf cdEf ctEf ocNb kVNb dcNb pmNb cdNb ctNb ocNo kVNo dcNo pmNo cdNo ctNo ocNf kVNf dcNf pmNf cdNf ctNf ocRi kVRi dcRi pmRi cdRi ctRi ocWi kVWi dcWi pmWi cdWi ctWi ocHi kVHi dcHi pmHi cdHi ctHi ocAi kVAi dcAi pmAi cdAi ctAi ocTi kVTi dcTi pmTi cdTi ctTi ocJi kVJi dcJi pmJi cdJi ctJi ocNi kVNi dcNi pmNi cdNi ctNi ocYi kVYi dcYi pmYi cdYi ctYi ocYt kVYt dcYt pmYt cdYt ctYt ocYe kVYe dcYe pmYe cdYe ctYe ocYr kVYr dcYr pmYr cdYr ctYr ocYs kVYs dcYs pmYs cdYs ctYs ocYk kVYk dcYk pmYk cdYk ctYk : Value}
    (aCR : PySem.W.nsIn K mainGlobals "Row" = some (some (.ref CR)))
    (pgCR : PySem.W.plainGet K CR Str.empty = true)
    (hdCR : PySem.W.hasDictIn K CR = true)
    (poCR : PySem.W.plainOver K CR = true)
    (saCR : PySem.W.findIn K (.ref CR) "__setattr__" = some (some (.builtin "object.__setattr__")))
    (mkCR : PySem.W.makesIn K CR = true)
    (kcCR : PySem.W.keepIn K (.ref CR) = true)
    (haCR : PySem.W.findIn K (.ref CR) "__class__" = some (some (.builtin "object.__class__")))
    (hmCR : PySem.W.mroIn K CR (.type "object") = some true)
    (nCR_wanted : PySem.W.findIn K (.ref CR) "wanted" = some none)
    (aCW : PySem.W.nsIn K mainGlobals "With" = some (some (.ref CW)))
    (pgCW : PySem.W.plainGet K CW Str.empty = true)
    (hdCW : PySem.W.hasDictIn K CW = true)
    (poCW : PySem.W.plainOver K CW = true)
    (saCW : PySem.W.findIn K (.ref CW) "__setattr__" = some (some (.builtin "object.__setattr__")))
    (mkCW : PySem.W.makesIn K CW = true)
    (kcCW : PySem.W.keepIn K (.ref CW) = true)
    (haCW : PySem.W.findIn K (.ref CW) "__class__" = some (some (.builtin "object.__class__")))
    (hmCW : PySem.W.mroIn K CW (.type "object") = some true)
    (nCW_here : PySem.W.findIn K (.ref CW) "here" = some none)
    (nCW_wanted : PySem.W.findIn K (.ref CW) "wanted" = some none)
    (aCH : PySem.W.nsIn K mainGlobals "Behind" = some (some (.ref CH)))
    (pgCH : PySem.W.plainGet K CH Str.empty = true)
    (hdCH : PySem.W.hasDictIn K CH = true)
    (poCH : PySem.W.plainOver K CH = true)
    (saCH : PySem.W.findIn K (.ref CH) "__setattr__" = some (some (.builtin "object.__setattr__")))
    (mkCH : PySem.W.makesIn K CH = true)
    (kcCH : PySem.W.keepIn K (.ref CH) = true)
    (haCH : PySem.W.findIn K (.ref CH) "__class__" = some (some (.builtin "object.__class__")))
    (hmCH : PySem.W.mroIn K CH (.type "object") = some true)
    (nCH_here : PySem.W.findIn K (.ref CH) "here" = some none)
    (nCH_away : PySem.W.findIn K (.ref CH) "away" = some none)
    (nCH_reach : PySem.W.findIn K (.ref CH) "reach" = some none)
    (aCA : PySem.W.nsIn K mainGlobals "Ahead" = some (some (.ref CA)))
    (pgCA : PySem.W.plainGet K CA Str.empty = true)
    (hdCA : PySem.W.hasDictIn K CA = true)
    (poCA : PySem.W.plainOver K CA = true)
    (saCA : PySem.W.findIn K (.ref CA) "__setattr__" = some (some (.builtin "object.__setattr__")))
    (mkCA : PySem.W.makesIn K CA = true)
    (kcCA : PySem.W.keepIn K (.ref CA) = true)
    (haCA : PySem.W.findIn K (.ref CA) "__class__" = some (some (.builtin "object.__class__")))
    (hmCA : PySem.W.mroIn K CA (.type "object") = some true)
    (nCA_here : PySem.W.findIn K (.ref CA) "here" = some none)
    (nCA_away : PySem.W.findIn K (.ref CA) "away" = some none)
    (nCA_reach : PySem.W.findIn K (.ref CA) "reach" = some none)
    (aCT : PySem.W.nsIn K mainGlobals "Times" = some (some (.ref CT)))
    (pgCT : PySem.W.plainGet K CT Str.empty = true)
    (hdCT : PySem.W.hasDictIn K CT = true)
    (poCT : PySem.W.plainOver K CT = true)
    (saCT : PySem.W.findIn K (.ref CT) "__setattr__" = some (some (.builtin "object.__setattr__")))
    (mkCT : PySem.W.makesIn K CT = true)
    (kcCT : PySem.W.keepIn K (.ref CT) = true)
    (haCT : PySem.W.findIn K (.ref CT) "__class__" = some (some (.builtin "object.__class__")))
    (hmCT : PySem.W.mroIn K CT (.type "object") = some true)
    (nCT_reach : PySem.W.findIn K (.ref CT) "reach" = some none)
    (nCT_least : PySem.W.findIn K (.ref CT) "least" = some none)
    (nCT_inner : PySem.W.findIn K (.ref CT) "inner" = some none)
    (aCB : PySem.W.nsIn K mainGlobals "Both" = some (some (.ref CB)))
    (pgCB : PySem.W.plainGet K CB Str.empty = true)
    (hdCB : PySem.W.hasDictIn K CB = true)
    (poCB : PySem.W.plainOver K CB = true)
    (saCB : PySem.W.findIn K (.ref CB) "__setattr__" = some (some (.builtin "object.__setattr__")))
    (mkCB : PySem.W.makesIn K CB = true)
    (kcCB : PySem.W.keepIn K (.ref CB) = true)
    (haCB : PySem.W.findIn K (.ref CB) "__class__" = some (some (.builtin "object.__class__")))
    (hmCB : PySem.W.mroIn K CB (.type "object") = some true)
    (nCB_one : PySem.W.findIn K (.ref CB) "one" = some none)
    (nCB_other : PySem.W.findIn K (.ref CB) "other" = some none)
    (aCE : PySem.W.nsIn K mainGlobals "Either" = some (some (.ref CE)))
    (pgCE : PySem.W.plainGet K CE Str.empty = true)
    (hdCE : PySem.W.hasDictIn K CE = true)
    (poCE : PySem.W.plainOver K CE = true)
    (saCE : PySem.W.findIn K (.ref CE) "__setattr__" = some (some (.builtin "object.__setattr__")))
    (mkCE : PySem.W.makesIn K CE = true)
    (kcCE : PySem.W.keepIn K (.ref CE) = true)
    (haCE : PySem.W.findIn K (.ref CE) "__class__" = some (some (.builtin "object.__class__")))
    (hmCE : PySem.W.mroIn K CE (.type "object") = some true)
    (nCE_one : PySem.W.findIn K (.ref CE) "one" = some none)
    (nCE_other : PySem.W.findIn K (.ref CE) "other" = some none)
    (aCN : PySem.W.nsIn K mainGlobals "Not" = some (some (.ref CN)))
    (pgCN : PySem.W.plainGet K CN Str.empty = true)
    (hdCN : PySem.W.hasDictIn K CN = true)
    (poCN : PySem.W.plainOver K CN = true)
    (saCN : PySem.W.findIn K (.ref CN) "__setattr__" = some (some (.builtin "object.__setattr__")))
    (mkCN : PySem.W.makesIn K CN = true)
    (kcCN : PySem.W.keepIn K (.ref CN) = true)
    (haCN : PySem.W.findIn K (.ref CN) "__class__" = some (some (.builtin "object.__class__")))
    (hmCN : PySem.W.mroIn K CN (.type "object") = some true)
    (nCN_one : PySem.W.findIn K (.ref CN) "one" = some none)
    (aCY : PySem.W.nsIn K mainGlobals "Watch" = some (some (.ref CY)))
    (pgCY : PySem.W.plainGet K CY Str.empty = true)
    (hdCY : PySem.W.hasDictIn K CY = true)
    (poCY : PySem.W.plainOver K CY = true)
    (saCY : PySem.W.findIn K (.ref CY) "__setattr__" = some (some (.builtin "object.__setattr__")))
    (mkCY : PySem.W.makesIn K CY = true)
    (kcCY : PySem.W.keepIn K (.ref CY) = true)
    (haCY : PySem.W.findIn K (.ref CY) "__class__" = some (some (.builtin "object.__class__")))
    (hmCY : PySem.W.mroIn K CY (.type "object") = some true)
    (nCY_question : PySem.W.findIn K (.ref CY) "question" = some none)
    (nCY_entries : PySem.W.findIn K (.ref CY) "entries" = some none)
    (nCY_first : PySem.W.findIn K (.ref CY) "first" = some none)
    (nCY_settled : PySem.W.findIn K (.ref CY) "settled" = some none)
    (nCY_over : PySem.W.findIn K (.ref CY) "over" = some none)
    (aXE : PySem.W.nsIn K mainGlobals "Ended" = some (some (.ref XE)))
    (aXL : PySem.W.nsIn K mainGlobals "LoomError" = some (some (.ref XL)))
    (aXS : PySem.W.nsIn K mainGlobals "Spoiled" = some (some (.ref XS)))
    (aXU : PySem.W.nsIn K mainGlobals "Untaught" = some (some (.ref XU)))
    (aXN : PySem.W.nsIn K mainGlobals "NoQuestion" = some (some (.ref XN)))
    (hn : PySem.W.specialIn K (.builtin "object.__class__") "__get__" = some (some (.builtin "getset_descriptor.__get__")))
    (htk : PySem.W.takesIn K (.builtin "object.__class__") = some true)
    (xex : PySem.W.excIn K XE bmV "ValueError.__new__" = true)
    (xtE : takesX K XE (.ref XE) = true)
    (xtL : takesX K XE (.ref XL) = true)
    (xge : excGet K XE = true)
    (xiS : PySem.W.kitOne K (.ref XE) (.ref XS) = some false)
    (xiU : PySem.W.kitOne K (.ref XE) (.ref XU) = some false)
    (xiN : PySem.W.kitOne K (.ref XE) (.ref XN) = some false)
    (xiV : PySem.W.kitOne K (.ref XE) (.type "ValueError") = some true)
    (aW : PySem.W.nsIn K mainGlobals "word_at" = some (some (.ref fW)))
    (lW : K.lookup fW = some ⟨ocW, odW, .func (PySem.W.fnOf "word_at" "word_at" (defArgs sWa) (defBody sWa) (defScope sWa) .none kVW dcW pmW anW cdW ctW), slW⟩)
    (cW : PySem.W.codeIn K cdW "word_at" = true)
    (kW : PySem.W.keepIn K (.ref fW) = true)
    (aS2 : PySem.W.nsIn K mainGlobals "same_word" = some (some (.ref fS2)))
    (lS2 : K.lookup fS2 = some ⟨ocS2, odS2, .func (PySem.W.fnOf "same_word" "same_word" (defArgs sSw) (defBody sSw) (defScope sSw) .none kVS2 dcS2 pmS2 anS2 cdS2 ctS2), slS2⟩)
    (cS2 : PySem.W.codeIn K cdS2 "same_word" = true)
    (kS2 : PySem.W.keepIn K (.ref fS2) = true)
    (aMv : PySem.W.nsIn K mainGlobals "moved" = some (some (.ref fMv)))
    (lMv : K.lookup fMv = some ⟨ocMv, odMv, .func (PySem.W.fnOf "moved" "moved" (defArgs sMv) (defBody sMv) (defScope sMv) .none kVMv dcMv pmMv anMv cdMv ctMv), slMv⟩)
    (cMv : PySem.W.codeIn K cdMv "moved" = true)
    (kMv : PySem.W.keepIn K (.ref fMv) = true)
    (aC1 : PySem.W.nsIn K mainGlobals "_law_cell_at" = some (some (.ref fC1)))
    (lC1 : K.lookup fC1 = some ⟨ocC1, odC1, .func (PySem.W.fnOf "_law_cell_at" "_law_cell_at" (defArgs sCe) (defBody sCe) (defScope sCe) .none kVC1 dcC1 pmC1 anC1 cdC1 ctC1), slC1⟩)
    (cC1 : PySem.W.codeIn K cdC1 "_law_cell_at" = true)
    (kC1 : PySem.W.keepIn K (.ref fC1) = true)
    (aM1 : PySem.W.nsIn K mainGlobals "_law_mix" = some (some (.ref fM1)))
    (lM1 : K.lookup fM1 = some ⟨ocM1, odM1, .func (PySem.W.fnOf "_law_mix" "_law_mix" (defArgs sMi) (defBody sMi) (defScope sMi) .none kVM1 dcM1 pmM1 anM1 cdM1 ctM1), slM1⟩)
    (cM1 : PySem.W.codeIn K cdM1 "_law_mix" = true)
    (kM1 : PySem.W.keepIn K (.ref fM1) = true)
    (aP : PySem.W.nsIn K mainGlobals "_law_pool" = some (some (.ref fP)))
    (lP : K.lookup fP = some ⟨ocP, odP, .func (PySem.W.fnOf "_law_pool" "_law_pool" (defArgs sPo) (defBody sPo) (defScope sPo) .none kVP dcP pmP anP cdP ctP), slP⟩)
    (cP : PySem.W.codeIn K cdP "_law_pool" = true)
    (kP : PySem.W.keepIn K (.ref fP) = true)
    (aL : PySem.W.nsIn K mainGlobals "_law_letters" = some (some (.ref fL)))
    (lL : K.lookup fL = some ⟨ocL, odL, .func (PySem.W.fnOf "_law_letters" "_law_letters" (defArgs sLe) (defBody sLe) (defScope sLe) .none kVL dcL pmL anL cdL ctL), slL⟩)
    (cL : PySem.W.codeIn K cdL "_law_letters" = true)
    (kL : PySem.W.keepIn K (.ref fL) = true)
    (aE : PySem.W.nsIn K mainGlobals "_law_entry" = some (some (.ref fE)))
    (lE : K.lookup fE = some ⟨ocE, odE, .func (PySem.W.fnOf "_law_entry" "_law_entry" (defArgs sEn) (defBody sEn) (defScope sEn) .none kVE dcE pmE anE cdE ctE), slE⟩)
    (cE : PySem.W.codeIn K cdE "_law_entry" = true)
    (kE : PySem.W.keepIn K (.ref fE) = true)
    (aG1 : PySem.W.nsIn K mainGlobals "_law_log" = some (some (.ref fG1)))
    (lG1 : K.lookup fG1 = some ⟨ocG1, odG1, .func (PySem.W.fnOf "_law_log" "_law_log" (defArgs sLg) (defBody sLg) (defScope sLg) .none kVG1 dcG1 pmG1 anG1 cdG1 ctG1), slG1⟩)
    (cG1 : PySem.W.codeIn K cdG1 "_law_log" = true)
    (kG1 : PySem.W.keepIn K (.ref fG1) = true)
    (aCo : PySem.W.nsIn K mainGlobals "_law_count" = some (some (.ref fCo)))
    (lCo : K.lookup fCo = some ⟨ocCo, odCo, .func (PySem.W.fnOf "_law_count" "_law_count" (defArgs sCo) (defBody sCo) (defScope sCo) .none kVCo dcCo pmCo anCo cdCo ctCo), slCo⟩)
    (cCo : PySem.W.codeIn K cdCo "_law_count" = true)
    (kCo : PySem.W.keepIn K (.ref fCo) = true)
    (aSh : PySem.W.nsIn K mainGlobals "_law_short" = some (some (.ref fSh)))
    (lSh : K.lookup fSh = some ⟨ocSh, odSh, .func (PySem.W.fnOf "_law_short" "_law_short" (defArgs sSh) (defBody sSh) (defScope sSh) .none kVSh dcSh pmSh anSh cdSh ctSh), slSh⟩)
    (cSh : PySem.W.codeIn K cdSh "_law_short" = true)
    (kSh : PySem.W.keepIn K (.ref fSh) = true)
    (aNr : PySem.W.nsIn K mainGlobals "_law_nearer" = some (some (.ref fNr)))
    (lNr : K.lookup fNr = some ⟨ocNr, odNr, .func (PySem.W.fnOf "_law_nearer" "_law_nearer" (defArgs sNr) (defBody sNr) (defScope sNr) .none kVNr dcNr pmNr anNr cdNr ctNr), slNr⟩)
    (cNr : PySem.W.codeIn K cdNr "_law_nearer" = true)
    (kNr : PySem.W.keepIn K (.ref fNr) = true)
    (aGw : PySem.W.nsIn K mainGlobals "_law_grown" = some (some (.ref fGw)))
    (lGw : K.lookup fGw = some ⟨ocGw, odGw, .func (PySem.W.fnOf "_law_grown" "_law_grown" (defArgs sGw) (defBody sGw) (defScope sGw) .none kVGw dcGw pmGw anGw cdGw ctGw), slGw⟩)
    (cGw : PySem.W.codeIn K cdGw "_law_grown" = true)
    (kGw : PySem.W.keepIn K (.ref fGw) = true)
    (aBu : PySem.W.nsIn K mainGlobals "_law_built" = some (some (.ref fBu)))
    (lBu : K.lookup fBu = some ⟨ocBu, odBu, .func (PySem.W.fnOf "_law_built" "_law_built" (defArgs sBu) (defBody sBu) (defScope sBu) .none kVBu dcBu pmBu anBu cdBu ctBu), slBu⟩)
    (cBu : PySem.W.codeIn K cdBu "_law_built" = true)
    (kBu : PySem.W.keepIn K (.ref fBu) = true)
    (aWk : PySem.W.nsIn K mainGlobals "walked" = some (some (.ref fWk)))
    (lWk : K.lookup fWk = some ⟨ocWk, odWk, .func (PySem.W.fnOf "walked" "walked" (defArgs sWk) (defBody sWk) (defScope sWk) .none kVWk dcWk pmWk anWk cdWk ctWk), slWk⟩)
    (cWk : PySem.W.codeIn K cdWk "walked" = true)
    (kWk : PySem.W.keepIn K (.ref fWk) = true)
    (aRd : PySem.W.nsIn K mainGlobals "_law_refused" = some (some (.ref fRd)))
    (lRd : K.lookup fRd = some ⟨ocRd, odRd, .func (PySem.W.fnOf "_law_refused" "_law_refused" (defArgs sRd) (defBody sRd) (defScope sRd) .none kVRd dcRd pmRd anRd cdRd ctRd), slRd⟩)
    (cRd : PySem.W.codeIn K cdRd "_law_refused" = true)
    (kRd : PySem.W.keepIn K (.ref fRd) = true)
    (aZ : PySem.W.nsIn K mainGlobals "law" = some (some (.ref fZ)))
    (lZ : K.lookup fZ = some ⟨ocZ, odZ, .func (PySem.W.fnOf "law" "law" (defArgs sLaw) (defBody sLaw) (defScope sLaw) .none kVZ dcZ pmZ anZ cdZ ctZ), slZ⟩)
    (cZ : PySem.W.codeIn K cdZ "law" = true)
    (kZ : PySem.W.keepIn K (.ref fZ) = true)
    (aQb : PySem.W.findIn K (.ref CR) "back" = some (some (.ref fQb)))
    (iQb : PySem.W.isFn K (.ref fQb) = true)
    (lQb : K.lookup fQb = some ⟨ocQb, odQb, .func (PySem.W.fnOf "back" "Question.back" (defArgs sBk) (defBody sBk) (defScope sBk) .none kVQb dcQb pmQb anQb cdQb ctQb), slQb⟩)
    (cQb : PySem.W.codeIn K cdQb "Question.back" = true)
    (kQb : PySem.W.keepIn K (.ref fQb) = true)
    (aQo : PySem.W.findIn K (.ref CR) "on" = some (some (.ref fQo)))
    (iQo : PySem.W.isFn K (.ref fQo) = true)
    (lQo : K.lookup fQo = some ⟨ocQo, odQo, .func (PySem.W.fnOf "on" "Question.on" (defArgs sOn) (defBody sOn) (defScope sOn) .none kVQo dcQo pmQo anQo cdQo ctQo), slQo⟩)
    (cQo : PySem.W.codeIn K cdQo "Question.on" = true)
    (kQo : PySem.W.keepIn K (.ref fQo) = true)
    (aRf : PySem.W.findIn K (.ref CR) "found" = some (some (.ref fRf)))
    (iRf : PySem.W.isFn K (.ref fRf) = true)
    (lRf : K.lookup fRf = some ⟨ocRf, odRf, .func (PySem.W.fnOf "found" "Row.found" (defArgs sRf) (defBody sRf) (defScope sRf) .none kVRf dcRf pmRf anRf cdRf ctRf), slRf⟩)
    (cRf : PySem.W.codeIn K cdRf "Row.found" = true)
    (kRf : PySem.W.keepIn K (.ref fRf) = true)
    (aWf : PySem.W.findIn K (.ref CW) "found" = some (some (.ref fWf)))
    (iWf : PySem.W.isFn K (.ref fWf) = true)
    (lWf : K.lookup fWf = some ⟨ocWf, odWf, .func (PySem.W.fnOf "found" "With.found" (defArgs sWf) (defBody sWf) (defScope sWf) .none kVWf dcWf pmWf anWf cdWf ctWf), slWf⟩)
    (cWf : PySem.W.codeIn K cdWf "With.found" = true)
    (kWf : PySem.W.keepIn K (.ref fWf) = true)
    (aHo : PySem.W.findIn K (.ref CH) "on" = some (some (.ref fHo)))
    (iHo : PySem.W.isFn K (.ref fHo) = true)
    (lHo : K.lookup fHo = some ⟨ocHo, odHo, .func (PySem.W.fnOf "on" "Behind.on" (defArgs sHo) (defBody sHo) (defScope sHo) .none kVHo dcHo pmHo anHo cdHo ctHo), slHo⟩)
    (cHo : PySem.W.codeIn K cdHo "Behind.on" = true)
    (kHo : PySem.W.keepIn K (.ref fHo) = true)
    (aHf : PySem.W.findIn K (.ref CH) "found" = some (some (.ref fHf)))
    (iHf : PySem.W.isFn K (.ref fHf) = true)
    (lHf : K.lookup fHf = some ⟨ocHf, odHf, .func (PySem.W.fnOf "found" "Behind.found" (defArgs sHf) (defBody sHf) (defScope sHf) .none kVHf dcHf pmHf anHf cdHf ctHf), slHf⟩)
    (cHf : PySem.W.codeIn K cdHf "Behind.found" = true)
    (kHf : PySem.W.keepIn K (.ref fHf) = true)
    (aAb : PySem.W.findIn K (.ref CA) "back" = some (some (.ref fAb)))
    (iAb : PySem.W.isFn K (.ref fAb) = true)
    (lAb : K.lookup fAb = some ⟨ocAb, odAb, .func (PySem.W.fnOf "back" "Ahead.back" (defArgs sAb) (defBody sAb) (defScope sAb) .none kVAb dcAb pmAb anAb cdAb ctAb), slAb⟩)
    (cAb : PySem.W.codeIn K cdAb "Ahead.back" = true)
    (kAb : PySem.W.keepIn K (.ref fAb) = true)
    (aAf : PySem.W.findIn K (.ref CA) "found" = some (some (.ref fAf)))
    (iAf : PySem.W.isFn K (.ref fAf) = true)
    (lAf : K.lookup fAf = some ⟨ocAf, odAf, .func (PySem.W.fnOf "found" "Ahead.found" (defArgs sAf) (defBody sAf) (defScope sAf) .none kVAf dcAf pmAf anAf cdAf ctAf), slAf⟩)
    (cAf : PySem.W.codeIn K cdAf "Ahead.found" = true)
    (kAf : PySem.W.keepIn K (.ref fAf) = true)
    (aTb : PySem.W.findIn K (.ref CT) "back" = some (some (.ref fTb)))
    (iTb : PySem.W.isFn K (.ref fTb) = true)
    (lTb : K.lookup fTb = some ⟨ocTb, odTb, .func (PySem.W.fnOf "back" "Times.back" (defArgs sTb) (defBody sTb) (defScope sTb) .none kVTb dcTb pmTb anTb cdTb ctTb), slTb⟩)
    (cTb : PySem.W.codeIn K cdTb "Times.back" = true)
    (kTb : PySem.W.keepIn K (.ref fTb) = true)
    (aTo : PySem.W.findIn K (.ref CT) "on" = some (some (.ref fTo)))
    (iTo : PySem.W.isFn K (.ref fTo) = true)
    (lTo : K.lookup fTo = some ⟨ocTo, odTo, .func (PySem.W.fnOf "on" "Times.on" (defArgs sTo) (defBody sTo) (defScope sTo) .none kVTo dcTo pmTo anTo cdTo ctTo), slTo⟩)
    (cTo : PySem.W.codeIn K cdTo "Times.on" = true)
    (kTo : PySem.W.keepIn K (.ref fTo) = true)
    (aTf : PySem.W.findIn K (.ref CT) "found" = some (some (.ref fTf)))
    (iTf : PySem.W.isFn K (.ref fTf) = true)
    (lTf : K.lookup fTf = some ⟨ocTf, odTf, .func (PySem.W.fnOf "found" "Times.found" (defArgs sTf) (defBody sTf) (defScope sTf) .none kVTf dcTf pmTf anTf cdTf ctTf), slTf⟩)
    (cTf : PySem.W.codeIn K cdTf "Times.found" = true)
    (kTf : PySem.W.keepIn K (.ref fTf) = true)
    (aJb : PySem.W.findIn K (.ref CB) "back" = some (some (.ref fJb)))
    (iJb : PySem.W.isFn K (.ref fJb) = true)
    (lJb : K.lookup fJb = some ⟨ocJb, odJb, .func (PySem.W.fnOf "back" "Joint.back" (defArgs sJb) (defBody sJb) (defScope sJb) .none kVJb dcJb pmJb anJb cdJb ctJb), slJb⟩)
    (cJb : PySem.W.codeIn K cdJb "Joint.back" = true)
    (kJb : PySem.W.keepIn K (.ref fJb) = true)
    (aJo : PySem.W.findIn K (.ref CB) "on" = some (some (.ref fJo)))
    (iJo : PySem.W.isFn K (.ref fJo) = true)
    (lJo : K.lookup fJo = some ⟨ocJo, odJo, .func (PySem.W.fnOf "on" "Joint.on" (defArgs sJo) (defBody sJo) (defScope sJo) .none kVJo dcJo pmJo anJo cdJo ctJo), slJo⟩)
    (cJo : PySem.W.codeIn K cdJo "Joint.on" = true)
    (kJo : PySem.W.keepIn K (.ref fJo) = true)
    (aBf : PySem.W.findIn K (.ref CB) "found" = some (some (.ref fBf)))
    (iBf : PySem.W.isFn K (.ref fBf) = true)
    (lBf : K.lookup fBf = some ⟨ocBf, odBf, .func (PySem.W.fnOf "found" "Both.found" (defArgs sBf) (defBody sBf) (defScope sBf) .none kVBf dcBf pmBf anBf cdBf ctBf), slBf⟩)
    (cBf : PySem.W.codeIn K cdBf "Both.found" = true)
    (kBf : PySem.W.keepIn K (.ref fBf) = true)
    (aEf : PySem.W.findIn K (.ref CE) "found" = some (some (.ref fEf)))
    (iEf : PySem.W.isFn K (.ref fEf) = true)
    (lEf : K.lookup fEf = some ⟨ocEf, odEf, .func (PySem.W.fnOf "found" "Either.found" (defArgs sEf) (defBody sEf) (defScope sEf) .none kVEf dcEf pmEf anEf cdEf ctEf), slEf⟩)
    (cEf : PySem.W.codeIn K cdEf "Either.found" = true)
    (kEf : PySem.W.keepIn K (.ref fEf) = true)
    (aNb : PySem.W.findIn K (.ref CN) "back" = some (some (.ref fNb)))
    (iNb : PySem.W.isFn K (.ref fNb) = true)
    (lNb : K.lookup fNb = some ⟨ocNb, odNb, .func (PySem.W.fnOf "back" "Not.back" (defArgs sNb) (defBody sNb) (defScope sNb) .none kVNb dcNb pmNb anNb cdNb ctNb), slNb⟩)
    (cNb : PySem.W.codeIn K cdNb "Not.back" = true)
    (kNb : PySem.W.keepIn K (.ref fNb) = true)
    (aNo : PySem.W.findIn K (.ref CN) "on" = some (some (.ref fNo)))
    (iNo : PySem.W.isFn K (.ref fNo) = true)
    (lNo : K.lookup fNo = some ⟨ocNo, odNo, .func (PySem.W.fnOf "on" "Not.on" (defArgs sNo) (defBody sNo) (defScope sNo) .none kVNo dcNo pmNo anNo cdNo ctNo), slNo⟩)
    (cNo : PySem.W.codeIn K cdNo "Not.on" = true)
    (kNo : PySem.W.keepIn K (.ref fNo) = true)
    (aNf : PySem.W.findIn K (.ref CN) "found" = some (some (.ref fNf)))
    (iNf : PySem.W.isFn K (.ref fNf) = true)
    (lNf : K.lookup fNf = some ⟨ocNf, odNf, .func (PySem.W.fnOf "found" "Not.found" (defArgs sNf) (defBody sNf) (defScope sNf) .none kVNf dcNf pmNf anNf cdNf ctNf), slNf⟩)
    (cNf : PySem.W.codeIn K cdNf "Not.found" = true)
    (kNf : PySem.W.keepIn K (.ref fNf) = true)
    (aRi : PySem.W.findIn K (.ref CR) "__init__" = some (some (.ref fRi)))
    (iRi : PySem.W.isFn K (.ref fRi) = true)
    (lRi : K.lookup fRi = some ⟨ocRi, odRi, .func (PySem.W.fnOf "__init__" "Row.__init__" (defArgs sRi) (defBody sRi) (defScope sRi) .none kVRi dcRi pmRi anRi cdRi ctRi), slRi⟩)
    (cRi : PySem.W.codeIn K cdRi "Row.__init__" = true)
    (kRi : PySem.W.keepIn K (.ref fRi) = true)
    (aWi : PySem.W.findIn K (.ref CW) "__init__" = some (some (.ref fWi)))
    (iWi : PySem.W.isFn K (.ref fWi) = true)
    (lWi : K.lookup fWi = some ⟨ocWi, odWi, .func (PySem.W.fnOf "__init__" "With.__init__" (defArgs sWi) (defBody sWi) (defScope sWi) .none kVWi dcWi pmWi anWi cdWi ctWi), slWi⟩)
    (cWi : PySem.W.codeIn K cdWi "With.__init__" = true)
    (kWi : PySem.W.keepIn K (.ref fWi) = true)
    (aHi : PySem.W.findIn K (.ref CH) "__init__" = some (some (.ref fHi)))
    (iHi : PySem.W.isFn K (.ref fHi) = true)
    (lHi : K.lookup fHi = some ⟨ocHi, odHi, .func (PySem.W.fnOf "__init__" "Behind.__init__" (defArgs sHi) (defBody sHi) (defScope sHi) .none kVHi dcHi pmHi anHi cdHi ctHi), slHi⟩)
    (cHi : PySem.W.codeIn K cdHi "Behind.__init__" = true)
    (kHi : PySem.W.keepIn K (.ref fHi) = true)
    (aAi : PySem.W.findIn K (.ref CA) "__init__" = some (some (.ref fAi)))
    (iAi : PySem.W.isFn K (.ref fAi) = true)
    (lAi : K.lookup fAi = some ⟨ocAi, odAi, .func (PySem.W.fnOf "__init__" "Ahead.__init__" (defArgs sAi) (defBody sAi) (defScope sAi) .none kVAi dcAi pmAi anAi cdAi ctAi), slAi⟩)
    (cAi : PySem.W.codeIn K cdAi "Ahead.__init__" = true)
    (kAi : PySem.W.keepIn K (.ref fAi) = true)
    (aTi : PySem.W.findIn K (.ref CT) "__init__" = some (some (.ref fTi)))
    (iTi : PySem.W.isFn K (.ref fTi) = true)
    (lTi : K.lookup fTi = some ⟨ocTi, odTi, .func (PySem.W.fnOf "__init__" "Times.__init__" (defArgs sTi) (defBody sTi) (defScope sTi) .none kVTi dcTi pmTi anTi cdTi ctTi), slTi⟩)
    (cTi : PySem.W.codeIn K cdTi "Times.__init__" = true)
    (kTi : PySem.W.keepIn K (.ref fTi) = true)
    (aJi : PySem.W.findIn K (.ref CB) "__init__" = some (some (.ref fJi)))
    (iJi : PySem.W.isFn K (.ref fJi) = true)
    (lJi : K.lookup fJi = some ⟨ocJi, odJi, .func (PySem.W.fnOf "__init__" "Joint.__init__" (defArgs sJi) (defBody sJi) (defScope sJi) .none kVJi dcJi pmJi anJi cdJi ctJi), slJi⟩)
    (cJi : PySem.W.codeIn K cdJi "Joint.__init__" = true)
    (kJi : PySem.W.keepIn K (.ref fJi) = true)
    (aNi : PySem.W.findIn K (.ref CN) "__init__" = some (some (.ref fNi)))
    (iNi : PySem.W.isFn K (.ref fNi) = true)
    (lNi : K.lookup fNi = some ⟨ocNi, odNi, .func (PySem.W.fnOf "__init__" "Not.__init__" (defArgs sNi) (defBody sNi) (defScope sNi) .none kVNi dcNi pmNi anNi cdNi ctNi), slNi⟩)
    (cNi : PySem.W.codeIn K cdNi "Not.__init__" = true)
    (kNi : PySem.W.keepIn K (.ref fNi) = true)
    (aYi : PySem.W.findIn K (.ref CY) "__init__" = some (some (.ref fYi)))
    (iYi : PySem.W.isFn K (.ref fYi) = true)
    (lYi : K.lookup fYi = some ⟨ocYi, odYi, .func (PySem.W.fnOf "__init__" "Watch.__init__" (defArgs sYi) (defBody sYi) (defScope sYi) .none kVYi dcYi pmYi anYi cdYi ctYi), slYi⟩)
    (cYi : PySem.W.codeIn K cdYi "Watch.__init__" = true)
    (kYi : PySem.W.keepIn K (.ref fYi) = true)
    (aYt : PySem.W.findIn K (.ref CY) "take" = some (some (.ref fYt)))
    (iYt : PySem.W.isFn K (.ref fYt) = true)
    (lYt : K.lookup fYt = some ⟨ocYt, odYt, .func (PySem.W.fnOf "take" "Watch.take" (defArgs sYt) (defBody sYt) (defScope sYt) .none kVYt dcYt pmYt anYt cdYt ctYt), slYt⟩)
    (cYt : PySem.W.codeIn K cdYt "Watch.take" = true)
    (kYt : PySem.W.keepIn K (.ref fYt) = true)
    (aYe : PySem.W.findIn K (.ref CY) "end" = some (some (.ref fYe)))
    (iYe : PySem.W.isFn K (.ref fYe) = true)
    (lYe : K.lookup fYe = some ⟨ocYe, odYe, .func (PySem.W.fnOf "end" "Watch.end" (defArgs sYe) (defBody sYe) (defScope sYe) .none kVYe dcYe pmYe anYe cdYe ctYe), slYe⟩)
    (cYe : PySem.W.codeIn K cdYe "Watch.end" = true)
    (kYe : PySem.W.keepIn K (.ref fYe) = true)
    (aYr : PySem.W.findIn K (.ref CY) "refuse_if_over" = some (some (.ref fYr)))
    (iYr : PySem.W.isFn K (.ref fYr) = true)
    (lYr : K.lookup fYr = some ⟨ocYr, odYr, .func (PySem.W.fnOf "refuse_if_over" "Watch.refuse_if_over" (defArgs sYr) (defBody sYr) (defScope sYr) .none kVYr dcYr pmYr anYr cdYr ctYr), slYr⟩)
    (cYr : PySem.W.codeIn K cdYr "Watch.refuse_if_over" = true)
    (kYr : PySem.W.keepIn K (.ref fYr) = true)
    (aYs : PySem.W.findIn K (.ref CY) "settle" = some (some (.ref fYs)))
    (iYs : PySem.W.isFn K (.ref fYs) = true)
    (lYs : K.lookup fYs = some ⟨ocYs, odYs, .func (PySem.W.fnOf "settle" "Watch.settle" (defArgs sYs) (defBody sYs) (defScope sYs) .none kVYs dcYs pmYs anYs cdYs ctYs), slYs⟩)
    (cYs : PySem.W.codeIn K cdYs "Watch.settle" = true)
    (kYs : PySem.W.keepIn K (.ref fYs) = true)
    (aYk : PySem.W.findIn K (.ref CY) "kept" = some (some (.ref fYk)))
    (iYk : PySem.W.isFn K (.ref fYk) = true)
    (lYk : K.lookup fYk = some ⟨ocYk, odYk, .func (PySem.W.fnOf "kept" "Watch.kept" (defArgs sYk) (defBody sYk) (defScope sYk) .none kVYk dcYk pmYk anYk cdYk ctYk), slYk⟩)
    (cYk : PySem.W.codeIn K cdYk "Watch.kept" = true)
    (kYk : PySem.W.keepIn K (.ref fYk) = true)
    (aCWQb : PySem.W.findIn K (.ref CW) "back" = some (some (.ref fQb)))
    (aCWQo : PySem.W.findIn K (.ref CW) "on" = some (some (.ref fQo)))
    (aCHQb : PySem.W.findIn K (.ref CH) "back" = some (some (.ref fQb)))
    (aCAQo : PySem.W.findIn K (.ref CA) "on" = some (some (.ref fQo)))
    (aCEJb : PySem.W.findIn K (.ref CE) "back" = some (some (.ref fJb)))
    (aCEJo : PySem.W.findIn K (.ref CE) "on" = some (some (.ref fJo)))
    (aCEJi : PySem.W.findIn K (.ref CE) "__init__" = some (some (.ref fJi)))
    (zsorted : PySem.W.nsIn K mainGlobals "sorted" = some none)
    (zset : PySem.W.nsIn K mainGlobals "set" = some none)
    (zverr : PySem.W.nsIn K mainGlobals "ValueError" = some none)
    (zlen : PySem.W.nsIn K mainGlobals "len" = some none)
    (zrange : PySem.W.nsIn K mainGlobals "range" = some none)
    (ztuple : PySem.W.nsIn K mainGlobals "tuple" = some none)
    (zisin : PySem.W.nsIn K mainGlobals "isinstance" = some none)
    (zstr : PySem.W.nsIn K mainGlobals "str" = some none)
    (zlist : PySem.W.nsIn K mainGlobals "list" = some none)
    (zint : PySem.W.nsIn K mainGlobals "int" = some none)
    (zbool : PySem.W.nsIn K mainGlobals "bool" = some none)
    (zall : PySem.W.nsIn K mainGlobals "all" = some none)
    (zmin : PySem.W.nsIn K mainGlobals "min" = some none)
    (zmax : PySem.W.nsIn K mainGlobals "max" = some none)
    : ∃ fd : FuncData, (∀ (s : Shared) (v : Value), BindsTo s fd ⟨[v], []⟩ [("_law_script", v)]) ∧ ∀ base : Heap, K.In base → base.Ns mainGlobals mg → FnOk l.prog w K mg base CX0 11 fa fd ["_law_script"] (spLaw K) := by
  have e := hfa.symm.trans (PySem.W.mg_of X G aZ)
  cases e
  have T : Txt mg := ⟨PySem.W.mg_none_of X G zlen, PySem.W.mg_none_of X G zrange, PySem.W.mg_none_of X G ztuple, PySem.W.mg_none_of X G zisin, PySem.W.mg_none_of X G zstr, PySem.W.mg_none_of X G zlist, PySem.W.mg_none_of X G zint, PySem.W.mg_none_of X G zbool, PySem.W.mg_none_of X G zall, PySem.W.mg_none_of X G zmin, PySem.W.mg_none_of X G zmax⟩
  have mgCR := PySem.W.mg_of X G aCR
  have clCR : Cls K CR := ⟨pgCR, hdCR, poCR, saCR⟩
  have mgCW := PySem.W.mg_of X G aCW
  have clCW : Cls K CW := ⟨pgCW, hdCW, poCW, saCW⟩
  have mgCH := PySem.W.mg_of X G aCH
  have clCH : Cls K CH := ⟨pgCH, hdCH, poCH, saCH⟩
  have mgCA := PySem.W.mg_of X G aCA
  have clCA : Cls K CA := ⟨pgCA, hdCA, poCA, saCA⟩
  have mgCT := PySem.W.mg_of X G aCT
  have clCT : Cls K CT := ⟨pgCT, hdCT, poCT, saCT⟩
  have mgCB := PySem.W.mg_of X G aCB
  have clCB : Cls K CB := ⟨pgCB, hdCB, poCB, saCB⟩
  have mgCE := PySem.W.mg_of X G aCE
  have clCE : Cls K CE := ⟨pgCE, hdCE, poCE, saCE⟩
  have mgCN := PySem.W.mg_of X G aCN
  have clCN : Cls K CN := ⟨pgCN, hdCN, poCN, saCN⟩
  have mgCY := PySem.W.mg_of X G aCY
  have clCY : Cls K CY := ⟨pgCY, hdCY, poCY, saCY⟩
  have mgXE := PySem.W.mg_of X G aXE
  have mgXL := PySem.W.mg_of X G aXL
  have mgXS := PySem.W.mg_of X G aXS
  have mgXU := PySem.W.mg_of X G aXU
  have mgXN := PySem.W.mg_of X G aXN
  have FW := fun_mk (st := sWa) lW cW kW
  have bW := FW.binds (ps := ["entry", "place"]) fun _ _ _ _ _ _ us hl => match us, hl with | [_, _], _ => rfl
  have FS2 := fun_mk (st := sSw) lS2 cS2 kS2
  have bS2 := FS2.binds (ps := ["entry", "place", "other", "away"]) fun _ _ _ _ _ _ us hl => match us, hl with | [_, _, _, _], _ => rfl
  have FMv := fun_mk (st := sMv) lMv cMv kMv
  have bMv := FMv.binds (ps := ["rows", "far"]) fun _ _ _ _ _ _ us hl => match us, hl with | [_, _], _ => rfl
  have FC1 := fun_mk (st := sCe) lC1 cC1 kC1
  have bC1 := FC1.binds (ps := ["_law_script", "_law_k"]) fun _ _ _ _ _ _ us hl => match us, hl with | [_, _], _ => rfl
  have FM1 := fun_mk (st := sMi) lM1 cM1 kM1
  have bM1 := FM1.binds (ps := ["_law_cell", "_law_k"]) fun _ _ _ _ _ _ us hl => match us, hl with | [_, _], _ => rfl
  have FP := fun_mk (st := sPo) lP cP kP
  have bP := FP.binds (ps := ["_law_cell", "_law_other"]) fun _ _ _ _ _ _ us hl => match us, hl with | [_, _], _ => rfl
  have FL := fun_mk (st := sLe) lL cL kL
  have bL := FL.binds (ps := ["_law_cell"]) fun _ _ _ _ _ _ us hl => match us, hl with | [_], _ => rfl
  have FE := fun_mk (st := sEn) lE cE kE
  have bE := FE.binds (ps := ["_law_cell", "_law_letters_here", "_law_pool_here"]) fun _ _ _ _ _ _ us hl => match us, hl with | [_, _, _], _ => rfl
  have FG1 := fun_mk (st := sLg) lG1 cG1 kG1
  have bG1 := FG1.binds (ps := ["_law_script", "_law_letters_here", "_law_pool_here"]) fun _ _ _ _ _ _ us hl => match us, hl with | [_, _, _], _ => rfl
  have FCo := fun_mk (st := sCo) lCo cCo kCo
  have bCo := FCo.binds (ps := ["_law_cell", "_law_k"]) fun _ _ _ _ _ _ us hl => match us, hl with | [_, _], _ => rfl
  have FSh := fun_mk (st := sSh) lSh cSh kSh
  have bSh := FSh.binds (ps := ["_law_cell", "_law_letters_here", "_law_pool_here"]) fun _ _ _ _ _ _ us hl => match us, hl with | [_, _, _], _ => rfl
  have FNr := fun_mk (st := sNr) lNr cNr kNr
  have bNr := FNr.binds (ps := ["_law_asked", "_law_within"]) fun _ _ _ _ _ _ us hl => match us, hl with | [_, _], _ => rfl
  have FGw := fun_mk (st := sGw) lGw cGw kGw
  have bGw := FGw.binds (ps := ["_law_cells", "_law_letters_here", "_law_pool_here", "_law_within"]) fun _ _ _ _ _ _ us hl => match us, hl with | [_, _, _, _], _ => rfl
  have FBu := fun_mk (st := sBu) lBu cBu kBu
  have bBu := FBu.binds (ps := ["_law_asked"]) fun _ _ _ _ _ _ us hl => match us, hl with | [_], _ => rfl
  have FWk := fun_mk (st := sWk) lWk cWk kWk
  have bWk := FWk.binds (ps := ["question", "log"]) fun _ _ _ _ _ _ us hl => match us, hl with | [_, _], _ => rfl
  have FRd := fun_mk (st := sRd) lRd cRd kRd
  have bRd := FRd.binds (ps := ["_law_watch", "_law_piece"]) fun _ _ _ _ _ _ us hl => match us, hl with | [_, _], _ => rfl
  have FZ := fun_mk (st := sLaw) lZ cZ kZ
  have FQb := fun_mk (st := sBk) lQb cQb kQb
  have bQb := FQb.binds (ps := ["self"]) fun _ _ _ _ _ _ us hl => match us, hl with | [_], _ => rfl
  have FQo := fun_mk (st := sOn) lQo cQo kQo
  have bQo := FQo.binds (ps := ["self"]) fun _ _ _ _ _ _ us hl => match us, hl with | [_], _ => rfl
  have FRf := fun_mk (st := sRf) lRf cRf kRf
  have bRf := FRf.binds (ps := ["self", "log", "n"]) fun _ _ _ _ _ _ us hl => match us, hl with | [_, _, _], _ => rfl
  have FWf := fun_mk (st := sWf) lWf cWf kWf
  have bWf := FWf.binds (ps := ["self", "log", "n"]) fun _ _ _ _ _ _ us hl => match us, hl with | [_, _, _], _ => rfl
  have FHo := fun_mk (st := sHo) lHo cHo kHo
  have bHo := FHo.binds (ps := ["self"]) fun _ _ _ _ _ _ us hl => match us, hl with | [_], _ => rfl
  have FHf := fun_mk (st := sHf) lHf cHf kHf
  have bHf := FHf.binds (ps := ["self", "log", "n"]) fun _ _ _ _ _ _ us hl => match us, hl with | [_, _, _], _ => rfl
  have FAb := fun_mk (st := sAb) lAb cAb kAb
  have bAb := FAb.binds (ps := ["self"]) fun _ _ _ _ _ _ us hl => match us, hl with | [_], _ => rfl
  have FAf := fun_mk (st := sAf) lAf cAf kAf
  have bAf := FAf.binds (ps := ["self", "log", "n"]) fun _ _ _ _ _ _ us hl => match us, hl with | [_, _, _], _ => rfl
  have FTb := fun_mk (st := sTb) lTb cTb kTb
  have bTb := FTb.binds (ps := ["self"]) fun _ _ _ _ _ _ us hl => match us, hl with | [_], _ => rfl
  have FTo := fun_mk (st := sTo) lTo cTo kTo
  have bTo := FTo.binds (ps := ["self"]) fun _ _ _ _ _ _ us hl => match us, hl with | [_], _ => rfl
  have FTf := fun_mk (st := sTf) lTf cTf kTf
  have bTf := FTf.binds (ps := ["self", "log", "n"]) fun _ _ _ _ _ _ us hl => match us, hl with | [_, _, _], _ => rfl
  have FJb := fun_mk (st := sJb) lJb cJb kJb
  have bJb := FJb.binds (ps := ["self"]) fun _ _ _ _ _ _ us hl => match us, hl with | [_], _ => rfl
  have FJo := fun_mk (st := sJo) lJo cJo kJo
  have bJo := FJo.binds (ps := ["self"]) fun _ _ _ _ _ _ us hl => match us, hl with | [_], _ => rfl
  have FBf := fun_mk (st := sBf) lBf cBf kBf
  have bBf := FBf.binds (ps := ["self", "log", "n"]) fun _ _ _ _ _ _ us hl => match us, hl with | [_, _, _], _ => rfl
  have FEf := fun_mk (st := sEf) lEf cEf kEf
  have bEf := FEf.binds (ps := ["self", "log", "n"]) fun _ _ _ _ _ _ us hl => match us, hl with | [_, _, _], _ => rfl
  have FNb := fun_mk (st := sNb) lNb cNb kNb
  have bNb := FNb.binds (ps := ["self"]) fun _ _ _ _ _ _ us hl => match us, hl with | [_], _ => rfl
  have FNo := fun_mk (st := sNo) lNo cNo kNo
  have bNo := FNo.binds (ps := ["self"]) fun _ _ _ _ _ _ us hl => match us, hl with | [_], _ => rfl
  have FNf := fun_mk (st := sNf) lNf cNf kNf
  have bNf := FNf.binds (ps := ["self", "log", "n"]) fun _ _ _ _ _ _ us hl => match us, hl with | [_, _, _], _ => rfl
  have FRi := fun_mk (st := sRi) lRi cRi kRi
  have bRi := FRi.binds (ps := ["self", "letter"]) fun _ _ _ _ _ _ us hl => match us, hl with | [_, _], _ => rfl
  have FWi := fun_mk (st := sWi) lWi cWi kWi
  have bWi := FWi.binds (ps := ["self", "letter", "gap", "word"]) fun _ _ _ _ _ _ us hl => match us, hl with | [_, _, _, _], _ => rfl
  have FHi := fun_mk (st := sHi) lHi cHi kHi
  have bHi := FHi.binds (ps := ["self", "letter", "gap", "other", "there", "reach"]) fun _ _ _ _ _ _ us hl => match us, hl with | [_, _, _, _, _, _], _ => rfl
  have FAi := fun_mk (st := sAi) lAi cAi kAi
  have bAi := FAi.binds (ps := ["self", "letter", "gap", "other", "there", "reach"]) fun _ _ _ _ _ _ us hl => match us, hl with | [_, _, _, _, _, _], _ => rfl
  have FTi := fun_mk (st := sTi) lTi cTi kTi
  have bTi := FTi.binds (ps := ["self", "reach", "least", "question"]) fun _ _ _ _ _ _ us hl => match us, hl with | [_, _, _, _], _ => rfl
  have FJi := fun_mk (st := sJi) lJi cJi kJi
  have bJi := FJi.binds (ps := ["self", "one", "other"]) fun _ _ _ _ _ _ us hl => match us, hl with | [_, _, _], _ => rfl
  have FNi := fun_mk (st := sNi) lNi cNi kNi
  have bNi := FNi.binds (ps := ["self", "one"]) fun _ _ _ _ _ _ us hl => match us, hl with | [_, _], _ => rfl
  have FYi := fun_mk (st := sYi) lYi cYi kYi
  have bYi := FYi.binds (ps := ["self", "question"]) fun _ _ _ _ _ _ us hl => match us, hl with | [_, _], _ => rfl
  have FYt := fun_mk (st := sYt) lYt cYt kYt
  have bYt := FYt.binds (ps := ["self", "piece"]) fun _ _ _ _ _ _ us hl => match us, hl with | [_, _], _ => rfl
  have FYe := fun_mk (st := sYe) lYe cYe kYe
  have bYe := FYe.binds (ps := ["self"]) fun _ _ _ _ _ _ us hl => match us, hl with | [_], _ => rfl
  have FYr := fun_mk (st := sYr) lYr cYr kYr
  have bYr := FYr.binds (ps := ["self"]) fun _ _ _ _ _ _ us hl => match us, hl with | [_], _ => rfl
  have FYs := fun_mk (st := sYs) lYs cYs kYs
  have bYs := FYs.binds (ps := ["self", "entries", "stop"]) fun _ _ _ _ _ _ us hl => match us, hl with | [_, _, _], _ => rfl
  have FYk := fun_mk (st := sYk) lYk cYk kYk
  have bYk := FYk.binds (ps := ["self"]) fun _ _ _ _ _ _ us hl => match us, hl with | [_], _ => rfl
  have gW := PySem.W.mg_of X G aW
  have gS2 := PySem.W.mg_of X G aS2
  have gMv := PySem.W.mg_of X G aMv
  have gC1 := PySem.W.mg_of X G aC1
  have gM1 := PySem.W.mg_of X G aM1
  have gP := PySem.W.mg_of X G aP
  have gL := PySem.W.mg_of X G aL
  have gE := PySem.W.mg_of X G aE
  have gG1 := PySem.W.mg_of X G aG1
  have gCo := PySem.W.mg_of X G aCo
  have gSh := PySem.W.mg_of X G aSh
  have gNr := PySem.W.mg_of X G aNr
  have gGw := PySem.W.mg_of X G aGw
  have gBu := PySem.W.mg_of X G aBu
  have gWk := PySem.W.mg_of X G aWk
  have gRd := PySem.W.mg_of X G aRd
  have mQb : Meth K CR "back" fQb := ⟨aQb, iQb, kQb⟩
  have mQo : Meth K CR "on" fQo := ⟨aQo, iQo, kQo⟩
  have mRf : Meth K CR "found" fRf := ⟨aRf, iRf, kRf⟩
  have mWf : Meth K CW "found" fWf := ⟨aWf, iWf, kWf⟩
  have mHo : Meth K CH "on" fHo := ⟨aHo, iHo, kHo⟩
  have mHf : Meth K CH "found" fHf := ⟨aHf, iHf, kHf⟩
  have mAb : Meth K CA "back" fAb := ⟨aAb, iAb, kAb⟩
  have mAf : Meth K CA "found" fAf := ⟨aAf, iAf, kAf⟩
  have mTb : Meth K CT "back" fTb := ⟨aTb, iTb, kTb⟩
  have mTo : Meth K CT "on" fTo := ⟨aTo, iTo, kTo⟩
  have mTf : Meth K CT "found" fTf := ⟨aTf, iTf, kTf⟩
  have mJb : Meth K CB "back" fJb := ⟨aJb, iJb, kJb⟩
  have mJo : Meth K CB "on" fJo := ⟨aJo, iJo, kJo⟩
  have mBf : Meth K CB "found" fBf := ⟨aBf, iBf, kBf⟩
  have mEf : Meth K CE "found" fEf := ⟨aEf, iEf, kEf⟩
  have mNb : Meth K CN "back" fNb := ⟨aNb, iNb, kNb⟩
  have mNo : Meth K CN "on" fNo := ⟨aNo, iNo, kNo⟩
  have mNf : Meth K CN "found" fNf := ⟨aNf, iNf, kNf⟩
  have MCR : Mk K CR fRi := ⟨mkCR, aRi, iRi, kcCR⟩
  have MCW : Mk K CW fWi := ⟨mkCW, aWi, iWi, kcCW⟩
  have MCH : Mk K CH fHi := ⟨mkCH, aHi, iHi, kcCH⟩
  have MCA : Mk K CA fAi := ⟨mkCA, aAi, iAi, kcCA⟩
  have MCT : Mk K CT fTi := ⟨mkCT, aTi, iTi, kcCT⟩
  have MCB : Mk K CB fJi := ⟨mkCB, aJi, iJi, kcCB⟩
  have MCN : Mk K CN fNi := ⟨mkCN, aNi, iNi, kcCN⟩
  have MCY : Mk K CY fYi := ⟨mkCY, aYi, iYi, kcCY⟩
  have mYt : Meth K CY "take" fYt := ⟨aYt, iYt, kYt⟩
  have mYe : Meth K CY "end" fYe := ⟨aYe, iYe, kYe⟩
  have mYr : Meth K CY "refuse_if_over" fYr := ⟨aYr, iYr, kYr⟩
  have mYs : Meth K CY "settle" fYs := ⟨aYs, iYs, kYs⟩
  have mYk : Meth K CY "kept" fYk := ⟨aYk, iYk, kYk⟩
  have mCWQb : Meth K CW "back" fQb := ⟨aCWQb, iQb, kQb⟩
  have mCWQo : Meth K CW "on" fQo := ⟨aCWQo, iQo, kQo⟩
  have mCHQb : Meth K CH "back" fQb := ⟨aCHQb, iQb, kQb⟩
  have mCAQo : Meth K CA "on" fQo := ⟨aCAQo, iQo, kQo⟩
  have mCEJb : Meth K CE "back" fJb := ⟨aCEJb, iJb, kJb⟩
  have mCEJo : Meth K CE "on" fJo := ⟨aCEJo, iJo, kJo⟩
  have mCEJi : Meth K CE "__init__" fJi := ⟨aCEJi, iJi, kJi⟩
  have T2 : Txt2 mg := ⟨PySem.W.mg_none_of X G zsorted, PySem.W.mg_none_of X G zset⟩
  have XP : Prog K mg (clF CR CW CH CA CT CB CE CN) _ _ _ _ _ _ _ _ _ _ _ _ _ _ _ _ _ _ _ _ _ _ _ _ _ _ _ _ _ _ _ _ _ _ _ _ _ _ _ _ := ⟨T, FW, bW, gW, FS2, bS2, gS2, T2, clCR, nCR_wanted, clCW, nCW_here, nCW_wanted, clCH, nCH_here, nCH_away, nCH_reach, clCA, nCA_here, nCA_away, nCA_reach, clCT, nCT_reach, nCT_least, nCT_inner, clCB, nCB_one, nCB_other, clCE, nCE_one, nCE_other, clCN, nCN_one, FQb, bQb, FQo, bQo, FRf, bRf, FWf, bWf, FHo, bHo, FHf, bHf, FAb, bAb, FAf, bAf, FTb, bTb, FTo, bTo, FTf, bTf, FJb, bJb, FJo, bJo, FBf, bBf, FEf, bEf, FNb, bNb, FNo, bNo, FNf, bNf, mQb, mQo, mRf, mCWQb, mCWQo, mWf, mCHQb, mHo, mHf, mAb, mCAQo, mAf, mTb, mTo, mTf, mJb, mJo, mBf, mCEJb, mCEJo, mEf, mNb, mNo, mNf⟩
  have MCE : Mk K CE fJi := ⟨mkCE, aCEJi, iJi, kcCE⟩
  have YY : WK K CY := ⟨clCY, nCY_question, nCY_entries, nCY_first, nCY_settled, nCY_over⟩
  have EK : EndK K mg XE XL XS XU XN := ⟨mgXE, mgXL, mgXS, mgXU, mgXN, PySem.W.mg_none_of X G zverr, xex, xtE, xtL, xge, xiS, xiU, xiN, xiV⟩
  exact ⟨PySem.W.fnOf "law" "law" (defArgs sLaw) (defBody sLaw) (defScope sLaw) .none kVZ dcZ pmZ anZ cdZ ctZ, fun s v => .of_eq rfl, fun base _ _ => ok_law FZ T (cl := (clF CR CW CH CA CT CB CE CN)) (tab XP 5) ⟨MCR, MCW, MCH, MCA, mgCR, mgCW, mgCH, mgCA, bRi, bWi, bHi, bAi, ok_ri FRi clCR nCR_wanted, ok_wi FWi clCW nCW_here nCW_wanted, ok_hi FHi clCH nCH_here nCH_away nCH_reach, ok_ai FAi clCA nCA_here nCA_away nCA_reach⟩ ⟨MCT, MCB, MCE, MCN, mgCT, mgCB, mgCE, mgCN, bTi, bJi, bNi, ok_ti FTi clCT nCT_reach nCT_least nCT_inner, ok_ji true FJi clCB nCB_one nCB_other, ok_ji false FJi clCE nCE_one nCE_other, ok_ni FNi clCN nCN_one⟩ ⟨YY, MCY, mgCY, bYi, ok_yi FYi YY, mYt, bYt, ok_yt FYt T YY (tab XP 5) FYr bYr mYr bYs mYs (ok_ys FYs T YY (tab XP 5) (by decide) FMv bMv gMv), mYe, bYe, ok_ye FYe T YY FYr bYr mYr bYs mYs (ok_ys FYs T YY (tab XP 5) (by decide) FMv bMv gMv)⟩ FYk bYk mYk (ok_rd FRd T YY EK FYr bYr mYr FYt bYt mYt FYe bYe mYe) FC1 bC1 gC1 FM1 bM1 gM1 FP bP gP FL bL gL FE bE gE FG1 bG1 gG1 FCo bCo gCo FSh bSh gSh FNr bNr gNr FGw bGw gGw FBu bBu gBu FWk bWk gWk FRd bRd gRd⟩
theorem walk {l : PySem.W.OpenLaw} {q : Program} {loose : List Str} {XP : (Str → Option Value) → Heap → Prop} {YP : World → Heap → Prop} {d : DefRec} {K : Params → PySem.W.Frag} (hn : l.most = some 63) (hdf : d.params.defaults = [])
    (hY : ∀ (w : World) (h : Heap), YP w h → (K w.params).In h)
    (F : ∀ (w : World) (mg : Str → Option Value) (fa : Addr) (h : Heap), (K w.params).In h → h.Ns mainGlobals mg → mg d.name = some (.ref fa) →
      ∃ fd : FuncData, (∀ (s : Shared) (u : Value), BindsTo s fd ⟨[u], []⟩ [("_law_script", u)]) ∧ ∀ base : Heap, (K w.params).In base → base.Ns mainGlobals mg → FnOk l.prog w (K w.params) mg base CX0 11 fa fd ["_law_script"] (spLaw (K w.params))) :
    PySem.W.WalkO q loose XP YP l.row.toRowW d [] (fun f vs => PySem.call f vs) :=
  L2.walk_of (n := 63) (k := 11) (x := "_law_script") (CX := fun _ => CX0) (sp := fun w => spLaw (K w.params)) hn (by decide) hdf ⟨rfl, by decide, by decide⟩ hY F (fun _ _ a ns hl _ hS => ⟨a, ns, rfl, hS, hl, fun _ => rfl⟩) fun _ _ _ _ _ z => z
end QL
open PySem PySem.W PyProof.Rows
set_option maxRecDepth 100000 in
set_option maxHeartbeats 0 in
theorem PySem.Challenge.cw_logloom_k57_behind_the_end_holds : PySem.Challenge.rw_logloom_k57_behind_the_end.Holds := by
  w_on; o_law
  refine PySem.W.holds_open (q := QL.hQ) (loose := []) (Xt := QL.hX)
    (XP := PySem.W.XL QL.hQ [])
    (Yf := (PySem.W.kHook QL.hK QL.hA QL.hE).obs) (Ya := (PySem.W.kHook QL.hK QL.hA QL.hE).val)
    (YP := (PySem.W.kHook QL.hK QL.hA QL.hE).says)
    (N := 10134) QL.hL (PySem.W.kHook QL.hK QL.hA QL.hE).of (PySem.W.kHook QL.hK QL.hA QL.hE).keeps
    (fun s e => PySem.W.xl_of s (Bool.and_eq_true_iff.mp e).1) PySem.W.XL.keeps
    rfl rfl rfl
    (fun s e => PySem.W.recFacts_of (Bool.and_eq_true_iff.mp e).2)
    rfl (by first | assumption | decide +kernel) (by decide +kernel)
    ⟨rfl, rfl, rfl, rfl, rfl, by decide +kernel⟩ ?hw ?hc
  case hw => w_witness2
  k_fill
  refine QL.walk (l := PySem.Challenge.rw_logloom_k57_behind_the_end) rfl rfl (fun w h Y => PySem.W.kIn_of Y) ?F
  case F =>
    intro w mg fa h KX G hmg
    refine' QL.all_mk KX G hmg ?aCR ?pgCR ?hdCR ?poCR ?saCR ?mkCR ?kcCR ?haCR ?hmCR ?nCR_wanted ?aCW ?pgCW ?hdCW ?poCW ?saCW ?mkCW ?kcCW ?haCW ?hmCW ?nCW_here ?nCW_wanted ?aCH ?pgCH ?hdCH ?poCH ?saCH ?mkCH ?kcCH ?haCH ?hmCH ?nCH_here ?nCH_away ?nCH_reach ?aCA ?pgCA ?hdCA ?poCA ?saCA ?mkCA ?kcCA ?haCA ?hmCA ?nCA_here ?nCA_away ?nCA_reach ?aCT ?pgCT ?hdCT ?poCT ?saCT ?mkCT ?kcCT ?haCT ?hmCT ?nCT_reach ?nCT_least ?nCT_inner ?aCB ?pgCB ?hdCB ?poCB ?saCB ?mkCB ?kcCB ?haCB ?hmCB ?nCB_one ?nCB_other ?aCE ?pgCE ?hdCE ?poCE ?saCE ?mkCE ?kcCE ?haCE ?hmCE ?nCE_one ?nCE_other ?aCN ?pgCN ?hdCN ?poCN ?saCN ?mkCN ?kcCN ?haCN ?hmCN ?nCN_one ?aCY ?pgCY ?hdCY ?poCY ?saCY ?mkCY ?kcCY ?haCY ?hmCY ?nCY_question ?nCY_entries ?nCY_first ?nCY_settled ?nCY_over ?aXE ?aXL ?aXS ?aXU ?aXN ?hn ?htk ?xex ?xtE ?xtL ?xge ?xiS ?xiU ?xiN ?xiV ?aW ?lW ?cW ?kW ?aS2 ?lS2 ?cS2 ?kS2 ?aMv ?lMv ?cMv ?kMv ?aC1 ?lC1 ?cC1 ?kC1 ?aM1 ?lM1 ?cM1 ?kM1 ?aP ?lP ?cP ?kP ?aL ?lL ?cL ?kL ?aE ?lE ?cE ?kE ?aG1 ?lG1 ?cG1 ?kG1 ?aCo ?lCo ?cCo ?kCo ?aSh ?lSh ?cSh ?kSh ?aNr ?lNr ?cNr ?kNr ?aGw ?lGw ?cGw ?kGw ?aBu ?lBu ?cBu ?kBu ?aWk ?lWk ?cWk ?kWk ?aRd ?lRd ?cRd ?kRd ?aZ ?lZ ?cZ ?kZ ?aQb ?iQb ?lQb ?cQb ?kQb ?aQo ?iQo ?lQo ?cQo ?kQo ?aRf ?iRf ?lRf ?cRf ?kRf ?aWf ?iWf ?lWf ?cWf ?kWf ?aHo ?iHo ?lHo ?cHo ?kHo ?aHf ?iHf ?lHf ?cHf ?kHf ?aAb ?iAb ?lAb ?cAb ?kAb ?aAf ?iAf ?lAf ?cAf ?kAf ?aTb ?iTb ?lTb ?cTb ?kTb ?aTo ?iTo ?lTo ?cTo ?kTo ?aTf ?iTf ?lTf ?cTf ?kTf ?aJb ?iJb ?lJb ?cJb ?kJb ?aJo ?iJo ?lJo ?cJo ?kJo ?aBf ?iBf ?lBf ?cBf ?kBf ?aEf ?iEf ?lEf ?cEf ?kEf ?aNb ?iNb ?lNb ?cNb ?kNb ?aNo ?iNo ?lNo ?cNo ?kNo ?aNf ?iNf ?lNf ?cNf ?kNf ?aRi ?iRi ?lRi ?cRi ?kRi ?aWi ?iWi ?lWi ?cWi ?kWi ?aHi ?iHi ?lHi ?cHi ?kHi ?aAi ?iAi ?lAi ?cAi ?kAi ?aTi ?iTi ?lTi ?cTi ?kTi ?aJi ?iJi ?lJi ?cJi ?kJi ?aNi ?iNi ?lNi ?cNi ?kNi ?aYi ?iYi ?lYi ?cYi ?kYi ?aYt ?iYt ?lYt ?cYt ?kYt ?aYe ?iYe ?lYe ?cYe ?kYe ?aYr ?iYr ?lYr ?cYr ?kYr ?aYs ?iYs ?lYs ?cYs ?kYs ?aYk ?iYk ?lYk ?cYk ?kYk ?aCWQb ?aCWQo ?aCHQb ?aCAQo ?aCEJb ?aCEJo ?aCEJi ?zsorted ?zset ?zverr ?zlen ?zrange ?ztuple ?zisin ?zstr ?zlist ?zint ?zbool ?zall ?zmin ?zmax
    (case aCR => k_is)
    (case pgCR => k_is)
    (case hdCR => k_is)
    (case poCR => k_is)
    (case saCR => k_is)
    (case mkCR => k_is)
    (case kcCR => k_is)
    (case haCR => k_is)
    (case hmCR => k_is)
    (case nCR_wanted => k_is)
    (case aCW => k_is)
    (case pgCW => k_is)
    (case hdCW => k_is)
    (case poCW => k_is)
    (case saCW => k_is)
    (case mkCW => k_is)
    (case kcCW => k_is)
    (case haCW => k_is)
    (case hmCW => k_is)
    (case nCW_here => k_is)
    (case nCW_wanted => k_is)
    (case aCH => k_is)
    (case pgCH => k_is)
    (case hdCH => k_is)
    (case poCH => k_is)
    (case saCH => k_is)
    (case mkCH => k_is)
    (case kcCH => k_is)
    (case haCH => k_is)
    (case hmCH => k_is)
    (case nCH_here => k_is)
    (case nCH_away => k_is)
    (case nCH_reach => k_is)
    (case aCA => k_is)
    (case pgCA => k_is)
    (case hdCA => k_is)
    (case poCA => k_is)
    (case saCA => k_is)
    (case mkCA => k_is)
    (case kcCA => k_is)
    (case haCA => k_is)
    (case hmCA => k_is)
    (case nCA_here => k_is)
    (case nCA_away => k_is)
    (case nCA_reach => k_is)
    (case aCT => k_is)
    (case pgCT => k_is)
    (case hdCT => k_is)
    (case poCT => k_is)
    (case saCT => k_is)
    (case mkCT => k_is)
    (case kcCT => k_is)
    (case haCT => k_is)
    (case hmCT => k_is)
    (case nCT_reach => k_is)
    (case nCT_least => k_is)
    (case nCT_inner => k_is)
    (case aCB => k_is)
    (case pgCB => k_is)
    (case hdCB => k_is)
    (case poCB => k_is)
    (case saCB => k_is)
    (case mkCB => k_is)
    (case kcCB => k_is)
    (case haCB => k_is)
    (case hmCB => k_is)
    (case nCB_one => k_is)
    (case nCB_other => k_is)
    (case aCE => k_is)
    (case pgCE => k_is)
    (case hdCE => k_is)
    (case poCE => k_is)
    (case saCE => k_is)
    (case mkCE => k_is)
    (case kcCE => k_is)
    (case haCE => k_is)
    (case hmCE => k_is)
    (case nCE_one => k_is)
    (case nCE_other => k_is)
    (case aCN => k_is)
    (case pgCN => k_is)
    (case hdCN => k_is)
    (case poCN => k_is)
    (case saCN => k_is)
    (case mkCN => k_is)
    (case kcCN => k_is)
    (case haCN => k_is)
    (case hmCN => k_is)
    (case nCN_one => k_is)
    (case aCY => k_is)
    (case pgCY => k_is)
    (case hdCY => k_is)
    (case poCY => k_is)
    (case saCY => k_is)
    (case mkCY => k_is)
    (case kcCY => k_is)
    (case haCY => k_is)
    (case hmCY => k_is)
    (case nCY_question => k_is)
    (case nCY_entries => k_is)
    (case nCY_first => k_is)
    (case nCY_settled => k_is)
    (case nCY_over => k_is)
    (case aXE => k_is)
    (case aXL => k_is)
    (case aXS => k_is)
    (case aXU => k_is)
    (case aXN => k_is)
    (case hn => k_is)
    (case htk => k_is)
    (case xex => k_exc)
    (case xtE => (first | kernel_rfl | decide +kernel))
    (case xtL => (first | kernel_rfl | decide +kernel))
    (case xge => (first | kernel_rfl | decide +kernel))
    (case xiS => kit_is)
    (case xiU => kit_is)
    (case xiN => kit_is)
    (case xiV => kit_is)
    (case aW => k_is)
    (case lW => k_is)
    (case cW => k_is)
    (case kW => k_is)
    (case aS2 => k_is)
    (case lS2 => k_is)
    (case cS2 => k_is)
    (case kS2 => k_is)
    (case aMv => k_is)
    (case lMv => k_is)
    (case cMv => k_is)
    (case kMv => k_is)
    (case aC1 => k_is)
    (case lC1 => k_is)
    (case cC1 => k_is)
    (case kC1 => k_is)
    (case aM1 => k_is)
    (case lM1 => k_is)
    (case cM1 => k_is)
    (case kM1 => k_is)
    (case aP => k_is)
    (case lP => k_is)
    (case cP => k_is)
    (case kP => k_is)
    (case aL => k_is)
    (case lL => k_is)
    (case cL => k_is)
    (case kL => k_is)
    (case aE => k_is)
    (case lE => k_is)
    (case cE => k_is)
    (case kE => k_is)
    (case aG1 => k_is)
    (case lG1 => k_is)
    (case cG1 => k_is)
    (case kG1 => k_is)
    (case aCo => k_is)
    (case lCo => k_is)
    (case cCo => k_is)
    (case kCo => k_is)
    (case aSh => k_is)
    (case lSh => k_is)
    (case cSh => k_is)
    (case kSh => k_is)
    (case aNr => k_is)
    (case lNr => k_is)
    (case cNr => k_is)
    (case kNr => k_is)
    (case aGw => k_is)
    (case lGw => k_is)
    (case cGw => k_is)
    (case kGw => k_is)
    (case aBu => k_is)
    (case lBu => k_is)
    (case cBu => k_is)
    (case kBu => k_is)
    (case aWk => k_is)
    (case lWk => k_is)
    (case cWk => k_is)
    (case kWk => k_is)
    (case aRd => k_is)
    (case lRd => k_is)
    (case cRd => k_is)
    (case kRd => k_is)
    (case aZ => k_is)
    (case lZ => k_is)
    (case cZ => k_is)
    (case kZ => k_is)
    (case aQb => k_is)
    (case iQb => k_is)
    (case lQb => k_is)
    (case cQb => k_is)
    (case kQb => k_is)
    (case aQo => k_is)
    (case iQo => k_is)
    (case lQo => k_is)
    (case cQo => k_is)
    (case kQo => k_is)
    (case aRf => k_is)
    (case iRf => k_is)
    (case lRf => k_is)
    (case cRf => k_is)
    (case kRf => k_is)
    (case aWf => k_is)
    (case iWf => k_is)
    (case lWf => k_is)
    (case cWf => k_is)
    (case kWf => k_is)
    (case aHo => k_is)
    (case iHo => k_is)
    (case lHo => k_is)
    (case cHo => k_is)
    (case kHo => k_is)
    (case aHf => k_is)
    (case iHf => k_is)
    (case lHf => k_is)
    (case cHf => k_is)
    (case kHf => k_is)
    (case aAb => k_is)
    (case iAb => k_is)
    (case lAb => k_is)
    (case cAb => k_is)
    (case kAb => k_is)
    (case aAf => k_is)
    (case iAf => k_is)
    (case lAf => k_is)
    (case cAf => k_is)
    (case kAf => k_is)
    (case aTb => k_is)
    (case iTb => k_is)
    (case lTb => k_is)
    (case cTb => k_is)
    (case kTb => k_is)
    (case aTo => k_is)
    (case iTo => k_is)
    (case lTo => k_is)
    (case cTo => k_is)
    (case kTo => k_is)
    (case aTf => k_is)
    (case iTf => k_is)
    (case lTf => k_is)
    (case cTf => k_is)
    (case kTf => k_is)
    (case aJb => k_is)
    (case iJb => k_is)
    (case lJb => k_is)
    (case cJb => k_is)
    (case kJb => k_is)
    (case aJo => k_is)
    (case iJo => k_is)
    (case lJo => k_is)
    (case cJo => k_is)
    (case kJo => k_is)
    (case aBf => k_is)
    (case iBf => k_is)
    (case lBf => k_is)
    (case cBf => k_is)
    (case kBf => k_is)
    (case aEf => k_is)
    (case iEf => k_is)
    (case lEf => k_is)
    (case cEf => k_is)
    (case kEf => k_is)
    (case aNb => k_is)
    (case iNb => k_is)
    (case lNb => k_is)
    (case cNb => k_is)
    (case kNb => k_is)
    (case aNo => k_is)
    (case iNo => k_is)
    (case lNo => k_is)
    (case cNo => k_is)
    (case kNo => k_is)
    (case aNf => k_is)
    (case iNf => k_is)
    (case lNf => k_is)
    (case cNf => k_is)
    (case kNf => k_is)
    (case aRi => k_is)
    (case iRi => k_is)
    (case lRi => k_is)
    (case cRi => k_is)
    (case kRi => k_is)
    (case aWi => k_is)
    (case iWi => k_is)
    (case lWi => k_is)
    (case cWi => k_is)
    (case kWi => k_is)
    (case aHi => k_is)
    (case iHi => k_is)
    (case lHi => k_is)
    (case cHi => k_is)
    (case kHi => k_is)
    (case aAi => k_is)
    (case iAi => k_is)
    (case lAi => k_is)
    (case cAi => k_is)
    (case kAi => k_is)
    (case aTi => k_is)
    (case iTi => k_is)
    (case lTi => k_is)
    (case cTi => k_is)
    (case kTi => k_is)
    (case aJi => k_is)
    (case iJi => k_is)
    (case lJi => k_is)
    (case cJi => k_is)
    (case kJi => k_is)
    (case aNi => k_is)
    (case iNi => k_is)
    (case lNi => k_is)
    (case cNi => k_is)
    (case kNi => k_is)
    (case aYi => k_is)
    (case iYi => k_is)
    (case lYi => k_is)
    (case cYi => k_is)
    (case kYi => k_is)
    (case aYt => k_is)
    (case iYt => k_is)
    (case lYt => k_is)
    (case cYt => k_is)
    (case kYt => k_is)
    (case aYe => k_is)
    (case iYe => k_is)
    (case lYe => k_is)
    (case cYe => k_is)
    (case kYe => k_is)
    (case aYr => k_is)
    (case iYr => k_is)
    (case lYr => k_is)
    (case cYr => k_is)
    (case kYr => k_is)
    (case aYs => k_is)
    (case iYs => k_is)
    (case lYs => k_is)
    (case cYs => k_is)
    (case kYs => k_is)
    (case aYk => k_is)
    (case iYk => k_is)
    (case lYk => k_is)
    (case cYk => k_is)
    (case kYk => k_is)
    (case aCWQb => k_is)
    (case aCWQo => k_is)
    (case aCHQb => k_is)
    (case aCAQo => k_is)
    (case aCEJb => k_is)
    (case aCEJo => k_is)
    (case aCEJi => k_is)
    (case zsorted => k_is)
    (case zset => k_is)
    (case zverr => k_is)
    (case zlen => k_is)
    (case zrange => k_is)
    (case ztuple => k_is)
    (case zisin => k_is)
    (case zstr => k_is)
    (case zlist => k_is)
    (case zint => k_is)
    (case zbool => k_is)
    (case zall => k_is)
    (case zmin => k_is)
    (case zmax => k_is)

